/- The texts that the proofs of these statements reach, in their order, as few files. -/
import Derived.Shelf.SlSortCmp.NoneTotal
import Derived.Lib.RowBridge
import Derived.Test.YtadhjoggdbhkgaaGreatDoorJn5
set_option linter.unusedVariables false
set_option linter.unusedSimpArgs false
set_option maxRecDepth 100000
namespace Go.Proofs.YtadhjoggdbhkgaaGreatDoor
open Nat renaming reduceAdd → z6, reduceSub → z7, reduceLeDiff → z8, reduceLT → j4, reduceMul → j5, reduceEqDiff → j6
open Int renaming reduceToNat → j7, reduceAdd → j8, reduceSub → j9, reduceMul → x4, reduceNeg → x5, reduceLT → x6, reduceLE → x7, reduceEq → x8, reduceNe → x9
open Go.RowKit Sx
section
attribute [local irreducible] run
mutual
def rvJ:RV → JV
 | .mk k t ks its => .mk k t ks (zmQ its)
def zmQ:List RV → List JV
 | [] => []
 | v :: l => rvJ v :: zmQ l
end
theorem zgW:∀ l:List RV,(zmQ l).length=l.length
 | [] => by rw [zmQ]; rfl
 | v :: l => by rw [zmQ,List.length_cons,zgW l,List.length_cons]
mutual
theorem ze3:∀ r:RV,zdd r=zao (rvJ r)
 | .mk k t ks its => by rw [zdd,rvJ,zao,zie its,zgW]
theorem zie:∀ l:List RV,zdc l=zad (zmQ l)
 | [] => by rw [zdc,zmQ,zad]
 | v :: l => by rw [zdc,zmQ,zad,ze3 v,zie l]
end
mutual
def JOk:JV → Prop
 | .mk k t ks its => (Lit.int .i64 k).wf=true ∧ t.length ≤ 140737488351232 ∧ ks.length ≤ 140737488351232 ∧ (∀ k ∈ ks,k.length ≤ 140737488351232) ∧ its.length ≤ 140737488351232 ∧ ziX its
def ziX:List JV → Prop
 | [] => True
 | v :: l => JOk v ∧ ziX l
end
mutual
theorem rv_ok:∀ r:RV,RVok r → JOk (rvJ r)
 | .mk k t ks its,h => by
  rw [RVok] at h
  rw [rvJ,JOk]
  exact ⟨h.1,h.2.1,h.2.2.1,h.2.2.2.1,by rw [zgW]; exact h.2.2.2.2.1,rvs_ok its h.2.2.2.2.2⟩
theorem rvs_ok:∀ l:List RV,zjK l → ziX (zmQ l)
 | [],_ => by rw [zmQ,ziX]; trivial
 | v :: l,h => by
  rw [zjK] at h
  rw [zmQ,ziX]
  exact ⟨rv_ok v h.1,rvs_ok l h.2⟩
end
theorem zoy:∀ {l:List JV} (h:ziX l) {i:Nat} (hi:i < l.length),JOk l[i]
 | a :: l,h,0,hi => by rw [ziX] at h; exact h.1
 | a :: l,h,i + 1,hi => by rw [ziX] at h; exact zoy h.2 (by simpa using hi)
theorem JOk.its {v:JV} (h:JOk v) {i:Nat} (hi:i < v.items.length):JOk v.items[i]:=by
 cases v with
 | mk k t ks its => rw [JOk] at h; exact zoy h.2.2.2.2.2 hi
theorem JOk.lens {v:JV} (h:JOk v):v.keys.length ≤ 140737488351232 ∧ v.items.length ≤ 140737488351232 ∧ v.text.length ≤ 140737488351232 ∧ ∀ k ∈ v.keys,k.length ≤ 140737488351232:=by
 cases v with
 | mk k t ks its => rw [JOk] at h; exact ⟨h.2.2.1,h.2.2.2.2.1,h.2.1,h.2.2.2.1⟩
mutual
/-- not too many keys and items, wherever -/
def JBd:JV → Prop
 | .mk k t ks its => ks.length ≤ 1099511627780 ∧ its.length ≤ 1099511627776 ∧ zhB its
def zhB:List JV → Prop
 | [] => True
 | v :: l => JBd v ∧ zhB l
end
theorem zoE:∀ {l:List JV},(∀ (i:Nat) (h:i < l.length),JBd l[i]) → zhB l
 | [],_ => by rw [zhB]; trivial
 | v :: l,h => by
  rw [zhB]
  exact ⟨h 0 (by simp),zoE fun i hi => by have:=h (i + 1) (by simpa using hi); simpa only [List.getElem_cons_succ] using this⟩
theorem zoF:∀ {l:List JV} (h:zhB l) {i:Nat} (hi:i < l.length),JBd l[i]
 | a :: l,h,0,hi => by rw [zhB] at h; exact h.1
 | a :: l,h,i + 1,hi => by rw [zhB] at h; exact zoF h.2 (by simpa using hi)
theorem JBd.lens {v:JV} (h:JBd v):v.keys.length ≤ 1099511627780 ∧ v.items.length ≤ 1099511627776:=by
 cases v; rw [JBd] at h; exact ⟨h.1,h.2.1⟩
theorem JBd.its {v:JV} (h:JBd v) {i:Nat} (hi:i < v.items.length):JBd v.items[i]:=by
 cases v with
 | mk k t ks its => rw [JBd] at h; exact zoF h.2.2 hi
theorem JBd.of {v:JV} (h1:v.keys.length ≤ 1099511627780) (h2:v.items.length ≤ 1099511627776) (h3:∀ (i:Nat) (h:i < v.items.length),JBd v.items[i]):JBd v:=by
 cases v; rw [JBd]; exact ⟨h1,h2,zoE h3⟩
theorem zcY (v w:JV):zdK v w=(decide (v.kind=w.kind) && (decide (v.text=w.text) && (decide (v.keys=w.keys) && zbV v.items w.items))):=by
 cases v; cases w; rw [zdK]; rfl
theorem zgg:∀ {l m:List JV},l.length ≠ m.length → zbV l m=false
 | [],[],h => absurd rfl h
 | [],_ :: _,_ => by rw [zbV]; all_goals simp
 | _ :: _,[],_ => by rw [zbV]; all_goals simp
 | v :: l,w :: m,h => by rw [zbV,zgg (l:=l) (m:=m) (by simpa using h)]; simp
theorem zh1:∀ {l m:List JV} {i:Nat} (h1:i < l.length) (h2:i < m.length),zdK l[i] m[i]=false → zbV l m=false
 | v :: l,w :: m,0,_,_,h => by rw [zbV]; simp only [List.getElem_cons_zero] at h; rw [h]; rfl
 | v :: l,w :: m,i + 1,h1,h2,h => by
  rw [zbV,zh1 (l:=l) (m:=m) (i:=i) (by simpa using h1) (by simpa using h2) (by simpa using h)]; simp
theorem zgf:∀ {l m:List JV},l.length=m.length → (∀ (i:Nat) (h1:i < l.length) (h2:i < m.length),zdK l[i] m[i]=true) → zbV l m=true
 | [],[],_,_ => by rw [zbV]
 | [],_ :: _,h,_ => by simp at h
 | _ :: _,[],h,_ => by simp at h
 | v :: l,w :: m,h,k => by
  rw [zbV,zgf (l:=l) (m:=m) (by simpa using h) (fun i h1 h2 => by have:=k (i + 1) (by simpa using h1) (by simpa using h2); simp only [List.getElem_cons_succ] at this; exact this)]
  have:=k 0 (by simp) (by simp)
  simp only [List.getElem_cons_zero] at this
  rw [this]; rfl
theorem size_eq (v:JV):v.size=JV.sizes v.items + 1:=by cases v; rw [JV.size]; rfl
theorem zge:∀ {l:List JV} {i:Nat} (hi:i < l.length),JV.sizes (l.take (i + 1))=JV.sizes (l.take i) + l[i].size
 | a :: l,0,hi => by rw [List.take_succ_cons,List.take_zero,List.take_zero,JV.sizes,JV.sizes,JV.sizes]; simp
 | a :: l,i + 1,hi => by
  rw [List.take_succ_cons,List.take_succ_cons,JV.sizes,JV.sizes,zge (l:=l) (i:=i) (by simpa using hi)]
  simp only [List.getElem_cons_succ]
  omega
mutual
/-- short texts, not too many keys and items, wherever -/
def JKp:JV → Prop
 | .mk k t ks its => ks.length ≤ 1099511627780 ∧ its.length ≤ 1099511627776 ∧ t.length ≤ 300 ∧ (∀ k ∈ ks,k.length ≤ 300) ∧ zhG its
def zhG:List JV → Prop
 | [] => True
 | v :: l => JKp v ∧ zhG l
end
theorem zoA:∀ {l:List JV},(∀ (i:Nat) (h:i < l.length),JKp l[i]) → zhG l
 | [],_ => by rw [zhG]; trivial
 | v :: l,h => by
  rw [zhG]
  exact ⟨h 0 (by simp),zoA fun i hi => by have:=h (i + 1) (by simpa using hi); simpa only [List.getElem_cons_succ] using this⟩
theorem zoB:∀ {l:List JV} (h:zhG l) {i:Nat} (hi:i < l.length),JKp l[i]
 | a :: l,h,0,hi => by rw [zhG] at h; exact h.1
 | a :: l,h,i + 1,hi => by rw [zhG] at h; exact zoB h.2 (by simpa using hi)
theorem JKp.lens {v:JV} (h:JKp v):v.keys.length ≤ 1099511627780 ∧ v.items.length ≤ 1099511627776 ∧ v.text.length ≤ 300 ∧ ∀ k ∈ v.keys,k.length ≤ 300:=by
 cases v; rw [JKp] at h; exact ⟨h.1,h.2.1,h.2.2.1,h.2.2.2.1⟩
theorem JKp.its {v:JV} (h:JKp v) {i:Nat} (hi:i < v.items.length):JKp v.items[i]:=by
 cases v with
 | mk k t ks its => rw [JKp] at h; exact zoB h.2.2.2.2 hi
theorem JKp.of {v:JV} (h1:v.keys.length ≤ 1099511627780) (h2:v.items.length ≤ 1099511627776) (h3:v.text.length ≤ 300) (h4:∀ k ∈ v.keys,k.length ≤ 300) (h5:∀ (i:Nat) (h:i < v.items.length),JKp v.items[i]):JKp v:=by
 cases v; rw [JKp]; exact ⟨h1,h2,h3,h4,zoA h5⟩
mutual
theorem JKp.bd:∀ {v:JV},JKp v → JBd v
 | .mk k t ks its,h => by rw [JKp] at h; rw [JBd]; exact ⟨h.1,h.2.1,zhG.bd h.2.2.2.2⟩
theorem zhG.bd:∀ {l:List JV},zhG l → zhB l
 | [],_ => by rw [zhB]; trivial
 | v :: l,h => by rw [zhG] at h; rw [zhB]; exact ⟨JKp.bd h.1,zhG.bd h.2⟩
end
mutual
/-- no slice too long, wherever -/
def JLn:JV → Prop
 | .mk k t ks its => ks.length ≤ 140737488351232 ∧ its.length ≤ 140737488351232 ∧ zpR its
def zpR:List JV → Prop
 | [] => True
 | v :: l => JLn v ∧ zpR l
end
mutual
theorem JOk.ln:∀ {v:JV},JOk v → JLn v
 | .mk k t ks its,h => by rw [JOk] at h; rw [JLn]; exact ⟨h.2.2.1,h.2.2.2.2.1,ziX.ln h.2.2.2.2.2⟩
theorem ziX.ln:∀ {l:List JV},ziX l → zpR l
 | [],_ => by rw [zpR]; trivial
 | v :: l,h => by rw [ziX] at h; rw [zpR]; exact ⟨JOk.ln h.1,ziX.ln h.2⟩
end
mutual
theorem JBd.ln:∀ {v:JV},JBd v → JLn v
 | .mk k t ks its,h => by rw [JBd] at h; rw [JLn]; exact ⟨by omega,by omega,zhB.ln h.2.2⟩
theorem zhB.ln:∀ {l:List JV},zhB l → zpR l
 | [],_ => by rw [zpR]; trivial
 | v :: l,h => by rw [zhB] at h; rw [zpR]; exact ⟨JBd.ln h.1,zhB.ln h.2⟩
end
theorem zoz:∀ {l:List JV} (h:zpR l) {i:Nat} (hi:i < l.length),JLn l[i]
 | a :: l,h,0,hi => by rw [zpR] at h; exact h.1
 | a :: l,h,i + 1,hi => by rw [zpR] at h; exact zoz h.2 (by simpa using hi)
theorem JLn.its {v:JV} (h:JLn v) {i:Nat} (hi:i < v.items.length):JLn v.items[i]:=by
 cases v with
 | mk k t ks its => rw [JLn] at h; exact zoz h.2.2 hi
theorem JLn.lens {v:JV} (h:JLn v):v.keys.length ≤ 140737488351232 ∧ v.items.length ≤ 140737488351232:=by
 cases v with
 | mk k t ks its => rw [JLn] at h; exact ⟨h.1,h.2.1⟩
section
variable [Tabs Tryz.prog]
theorem zjr:∀ (m:Nat) (v:JV) (a d:Int),v.size < m → JOk v → 0 ≤ a → a ≤ 1099511627776 → 0 ≤ d → d ≤ 1099511627776 → ∀ {objs:List OB} {K:List OB → AV → Prop},(∀ n:Int,-1 ≤ n → n ≤ 1099511627776 → (0 ≤ n → JKp v ∧ n + (v.size:Int)=a) → K objs (.i .i64 n)) → zah Tryz.prog 19 [.agg (zao v),.i .i64 a,.i .i64 d] objs K:=by
 intro m
 induction m with
 | zero => intro v a d h; omega
 | succ m ih =>
  intro v a d hm hv ha ha2 hd hd2 objs K hk
  obtain ⟨l1,l2,l3,l4⟩:=hv.lens
  refine zbk is_keep_size (by simp only [zat,AV.plain,zba,Bool.and_self]) fun C _ => ?_
  rw [c_keep_size]
  refine zaa fun Y hY => ?_
  simp only [sxZ,z6,z7,z8,j4,j5,j6,j7,j8,j9,x4,x5,x6,x7,x8,x9,reduceCtorEq,↓reduceIte]
  have e0:OB.box 25 (zao v)=OB.box 25 [.i .i64 v.kind,.s v.text,.row v.keys.length (v.keys.map .s),.row v.items.length (zad v.items)]:=by rw [zak]
  rw [e0]
  subst hY
  refine zaa fun Y hY => ?_
  have bad:∀ (o:List OB) (tm:List AV),True:=fun _ _ => trivial
  by_cases c1:a ≤ 0
  ·simp only [sxZ,z6,z7,z8,j4,j5,j6,j7,j8,j9,x4,x5,x6,x7,x8,x9,reduceCtorEq,↓reduceIte,c1,decide_true]
   exact hk _ (by decide) (by decide) (fun h => absurd h (by decide))
  by_cases c2:d ≤ 0
  ·simp only [sxZ,z6,z7,z8,j4,j5,j6,j7,j8,j9,x4,x5,x6,x7,x8,x9,reduceCtorEq,↓reduceIte,c1,c2,decide_true]
   exact hk _ (by decide) (by decide) (fun h => absurd h (by decide))
  by_cases c3:(300:Int) < v.text.length
  ·simp only [sxZ,z6,z7,z8,j4,j5,j6,j7,j8,j9,x4,x5,x6,x7,x8,x9,reduceCtorEq,↓reduceIte,c1,c2,c3,decide_true]
   exact hk _ (by decide) (by decide) (fun h => absurd h (by decide))
  by_cases c4:(v.items.length:Int) + 4 < v.keys.length
  ·simp only [sxZ,z6,z7,z8,j4,j5,j6,j7,j8,j9,x4,x5,x6,x7,x8,x9,reduceCtorEq,↓reduceIte,c1,c2,c3,c4,decide_true]
   refine ⟨by omega,?_⟩
   exact hk _ (by decide) (by decide) (fun h => absurd h (by decide))
  by_cases c5:a < (v.items.length:Int)
  ·simp only [sxZ,z6,z7,z8,j4,j5,j6,j7,j8,j9,x4,x5,x6,x7,x8,x9,reduceCtorEq,↓reduceIte,c1,c2,c3,c4,c5,decide_true]
   refine ⟨by omega,?_⟩
   exact hk _ (by decide) (by decide) (fun h => absurd h (by decide))
  simp only [sxZ,z6,z7,z8,j4,j5,j6,j7,j8,j9,x4,x5,x6,x7,x8,x9,reduceCtorEq,↓reduceIte,c1,c2,c3,c4,c5,decide_true]
  refine ⟨by omega,?_⟩
  rw [← e0]
  generalize hB:OB.box 25 (zao v)=B
  subst hY
  refine zaa fun Y hY => ?_
  simp only [sxZ,z6,z7,z8,j4,j5,j6,j7,j8,j9,x4,x5,x6,x7,x8,x9,reduceCtorEq,↓reduceIte]
  refine ⟨by omega,?_⟩
  subst hY
  refine zaa fun Y hY => ?_
  rw [← hB,e0]
  simp only [sxZ,z6,z7,z8,j4,j5,j6,j7,j8,j9,x4,x5,x6,x7,x8,x9,reduceCtorEq,↓reduceIte]
  refine zaQ (fun n o tm => ∃ i:Nat,i ≤ v.keys.length ∧ n=v.keys.length - i ∧ o=[OB.box 25 (zao v)] ∧ (∀ j x,j < i → v.keys[j]? = some x → x.length ≤ 300) ∧ tm.length=69 ∧ tm[1]? = some (.i .i64 (a - 1)) ∧ tm[2]? = some (.i .i64 d) ∧ tm[3]? = some (.p 0 0) ∧ tm[43]? = some (.row v.keys.length (v.keys.map .s)) ∧ tm[44]? = some (.i .i64 (v.keys.length:Int)) ∧ tm[45]? = some (.i .i64 (i:Int))) v.keys.length ⟨0,Nat.zero_le _,rfl,by rw [e0],(fun j x h => by omega),rfl,rfl,rfl,rfl,rfl,rfl,rfl⟩ ?_
  rintro n _ tm ⟨i,hi,rfl,rfl,hks,hlen,t1,t2,t3,t43,t44,t45⟩
  refine zaa fun Z hZ => ?_
  by_cases hlt:(i:Int) < (v.keys.length:Int)
  ·have hi':i < v.keys.length:=by omega
   have hkk:(v.keys.map AV.s)[i * 1]? = some (.s v.keys[i]):=by rw [Nat.mul_one,List.getElem?_map,List.getElem?_eq_getElem hi']; rfl
   have hk4:=l4 _ (List.getElem_mem hi')
   have hk5:v.keys[i]? = some v.keys[i]:=List.getElem?_eq_getElem hi'
   generalize v.keys[i]=key at hkk hk4 hk5
   simp only [sxZ,z6,z7,z8,j4,j5,j6,j7,j8,j9,x4,x5,x6,x7,x8,x9,reduceCtorEq,↓reduceIte,List.getElem?_set,hlen,t1,t2,t3,t43,t44,t45,hlt]
   subst hZ
   simp only [sxZ,z6,z7,z8,j4,j5,j6,j7,j8,j9,x4,x5,x6,x7,x8,x9,reduceCtorEq,↓reduceIte,List.getElem?_set,hlen,t1,t2,t3,t43,t44,t45,hlt,List.length_map,hkk]
   refine ⟨by omega,?_⟩
   by_cases c6:(300:Int) < key.length
   ·simp only [sxZ,z6,z7,z8,j4,j5,j6,j7,j8,j9,x4,x5,x6,x7,x8,x9,reduceCtorEq,↓reduceIte,List.getElem?_set,hlen,t1,t2,t3,t43,t44,t45,c6]
    exact hk _ (by decide) (by decide) (fun h => absurd h (by decide))
   simp only [sxZ,z6,z7,z8,j4,j5,j6,j7,j8,j9,x4,x5,x6,x7,x8,x9,reduceCtorEq,↓reduceIte,List.getElem?_set,hlen,t1,t2,t3,t43,t44,t45,c6]
   refine ⟨by omega,v.keys.length - (i + 1),by omega,i + 1,by omega,rfl,fun j x hj hx => ?_,rfl⟩
   by_cases e:j=i
   ·subst e
    rw [hk5] at hx; injection hx with hx; rw [← hx]; omega
   ·exact hks j x (by omega) hx
  have hn:i=v.keys.length:=by omega
  have hks2:∀ k ∈ v.keys,k.length ≤ 300:=fun k hk => by
   obtain ⟨j,hj⟩:=List.mem_iff_getElem?.1 hk
   exact hks j k (by have:=(List.getElem?_eq_some_iff.1 hj).1; omega) hj
  simp only [sxZ,z6,z7,z8,j4,j5,j6,j7,j8,j9,x4,x5,x6,x7,x8,x9,reduceCtorEq,↓reduceIte,List.getElem?_set,hlen,t1,t2,t3,t43,t44,t45,hlt]
  subst hZ
  simp only [sxZ,z6,z7,z8,j4,j5,j6,j7,j8,j9,x4,x5,x6,x7,x8,x9,reduceCtorEq,↓reduceIte,List.getElem?_set,hlen,t1,t2,t3,t43,t44,t45,hlt]
  refine zbR (fun t => t.length=69 ∧ t[1]? = some (.i .i64 (a - 1)) ∧ t[2]? = some (.i .i64 d) ∧ t[3]? = some (.p 0 0)) ?_ ?_
  ·simp only [sxZ,z6,z7,z8,j4,j5,j6,j7,j8,j9,x4,x5,x6,x7,x8,x9,reduceCtorEq,↓reduceIte,List.length_set,List.getElem?_set,hlen,t1,t2,t3,and_self]
  clear hlen t1 t2 t3 t43 t44 t45 hlt
  rintro tm ⟨hlen,t1,t2,t3⟩
  subst hY
  refine zaa fun Y hY => ?_
  rw [e0]
  simp only [sxZ,z6,z7,z8,j4,j5,j6,j7,j8,j9,x4,x5,x6,x7,x8,x9,reduceCtorEq,↓reduceIte,List.getElem?_set,hlen,t1,t2,t3]
  rw [← e0]
  refine zaQ (fun n o tm => ∃ (i:Nat) (b:Int),i ≤ v.items.length ∧ n=v.items.length - i ∧ o[0]? = some (OB.box 25 (zao v)) ∧ 0 ≤ b ∧ b ≤ 1099511627776 ∧ (∀ (j:Nat) (h:j < v.items.length),j < i → JKp v.items[j]) ∧ b + (JV.sizes (v.items.take i):Int)=a - 1 ∧ tm.length=69 ∧ tm[1]? = some (.i .i64 b) ∧ tm[2]? = some (.i .i64 d) ∧ tm[3]? = some (.p 0 0) ∧ tm[54]? = some (.row v.items.length (zad v.items)) ∧ tm[55]? = some (.i .i64 (v.items.length:Int)) ∧ tm[56]? = some (.i .i64 (i:Int))) v.items.length ⟨0,a - 1,Nat.zero_le _,rfl,rfl,by omega,by omega,(fun j _ h => by omega),by rw [List.take_zero,JV.sizes]; omega,?_⟩ ?_
  ·simp only [sxZ,z6,z7,z8,j4,j5,j6,j7,j8,j9,x4,x5,x6,x7,x8,x9,reduceCtorEq,↓reduceIte,List.length_set,List.getElem?_set,hlen,t1,t2,t3,Int.cast_ofNat_Int,and_self]
  clear hlen t1 t2 t3
  rintro n o tm ⟨i,b,hi,rfl,ho,hb,hb2,hall,hsum,hlen,t1,t2,t3,t54,t55,t56⟩
  refine zaa fun Z hZ => ?_
  by_cases hlt:(i:Int) < (v.items.length:Int)
  ·have hi':i < v.items.length:=by omega
   have hjc:=zfJ hi'
   have hjl:=zaK v.items
   have hit:=hv.its hi'
   have hsz:=zbD hi'
   have hsum2:=zge hi'
   have hall2:JKp v.items[i] → ∀ (j:Nat) (h:j < v.items.length),j < i + 1 → JKp v.items[j]:=by
    intro hs j h1 hj
    by_cases e:j=i
    ·subst e; exact hs
    ·exact hall j h1 (by omega)
   generalize v.items[i]=x at hjc hit hsz hall2 hsum2
   have hcall:=fun {objs:List OB} {K:List OB → AV → Prop} (h) => ih x b (d - 1) (by omega) hit hb hb2 (by omega) (by omega) (objs:=objs) (K:=K) h
   obtain ⟨q0,q1,q2,q3,hq⟩:∃ q0 q1 q2 q3,zao x=[q0,q1,q2,q3]:=⟨_,_,_,_,zak x⟩
   have hcp:zat [q0,q1,q2,q3]=true:=by rw [← hq]; exact zba x
   rw [hq] at hjc hcall
   have h0:∀ z,(o ++ [z])[0]? = some (OB.box 25 (zao v)):=fun z => by rw [List.getElem?_append_left (List.getElem?_eq_some_iff.1 ho).1]; exact ho
   simp only [sxZ,z6,z7,z8,j4,j5,j6,j7,j8,j9,x4,x5,x6,x7,x8,x9,reduceCtorEq,↓reduceIte,List.getElem?_set,hlen,t1,t2,t3,t54,t55,t56,hlt]
   subst hZ
   refine zaa fun Z hZ => ?_
   simp only [sxZ,z6,z7,z8,j4,j5,j6,j7,j8,j9,x4,x5,x6,x7,x8,x9,reduceCtorEq,↓reduceIte,List.getElem?_set,hlen]
   subst hZ
   refine zaa fun W hW => ?_
   rw [za3]
   refine zaa fun Z hZ => ?_
   simp only [sxZ,z6,z7,z8,j4,j5,j6,j7,j8,j9,x4,x5,x6,x7,x8,x9,reduceCtorEq,↓reduceIte,List.getElem?_set,hlen,t1,t2,t3,t54,t55,t56,hlt,hjc]
   refine ⟨by omega,by omega,?_⟩
   simp only [sxZ,z6,z7,z8,j4,j5,j6,j7,j8,j9,x4,x5,x6,x7,x8,x9,reduceCtorEq,↓reduceIte,List.getElem?_set,hlen,gn1,sn1]
   have h1:=h0 (OB.box 25 [q0,q1,q2,q3])
   have h2:(o ++ [OB.box 25 [q0,q1,q2,q3]])[o.length]? = some (OB.box 25 [q0,q1,q2,q3]):=gn1 _ _
   generalize o ++ [OB.box 25 [q0,q1,q2,q3]]=o1 at h1 h2 ⊢
   subst hZ
   refine zaa fun Z hZ => ?_
   simp only [sxZ,z6,z7,z8,j4,j5,j6,j7,j8,j9,x4,x5,x6,x7,x8,x9,reduceCtorEq,↓reduceIte,List.getElem?_set,hlen,t1,t2,h2]
   refine ⟨by omega,?_⟩
   refine zam (hcall fun n hn1 hn2 hn3 => ?_)
   simp only [sxZ,z6,z7,z8,j4,j5,j6,j7,j8,j9,x4,x5,x6,x7,x8,x9,reduceCtorEq,↓reduceIte,List.getElem?_set,hlen]
   subst hZ
   by_cases c7:n < 0
   ·simp only [sxZ,z6,z7,z8,j4,j5,j6,j7,j8,j9,x4,x5,x6,x7,x8,x9,reduceCtorEq,↓reduceIte,List.getElem?_set,hlen,c7]
    exact hk _ (by decide) (by decide) (fun h => absurd h (by decide))
   simp only [sxZ,z6,z7,z8,j4,j5,j6,j7,j8,j9,x4,x5,x6,x7,x8,x9,reduceCtorEq,↓reduceIte,List.getElem?_set,hlen,c7]
   subst hW
   simp only [sxZ,z6,z7,z8,j4,j5,j6,j7,j8,j9,x4,x5,x6,x7,x8,x9,reduceCtorEq,↓reduceIte,List.getElem?_set,hlen,t1,t2,t3,t54,t55,t56]
   exact ⟨by omega,v.items.length - (i + 1),by omega,i + 1,n,by omega,rfl,h1,by omega,hn2,hall2 (hn3 (by omega)).1,(by have:=(hn3 (by omega)).2; omega),rfl,rfl⟩
  simp only [sxZ,z6,z7,z8,j4,j5,j6,j7,j8,j9,x4,x5,x6,x7,x8,x9,reduceCtorEq,↓reduceIte,List.getElem?_set,hlen,t1,t2,t3,t54,t55,t56,hlt]
  subst hZ
  subst hY
  simp only [sxZ,z6,z7,z8,j4,j5,j6,j7,j8,j9,x4,x5,x6,x7,x8,x9,reduceCtorEq,↓reduceIte,List.getElem?_set,hlen,t1,t2,t3,t54,t55,t56,hlt]
  exact hk _ (by omega) hb2 (fun _ => ⟨JKp.of (by omega) (by omega) (by omega) hks2 fun j h => hall j h (by omega),by rw [size_eq]; rw [List.take_of_length_le (by omega)] at hsum; omega⟩)
theorem same14_l:∀ (m:Nat) (v w:JV),v.size < m → JLn v → ∀ {objs:List OB} {K:List OB → AV → Prop},K objs (.b (zdK v w)) → zah Tryz.prog 14 [.agg (zao v),.agg (zao w)] objs K:=by
 intro m
 induction m with
 | zero => intro v w h; omega
 | succ m ih =>
  intro v w hm hv objs K hk
  obtain ⟨l1,l2⟩:=hv.lens
  refine zbk is_ref14_Same (by simp only [zat,AV.plain,zba,Bool.and_self]) fun C _ => ?_
  rw [c_ref14_Same]
  refine zaa fun Y hY => ?_
  simp only [sxZ,z6,z7,z8,j4,j5,j6,j7,j8,j9,x4,x5,x6,x7,x8,x9,reduceCtorEq,↓reduceIte]
  have e0:OB.box 25 (zao v)=OB.box 25 [.i .i64 v.kind,.s v.text,.row v.keys.length (v.keys.map .s),.row v.items.length (zad v.items)]:=by rw [zak]
  have e1:OB.box 25 (zao w)=OB.box 25 [.i .i64 w.kind,.s w.text,.row w.keys.length (w.keys.map .s),.row w.items.length (zad w.items)]:=by rw [zak]
  rw [e0,e1]
  subst hY
  refine zaa fun Y hY => ?_
  have no:zdK v w=false → K objs (.b false):=fun h => by rw [h] at hk; exact hk
  by_cases c1:v.kind=w.kind
  rotate_left
  ·simp only [sxZ,z6,z7,z8,j4,j5,j6,j7,j8,j9,x4,x5,x6,x7,x8,x9,reduceCtorEq,↓reduceIte,c1,decide_false,Bool.not_false]
   exact no (by rw [zcY,decide_eq_false c1]; rfl)
  by_cases c2:v.text=w.text
  rotate_left
  ·simp only [sxZ,z6,z7,z8,j4,j5,j6,j7,j8,j9,x4,x5,x6,x7,x8,x9,reduceCtorEq,↓reduceIte,c1,c2,decide_false,decide_true,Bool.not_false,Bool.not_true]
   exact no (by rw [zcY,decide_eq_false c2]; simp)
  by_cases c3:v.items.length=w.items.length
  rotate_left
  ·have c3':¬ (v.items.length:Int)=w.items.length:=by omega
   simp only [sxZ,z6,z7,z8,j4,j5,j6,j7,j8,j9,x4,x5,x6,x7,x8,x9,reduceCtorEq,↓reduceIte,c1,c2,c3',decide_false,decide_true,Bool.not_false,Bool.not_true]
   exact no (by rw [zcY,zgg c3]; simp)
  by_cases c4:v.keys.length=w.keys.length
  rotate_left
  ·have c4':¬ (v.keys.length:Int)=w.keys.length:=by omega
   simp only [sxZ,z6,z7,z8,j4,j5,j6,j7,j8,j9,x4,x5,x6,x7,x8,x9,reduceCtorEq,↓reduceIte,c1,c2,c3,c4',decide_false,decide_true,Bool.not_false,Bool.not_true]
   exact no (by rw [zcY,decide_eq_false (p:=v.keys=w.keys) (fun h => c4 (by rw [h]))]; simp)
  simp only [sxZ,z6,z7,z8,j4,j5,j6,j7,j8,j9,x4,x5,x6,x7,x8,x9,reduceCtorEq,↓reduceIte,c1,c2,c3,c4,decide_false,decide_true,Bool.not_false,Bool.not_true]
  subst hY
  refine zaa fun Y hY => ?_
  simp only [sxZ,z6,z7,z8,j4,j5,j6,j7,j8,j9,x4,x5,x6,x7,x8,x9,reduceCtorEq,↓reduceIte]
  have q1:v.items.length=w.items.length:=c3
  have q2:v.keys.length=w.keys.length:=c4
  refine zaQ (fun n o tm => ∃ i:Nat,i ≤ w.items.length ∧ n=w.items.length - i ∧ o=[OB.box 25 [.i .i64 w.kind,.s w.text,.row w.keys.length (v.keys.map .s),.row w.items.length (zad v.items)],OB.box 25 [.i .i64 w.kind,.s w.text,.row w.keys.length (w.keys.map .s),.row w.items.length (zad w.items)]] ∧ (∀ (j:Nat) (h1:j < v.items.length) (h2:j < w.items.length),j < i → zdK v.items[j] w.items[j]=true) ∧ tm.length=74 ∧ tm[2]? = some (.p 0 0) ∧ tm[3]? = some (.p 1 0) ∧ tm[38]? = some (.row w.items.length (zad v.items)) ∧ tm[39]? = some (.i .i64 (w.items.length:Int)) ∧ tm[40]? = some (.i .i64 (i:Int))) w.items.length ⟨0,Nat.zero_le _,rfl,rfl,fun j _ _ h => by omega,rfl,rfl,rfl,rfl,rfl,rfl⟩ ?_
  rintro n _ tm ⟨i,hi,rfl,rfl,hall,hlen,t2,t3,t38,t39,t40⟩
  refine zaa fun Z hZ => ?_
  by_cases hlt:(i:Int) < (w.items.length:Int)
  ·have hw':i < w.items.length:=by omega
   have hv':i < v.items.length:=by omega
   have jv:=zfJ hv'
   have jw:=zfJ hw'
   have jvl:=zaK v.items
   have jwl:=zaK w.items
   have hit:=hv.its hv'
   have hsz:=zbD hv'
   have hcall:=fun {objs:List OB} {K:List OB → AV → Prop} (h:K objs (.b (zdK v.items[i] w.items[i]))) => ih v.items[i] w.items[i] (by omega) hit (objs:=objs) (K:=K) h
   simp only [sxZ,z6,z7,z8,j4,j5,j6,j7,j8,j9,x4,x5,x6,x7,x8,x9,reduceCtorEq,↓reduceIte,List.getElem?_set,hlen,t2,t3,t38,t39,t40,hlt]
   subst hZ
   refine zaa fun Z hZ => ?_
   simp only [sxZ,z6,z7,z8,j4,j5,j6,j7,j8,j9,x4,x5,x6,x7,x8,x9,reduceCtorEq,↓reduceIte,List.getElem?_set,hlen]
   subst hZ
   refine zaa fun W hW => ?_
   rw [za3]
   refine zaa fun Z hZ => ?_
   simp only [sxZ,z6,z7,z8,j4,j5,j6,j7,j8,j9,x4,x5,x6,x7,x8,x9,reduceCtorEq,↓reduceIte,List.getElem?_set,hlen,t40]
   subst hZ
   refine zaa fun Z hZ => ?_
   simp only [sxZ,z6,z7,z8,j4,j5,j6,j7,j8,j9,x4,x5,x6,x7,x8,x9,reduceCtorEq,↓reduceIte,List.getElem?_set,hlen,t2,t3,jv,jw]
   refine ⟨⟨by omega,by omega,by omega⟩,by omega,⟨by omega,by omega,by omega⟩,by omega,?_⟩
   refine zed (hcall ⟨rfl,rfl⟩) ?_
   have hno:=zh1 hv' hw'
   have hall2:zdK v.items[i] w.items[i]=true → ∀ (j:Nat) (h1:j < v.items.length) (h2:j < w.items.length),j < i + 1 → zdK v.items[j] w.items[j]=true:=by
    intro hs j h1 h2 hj
    by_cases e:j=i
    ·subst e; exact hs
    ·exact hall j h1 h2 (by omega)
   generalize zdK v.items[i] w.items[i]=sm at hno hall2
   simp only [sxZ,z6,z7,z8,j4,j5,j6,j7,j8,j9,x4,x5,x6,x7,x8,x9,reduceCtorEq,↓reduceIte,List.getElem?_set,hlen,t2,t3]
   subst hZ
   cases sm with
   | false =>
    simp only [sxZ,z6,z7,z8,j4,j5,j6,j7,j8,j9,x4,x5,x6,x7,x8,x9,reduceCtorEq,↓reduceIte,List.getElem?_set,hlen,Bool.not_false,Bool.not_true]
    exact no (by rw [zcY,hno rfl]; simp)
   | true =>
    simp only [sxZ,z6,z7,z8,j4,j5,j6,j7,j8,j9,x4,x5,x6,x7,x8,x9,reduceCtorEq,↓reduceIte,List.getElem?_set,hlen,Bool.not_false,Bool.not_true]
    subst hW
    simp only [sxZ,z6,z7,z8,j4,j5,j6,j7,j8,j9,x4,x5,x6,x7,x8,x9,reduceCtorEq,↓reduceIte,List.getElem?_set,hlen,t2,t3,t38,t39,t40]
    exact ⟨by omega,w.items.length - (i + 1),by omega,i + 1,by omega,rfl,hall2 rfl,rfl⟩
  simp only [sxZ,z6,z7,z8,j4,j5,j6,j7,j8,j9,x4,x5,x6,x7,x8,x9,reduceCtorEq,↓reduceIte,List.getElem?_set,hlen,t2,t3,t38,t39,t40,hlt]
  subst hZ
  simp only [sxZ,z6,z7,z8,j4,j5,j6,j7,j8,j9,x4,x5,x6,x7,x8,x9,reduceCtorEq,↓reduceIte,List.getElem?_set,hlen,t2,t3,t38,t39,t40,hlt]
  refine zbR (fun t => t.length=74 ∧ t[2]? = some (.p 0 0) ∧ t[3]? = some (.p 1 0)) ?_ ?_
  ·simp only [sxZ,z6,z7,z8,j4,j5,j6,j7,j8,j9,x4,x5,x6,x7,x8,x9,reduceCtorEq,↓reduceIte,List.length_set,List.getElem?_set,hlen,t2,t3,and_self]
  have hyes:zbV v.items w.items=true:=zgf c3 fun j h1 h2 => hall j h1 h2 (by omega)
  clear hlen t2 t3 t38 t39 t40 hlt
  rintro tm ⟨hlen,t2,t3⟩
  subst hY
  refine zaa fun Y hY => ?_
  simp only [sxZ,z6,z7,z8,j4,j5,j6,j7,j8,j9,x4,x5,x6,x7,x8,x9,reduceCtorEq,↓reduceIte,List.getElem?_set,hlen,t2,t3]
  refine zaQ (fun n o tm => ∃ i:Nat,i ≤ w.keys.length ∧ n=w.keys.length - i ∧ o=[OB.box 25 [.i .i64 w.kind,.s w.text,.row w.keys.length (v.keys.map .s),.row w.items.length (zad v.items)],OB.box 25 [.i .i64 w.kind,.s w.text,.row w.keys.length (w.keys.map .s),.row w.items.length (zad w.items)]] ∧ (∀ j:Nat,j < i → v.keys[j]? = w.keys[j]?) ∧ tm.length=74 ∧ tm[2]? = some (.p 0 0) ∧ tm[3]? = some (.p 1 0) ∧ tm[58]? = some (.i .i64 (w.keys.length:Int)) ∧ tm[59]? = some (.i .i64 (i:Int))) w.keys.length ⟨0,Nat.zero_le _,rfl,rfl,fun j h => by omega,?_⟩ ?_
  ·simp only [sxZ,z6,z7,z8,j4,j5,j6,j7,j8,j9,x4,x5,x6,x7,x8,x9,reduceCtorEq,↓reduceIte,List.length_set,List.getElem?_set,hlen,t2,t3,Int.cast_ofNat_Int,and_self]
  clear hlen t2 t3 hall hi i
  rintro n _ tm ⟨i,hi,rfl,rfl,hall,hlen,t2,t3,t58,t59⟩
  refine zaa fun Z hZ => ?_
  by_cases hlt:(i:Int) < (w.keys.length:Int)
  ·have hw':i < w.keys.length:=by omega
   have hv':i < v.keys.length:=by omega
   have kv:(v.keys.map AV.s)[i * 1]? = some (.s v.keys[i]):=by rw [Nat.mul_one,List.getElem?_map,List.getElem?_eq_getElem hv']; rfl
   have kw:(w.keys.map AV.s)[i * 1]? = some (.s w.keys[i]):=by rw [Nat.mul_one,List.getElem?_map,List.getElem?_eq_getElem hw']; rfl
   have hne:¬ v.keys[i]=w.keys[i] → ¬ v.keys=w.keys:=fun h e => h (by simp only [e])
   have hall2:v.keys[i]=w.keys[i] → ∀ j:Nat,j < i + 1 → v.keys[j]? = w.keys[j]?:=by
    intro hs j hj
    by_cases e:j=i
    ·subst e; rw [List.getElem?_eq_getElem hv',List.getElem?_eq_getElem hw',hs]
    ·exact hall j (by omega)
   generalize v.keys[i]=x at kv hne hall2
   generalize w.keys[i]=y at kw hne hall2
   simp only [sxZ,z6,z7,z8,j4,j5,j6,j7,j8,j9,x4,x5,x6,x7,x8,x9,reduceCtorEq,↓reduceIte,List.getElem?_set,hlen,t2,t3,t58,t59,hlt]
   subst hZ
   refine zaa fun Z hZ => ?_
   simp only [sxZ,z6,z7,z8,j4,j5,j6,j7,j8,j9,x4,x5,x6,x7,x8,x9,reduceCtorEq,↓reduceIte,List.getElem?_set,hlen]
   subst hZ
   refine zaa fun W hW => ?_
   rw [za3]
   refine zaa fun Z hZ => ?_
   simp only [sxZ,z6,z7,z8,j4,j5,j6,j7,j8,j9,x4,x5,x6,x7,x8,x9,reduceCtorEq,↓reduceIte,List.getElem?_set,hlen,t59]
   subst hZ
   refine zaa fun Z hZ => ?_
   simp only [sxZ,z6,z7,z8,j4,j5,j6,j7,j8,j9,x4,x5,x6,x7,x8,x9,reduceCtorEq,↓reduceIte,List.getElem?_set,hlen,t2,t3,kv,kw,List.length_map]
   refine ⟨⟨by omega,by omega,by omega⟩,⟨by omega,by omega,by omega⟩,?_⟩
   subst hZ
   by_cases c5:x=y
   rotate_left
   ·simp only [sxZ,z6,z7,z8,j4,j5,j6,j7,j8,j9,x4,x5,x6,x7,x8,x9,reduceCtorEq,↓reduceIte,List.getElem?_set,hlen,c5,decide_false,decide_true,Bool.not_false,Bool.not_true]
    exact no (by rw [zcY,decide_eq_false (hne c5)]; simp)
   ·simp only [sxZ,z6,z7,z8,j4,j5,j6,j7,j8,j9,x4,x5,x6,x7,x8,x9,reduceCtorEq,↓reduceIte,List.getElem?_set,hlen,c5,decide_false,decide_true,Bool.not_false,Bool.not_true]
    subst hW
    simp only [sxZ,z6,z7,z8,j4,j5,j6,j7,j8,j9,x4,x5,x6,x7,x8,x9,reduceCtorEq,↓reduceIte,List.getElem?_set,hlen,t2,t3,t58,t59]
    exact ⟨by omega,w.keys.length - (i + 1),by omega,i + 1,by omega,rfl,hall2 c5,rfl⟩
  simp only [sxZ,z6,z7,z8,j4,j5,j6,j7,j8,j9,x4,x5,x6,x7,x8,x9,reduceCtorEq,↓reduceIte,List.getElem?_set,hlen,t2,t3,t58,t59,hlt]
  subst hZ
  subst hY
  simp only [sxZ,z6,z7,z8,j4,j5,j6,j7,j8,j9,x4,x5,x6,x7,x8,x9,reduceCtorEq,↓reduceIte,List.getElem?_set,hlen,t2,t3,t58,t59,hlt]
  have hkeys:v.keys=w.keys:=List.ext_getElem? fun j => by
   by_cases h:j < i
   ·exact hall j h
   ·rw [List.getElem?_eq_none (by omega),List.getElem?_eq_none (by omega)]
  have:zdK v w=true:=by rw [zcY,hyes,decide_eq_true c1,decide_eq_true c2,decide_eq_true hkeys]; rfl
  rw [← this]
  exact hk
end
end
section
attribute [local irreducible] run
def zdY (key:List UInt8):List (List UInt8) → Nat
 | [] => 0
 | k :: l => if k=key then 0 else zdY key l + 1
theorem zhg {key:List UInt8}:∀ {l:List (List UInt8)},zdY key l < l.length → l[zdY key l]? = some key
 | [],h => by simp [zdY] at h
 | k :: l,h => by
  unfold zdY at h ⊢
  by_cases c:k=key
  ·rw [if_pos c,c]; rfl
  ·rw [if_neg c] at h ⊢
   simpa using zhg (l:=l) (by simpa using h)
theorem zoJ {key:List UInt8}:∀ {l:List (List UInt8)} {i:Nat},l[i]? = some key → zdY key l ≤ i
 | [],i,h => by simp at h
 | k :: l,0,h => by
  simp only [List.getElem?_cons_zero,Option.some.injEq] at h
  unfold zdY; rw [if_pos h]; omega
 | k :: l,i + 1,h => by
  unfold zdY
  split
  ·omega
  ·have:=zoJ (l:=l) (i:=i) (by simpa using h)
   omega
def zdZ (v:JV) (key:List UInt8):JV × Bool :=
 if v.kind=7 ∧ zdY key v.keys < v.keys.length then (match v.items[zdY key v.keys]? with | some x => (x,true) | none => (jvZ,false)) else (jvZ,false)
def ziC (R:JV × Bool):AV:=.tup [.agg (zao R.1),.b R.2]
theorem zoN {v:JV} {key:List UInt8} (h:¬ v.kind=7):zdZ v key=(jvZ,false):=by unfold zdZ; rw [if_neg (fun k => h k.1)]
theorem getJ_at {v:JV} {key:List UInt8} {i:Nat} (h:v.kind=7) (hk:v.keys[i]? = some key) (hi:i < v.items.length) (hall:∀ j,j < i → v.keys[j]? ≠ some key ∨ v.items.length ≤ j):zdZ v key=(v.items[i],true):=by
 have hl:=(List.getElem?_eq_some_iff.1 hk).1
 have h1:=zoJ hk
 have h2:zdY key v.keys=i:=by
  rcases Nat.lt_or_ge (zdY key v.keys) i with h3 | h3
  ·have h4:=zhg (l:=v.keys) (key:=key) (by omega)
   rcases hall _ h3 with h5 | h5
   ·exact absurd h4 h5
   ·omega
  ·omega
 unfold zdZ
 rw [if_pos ⟨h,by omega⟩,h2,List.getElem?_eq_getElem hi]
theorem getJ_no {v:JV} {key:List UInt8} (hall:∀ j,j < v.keys.length → v.keys[j]? ≠ some key ∨ v.items.length ≤ j):zdZ v key=(jvZ,false):=by
 unfold zdZ
 split
 ·rename_i h
  have h4:=zhg h.2
  rcases hall _ h.2 with h5 | h5
  ·exact absurd h4 h5
  ·rw [List.getElem?_eq_none h5]
 ·rfl
theorem den_zv2 {b:Bool} {G:Gh} {I:Imm} {y:Value} (h:Den G I (.tup [.agg [.i .i64 0,.s [],.nil,.nil],.b b]) y):Den G I (ziC (jvZ,b)) y:=by
 unfold ziC jvZ
 rw [zao,zaz]
 simp only [zaf,Den] at h ⊢
 obtain ⟨ys,h1,y0,l0,rfl,⟨zs,rfl,⟨z0,m0,rfl,q0,z1,m1,rfl,q1,z2,m2,rfl,q2,z3,m3,rfl,q3,q4⟩,hz⟩,h2⟩:=h
 refine ⟨_,h1,_,_,rfl,⟨_,rfl,⟨_,_,rfl,q0,_,_,rfl,q1,_,_,rfl,?_,_,_,rfl,?_,q4⟩,hz⟩,h2⟩
 ·exact ⟨none,0,[],q2,⟨Nat.le_refl _,fun ad h => by cases h⟩,rfl,by simp,by simp⟩
 ·exact ⟨none,0,[],q3,⟨Nat.le_refl _,fun ad h => by cases h⟩,rfl,by simp,by simp⟩
theorem jres2 {P:Program} [Tabs P] {f:FuncId} {args:List AV} {objs:List OB} {K:List OB → AV → Prop} (r':AV) (hc:zah P f args objs (fun o r => (∀ G I y,Den G I r y → Den G I r' y) ∧ K o r')):zah P f args objs K:=by
 intro C _ G I w hin hm ys hd
 refine (hc C G I w hin hm ys hd).mono ?_
 rintro e w' ⟨y,objs',r,G',I',he,⟨hr,hk⟩,h1,h2,h3,h4,hy⟩
 exact ⟨y,objs',r',G',I',he,hk,h1,h2,h3,h4,hr _ _ _ hy⟩
section
variable [Tabs Tryz.prog] {objs:List OB} {K:List OB → AV → Prop}
theorem zgl (v:JV) (key:List UInt8) (hv:JOk v) (hk:K objs (ziC (zdZ v key))):zah Tryz.prog 31 [.agg (zao v),.s key] objs K:=by
 obtain ⟨l1,l2,l3,l4⟩:=hv.lens
 refine jres2 (ziC (zdZ v key)) ?_
 refine zbk is_ref14_Get (by simp only [zat,AV.plain,zba,Bool.and_self]) fun C _ => ?_
 have fin:∀ {o:List OB},zdZ v key=(jvZ,false) → ((∀ G I y,Den G I (.tup [.agg [.i .i64 0,.s [],.nil,.nil],.b false]) y → Den G I (ziC (zdZ v key)) y) ∧ K objs (ziC (zdZ v key))):=fun {o} h => ⟨fun G I y hy => by rw [h]; exact den_zv2 hy,hk⟩
 rw [c_ref14_Get]
 refine zaa fun Y hY => ?_
 simp only [sxZ,z6,z7,z8,j4,j5,j6,j7,j8,j9,x4,x5,x6,x7,x8,x9,reduceCtorEq,↓reduceIte]
 have e0:OB.box 25 (zao v)=OB.box 25 [.i .i64 v.kind,.s v.text,.row v.keys.length (v.keys.map .s),.row v.items.length (zad v.items)]:=by rw [zak]
 rw [e0]
 subst hY
 refine zaa fun Y hY => ?_
 by_cases c1:v.kind=7
 rotate_left
 ·simp only [sxZ,z6,z7,z8,j4,j5,j6,j7,j8,j9,x4,x5,x6,x7,x8,x9,reduceCtorEq,↓reduceIte,c1,decide_false,Bool.not_false]
  exact fin (o:=[]) (zoN c1)
 simp only [sxZ,z6,z7,z8,j4,j5,j6,j7,j8,j9,x4,x5,x6,x7,x8,x9,reduceCtorEq,↓reduceIte,c1,decide_true,Bool.not_true]
 subst hY
 refine zaa fun Y hY => ?_
 simp only [sxZ,z6,z7,z8,j4,j5,j6,j7,j8,j9,x4,x5,x6,x7,x8,x9,reduceCtorEq,↓reduceIte]
 refine zaQ (fun n o tm => ∃ i:Nat,i ≤ v.keys.length ∧ n=v.keys.length - i ∧ o=[OB.box 25 [.i .i64 7,.s v.text,.row v.keys.length (v.keys.map .s),.row v.items.length (zad v.items)],OB.box 25 [.i .i64 0,.s [],.nil,.nil]] ∧ (∀ j,j < i → v.keys[j]? ≠ some key ∨ v.items.length ≤ j) ∧ tm.length=38 ∧ tm[1]? = some (.s key) ∧ tm[2]? = some (.p 0 0) ∧ tm[4]? = some (.p 1 0) ∧ tm[13]? = some (.i .i64 (v.keys.length:Int)) ∧ tm[14]? = some (.i .i64 (i:Int))) v.keys.length ⟨0,Nat.zero_le _,rfl,rfl,fun j h => by omega,rfl,rfl,rfl,rfl,rfl,rfl⟩ ?_
 rintro n _ tm ⟨i,hi,rfl,rfl,hall,hlen,t1,t2,t4,t13,t14⟩
 refine zaa fun Z hZ => ?_
 by_cases hlt:(i:Int) < (v.keys.length:Int)
 ·have hi':i < v.keys.length:=by omega
  have kv:(v.keys.map AV.s)[i * 1]? = some (.s v.keys[i]):=by rw [Nat.mul_one,List.getElem?_map,List.getElem?_eq_getElem hi']; rfl
  have kv2:v.keys[i]? = some v.keys[i]:=List.getElem?_eq_getElem hi'
  generalize v.keys[i]=x at kv kv2
  simp only [sxZ,z6,z7,z8,j4,j5,j6,j7,j8,j9,x4,x5,x6,x7,x8,x9,reduceCtorEq,↓reduceIte,List.getElem?_set,hlen,t1,t2,t4,t13,t14,hlt]
  subst hZ
  refine zaa fun Z hZ => ?_
  simp only [sxZ,z6,z7,z8,j4,j5,j6,j7,j8,j9,x4,x5,x6,x7,x8,x9,reduceCtorEq,↓reduceIte,List.getElem?_set,hlen]
  subst hZ
  refine zaa fun W hW => ?_
  rw [za3]
  refine zaa fun Z hZ => ?_
  simp only [sxZ,z6,z7,z8,j4,j5,j6,j7,j8,j9,x4,x5,x6,x7,x8,x9,reduceCtorEq,↓reduceIte,List.getElem?_set,hlen,t14]
  subst hZ
  refine zaa fun Z hZ => ?_
  have next:(x=key → v.items.length ≤ i) → ∀ j,j < i + 1 → v.keys[j]? ≠ some key ∨ v.items.length ≤ j:=by
   intro h j hj
   by_cases e:j=i
   ·subst e
    by_cases ex:x=key
    ·exact .inr (h ex)
    ·left; rw [kv2]; intro h; injection h with h; exact ex h
   ·exact hall j (by omega)
  by_cases c2:x=key
  ·by_cases c3:(i:Int) < v.items.length
   ·have hi2:i < v.items.length:=by omega
    have hg:=getJ_at c1 (by rw [kv2,c2]) hi2 hall
    have jv:=zfJ hi2
    have jvl:=zaK v.items
    have hq:=zak v.items[i]
    rw [hq] at jv
    simp only [sxZ,z6,z7,z8,j4,j5,j6,j7,j8,j9,x4,x5,x6,x7,x8,x9,reduceCtorEq,↓reduceIte,List.getElem?_set,hlen,t1,t2,kv,List.length_map,c2,c3,decide_true]
    refine ⟨by omega,?_⟩
    subst hZ
    simp only [sxZ,z6,z7,z8,j4,j5,j6,j7,j8,j9,x4,x5,x6,x7,x8,x9,reduceCtorEq,↓reduceIte,List.getElem?_set,hlen,t1,t2,t4,jv]
    refine ⟨by omega,by omega,?_⟩
    simp only [pub,AV.plain,zc2,zcN,sxZ,z6,z7,z8,j4,j5,j6,j7,j8,j9,x4,x5,x6,x7,x8,x9,reduceCtorEq,↓reduceIte]
    refine ⟨fun G I y hy => ?_,hk⟩
    rw [hg,ziC,hq]
    exact hy
   ·simp only [sxZ,z6,z7,z8,j4,j5,j6,j7,j8,j9,x4,x5,x6,x7,x8,x9,reduceCtorEq,↓reduceIte,List.getElem?_set,hlen,t1,t2,kv,List.length_map,c2,c3,decide_true,decide_false]
    refine ⟨by omega,?_⟩
    subst hZ
    simp only [sxZ,z6,z7,z8,j4,j5,j6,j7,j8,j9,x4,x5,x6,x7,x8,x9,reduceCtorEq,↓reduceIte,List.getElem?_set,hlen,t1,t2,t4]
    subst hW
    simp only [sxZ,z6,z7,z8,j4,j5,j6,j7,j8,j9,x4,x5,x6,x7,x8,x9,reduceCtorEq,↓reduceIte,List.getElem?_set,hlen,t1,t2,t4,t13,t14]
    exact ⟨by omega,v.keys.length - (i + 1),by omega,i + 1,by omega,rfl,next (fun _ => by omega),rfl⟩
  ·simp only [sxZ,z6,z7,z8,j4,j5,j6,j7,j8,j9,x4,x5,x6,x7,x8,x9,reduceCtorEq,↓reduceIte,List.getElem?_set,hlen,t1,t2,kv,List.length_map,c2,decide_false]
   refine ⟨by omega,?_⟩
   subst hZ
   simp only [sxZ,z6,z7,z8,j4,j5,j6,j7,j8,j9,x4,x5,x6,x7,x8,x9,reduceCtorEq,↓reduceIte,List.getElem?_set,hlen,t1,t2,t4]
   subst hW
   simp only [sxZ,z6,z7,z8,j4,j5,j6,j7,j8,j9,x4,x5,x6,x7,x8,x9,reduceCtorEq,↓reduceIte,List.getElem?_set,hlen,t1,t2,t4,t13,t14]
   exact ⟨by omega,v.keys.length - (i + 1),by omega,i + 1,by omega,rfl,next (fun h => absurd h c2),rfl⟩
 simp only [sxZ,z6,z7,z8,j4,j5,j6,j7,j8,j9,x4,x5,x6,x7,x8,x9,reduceCtorEq,↓reduceIte,List.getElem?_set,hlen,t1,t2,t4,t13,t14,hlt]
 subst hZ
 subst hY
 simp only [sxZ,z6,z7,z8,j4,j5,j6,j7,j8,j9,x4,x5,x6,x7,x8,x9,reduceCtorEq,↓reduceIte,List.getElem?_set,hlen,t1,t2,t4,t13,t14,hlt]
 exact fin (o:=[]) (getJ_no fun j hj => hall j (by omega))
end
end
end Go.Proofs.YtadhjoggdbhkgaaGreatDoor
namespace Go.Proofs.YtadhjoggdbhkgaaGreatDoor
open Go.RowKit Sx
section
attribute [local irreducible] run
theorem zfC:∀ (ks:List (List UInt8)) (o:List OB) (d:Nat),zgn o (d + 1) (ks.map AV.s)=some (ks.map AV.s)
 | [],o,d => by simp only [List.map_nil,zgn]
 | k :: ks,o,d => by simp only [List.map_cons,zgn,pub,AV.plain,if_true,zfC ks o d]
theorem zjh:∀ (l:List JV) (o:List OB) (d:Nat),zgn o (d + 1) (zad l)=some (zad l)
 | [],o,d => by rw [zaz]; simp only [zgn]
 | v :: l,o,d => by
  rw [zaI,zak]
  simp only [List.cons_append,List.nil_append,zgn,pub,AV.plain,zc2,zcN,if_true,zjh l o d]
section
variable [Tabs Tryz.prog] {objs:List OB} {K:List OB → AV → Prop}
end
end
end Go.Proofs.YtadhjoggdbhkgaaGreatDoor
namespace Go.Proofs.YtadhjoggdbhkgaaGreatDoor
open Go.RowKit Sx
section
attribute [local irreducible] run
structure WfM (σ:Ms) (a:Nat):Prop where
 top:(σ.st=1 ∨ σ.st=2 ∨ σ.st=3 ∨ σ.st=4 ∨ σ.st=5) → σ.stk ≠ []
 obj:(σ.st=2 ∨ σ.st=3 ∨ σ.st=4) → ∀ f r,σ.stk=f :: r → f.obj=true
 len:∀ f ∈ σ.stk,f.ks.length ≤ a ∧ f.its.length ≤ a
 deep:σ.stk.length ≤ 64
 few:σ.nodes ≤ 20000
end
end Go.Proofs.YtadhjoggdbhkgaaGreatDoor
namespace Go.Proofs.YtadhjoggdbhkgaaGreatDoor
open Go.RowKit Sx
section
attribute [local irreducible] run
def tkC (t:Tk):List AV:=[.i .i64 t.1,.s t.2.1,.i .i64 t.2.2]
def zhP (t:Tk):AV:=.agg (tkC t)
def SlO (E sz n:Nat) (xs:List AV) (X:AV) (L:List (Nat × OB)):Prop :=
 (n=0 ∧ xs=[] ∧ X=.nil ∧ L=[]) ∨ ∃ b g,X=.orow b g ∧ L=[(b,.orow E sz g n xs)]
section
variable [Tabs Tryz.prog] {objs:List OB} {K:List OB → AV → Prop}
end
end
end Go.Proofs.YtadhjoggdbhkgaaGreatDoor
namespace Go.Proofs.YtadhjoggdbhkgaaGreatDoor
open Go.RowKit Sx
section
attribute [local irreducible] run
def leS (a b:List UInt8):Bool:=zbr a b || a == b
theorem zbN:∀ (a b c:List UInt8),zbr a b=true → zbr b c=true → zbr a c=true
 | _,[],_,h,_ => by simp [zbr,Op.bytesLess] at h
 | [],_ :: _,[],_,h => by simp [zbr,Op.bytesLess] at h
 | _ :: _,_ :: _,[],_,h => by simp [zbr,Op.bytesLess] at h
 | [],_ :: _,_ :: _,_,_ => by simp [zbr,Op.bytesLess]
 | a :: x,b :: y,c :: z,h,k => by
  simp only [zbr,Op.bytesLess,Bool.or_eq_true,Bool.and_eq_true,decide_eq_true_eq,beq_iff_eq] at h k ⊢
  rcases h with h | ⟨rfl,h⟩
  ·rcases k with k | ⟨rfl,k⟩
   ·exact .inl (UInt8.lt_trans h k)
   ·exact .inl h
  ·rcases k with k | ⟨rfl,k⟩
   ·exact .inl k
   ·exact .inr ⟨rfl,zbN x y z h k⟩
theorem zdI:∀ (a b:List UInt8),zbr a b=true ∨ a=b ∨ zbr b a=true
 | [],[] => .inr (.inl rfl)
 | [],_ :: _ => .inl rfl
 | _ :: _,[] => .inr (.inr rfl)
 | a :: x,b :: y => by
  simp only [zbr,Op.bytesLess,Bool.or_eq_true,Bool.and_eq_true,decide_eq_true_eq,beq_iff_eq]
  by_cases h1:a < b
  ·exact .inl (.inl h1)
  by_cases h2:b < a
  ·exact .inr (.inr (.inl h2))
  have e:a=b:=UInt8.le_antisymm (UInt8.not_lt.1 h2) (UInt8.not_lt.1 h1)
  subst e
  rcases zdI x y with h | h | h
  ·exact .inl (.inr ⟨rfl,h⟩)
  ·exact .inr (.inl (by rw [h]))
  ·exact .inr (.inr (.inr ⟨rfl,h⟩))
theorem zbd:∀ a:List UInt8,zbr a a=false
 | [] => rfl
 | a :: x => by
  have h0:¬ a < a:=UInt8.lt_irrefl a
  have h:=zbd x
  unfold zbr at h
  simp [zbr,Op.bytesLess,h0,h]
theorem zit (a b c:List UInt8) (h:leS a b=true) (k:leS b c=true):leS a c=true:=by
 unfold leS at *
 rw [Bool.or_eq_true,beq_iff_eq] at *
 rcases h with h | rfl
 ·rcases k with k | rfl
  ·exact .inl (zbN _ _ _ h k)
  ·exact .inl h
 ·exact k
theorem zn5 (a b:List UInt8):(leS a b || leS b a)=true:=by
 unfold leS
 rcases zdI a b with h | rfl | h
 ·rw [h]; rfl
 ·simp
 ·rw [h]; simp
theorem zkE (a b:List UInt8) (h:leS a b=true) (k:leS b a=true):a=b:=by
 unfold leS at *
 rw [Bool.or_eq_true,beq_iff_eq] at *
 rcases h with h | h
 ·rcases k with k | k
  ·have:=zbN _ _ _ h k
   rw [zbd] at this; cases this
  ·exact k.symm
 ·exact h
def zcl:Nat → List (List UInt8) → List (List UInt8)
 | 0,l => l
 | f + 1,l => if l.length < 2 then l else List.merge (zcl f (l.take (l.length / 2))) (zcl f (l.drop (l.length / 2))) leS
theorem za1:∀ (f:Nat) (l:List (List UInt8)),(zcl f l).Perm l
 | 0,l => List.Perm.refl _
 | f + 1,l => by
  rw [zcl]
  split
  ·exact List.Perm.refl _
  ·refine (List.merge_perm_append _).trans ?_
   refine ((za1 f _).append (za1 f _)).trans ?_
   rw [List.take_append_drop]
theorem zcb:∀ (f:Nat) (l:List (List UInt8)),l.length ≤ f → (zcl f l).Pairwise (fun a b => leS a b=true)
 | 0,l,h => by
  have:l=[]:=List.eq_nil_of_length_eq_zero (by omega)
  subst this
  exact List.Pairwise.nil
 | f + 1,l,h => by
  rw [zcl]
  split
  ·rename_i h2
   match l,h2 with
   | [],_ => exact List.Pairwise.nil
   | [a],_ => exact List.pairwise_singleton _ _
   | a :: b :: l,h2 => simp at h2; omega
  ·exact List.pairwise_merge zit zn5 _ _ (zcb f _ (by rw [List.length_take]; omega)) (zcb f _ (by rw [List.length_drop]; omega))
section
variable [Tabs Tryz.prog]
end
end
end Go.Proofs.YtadhjoggdbhkgaaGreatDoor
namespace Go.Proofs.YtadhjoggdbhkgaaGreatDoor
open Go.RowKit Sx
section
attribute [local irreducible] run
def zdl (ks:List (List UInt8)):Bool:=decide ks.Nodup && ks.all zay
section
variable [Tabs Tryz.prog] {objs:List OB} {K:List OB → AV → Prop}
end
end
end Go.Proofs.YtadhjoggdbhkgaaGreatDoor
namespace Go.Proofs.YtadhjoggdbhkgaaGreatDoor
open Go.RowKit Sx
section
attribute [local irreducible] run
mutual
/-- how many values there are within depth d; 0 if too deep -/
def zbZ:JV → Int → Int
 | .mk k t ks its,d => if 64 < (if k=6 ∨ k=7 then d + 1 else d) then 0 else zcm its (if k=6 ∨ k=7 then d + 1 else d) 1
def zcm:List JV → Int → Int → Int
 | [],_,n => n
 | v :: l,d,n => if zbZ v d=0 then 0 else if 20000 < n + zbZ v d then 20001 else zcm l d (n + zbZ v d)
end
mutual
theorem zkX:∀ (v:JV) (d:Int),0 ≤ zbZ v d ∧ zbZ v d ≤ 20001
 | .mk k t ks its,d => by
  rw [zbZ]
  generalize (if k=6 ∨ k=7 then d + 1 else d)=e
  by_cases h:64 < e
  ·rw [if_pos h]; omega
  ·rw [if_neg h]; exact zkW its e 1 (by decide) (by decide)
theorem zkW:∀ (l:List JV) (d n:Int),0 ≤ n → n ≤ 20000 → 0 ≤ zcm l d n ∧ zcm l d n ≤ 20001
 | [],d,n,h1,h2 => by rw [zcm]; omega
 | v :: l,d,n,h1,h2 => by
  rw [zcm]
  have h:=zkX v d
  split
  ·omega
  split
  ·omega
  ·exact zkW l d _ (by omega) (by omega)
end
theorem ze8 {α:Type} {l:List α} {i:Nat} (hi:i < l.length):l.drop i=l[i] :: l.drop (i + 1):=List.drop_eq_getElem_cons hi
section
variable [Tabs Tryz.prog]
end
end
end Go.Proofs.YtadhjoggdbhkgaaGreatDoor
namespace Go.Proofs.YtadhjoggdbhkgaaGreatDoor
open Go.RowKit Sx
section
attribute [local irreducible] run
mutual
/-- does it have the right fields? -/
def ze1:JV → Bool
 | .mk k t ks its =>
  if k=1 ∨ k=3 ∨ k=2 then decide (t=[]) && (decide (ks.length=0) && decide (its.length=0))
  else if k=4 then decide ((za4 t).1=0) && (decide ((za4 t).2=t) && (decide (ks.length=0) && decide (its.length=0)))
  else if k=5 then zay t && (decide (ks.length=0) && decide (its.length=0))
  else if k=6 then decide (t=[]) && (decide (ks.length=0) && zdv its)
  else if k=7 then decide (t=[]) && (decide (ks.length=its.length) && (zdl ks && zdv its))
  else false
def zdv:List JV → Bool
 | [] => true
 | v :: l => ze1 v && zdv l
end
theorem shpJ_eq (v:JV):ze1 v =
  if v.kind=1 ∨ v.kind=3 ∨ v.kind=2 then decide (v.text=[]) && (decide (v.keys.length=0) && decide (v.items.length=0))
  else if v.kind=4 then decide ((za4 v.text).1=0) && (decide ((za4 v.text).2=v.text) && (decide (v.keys.length=0) && decide (v.items.length=0)))
  else if v.kind=5 then zay v.text && (decide (v.keys.length=0) && decide (v.items.length=0))
  else if v.kind=6 then decide (v.text=[]) && (decide (v.keys.length=0) && zdv v.items)
  else if v.kind=7 then decide (v.text=[]) && (decide (v.keys.length=v.items.length) && (zdl v.keys && zdv v.items))
  else false:=by cases v; rw [ze1]; rfl
def zeM (v:JV):Bool:=decide (0 < zbZ v 0 ∧ zbZ v 0 ≤ 20000) && ze1 v
section
variable [Tabs Tryz.prog]
end
end
end Go.Proofs.YtadhjoggdbhkgaaGreatDoor
namespace Go.Proofs.YtadhjoggdbhkgaaGreatDoor
open Go.RowKit Sx
section
attribute [local irreducible] run
mutual
/-- equal, the order of keys aside -/
def zeV:JV → JV → Bool
 | .mk k t ks its,w => decide (k=w.kind) && (if k=1 ∨ k=2 ∨ k=3 then true else if k=4 ∨ k=5 then decide (t=w.text) else if k=6 then zeU its w.items else if k=7 then decide (ks.length=w.keys.length) && zhd ks its w else false)
def zeU:List JV → List JV → Bool
 | [],m => m.isEmpty
 | v :: l,m => match m with
  | [] => false
  | w :: m => zeV v w && zeU l m
def zhd:List (List UInt8) → List JV → JV → Bool
 | ks,[],w => true
 | ks,v :: l,w => match ks with
  | [] => true
  | k :: ks => (zdZ w k).2 && (zeV v (zdZ w k).1 && zhd ks l w)
end
theorem zhe (v w:JV):zeV v w=(decide (v.kind=w.kind) && (if v.kind=1 ∨ v.kind=2 ∨ v.kind=3 then true else if v.kind=4 ∨ v.kind=5 then decide (v.text=w.text) else if v.kind=6 then zeU v.items w.items else if v.kind=7 then decide (v.keys.length=w.keys.length) && zhd v.keys v.items w else false)):=by cases v; rw [zeV]; rfl
theorem zkV:∀ {l m:List JV},l.length ≠ m.length → zeU l m=false
 | [],[],h => absurd rfl h
 | [],_ :: _,_ => by rw [zeU]; rfl
 | _ :: _,[],_ => by rw [zeU]
 | v :: l,w :: m,h => by rw [zeU,zkV (l:=l) (m:=m) (by simpa using h)]; simp
theorem zer:∀ {l:List JV} (h:zdv l=true) {i:Nat} (hi:i < l.length),ze1 l[i]=true
 | a :: l,h,0,hi => by rw [zdv,Bool.and_eq_true] at h; exact h.1
 | a :: l,h,i + 1,hi => by rw [zdv,Bool.and_eq_true] at h; exact zer h.2 (by simpa using hi)
theorem zdu {v:JV} (h:ze1 v=true):((v.kind=1 ∨ v.kind=2 ∨ v.kind=3 ∨ v.kind=4 ∨ v.kind=5) ∧ v.keys.length=0 ∧ v.items.length=0) ∨ (v.kind=6 ∧ v.keys.length=0 ∧ zdv v.items=true) ∨ (v.kind=7 ∧ v.keys.length=v.items.length ∧ v.keys.Nodup ∧ zdv v.items=true):=by
 rw [shpJ_eq] at h
 by_cases a1:v.kind=1 ∨ v.kind=3 ∨ v.kind=2
 ·rw [if_pos a1] at h
  simp only [Bool.and_eq_true,decide_eq_true_eq] at h
  exact .inl ⟨by omega,h.2.1,h.2.2⟩
 rw [if_neg a1] at h
 by_cases a4:v.kind=4
 ·rw [if_pos a4] at h
  simp only [Bool.and_eq_true,decide_eq_true_eq] at h
  exact .inl ⟨by omega,h.2.2.1,h.2.2.2⟩
 rw [if_neg a4] at h
 by_cases a5:v.kind=5
 ·rw [if_pos a5] at h
  simp only [Bool.and_eq_true,decide_eq_true_eq] at h
  exact .inl ⟨by omega,h.2.1,h.2.2⟩
 rw [if_neg a5] at h
 by_cases a6:v.kind=6
 ·rw [if_pos a6] at h
  simp only [Bool.and_eq_true,decide_eq_true_eq] at h
  exact .inr (.inl ⟨a6,h.2.1,h.2.2⟩)
 rw [if_neg a6] at h
 by_cases a7:v.kind=7
 ·rw [if_pos a7] at h
  unfold zdl at h
  simp only [Bool.and_eq_true,decide_eq_true_eq] at h
  exact .inr (.inr ⟨a7,h.2.1,h.2.2.1.1,h.2.2.2⟩)
 rw [if_neg a7] at h
 cases h
theorem zbG:∀ {l:List (List UInt8)} (h:l.Nodup) {i:Nat} (hi:i < l.length),zdY l[i] l=i
 | a :: l,h,0,hi => by
  simp only [List.getElem_cons_zero]
  unfold zdY; rw [if_pos rfl]
 | a :: l,h,i + 1,hi => by
  rw [List.nodup_cons] at h
  have hi':i < l.length:=by simpa using hi
  have hne:¬ a=l[i]:=fun e => h.1 (by rw [e]; exact List.getElem_mem _)
  unfold zdY
  simp only [List.getElem_cons_succ]
  rw [if_neg hne,zbG h.2 hi']
theorem zfL {v:JV} (h7:v.kind=7) (hl:v.keys.length=v.items.length) (hn:v.keys.Nodup) {i:Nat} (hi:i < v.keys.length):zdZ v v.keys[i]=(v.items[i]'(by omega),true):=by
 unfold zdZ
 rw [zbG hn hi,if_pos ⟨h7,hi⟩,List.getElem?_eq_getElem (by omega)]
mutual
theorem zee:∀ v:JV,ze1 v=true → zeV v v=true
 | .mk k t ks its,h => by
  have hk:=zdu h
  have h1:=fun (hs:zdv its=true) => ziy its hs
  have h2:=fun (hs:zdv its=true) (w:JV) (ks':List (List UInt8)) (hw:∀ i (h1:i < ks'.length) (h2:i < its.length),zdZ w ks'[i]=(its[i],true)) => zix its hs w ks' hw
  rw [zhe]
  simp only [JV.kind,JV.text,JV.keys,JV.items] at hk ⊢
  simp only [decide_true,Bool.true_and]
  rcases hk with ⟨h0,_⟩ | ⟨h0,_,hs⟩ | ⟨h0,hl,hn,hs⟩
  ·by_cases a:k=1 ∨ k=2 ∨ k=3
   ·rw [if_pos a]
   ·rw [if_neg a,if_pos (by omega)]
  ·rw [if_neg (by omega),if_neg (by omega),if_pos h0]
   exact h1 hs
  ·rw [if_neg (by omega),if_neg (by omega),if_neg (by omega),if_pos h0]
   exact h2 hs _ ks fun i q1 q2 => zfL (v:=.mk k t ks its) h0 hl hn q1
theorem ziy:∀ l:List JV,zdv l=true → zeU l l=true
 | [],_ => by rw [zeU]; rfl
 | v :: l,h => by
  rw [zdv,Bool.and_eq_true] at h
  rw [zeU,zee v h.1,ziy l h.2]; rfl
theorem zix:∀ (l:List JV),zdv l=true → ∀ (w:JV) (ks:List (List UInt8)),(∀ i (h1:i < ks.length) (h2:i < l.length),zdZ w ks[i]=(l[i],true)) → zhd ks l w=true
 | [],_,w,ks,_ => by rw [zhd]
 | v :: l,h,w,[],_ => by rw [zhd]
 | v :: l,h,w,k :: ks,hw => by
  rw [zdv,Bool.and_eq_true] at h
  have h0:=hw 0 (by simp) (by simp)
  simp only [List.getElem_cons_zero] at h0
  rw [zhd]
  simp only [h0]
  rw [zee v h.1,zix l h.2 w ks fun i h1 h2 => by
   have:=hw (i + 1) (by simpa using h1) (by simpa using h2)
   simpa only [List.getElem_cons_succ] using this]
  rfl
end
theorem zip (k k':List UInt8) (v:AV):∀ es:List (List UInt8 × AV),zhD k' (zhC k v es)=if k=k' then some v else zhD k' es
 | [] => by simp only [zhC,zhD]
 | e :: r => by
  have ih:=zip k k' v r
  simp only [zhC]
  split
  ·rename_i h
   simp only [zhD]
   by_cases c:k=k'
   ·rw [if_pos c,if_pos c]
   ·rw [if_neg c,if_neg c,if_neg (fun h2 => c (h ▸ h2))]
  ·rename_i h
   simp only [zhD]
   by_cases c:e.1=k'
   ·rw [if_pos c,if_pos c,if_neg (fun h2 => h (c.trans h2.symm))]
   ·rw [if_neg c,if_neg c,ih]
section
variable [Tabs Tryz.prog] {objs:List OB} {K:List OB → AV → Prop} {L:List (Nat × OB)}
end
end
end Go.Proofs.YtadhjoggdbhkgaaGreatDoor
namespace Go.Proofs.YtadhjoggdbhkgaaGreatDoor
open Go.RowKit Sx
section
attribute [local irreducible] run
structure GB (s:List UInt8) (ρ:Rs):Prop where
 p0:0 ≤ ρ.pos
 p1:ρ.pos ≤ s.length
 n0:ρ.fail=0 → (ρ.nodes:Int) ≤ ρ.pos
 n1:(ρ.nodes:Int) ≤ s.length + 1
def GT (ρ:Rs) (t:Tk):Prop:=ρ.fail=0 → t.1=1 ∨ (ρ.nodes:Int) + 1 ≤ ρ.pos
theorem zdP {s:List UInt8} {ρ:Rs} (h:GB s ρ) (a e:Int) (he:¬ e=0):GB s (zax ρ a e):=by
 unfold zax
 split
 ·exact ⟨h.p0,h.p1,fun h' => absurd h' he,h.n1⟩
 ·exact h
theorem zbh {s:List UInt8} {ρ:Rs} (h:GB s ρ):GB s (zac s ρ).2 ∧ GT (zac s ρ).2 (zac s ρ).1:=by
 unfold zac
 by_cases c1:ρ.fail=0
 ·rw [if_neg (fun h => h c1)]
  by_cases c2:(zaB s ρ.pos).2.2=0
  ·rw [if_neg (fun h => h c2)]
   obtain ⟨n1,n2,n3,n4⟩:=zn1 h.p0 c2
   have hn:=h.n0 c1
   refine ⟨⟨by have:=h.p0; show 0 ≤ (zaB s ρ.pos).2.1; omega,n2,fun _ => by show (ρ.nodes:Int) ≤ (zaB s ρ.pos).2.1; omega,h.n1⟩,fun _ => ?_⟩
   by_cases c3:(zaB s ρ.pos).1.1=1
   ·exact .inl c3
   ·have:=n3 c3
    exact .inr (by show (ρ.nodes:Int) + 1 ≤ (zaB s ρ.pos).2.1; omega)
  ·rw [if_pos c2]
   refine ⟨zdP h _ _ c2,fun hf => ?_⟩
   exfalso
   unfold zax at hf
   rw [if_pos c1] at hf
   exact c2 hf
 ·rw [if_pos c1]
  exact ⟨h,fun hf => absurd hf c1⟩
theorem zeC {s:List UInt8} {ρ:Rs} (h:GB s ρ) (t:Tk) (c:UInt8):GB s (zaC ρ t c):=by
 unfold zaC
 split
 ·exact zdP h _ _ (by decide)
 ·exact h
theorem gb_key {s:List UInt8} {ρ:Rs} (h:GB s ρ) (t:Tk) (ks:List (List UInt8)):GB s (zdw ρ t ks):=by
 unfold zdw
 have h1:GB s (if ¬ t.1=3 then zax ρ t.2.2 140 else ρ):=by
  split
  ·exact zdP h _ _ (by decide)
  ·exact h
 dsimp only
 split
 ·exact zdP h1 _ _ (by decide)
 ·exact h1
def GV (s:List UInt8) (val:Rs → Tk → JV × Rs):Prop:=∀ ρ t,GB s ρ → GT ρ t → GB s (val ρ t).2
theorem zoQ {s:List UInt8} {val:Rs → Tk → JV × Rs} (hv:GV s val):∀ (n:Nat) (ρ:Rs) (t:Tk) (acc:List JV),GB s ρ → GT ρ t → GB s (za0 s val n ρ t acc).2
 | 0,ρ,t,acc,h,_ => h
 | n + 1,ρ,t,acc,h,ht => by
  rw [za0]
  split
  ·exact h
  dsimp only
  have h1:=hv ρ t h ht
  generalize val ρ t=a at h1 ⊢
  have h2:=(zbh h1).1
  generalize zac s a.2=b at h2 ⊢
  split
  ·exact h2
  ·obtain ⟨h3,h4⟩:=zbh (zeC h2 b.1 44)
   exact zoQ hv n _ _ _ h3 h4
theorem zoP {s:List UInt8} {val:Rs → Tk → JV × Rs} (hv:GV s val):∀ (n:Nat) (ρ:Rs) (t:Tk) (ks:List (List UInt8)) (its:List JV),GB s ρ → GB s (zaR s val n ρ t ks its).2
 | 0,ρ,t,ks,its,h => h
 | n + 1,ρ,t,ks,its,h => by
  rw [zaR]
  split
  ·exact h
  dsimp only
  have h1:=(zbh (gb_key h t ks)).1
  generalize zac s (zdw ρ t ks)=a at h1 ⊢
  obtain ⟨h2,h2'⟩:=zbh (zeC h1 a.1 58)
  generalize zac s (zaC a.2 a.1 58)=b at h2 h2' ⊢
  have h3:=hv _ _ h2 h2'
  generalize val b.2 b.1=v at h3 ⊢
  have h4:=(zbh h3).1
  generalize zac s v.2=c at h4 ⊢
  split
  ·exact h4
  ·have h5:=(zbh (zeC h4 c.1 44)).1
   exact zoP hv n _ _ _ _ h5
theorem zk1 {s:List UInt8} {ρ:Rs} {t:Tk} (h:GB s ρ) (ht:GT ρ t) (h1:¬ t.1=1) (hf:ρ.fail=0):GB s (zaG ρ t):=by
 have hn:=(ht hf).resolve_left h1
 have hp1:=h.p1
 unfold zaG
 dsimp only
 have h2:∃ fa wa,(if t.1=4 ∧ ¬ (za4 t.2.1).1=0 then zax ρ t.2.2 (za4 t.2.1).1 else ρ)=⟨ρ.pos,ρ.nodes,fa,wa⟩:=by
  split
  ·unfold zax; rw [if_pos hf]; exact ⟨_,_,rfl⟩
  ·exact ⟨_,_,rfl⟩
 obtain ⟨fa,wa,h2⟩:=h2
 rw [h2]
 have h3:∀ f w,GB s ⟨ρ.pos,ρ.nodes + 1,f,w⟩:=fun f w => ⟨h.p0,h.p1,fun _ => by show ((ρ.nodes + 1:Nat):Int) ≤ ρ.pos; omega,by show ((ρ.nodes + 1:Nat):Int) ≤ _; omega⟩
 split
 ·exact zdP (h3 _ _) _ _ (by decide)
 ·exact h3 _ _
theorem gb_arr {s:List UInt8} {val:Rs → Tk → JV × Rs} (hv:GV s val) {ρ:Rs} (h:GB s ρ):GB s (zdW s val ρ).2:=by
 unfold zdW
 dsimp only
 obtain ⟨h1,h2⟩:=zbh h
 split
 ·exact h1
 ·exact zoQ hv _ _ _ _ h1 h2
theorem gb_obj {s:List UInt8} {val:Rs → Tk → JV × Rs} (hv:GV s val) {ρ:Rs} (h:GB s ρ):GB s (zd6 s val ρ).2:=by
 unfold zd6
 dsimp only
 have h1:=(zbh h).1
 split
 ·exact h1
 ·exact zoP hv _ _ _ _ _ h1
theorem vk_end {t:Tk} (h:¬ vkE t=0):¬ t.1=1:=by
 intro h1
 apply h
 have e1:∀ c,isP t c=false:=fun c => by simp [isP,h1]
 simp [vkE,h1,e1]
theorem ze9 (s:List UInt8):∀ (f:Nat) (d:Nat),GV s (fun ρ t => zau s f ρ t d)
 | 0,d => fun ρ t h _ => h
 | f + 1,d => fun ρ t h ht => by
  dsimp only
  rw [zau]
  by_cases c0:ρ.fail=0
  ·rw [if_neg (fun h => h c0)]
   split
   ·exact zdP h _ _ (by decide)
   rename_i c1
   have hc:=zk1 h ht (vk_end c1) c0
   split
   ·exact zdP h _ _ (by decide)
   split
   ·exact hc
   split
   ·exact gb_arr (ze9 s f (d + 1)) hc
   split
   ·exact gb_obj (ze9 s f (d + 1)) hc
   split
   ·exact hc
   ·exact hc
  ·rw [if_pos c0]; exact h
end
end Go.Proofs.YtadhjoggdbhkgaaGreatDoor
namespace Go.Proofs.YtadhjoggdbhkgaaGreatDoor
open Go.RowKit Sx
section
attribute [local irreducible] run
theorem zdM (ρ:Rs) (a e:Int):(zax ρ a e).nodes=ρ.nodes:=by unfold zax; split <;> rfl
theorem za9 (s:List UInt8) (ρ:Rs):(zac s ρ).2.nodes=ρ.nodes:=by
 unfold zac
 split
 ·rfl
 split
 ·exact zdM _ _ _
 ·rfl
theorem zes (ρ:Rs) (t:Tk) (c:UInt8):(zaC ρ t c).nodes=ρ.nodes:=by
 unfold zaC
 split
 ·exact zdM _ _ _
 ·rfl
theorem rkey_n (ρ:Rs) (t:Tk) (ks:List (List UInt8)):(zdw ρ t ks).nodes=ρ.nodes:=by
 unfold zdw
 dsimp only
 split <;> split <;> simp only [zdM]
theorem rcount_n (ρ:Rs) (t:Tk):(zaG ρ t).nodes=ρ.nodes + 1:=by
 unfold zaG
 dsimp only
 generalize hx:(if t.1=4 ∧ ¬ (za4 t.2.1).1=0 then zax ρ t.2.2 (za4 t.2.1).1 else ρ)=x
 have h:x.nodes=ρ.nodes:=by
  rw [← hx]
  split
  ·exact zdM _ _ _
  ·rfl
 by_cases c:20000 < x.nodes + 1
 ·rw [if_pos c,zdM]; show x.nodes + 1=_; omega
 ·rw [if_neg c]; show x.nodes + 1=_; omega
def MonV (val:Rs → Tk → JV × Rs):Prop:=∀ ρ t,ρ.nodes ≤ (val ρ t).2.nodes
theorem znw {s:List UInt8} {val:Rs → Tk → JV × Rs} (hv:MonV val):∀ (n:Nat) (ρ:Rs) (t:Tk) (acc:List JV),ρ.nodes ≤ (za0 s val n ρ t acc).2.nodes
 | 0,ρ,t,acc => Nat.le_refl _
 | n + 1,ρ,t,acc => by
  rw [za0]
  split
  ·exact Nat.le_refl _
  dsimp only
  have h1:=hv ρ t
  generalize val ρ t=a at h1 ⊢
  split
  ·rw [za9]; exact h1
  ·have h2:=znw (s:=s) hv n (zac s (zaC (zac s a.2).2 (zac s a.2).1 44)).2 (zac s (zaC (zac s a.2).2 (zac s a.2).1 44)).1 (acc ++ [a.1])
   rw [za9,zes,za9] at h2
   omega
theorem zm1 {s:List UInt8} {val:Rs → Tk → JV × Rs} (hv:MonV val):∀ (n:Nat) (ρ:Rs) (t:Tk) (ks:List (List UInt8)) (its:List JV),ρ.nodes ≤ (zaR s val n ρ t ks its).2.nodes
 | 0,ρ,t,ks,its => Nat.le_refl _
 | n + 1,ρ,t,ks,its => by
  rw [zaR]
  split
  ·exact Nat.le_refl _
  dsimp only
  have e1:=za9 s (zdw ρ t ks)
  rw [rkey_n] at e1
  generalize zac s (zdw ρ t ks)=a at e1 ⊢
  have e2:=za9 s (zaC a.2 a.1 58)
  rw [zes] at e2
  generalize zac s (zaC a.2 a.1 58)=b at e2 ⊢
  have h1:=hv b.2 b.1
  generalize val b.2 b.1=v at h1 ⊢
  have e3:=za9 s v.2
  generalize zac s v.2=c at e3 ⊢
  split
  ·show _ ≤ c.2.nodes; omega
  ·have e4:=za9 s (zaC c.2 c.1 44)
   rw [zes] at e4
   generalize zac s (zaC c.2 c.1 44)=d at e4 ⊢
   have h2:=zm1 (s:=s) hv n d.2 d.1 (ks ++ [t.2.1]) (its ++ [v.1])
   omega
theorem zgV (s:List UInt8):∀ (f d:Nat),MonV (fun ρ t => zau s f ρ t d) ∧ ∀ ρ t,0 < f → (zau s f ρ t d).2.fail=0 → ρ.nodes + 1 ≤ (zau s f ρ t d).2.nodes
 | 0,d => ⟨fun ρ t => Nat.le_refl _,fun ρ t h => absurd h (Nat.lt_irrefl 0)⟩
 | f + 1,d => by
  have hm:=(zgV s f (d + 1)).1
  have key:∀ ρ t,((zau s (f + 1) ρ t d).2.nodes=ρ.nodes ∧ ¬ (zau s (f + 1) ρ t d).2.fail=0) ∨ ρ.nodes + 1 ≤ (zau s (f + 1) ρ t d).2.nodes:=by
   intro ρ t
   rw [zau]
   by_cases c0:ρ.fail=0
   rotate_left
   ·rw [if_pos c0]; exact .inl ⟨rfl,c0⟩
   rw [if_neg (fun h => h c0)]
   have hst:∀ a e:Int,¬ e=0 → (zax ρ a e).nodes=ρ.nodes ∧ ¬ (zax ρ a e).fail=0:=fun a e he => ⟨zdM _ _ _,by unfold zax; rw [if_pos c0]; exact he⟩
   split
   ·exact .inl (hst _ _ (by decide))
   split
   ·exact .inl (hst _ _ (by decide))
   have hc:=rcount_n ρ t
   split
   ·right; show _ ≤ (zaG ρ t).nodes; omega
   split
   ·right
    unfold zdW
    dsimp only
    split
    ·rw [za9]; omega
    ·have h:=znw (s:=s) hm (s.length + 2) (zac s (zaG ρ t)).2 (zac s (zaG ρ t)).1 []
     rw [za9] at h
     show _ ≤ (za0 s _ _ _ _ []).2.nodes
     omega
   split
   ·right
    unfold zd6
    dsimp only
    split
    ·rw [za9]; omega
    ·have h:=zm1 (s:=s) hm (s.length + 2) (zac s (zaG ρ t)).2 (zac s (zaG ρ t)).1 [] []
     rw [za9] at h
     show _ ≤ (zaR s _ _ _ _ [] []).2.nodes
     omega
   split
   ·right; show _ ≤ (zaG ρ t).nodes; omega
   ·right; show _ ≤ (zaG ρ t).nodes; omega
  refine ⟨fun ρ t => ?_,fun ρ t _ hf => ?_⟩
  ·rcases key ρ t with h | h
   ·exact Nat.le_of_eq h.1.symm
   ·show ρ.nodes ≤ (zau s (f + 1) ρ t d).2.nodes; omega
  ·rcases key ρ t with h | h
   ·exact absurd hf h.2
   ·exact h
end
end Go.Proofs.YtadhjoggdbhkgaaGreatDoor
namespace Go.Proofs.YtadhjoggdbhkgaaGreatDoor
open Go.RowKit Sx
section
attribute [local irreducible] run
section
variable [Tabs Tryz.prog] {objs:List OB} {K:List OB → AV → Prop}
end
end
end Go.Proofs.YtadhjoggdbhkgaaGreatDoor
namespace Go.Proofs.YtadhjoggdbhkgaaGreatDoor
open Go.RowKit Sx
section
attribute [local irreducible] run
theorem zav.set0 {α:Type} {B:List (Nat × α)} {o:List α} {i:Nat} {x:α} (y:α) (h:zav ((i,x) :: B) o):zav ((i,y) :: B) (o.set i y):=zav.set (A:=[]) y h
theorem zav.set1 {α:Type} {a:Nat × α} {B:List (Nat × α)} {o:List α} {i:Nat} {x:α} (y:α) (h:zav (a :: (i,x) :: B) o):zav (a :: (i,y) :: B) (o.set i y):=zav.set (A:=[a]) y h
theorem zav.set2 {α:Type} {a b:Nat × α} {B:List (Nat × α)} {o:List α} {i:Nat} {x:α} (y:α) (h:zav (a :: b :: (i,x) :: B) o):zav (a :: b :: (i,y) :: B) (o.set i y):=zav.set (A:=[a,b]) y h
theorem zav.ne {α:Type} {a b:Nat × α} {A B C:List (Nat × α)} {o:List α} (h:zav (A ++ a :: (B ++ b :: C)) o):a.1 ≠ b.1:=by
 have:=h.1
 simp only [List.map_append,List.map_cons] at this
 rw [List.nodup_append] at this
 obtain ⟨_,h2,_⟩:=this
 rw [List.nodup_cons] at h2
 intro e
 exact h2.1 (by rw [e]; simp)
theorem sub_self {b g n:Nat} {xs:List AV}:zcX b g n xs (.orow b g)=.row n xs:=by simp [zcX]
section
variable {P:Program} [Tabs P] {f:FuncId} {o:List OB} {K:List OB → AV → Prop} {p rr g st' nodes E sz n E' g' n' sz':Nat} {st k:Int} {txt:List UInt8} {xs cs ys:List AV} {X Y r0 r1 r2 r3:AV} {Lx L:List (Nat × OB)}
end
section
variable [Tabs Tryz.prog] {objs:List OB} {K:List OB → AV → Prop}
end
end
end Go.Proofs.YtadhjoggdbhkgaaGreatDoor
namespace Go.Proofs.YtadhjoggdbhkgaaGreatDoor
open Go.RowKit Sx
section
attribute [local irreducible] run
def zaU (t:Tk):OB:=.box 54 (tkC t)
section
variable [Tabs Tryz.prog] [Pow Tryz.prog] {objs:List OB} {K:List OB → AV → Prop} {M:List (Nat × OB)}
omit [Pow Tryz.prog] in
end
end
end Go.Proofs.YtadhjoggdbhkgaaGreatDoor
namespace Go.Proofs.YtadhjoggdbhkgaaGreatDoor
open Go.RowKit Sx
section
attribute [local irreducible] run
theorem WfM.mono {σ:Ms} {a b:Nat} (h:WfM σ a) (hab:a ≤ b):WfM σ b:=⟨h.top,h.obj,fun f hf => by have:=h.len f hf; omega,h.deep,h.few⟩
theorem jres {P:Program} [Tabs P] {f:FuncId} {args:List AV} {objs:List OB} {K:List OB → AV → Prop} (r':AV) (hc:zah P f args objs (fun o r => (∀ G I y,Den G I r y → Den G I r' y) ∧ K o r')):zah P f args objs K:=by
 intro C _ G I w hin hm ys hd
 refine (hc C G I w hin hm ys hd).mono ?_
 rintro e w' ⟨y,objs',r,G',I',he,⟨hr,hk⟩,h1,h2,h3,h4,hy⟩
 exact ⟨y,objs',r',G',I',he,hk,h1,h2,h3,h4,hr _ _ _ hy⟩
def zvC:List AV:=[.i .i64 0,.s [],.nil,.nil]
def zfD (R:JV × Int × Int):AV:=.tup [.agg (zao R.1),.i .i64 R.2.1,.i .i64 R.2.2]
theorem den_zv {a e:Int} {G:Gh} {I:Imm} {y:Value} (h:Den G I (.tup [.agg zvC,.i .i64 a,.i .i64 e]) y):Den G I (zfD (jvZ,a,e)) y:=by
 unfold zfD jvZ
 rw [zao,zaz]
 unfold zvC at h
 simp only [zaf,Den] at h ⊢
 obtain ⟨ys,h1,y0,l0,rfl,⟨zs,rfl,⟨z0,m0,rfl,q0,z1,m1,rfl,q1,z2,m2,rfl,q2,z3,m3,rfl,q3,q4⟩,hz⟩,h2⟩:=h
 refine ⟨_,h1,_,_,rfl,⟨_,rfl,⟨_,_,rfl,q0,_,_,rfl,q1,_,_,rfl,?_,_,_,rfl,?_,q4⟩,hz⟩,h2⟩
 ·exact ⟨none,0,[],q2,⟨Nat.le_refl _,fun ad h => by cases h⟩,rfl,by simp,by simp⟩
 ·exact ⟨none,0,[],q3,⟨Nat.le_refl _,fun ad h => by cases h⟩,rfl,by simp,by simp⟩
section
variable [Tabs Tryz.prog] [Pow Tryz.prog] [Utf Tryz.prog] {objs:List OB} {K:List OB → AV → Prop}
end
end
end Go.Proofs.YtadhjoggdbhkgaaGreatDoor
namespace Go.Proofs.YtadhjoggdbhkgaaGreatDoor
open Nat renaming reduceAdd → z6, reduceSub → z7, reduceLeDiff → z8, reduceLT → j4, reduceMul → j5, reduceEqDiff → j6
open Int renaming reduceToNat → j7, reduceAdd → j8, reduceSub → j9, reduceMul → x4, reduceNeg → x5, reduceLT → x6, reduceLE → x7, reduceEq → x8, reduceNe → x9
open Go.RowKit Sx
section
attribute [local irreducible] run
def zaJ (s:List UInt8) (ρ:Rs):OB:=.box 51 [.s s,.i .i64 ρ.pos,.i .i64 (ρ.nodes:Int),.i .i64 ρ.fail,.i .i64 ρ.wh]
section
variable [Tabs Tryz.prog] {objs:List OB} {K:List OB → AV → Prop} {L:List (Nat × OB)} {p:Nat} {s:List UInt8} {ρ:Rs}
theorem zft (t:Tk) (c:UInt8) (hk:K objs (.b (isP t c))):zah Tryz.prog 48 [zhP t,.s [c]] objs K:=by
 refine zbk is_ref14_is rfl fun C _ => ?_
 unfold isP at hk
 by_cases c1:t.1=2
 ·by_cases c2:t.2.1=[c]
  ·simp only [c1,c2,decide_true,Bool.and_self] at hk
   simp only [c_ref14_is,zhP,tkC,sxZ,z6,z7,z8,j4,j5,j6,j7,j8,j9,x4,x5,x6,x7,x8,x9,reduceCtorEq,↓reduceIte,c1,c2]
   exact hk
  ·simp only [c1,c2,decide_true,decide_false,Bool.and_false] at hk
   simp only [c_ref14_is,zhP,tkC,sxZ,z6,z7,z8,j4,j5,j6,j7,j8,j9,x4,x5,x6,x7,x8,x9,reduceCtorEq,↓reduceIte,c1,c2]
   exact hk
 ·simp only [c1,decide_false,Bool.false_and] at hk
  simp only [c_ref14_is,zhP,tkC,sxZ,z6,z7,z8,j4,j5,j6,j7,j8,j9,x4,x5,x6,x7,x8,x9,reduceCtorEq,↓reduceIte,c1]
  exact hk
theorem rword_k (l:List UInt8) (hk:K objs (.i .i64 (zd0 l))):zah Tryz.prog 49 [.s l] objs K:=by
 refine zbk is_ref14_word rfl fun C _ => ?_
 unfold zd0 zen zcR at hk
 by_cases c1:l=[116,114,117,101]
 ·rw [if_pos c1] at hk
  simp only [c_ref14_word,sxZ,z6,z7,z8,j4,j5,j6,j7,j8,j9,x4,x5,x6,x7,x8,x9,reduceCtorEq,↓reduceIte,c1]
  exact hk
 rw [if_neg c1] at hk
 by_cases c2:l=[102,97,108,115,101]
 ·rw [if_pos c2] at hk
  have n1:¬ ([102,97,108,115,101]:List UInt8)=[116,114,117,101]:=by decide
  simp only [c_ref14_word,sxZ,z6,z7,z8,j4,j5,j6,j7,j8,j9,x4,x5,x6,x7,x8,x9,reduceCtorEq,↓reduceIte,c2,n1]
  exact hk
 ·rw [if_neg c2] at hk
  simp only [c_ref14_word,sxZ,z6,z7,z8,j4,j5,j6,j7,j8,j9,x4,x5,x6,x7,x8,x9,reduceCtorEq,↓reduceIte,c1,c2]
  exact hk
theorem zce (hO:zav ((p,zaJ s ρ) :: L) objs) (a e:Int) (hk:∀ o,zav ((p,zaJ s (zax ρ a e)) :: L) o → K o (.tup [])):zah Tryz.prog 30 [.p p 0,.i .i64 a,.i .i64 e] objs K:=by
 refine zcP is_ref14_parser_stop fun C _ => ?_
 have e1:=hO.get (i:=p) (x:=zaJ s ρ) (by simp)
 have hlt:=hO.lt (i:=p) (x:=zaJ s ρ) (by simp)
 have gs:∀ x,(objs.set p x)[p]? = some x:=fun x => List.getElem?_set_self hlt
 unfold zaJ at e1
 unfold zax at hk
 by_cases c1:ρ.fail=0
 ·rw [if_pos c1] at hk
  simp only [c_ref14_parser_stop,sxZ,z6,z7,z8,j4,j5,j6,j7,j8,j9,x4,x5,x6,x7,x8,x9,reduceCtorEq,↓reduceIte,e1,c1,gs,List.set_set]
  exact hk _ (hO.set0 _)
 ·rw [if_neg c1] at hk
  simp only [c_ref14_parser_stop,sxZ,z6,z7,z8,j4,j5,j6,j7,j8,j9,x4,x5,x6,x7,x8,x9,reduceCtorEq,↓reduceIte,e1,c1]
  exact hk _ hO
theorem zcy [Utf Tryz.prog] (hs:s.length ≤ 140737488351232) (hO:zav ((p,zaJ s ρ) :: L) objs) (hk:∀ o,zav ((p,zaJ s (zac s ρ).2) :: L) o → K o (zhP (zac s ρ).1)):zah Tryz.prog 29 [.p p 0] objs K:=by
 refine zcP is_ref14_parser_next fun C _ => ?_
 have hO1:=hO.new (.box 54 [.i .i64 0,.s [],.i .i64 0])
 have e1:=hO1.get (i:=p) (x:=zaJ s ρ) (by simp)
 unfold zaJ at e1
 unfold zac at hk
 rw [c_ref14_parser_next]
 refine zaa fun Y hY => ?_
 simp only [sxZ,z6,z7,z8,j4,j5,j6,j7,j8,j9,x4,x5,x6,x7,x8,x9,reduceCtorEq,↓reduceIte]
 have hlen:objs.length < (objs ++ [OB.box 54 [.i .i64 0,.s [],.i .i64 0]]).length:=by simp
 generalize hq:objs.length=q at hO1 hlen ⊢
 generalize objs ++ [OB.box 54 [.i .i64 0,.s [],.i .i64 0]]=o1 at hO1 e1 hlen ⊢
 have e0:=hO1.get (i:=q) (x:=.box 54 [.i .i64 0,.s [],.i .i64 0]) (by simp)
 have gs:∀ x,(o1.set q x)[q]? = some x:=fun x => List.getElem?_set_self hlen
 subst hY
 refine zaa fun Y hY => ?_
 by_cases c1:ρ.fail=0
 rotate_left
 ·rw [if_pos c1] at hk
  simp only [sxZ,z6,z7,z8,j4,j5,j6,j7,j8,j9,x4,x5,x6,x7,x8,x9,reduceCtorEq,↓reduceIte,e1,c1,e0,gs]
  exact hk _ ((hO1.set0 (.box 54 [.i .i64 0,.s [],.i .i64 0])).sub (List.sublist_cons_self _ _))
 rw [if_neg (fun h => h c1)] at hk
 simp only [sxZ,z6,z7,z8,j4,j5,j6,j7,j8,j9,x4,x5,x6,x7,x8,x9,reduceCtorEq,↓reduceIte,e1,c1]
 subst hY
 refine zaa fun Y hY => ?_
 have hne:¬ p=o1.length:=fun h => by
  have:=hO1.lt (i:=p) (x:=zaJ s ρ) (by simp)
  omega
 simp only [sxZ,z6,z7,z8,j4,j5,j6,j7,j8,j9,x4,x5,x6,x7,x8,x9,reduceCtorEq,↓reduceIte,e1]
 refine kpcall (zlO s ρ.pos hs rfl) rfl rfl ?_
 generalize zaB s ρ.pos=N at hk ⊢
 obtain ⟨T,to,e⟩:=N
 simp only at hk
 unfold zn2
 simp only [sxZ,z6,z7,z8,j4,j5,j6,j7,j8,j9,x4,x5,x6,x7,x8,x9,reduceCtorEq,↓reduceIte,gn1,sn1,hne]
 have f1:∀ x y z,OB.box 54 [.i .i64 x,.s y,.i .i64 z]=zaU (x,y,z):=fun _ _ _ => rfl
 rw [f1]
 have hO2:=hO1.new (zaU T)
 have g0:=hO2.get (i:=o1.length) (x:=zaU T) (by simp)
 have g1:=hO2.get (i:=p) (x:=zaJ s ρ) (by simp)
 have g2:=hO2.get (i:=q) (x:=.box 54 [.i .i64 0,.s [],.i .i64 0]) (by simp)
 have hq2:=hO2.lt (i:=q) (x:=.box 54 [.i .i64 0,.s [],.i .i64 0]) (by simp)
 generalize o1 ++ [zaU T]=o2 at hO2 g0 g1 g2 hq2 ⊢
 unfold zaU tkC at g0
 unfold zaJ at g1
 have gs2:∀ x,(o2.set q x)[q]? = some x:=fun x => List.getElem?_set_self hq2
 subst hY
 refine zaa fun Y hY => ?_
 by_cases c2:e=0
 rotate_left
 ·rw [if_pos c2] at hk
  simp only [sxZ,z6,z7,z8,j4,j5,j6,j7,j8,j9,x4,x5,x6,x7,x8,x9,reduceCtorEq,↓reduceIte,c2,g1]
  refine zam (zce (L:=(o1.length,zaU T) :: (q,.box 54 [.i .i64 0,.s [],.i .i64 0]) :: L) (hO2.perm (List.Perm.trans (List.Perm.cons _ (List.Perm.swap _ _ _)) (List.Perm.swap _ _ _))) ρ.pos e fun o ho => ?_)
  have k2:=ho.get (i:=q) (x:=.box 54 [.i .i64 0,.s [],.i .i64 0]) (by simp)
  have kq:=ho.lt (i:=q) (x:=.box 54 [.i .i64 0,.s [],.i .i64 0]) (by simp)
  have gs3:∀ x,(o.set q x)[q]? = some x:=fun x => List.getElem?_set_self kq
  simp only [sxZ,z6,z7,z8,j4,j5,j6,j7,j8,j9,x4,x5,x6,x7,x8,x9,reduceCtorEq,↓reduceIte,k2,gs3]
  exact hk _ ((zav.set2 (.box 54 [.i .i64 0,.s [],.i .i64 0]) ho).sub (((List.sublist_cons_self _ _).trans (List.sublist_cons_self _ _)).cons_cons _))
 subst c2
 rw [if_neg (fun h => h rfl)] at hk
 have hne2:¬ p=q:=fun h => hO2.ne (A:=[_]) (B:=[]) h.symm
 have hne3:¬ p=o1.length:=fun h => hO2.ne (A:=[]) (B:=[_]) h.symm
 have gx0:∀ x,(o2.set p x)[o1.length]? = some (.box 54 [.i .i64 T.1,.s T.2.1,.i .i64 T.2.2]):=fun x => by rw [List.getElem?_set_ne hne3]; exact g0
 have gx2:∀ x,(o2.set p x)[q]? = some (.box 54 [.i .i64 0,.s [],.i .i64 0]):=fun x => by rw [List.getElem?_set_ne hne2]; exact g2
 have gx3:∀ x y,((o2.set p x).set q y)[q]? = some y:=fun x y => List.getElem?_set_self (by rw [List.length_set]; exact hq2)
 simp only [sxZ,z6,z7,z8,j4,j5,j6,j7,j8,j9,x4,x5,x6,x7,x8,x9,reduceCtorEq,↓reduceIte]
 subst hY
 simp only [sxZ,z6,z7,z8,j4,j5,j6,j7,j8,j9,x4,x5,x6,x7,x8,x9,reduceCtorEq,↓reduceIte,g1,gx0,gx2,gx3]
 have hF:=(zav.set1 (zaU T) (zav.set2 (zaJ s ⟨to,ρ.nodes,ρ.fail,ρ.wh⟩) hO2)).sub (L':=(p,zaJ s ⟨to,ρ.nodes,ρ.fail,ρ.wh⟩) :: L) ((List.sublist_cons_self _ _).trans (List.sublist_cons_self _ _))
 exact hk _ hF
end
end
end Go.Proofs.YtadhjoggdbhkgaaGreatDoor
namespace Go.Proofs.YtadhjoggdbhkgaaGreatDoor
open Go.RowKit Sx
section
attribute [local irreducible] run
def zvB:OB:=.box 25 [.i .i64 0,.s [],.nil,.nil]
def jvB (k:Int) (X Y:AV):OB:=.box 25 [.i .i64 k,.s [],X,Y]
def zaL (L:List (Nat × OB)):Prop:=∀ z ∈ L,∀ b g n xs,(∀ y ∈ L,y.1 ≠ b) → zmF b g n xs z.2=z.2
theorem zeo {b g n:Nat} {xs:List AV}:∀ {l:List AV},zat l=true → l.map (zcX b g n xs)=l
 | [],_ => rfl
 | x :: l,h => by
  simp only [zat,Bool.and_eq_true] at h
  rw [List.map_cons,zmE h.1,zeo h.2]
theorem zjH {z:Nat × OB} {L:List (Nat × OB)} (h:zaL L) (hz:∀ b g n xs,(∀ y ∈ z :: L,y.1 ≠ b) → zmF b g n xs z.2=z.2):zaL (z :: L):=by
 intro y hy b g n xs hb
 rcases List.mem_cons.1 hy with rfl | hy
 ·exact hz b g n xs hb
 ·exact h y hy b g n xs fun y hy => hb y (List.mem_cons_of_mem _ hy)
theorem zdo {i:Nat} {T:Nat} {cs:List AV} {L:List (Nat × OB)} (h:zaL L) (hp:zat cs=true):zaL ((i,.box T cs) :: L) :=
 zjH h fun b g n xs _ => by show OB.box T _=_; rw [zeo hp]
theorem zl9 {E sz n:Nat} {xs:List AV} {X:AV} {R A B:List (Nat × OB)} (hs:SlO E sz n xs X R) (h:zaL (A ++ B)):zaL (A ++ (R ++ B)):=by
 intro y hy b g m ys hb
 have hAB:∀ y ∈ A ++ B,y.1 ≠ b:=fun y hy => hb y (by
  rcases List.mem_append.1 hy with h | h
  ·exact List.mem_append_left _ h
  ·exact List.mem_append_right _ (List.mem_append_right _ h))
 rcases List.mem_append.1 hy with hy | hy
 ·exact h y (List.mem_append_left _ hy) b g m ys hAB
 rcases List.mem_append.1 hy with hy | hy
 ·rcases hs with ⟨_,_,_,rfl⟩ | ⟨b',g',_,rfl⟩
  ·cases hy
  ·simp only [List.mem_cons,List.not_mem_nil,or_false] at hy
   subst hy; rfl
 ·exact h y (List.mem_append_right _ hy) b g m ys hAB
theorem zi8 {E sz n:Nat} {xs:List AV} {X:AV} {R:List (Nat × OB)} (hs:SlO E sz n xs X R) {b g m:Nat} {ys:List AV} (hb:∀ y ∈ R,y.1 ≠ b):zcX b g m ys X=X:=by
 rcases hs with ⟨_,_,rfl,_⟩ | ⟨b',g',rfl,rfl⟩
 ·rfl
 ·exact if_neg (fun h => hb (b',.orow E sz g' n xs) (by simp) h.1)
def giv (n:Nat) (xs:List AV) (X:AV):Prop:=(n=0 ∧ xs=[] ∧ X=.nil) ∨ X=.row n xs
theorem zeE {n:Nat} {xs:List AV} {X:AV} (h:giv n xs X) {G:Gh} {I:Imm} {y:Value} (hd:Den G I X y):Den G I (.row n xs) y:=by
 rcases h with ⟨rfl,rfl,rfl⟩ | rfl
 ·exact zhc hd
 ·exact hd
section
variable {P:Program} [Tabs P] {f:FuncId} {args:List AV} {objs:List OB} {K:List OB → AV → Prop}
theorem zfZ (hc:zah P f args objs (fun o r => K o r ∨ ∃ b E sz gen n xs,o[b]? = some (.orow E sz gen n xs) ∧ K (pubO o b gen n xs) (subD b gen n xs r))):zah P f args objs K:=by
 intro C _ G I w hin hm ys hd
 refine (hc C G I w hin hm ys hd).mono ?_
 rintro e w' ⟨y,objs',r,G',I',he,hk,h1,h2,h3,h4,hy⟩
 rcases hk with hk | ⟨b,E,sz,gen,n,xs,hb,hk⟩
 ·exact ⟨y,objs',r,G',I',he,hk,h1,h2,h3,h4,hy⟩
 ·obtain ⟨v',vs,m1,m2,m3,m4,m5⟩:=h4.row b E sz gen n xs hb
  obtain ⟨hin',hm'⟩:=mem_pub (P:=P) hb h3 h4
  exact ⟨y,_,_,_,_,he,hk,h1.trans (zjj m1),fun g o v h => .inl (h2 g o v h),hin',hm',den_subD h4 hb r y hy⟩
end
theorem znJ {E sz n:Nat} {xs:List AV} {X:AV} {R A B:List (Nat × OB)} {o:List OB} (hs:SlO E sz n xs X R) (hO:zav (A ++ (R ++ B)) o) (hA:zaL (A ++ B)) :
  (R=[] ∧ giv n xs X) ∨ ∃ b g,X=.orow b g ∧ o[b]? = some (.orow E sz g n xs) ∧ zav (A ++ B) (pubO o b g n xs) ∧ ∀ y ∈ A ++ B,y.1 ≠ b:=by
 rcases hs with ⟨h1,h2,h3,rfl⟩ | ⟨b,g,rfl,rfl⟩
 ·exact .inl ⟨rfl,.inl ⟨h1,h2,h3⟩⟩
 ·right
  have hP:zav ((b,.orow E sz g n xs) :: (A ++ B)) o:=hO.perm (by simp)
  have hne:∀ y ∈ A ++ B,y.1 ≠ b:=by
   have:=hP.1
   rw [List.map_cons,List.nodup_cons] at this
   exact fun y hy e => this.1 (by show b ∈ _; rw [← e]; exact List.mem_map_of_mem hy)
  exact ⟨b,g,rfl,hP.get (by simp),hP.mapset (zmF b g n xs) (fun z hz => hA z hz b g n xs hne),hne⟩
theorem zno {P:Program} [Tabs P] {f:FuncId} {args:List AV} {objs:List OB} {K:List OB → AV → Prop} {E1 s1 E2 s2:Nat} (v:JV) {z:Nat × OB} {L:List (Nat × OB)} (hC:zaL (z :: L)) (hk:∀ o,zav (z :: L) o → K o (.agg (zao v)))
  (hc:zah P f args objs (fun o r => ∃ X R1 Y R2,SlO E1 s1 v.keys.length (v.keys.map .s) X R1 ∧ SlO E2 s2 v.items.length (zad v.items) Y R2 ∧ zav (z :: (R1 ++ (R2 ++ L))) o ∧ r=.agg [.i .i64 v.kind,.s v.text,X,Y])):zah P f args objs K:=by
 refine jres (.agg (zao v)) ?_
 refine zfZ ?_
 refine zfZ ?_
 refine hc.mono ?_
 rintro o r ⟨X,R1,Y,R2,hX,hY,hO,rfl⟩
 have fin:∀ {X' Y':AV},giv v.keys.length (v.keys.map .s) X' → giv v.items.length (zad v.items) Y' → ∀ G I y,Den G I (.agg [.i .i64 v.kind,.s v.text,X',Y']) y → Den G I (.agg (zao v)) y:=by
  intro X' Y' h1 h2 G I y hy
  rw [zak]
  simp only [zaf,Den] at hy ⊢
  obtain ⟨zs,rfl,⟨z0,m0,rfl,q0,z1,m1,rfl,q1,z2,m2,rfl,q2,z3,m3,rfl,q3,q4⟩,hz⟩:=hy
  exact ⟨_,rfl,⟨_,_,rfl,q0,_,_,rfl,q1,_,_,rfl,zeE h1 q2,_,_,rfl,zeE h2 q3,q4⟩,hz⟩
 have hC2:zaL ([z] ++ (R2 ++ L)):=zl9 (A:=[z]) hY hC
 have step2:∀ (o:List OB) (X':AV),giv v.keys.length (v.keys.map .s) X' → zav ([z] ++ (R2 ++ L)) o →
   (((∀ G I y,Den G I (.agg [.i .i64 v.kind,.s v.text,X',Y]) y → Den G I (.agg (zao v)) y) ∧ K o (.agg (zao v))) ∨ ∃ b E sz gen n xs,o[b]? = some (.orow E sz gen n xs) ∧ (∀ G I y,Den G I (subD b gen n xs (.agg [.i .i64 v.kind,.s v.text,X',Y])) y → Den G I (.agg (zao v)) y) ∧ K (pubO o b gen n xs) (.agg (zao v))):=by
  intro o X' h1 hO
  rcases znJ hY hO hC with ⟨rfl,h2⟩ | ⟨b,g,rfl,hb,hO2,hne⟩
  ·exact .inl ⟨fin h1 h2,hk _ hO⟩
  ·refine .inr ⟨b,_,_,g,_,_,hb,fun G I y hy => ?_,hk _ hO2⟩
   refine fin h1 (.inr rfl) G I y ?_
   have e1:zcX b g v.items.length (zad v.items) (.orow b g)=.row v.items.length (zad v.items):=if_pos ⟨rfl,rfl⟩
   have e2:zcX b g v.items.length (zad v.items) X'=X':=by
    rcases h1 with ⟨_,_,rfl⟩ | rfl <;> rfl
   simp only [subD,List.map_cons,List.map_nil,e1,e2] at hy
   exact hy
 rcases znJ (A:=[z]) hX hO hC2 with ⟨rfl,h1⟩ | ⟨b,g,rfl,hb,hO2,hne⟩
 ·exact .inl (step2 o X h1 hO)
 ·refine .inr ⟨b,_,_,g,_,_,hb,?_⟩
  have h1:giv v.keys.length (v.keys.map .s) (.row v.keys.length (v.keys.map AV.s)):=.inr rfl
  have e1:zcX b g v.keys.length (v.keys.map .s) (.orow b g)=.row v.keys.length (v.keys.map .s):=if_pos ⟨rfl,rfl⟩
  have e2:zcX b g v.keys.length (v.keys.map .s) Y=Y:=zi8 hY fun y hy => hne y (by simp [hy])
  have e3:subD b g v.keys.length (v.keys.map .s) (.agg [.i .i64 v.kind,.s v.text,.orow b g,Y])=.agg [.i .i64 v.kind,.s v.text,.row v.keys.length (v.keys.map .s),Y]:=by
   simp only [subD,List.map_cons,List.map_nil,e1,e2]; rfl
  rw [e3]
  exact step2 _ _ h1 hO2
end
end Go.Proofs.YtadhjoggdbhkgaaGreatDoor
namespace Go.Proofs.YtadhjoggdbhkgaaGreatDoor
open Nat renaming reduceAdd → z6, reduceSub → z7, reduceLeDiff → z8, reduceLT → j4, reduceMul → j5, reduceEqDiff → j6
open Int renaming reduceToNat → j7, reduceAdd → j8, reduceSub → j9, reduceMul → x4, reduceNeg → x5, reduceLT → x6, reduceLE → x7, reduceEq → x8, reduceNe → x9
open Go.RowKit Sx
section
attribute [local irreducible] run
theorem zfI:∀ l:List JV,l.length ≤ JV.sizes l
 | [] => Nat.zero_le _
 | v :: l => by
  rw [JV.sizes,List.length_cons]
  have h1:=zfI l
  have h2:=size_eq v
  omega
section
variable [Tabs Tryz.prog]
theorem zdg (v:JV) (a:Int) (hv:JOk v) (ha:0 ≤ a) (ha2:a ≤ 1099511627776) {objs:List OB} {K:List OB → AV → Prop} (hk:∀ b,(b=true → JKp v ∧ (v.size:Int) ≤ a) → K objs (.b b)):zah Tryz.prog 9 [.agg (zao v),.i .i64 a] objs K:=by
 refine zbk is_keep_Value (by simp only [zat,AV.plain,zba,Bool.and_self]) fun C _ => ?_
 rw [c_keep_Value]
 refine zaa fun Y hY => ?_
 obtain ⟨q0,q1,q2,q3,hq⟩:∃ q0 q1 q2 q3,zao v=[q0,q1,q2,q3]:=⟨_,_,_,_,zak v⟩
 have hs:=fun {objs:List OB} {K:List OB → AV → Prop} (h:∀ n:Int,-1 ≤ n → n ≤ 1099511627776 → (0 ≤ n → JKp v ∧ n + (v.size:Int)=a) → K objs (.i .i64 n)) => zjr (v.size + 1) v a 70 (Nat.lt_succ_self _) hv ha ha2 (by decide) (by decide) (objs:=objs) (K:=K) h
 rw [hq] at hs ⊢
 simp only [sxZ,z6,z7,z8,j4,j5,j6,j7,j8,j9,x4,x5,x6,x7,x8,x9,reduceCtorEq,↓reduceIte]
 subst hY
 refine zaa fun Y hY => ?_
 simp only [sxZ,z6,z7,z8,j4,j5,j6,j7,j8,j9,x4,x5,x6,x7,x8,x9,reduceCtorEq,↓reduceIte]
 refine zam (hs fun n h1 h2 h3 => ?_)
 simp only [sxZ,z6,z7,z8,j4,j5,j6,j7,j8,j9,x4,x5,x6,x7,x8,x9,reduceCtorEq,↓reduceIte]
 subst hY
 simp only [sxZ,z6,z7,z8,j4,j5,j6,j7,j8,j9,x4,x5,x6,x7,x8,x9,reduceCtorEq,↓reduceIte]
 exact hk _ fun h => by
  have h0:=of_decide_eq_true h
  have:=h3 h0
  exact ⟨this.1,by omega⟩
end
end
section
attribute [local irreducible] run
def vB14 (X Y:AV):OB:=.box 25 [.i .i64 7,.s [],X,Y]
section
variable [Tabs Tryz.prog] {objs:List OB} {K:List OB → AV → Prop} {L:List (Nat × OB)}
theorem znq {X Y:AV} {R1 R2:List (Nat × OB)} (ks:List (List UInt8)) (its:List JV) (key:List UInt8) (hl:its.length=ks.length) (hlen0:ks.length ≤ 10000000) (hX:SlO 9 1 ks.length (ks.map .s) X R1) (hY:SlO 25 4 its.length (zad its) Y R2) (hO:zav (R1 ++ (R2 ++ L)) objs)
  (h1:key ∈ ks → ∀ o w,zav (R1 ++ (R2 ++ L)) o → K o (.tup [.agg (zao w),.b true])) (h2:¬ key ∈ ks → ∀ o,zav (R1 ++ (R2 ++ L)) o → K o (.tup [.agg [.i .i64 0,.s [],.nil,.nil],.b false])):zah Tryz.prog 31 [.agg [.i .i64 7,.s [],X,Y],.s key] objs K:=by
 refine zcP is_ref14_Get fun C _ => ?_
 rw [c_ref14_Get]
 have hO2:=(hO.new (vB14 X Y)).new zvB
 unfold vB14 zvB at hO2
 refine zaa fun Z hZ => ?_
 have flatX:X.flat=true:=by rcases hX with ⟨_,_,rfl,_⟩ | ⟨_,_,rfl,_⟩ <;> rfl
 have flatY:Y.flat=true:=by rcases hY with ⟨_,_,rfl,_⟩ | ⟨_,_,rfl,_⟩ <;> rfl
 have flatV:(AV.agg [.i .i64 7,.s [],X,Y]).flat=true:=by
  rcases hX with ⟨_,_,rfl,_⟩ | ⟨_,_,rfl,_⟩ <;> rcases hY with ⟨_,_,rfl,_⟩ | ⟨_,_,rfl,_⟩ <;> rfl
 simp only [sxZ,z6,z7,z8,j4,j5,j6,j7,j8,j9,x4,x5,x6,x7,x8,x9,reduceCtorEq,↓reduceIte,flatV]
 have elen:(objs ++ [OB.box 25 [.i .i64 7,.s [],X,Y]]).length=objs.length + 1:=by simp
 rw [elen] at hO2
 generalize objs.length=qv at hO2 ⊢
 generalize objs ++ [OB.box 25 [.i .i64 7,.s [],X,Y]] ++ [OB.box 25 [.i .i64 0,.s [],.nil,.nil]]=o at hO2 ⊢
 have e0:=hO2.get (i:=qv) (x:=.box 25 [.i .i64 7,.s [],X,Y]) (by simp)
 have e1:=hO2.get (i:=qv + 1) (x:=.box 25 [.i .i64 0,.s [],.nil,.nil]) (by simp)
 have gs:∀ x,(o.set (qv + 1) x)[qv + 1]? = some x:=fun x => List.getElem?_set_self (hO2.lt (i:=qv + 1) (x:=.box 25 [.i .i64 0,.s [],.nil,.nil]) (by simp))
 have fin:∀ x,zav (R1 ++ (R2 ++ L)) (o.set (qv + 1) x):=fun x => (zav.set (A:=[]) x hO2).sub ((List.sublist_cons_self _ _).trans (List.sublist_cons_self _ _))
 subst hZ
 refine zaa fun Z hZ => ?_
 simp only [sxZ,z6,z7,z8,j4,j5,j6,j7,j8,j9,x4,x5,x6,x7,x8,x9,reduceCtorEq,↓reduceIte,e0,decide_true,Bool.not_true]
 subst hZ
 refine zaa fun Z hZ => ?_
 refine zaa fun W hW => ?_
 refine zaw (fun o' tm => o=o' ∧ tm.length=38 ∧ tm[1]? = some (.s key) ∧ tm[2]? = some (.p qv 0) ∧ tm[4]? = some (.p (qv + 1) 0) ∧ tm[13]? = some (.i .i64 (ks.length:Int)) ∧ tm[14]? = some (.i .i64 0)) ?_ ?_
 ·rcases id hX with ⟨z1,z2,rfl,_⟩ | ⟨b1,g1,rfl,rfl⟩
  ·simp only [sxZ,z6,z7,z8,j4,j5,j6,j7,j8,j9,x4,x5,x6,x7,x8,x9,reduceCtorEq,↓reduceIte,zab,e0,z1,Int.cast_ofNat_Int,and_self]
  ·have eb1:=hO2.get (i:=b1) (x:=.orow 9 1 g1 ks.length (ks.map .s)) (by simp)
   simp only [sxZ,z6,z7,z8,j4,j5,j6,j7,j8,j9,x4,x5,x6,x7,x8,x9,reduceCtorEq,↓reduceIte,zab,e0,eb1,and_self]
 rintro _ tm ⟨rfl,hlen,t1,t2,t4,t13,t14⟩
 subst hW
 rw [za3]
 refine zaQ (fun n o' tm => ∃ i:Nat,i ≤ ks.length ∧ n=ks.length - i ∧ o=o' ∧ (∀ j,j < i → ks[j]? ≠ some key) ∧ tm.length=38 ∧ tm[1]? = some (.s key) ∧ tm[2]? = some (.p qv 0) ∧ tm[4]? = some (.p (qv + 1) 0) ∧ tm[13]? = some (.i .i64 (ks.length:Int)) ∧ tm[14]? = some (.i .i64 (i:Int))) ks.length ⟨0,Nat.zero_le _,rfl,rfl,fun j h => by omega,hlen,t1,t2,t4,t13,t14⟩ ?_
 clear hlen t1 t2 t4 t13 t14
 rintro n _ tm ⟨i,hi,rfl,rfl,hall,hlen,t1,t2,t4,t13,t14⟩
 refine zaa fun W hW => ?_
 by_cases hlt:(i:Int) < (ks.length:Int)
 ·have hi':i < ks.length:=by omega
  have hi2:i < its.length:=by omega
  rcases hX with ⟨z1,_⟩ | ⟨b1,g1,rfl,rfl⟩
  ·omega
  rcases hY with ⟨z1,_⟩ | ⟨b2,g2,rfl,rfl⟩
  ·omega
  have eb1:=hO2.get (i:=b1) (x:=.orow 9 1 g1 ks.length (ks.map .s)) (by simp)
  have eb2:=hO2.get (i:=b2) (x:=.orow 25 4 g2 its.length (zad its)) (by simp)
  have kv:(ks.map AV.s)[i * 1]? = some (.s ks[i]):=by rw [Nat.mul_one,List.getElem?_map,List.getElem?_eq_getElem hi']; rfl
  have kv2:ks[i]? = some ks[i]:=List.getElem?_eq_getElem hi'
  have kv3:ks[i] ∈ ks:=List.getElem_mem hi'
  generalize ks[i]=x at kv kv2 kv3
  simp only [sxZ,z6,z7,z8,j4,j5,j6,j7,j8,j9,x4,x5,x6,x7,x8,x9,reduceCtorEq,↓reduceIte,List.getElem?_set,hlen,t1,t2,t4,t13,t14,hlt]
  subst hW
  refine zaa fun W hW => ?_
  simp only [sxZ,z6,z7,z8,j4,j5,j6,j7,j8,j9,x4,x5,x6,x7,x8,x9,reduceCtorEq,↓reduceIte,List.getElem?_set,hlen]
  subst hW
  refine zaa fun V hV => ?_
  rw [za3]
  refine zaa fun W hW => ?_
  simp only [sxZ,z6,z7,z8,j4,j5,j6,j7,j8,j9,x4,x5,x6,x7,x8,x9,reduceCtorEq,↓reduceIte,List.getElem?_set,hlen,t14]
  subst hW
  refine zaa fun W hW => ?_
  by_cases c2:x=key
  ·have hlt2:(i:Int) < (its.length:Int):=by omega
   have jv:=zfJ hi2
   have jvl:=zaK its
   have hw:=fun o ho => h1 (by rw [← c2]; exact kv3) o its[i] ho
   have hq:=zak its[i]
   rw [hq] at jv
   simp only [sxZ,z6,z7,z8,j4,j5,j6,j7,j8,j9,x4,x5,x6,x7,x8,x9,reduceCtorEq,↓reduceIte,List.getElem?_set,hlen,t1,t2,e0,eb1,eb2,kv,List.length_map,c2,hlt2,decide_true]
   refine ⟨⟨by omega,by omega⟩,?_⟩
   subst hW
   simp only [sxZ,z6,z7,z8,j4,j5,j6,j7,j8,j9,x4,x5,x6,x7,x8,x9,reduceCtorEq,↓reduceIte,List.getElem?_set,hlen,t1,t2,t4,e0,e1,eb2,jv,gs]
   refine ⟨⟨by omega,by omega⟩,by omega,?_⟩
   rw [← hq]
   exact hw _ (fin _)
  ·simp only [sxZ,z6,z7,z8,j4,j5,j6,j7,j8,j9,x4,x5,x6,x7,x8,x9,reduceCtorEq,↓reduceIte,List.getElem?_set,hlen,t1,t2,e0,eb1,kv,List.length_map,c2,decide_false]
   refine ⟨⟨by omega,by omega⟩,?_⟩
   subst hW
   simp only [sxZ,z6,z7,z8,j4,j5,j6,j7,j8,j9,x4,x5,x6,x7,x8,x9,reduceCtorEq,↓reduceIte,List.getElem?_set,hlen,t1,t2,t4]
   subst hV
   simp only [sxZ,z6,z7,z8,j4,j5,j6,j7,j8,j9,x4,x5,x6,x7,x8,x9,reduceCtorEq,↓reduceIte,List.getElem?_set,hlen,t1,t2,t4,t13,t14]
   refine ⟨by omega,ks.length - (i + 1),by omega,i + 1,by omega,rfl,fun j hj => ?_,rfl⟩
   by_cases e:j=i
   ·subst e
    rw [kv2]; intro h; injection h with h; exact c2 h
   ·exact hall j (by omega)
 simp only [sxZ,z6,z7,z8,j4,j5,j6,j7,j8,j9,x4,x5,x6,x7,x8,x9,reduceCtorEq,↓reduceIte,List.getElem?_set,hlen,t1,t2,t4,t13,t14,hlt]
 subst hW
 subst hZ
 simp only [sxZ,z6,z7,z8,j4,j5,j6,j7,j8,j9,x4,x5,x6,x7,x8,x9,reduceCtorEq,↓reduceIte,List.getElem?_set,hlen,t1,t2,t4,t13,t14,hlt,e1,gs]
 refine h2 (fun h => ?_) _ (fin _)
 obtain ⟨j,hj⟩:=List.mem_iff_getElem?.1 h
 exact hall j (by have:=(List.getElem?_eq_some_iff.1 hj).1; omega) hj
end
end
section
attribute [local irreducible] run
theorem zjG {i:Nat} {T T':Nat} {cs cs':List AV} {L:List (Nat × OB)} (h:zaL ((i,.box T cs) :: L)) (hp:zat cs'=true):zaL ((i,.box T' cs') :: L):=by
 intro y hy b g n xs hb
 rcases List.mem_cons.1 hy with rfl | hy
 ·show OB.box T' _=_; rw [zeo hp]
 ·exact h y (List.mem_cons_of_mem _ hy) b g n xs fun y hy => by
   rcases List.mem_cons.1 hy with rfl | hy
   ·exact hb (i,.box T' cs') (by simp)
   ·exact hb y (List.mem_cons_of_mem _ hy)
theorem zfW {p:Nat} {s:List UInt8} {ρ ρ':Rs} {L:List (Nat × OB)} (h:zaL ((p,zaJ s ρ) :: L)):zaL ((p,zaJ s ρ') :: L):=zjG h rfl
theorem zgC {E1 s1 n1 E2 s2 n2:Nat} {x1 x2:List AV} {X Y:AV} {R1 R2 L:List (Nat × OB)} {p qt qv qr:Nat} {s:List UInt8} {ρ ρ':Rs} {T:Tk} {k:Int} (h1:SlO E1 s1 n1 x1 X R1) (h2:SlO E2 s2 n2 x2 Y R2) (h:zaL ((p,zaJ s ρ) :: L)):zaL ((p,zaJ s ρ') :: (qt,zaU T) :: (qv,jvB k X Y) :: (qr,zvB) :: (R1 ++ (R2 ++ L))):=by
 intro y hy b g m ys hb
 simp only [List.mem_cons,List.mem_append] at hy
 rcases hy with rfl | rfl | rfl | rfl | hy | hy | hy
 ·exact congrArg (OB.box _) (zeo rfl)
 ·exact congrArg (OB.box _) (zeo rfl)
 ·have q1:=zi8 h1 (b:=b) (g:=g) (m:=m) (ys:=ys) fun y hy => hb y (by simp [hy])
  have q2:=zi8 h2 (b:=b) (g:=g) (m:=m) (ys:=ys) fun y hy => hb y (by simp [hy])
  show OB.box _ _=_
  simp only [List.map_cons,List.map_nil,q1,q2]
  rfl
 ·exact congrArg (OB.box _) (zeo rfl)
 ·rcases h1 with ⟨_,_,_,rfl⟩ | ⟨b',g',_,rfl⟩
  ·cases hy
  ·simp only [List.mem_cons,List.not_mem_nil,or_false] at hy
   subst hy; rfl
 ·rcases h2 with ⟨_,_,_,rfl⟩ | ⟨b',g',_,rfl⟩
  ·cases hy
  ·simp only [List.mem_cons,List.not_mem_nil,or_false] at hy
   subst hy; rfl
 ·refine h y (List.mem_cons_of_mem _ hy) b g m ys fun z hz => ?_
  rcases List.mem_cons.1 hz with rfl | hz
  ·exact hb (p,zaJ s ρ') (by simp)
  ·exact hb z (by simp [hz])
section
variable [Tabs Tryz.prog] [Utf Tryz.prog] {objs:List OB} {K:List OB → AV → Prop} {L:List (Nat × OB)} {p:Nat} {s:List UInt8} {ρ:Rs}
def ValK (s:List UInt8) (p:Nat) (d:Nat) (val:Rs → Tk → JV × Rs):Prop :=
 ∀ {objs:List OB} {K:List OB → AV → Prop} {L:List (Nat × OB)} {ρ:Rs} (t:Tk),GB s ρ → GT ρ t → t.2.1.length ≤ s.length → zaL ((p,zaJ s ρ) :: L) → zav ((p,zaJ s ρ) :: L) objs → (∀ o,zav ((p,zaJ s (val ρ t).2) :: L) o → K o (.agg (zao (val ρ t).1))) → zah Tryz.prog 28 [.p p 0,zhP t,.i .i64 (d:Int)] objs K
omit [Tabs Tryz.prog] [Utf Tryz.prog] in
theorem zbE (h:GB s ρ):(zac s ρ).1.2.1.length ≤ s.length:=by
 unfold zac
 split
 ·exact Nat.zero_le _
 split
 ·exact Nat.zero_le _
 ·rename_i h1 h2
  have:=zkB (s:=s) h.p0 (by simpa using h2)
  exact this.2.1
theorem array_k {val:Rs → Tk → JV × Rs} {d:Nat} (hv:ValK s p d val) (hg:GV s val) (hn:∀ ρ t,(val ρ t).2.fail=0 → ρ.nodes + 1 ≤ (val ρ t).2.nodes) (hs:s.length ≤ 1048576) (hB:GB s ρ) (hC:zaL ((p,zaJ s ρ) :: L)) (hO:zav ((p,zaJ s ρ) :: L) objs)
  (hk:∀ o,zav ((p,zaJ s (zdW s val ρ).2) :: L) o → K o (.agg (zao (zdW s val ρ).1))):zah Tryz.prog 50 [.p p 0,.i .i64 (d:Int)] objs K:=by
 refine zno (E1:=9) (s1:=1) (E2:=25) (s2:=4) (zdW s val ρ).1 (zfW hC) hk ?_
 refine zcP is_ref14_parser_array fun C _ => ?_
 have fin:∀ {o:List OB} {ρ':Rs} {acc:List JV} {X:AV} {R:List (Nat × OB)} {qt qv qr:Nat} {T V W:OB},zdW s val ρ=(.mk 6 [] [] acc,ρ') → SlO 25 4 acc.length (zad acc) X R → zav ((p,zaJ s ρ') :: (qt,T) :: (qv,V) :: (qr,W) :: (R ++ L)) o →
   ∃ X' R1 Y R2,SlO 9 1 (zdW s val ρ).1.keys.length ((zdW s val ρ).1.keys.map .s) X' R1 ∧ SlO 25 4 (zdW s val ρ).1.items.length (zad (zdW s val ρ).1.items) Y R2 ∧ zav ((p,zaJ s (zdW s val ρ).2) :: (R1 ++ (R2 ++ L))) (o.set qr (jvB 6 .nil X)) ∧ AV.agg [.i .i64 6,.s [],.nil,X]=.agg [.i .i64 (zdW s val ρ).1.kind,.s (zdW s val ρ).1.text,X',Y]:=by
  intro o ρ' acc X R qt qv qr T V W he hS hO
  rw [he]
  refine ⟨.nil,[],X,R,.inl ⟨rfl,rfl,rfl,rfl⟩,hS,?_,rfl⟩
  exact (zav.set (A:=[(p,zaJ s ρ'),(qt,T),(qv,V)]) (jvB 6 .nil X) hO).sub ((((List.sublist_cons_self _ _).trans (List.sublist_cons_self _ _)).trans (List.sublist_cons_self _ _)).cons_cons _)
 rw [c_ref14_parser_array]
 refine zaa fun Y hY => ?_
 simp only [sxZ,z6,z7,z8,j4,j5,j6,j7,j8,j9,x4,x5,x6,x7,x8,x9,reduceCtorEq,↓reduceIte]
 have hO1:=hO.new zvB
 unfold zvB at hO1
 generalize hqr:objs.length=qr at hO1 ⊢
 generalize objs ++ [OB.box 25 [.i .i64 0,.s [],.nil,.nil]]=o1 at hO1 ⊢
 subst hY
 refine zaa fun Y hY => ?_
 simp only [sxZ,z6,z7,z8,j4,j5,j6,j7,j8,j9,x4,x5,x6,x7,x8,x9,reduceCtorEq,↓reduceIte,gn1,sn1]
 have hO2:=hO1.new (jvB 6 .nil .nil)
 unfold jvB at hO2
 generalize hqv:o1.length=qv at hO2 ⊢
 generalize o1 ++ [OB.box 25 [.i .i64 6,.s [],.nil,.nil]]=o2 at hO2 ⊢
 subst hY
 refine zaa fun Y hY => ?_
 simp only [sxZ,z6,z7,z8,j4,j5,j6,j7,j8,j9,x4,x5,x6,x7,x8,x9,reduceCtorEq,↓reduceIte]
 have hO2':zav ((p,zaJ s ρ) :: (qv,jvB 6 .nil .nil) :: (qr,zvB) :: L) o2:=hO2.perm ((List.Perm.cons _ (List.Perm.swap _ _ _)).trans (List.Perm.swap _ _ _))
 refine zam (zcy (by omega) hO2' fun o3 hO3 => ?_)
 have hB1:=zbh hB
 have hT1:=zbE hB
 have hrarr:zdW s val ρ=if isP (zac s ρ).1 93=true then (.mk 6 [] [] [],(zac s ρ).2) else (.mk 6 [] [] (za0 s val (s.length + 2) (zac s ρ).2 (zac s ρ).1 []).1,(za0 s val (s.length + 2) (zac s ρ).2 (zac s ρ).1 []).2):=rfl
 have hn0:=za9 s ρ
 generalize zac s ρ=N at hO3 hB1 hT1 hrarr hn0 ⊢
 obtain ⟨T,ρ1⟩:=N
 simp only at hO3 hB1 hT1 hrarr hn0 ⊢
 unfold zhP tkC
 simp only [sxZ,z6,z7,z8,j4,j5,j6,j7,j8,j9,x4,x5,x6,x7,x8,x9,reduceCtorEq,↓reduceIte,gn1,sn1]
 have f1:∀ x y z,OB.box 54 [.i .i64 x,.s y,.i .i64 z]=zaU (x,y,z):=fun _ _ _ => rfl
 rw [f1]
 have hO4:=hO3.new (zaU T)
 have hO4:zav ((p,zaJ s ρ1) :: (o3.length,zaU T) :: (qv,jvB 6 .nil .nil) :: (qr,zvB) :: ([] ++ L)) (o3 ++ [zaU T]):=hO4.perm (List.Perm.swap _ _ _)
 generalize o3.length=qt at hO4 ⊢
 generalize o3 ++ [zaU (T.1,T.2.1,T.2.2)]=o4 at hO4 ⊢
 have st:∀ (o:List OB) (ρ':Rs) (T':Tk) (X:AV) (R:List (Nat × OB)),zav ((p,zaJ s ρ') :: (qt,zaU T') :: (qv,jvB 6 .nil X) :: (qr,zvB) :: (R ++ L)) o → o[p]? = some (.box 51 [.s s,.i .i64 ρ'.pos,.i .i64 (ρ'.nodes:Int),.i .i64 ρ'.fail,.i .i64 ρ'.wh]) ∧ o[qt]? = some (.box 54 [.i .i64 T'.1,.s T'.2.1,.i .i64 T'.2.2]) ∧ o[qv]? = some (.box 25 [.i .i64 6,.s [],.nil,X]) ∧ o[qr]? = some (.box 25 [.i .i64 0,.s [],.nil,.nil]) ∧ (∀ x,(o.set qr x)[qr]? = some x) ∧ (∀ x,(o.set qt x)[qt]? = some x) ∧ (∀ x,(o.set qv x)[qv]? = some x) :=
  fun o ρ' T' X R h => ⟨h.get (by simp [zaJ]),h.get (by simp [zaU,tkC]),h.get (by simp [jvB]),h.get (by simp [zvB]),fun x => List.getElem?_set_self (h.lt (i:=qr) (x:=zvB) (by simp)),fun x => List.getElem?_set_self (h.lt (i:=qt) (x:=zaU T') (by simp)),fun x => List.getElem?_set_self (h.lt (i:=qv) (x:=jvB 6 .nil X) (by simp))⟩
 subst hY
 refine zaa fun Y hY => ?_
 obtain ⟨e1,e2,e3,e4,s1,s2,s3⟩:=st _ _ _ _ _ hO4
 simp only [sxZ,z6,z7,z8,j4,j5,j6,j7,j8,j9,x4,x5,x6,x7,x8,x9,reduceCtorEq,↓reduceIte,e2]
 refine zam (zft T 93 ?_)
 cases hcl:isP T 93 with
 | true =>
  rw [hcl,if_pos rfl] at hrarr
  simp only [sxZ,z6,z7,z8,j4,j5,j6,j7,j8,j9,x4,x5,x6,x7,x8,x9,reduceCtorEq,↓reduceIte,e3,e4,s1]
  exact fin hrarr (.inl ⟨rfl,by rw [zaz],rfl,rfl⟩) hO4
 | false =>
  rw [hcl,if_neg Bool.false_ne_true] at hrarr
  simp only [sxZ,z6,z7,z8,j4,j5,j6,j7,j8,j9,x4,x5,x6,x7,x8,x9,reduceCtorEq,↓reduceIte]
  subst hY
  refine zaa fun Y hY => ?_
  clear e1 e2 e3 e4 s1 s2 s3
  have last:∀ (o:List OB) (ρ':Rs) (T':Tk) (acc:List JV) (X:AV) (R:List (Nat × OB)) (tm:List AV),zdW s val ρ=(.mk 6 [] [] acc,ρ') → SlO 25 4 acc.length (zad acc) X R → zav ((p,zaJ s ρ') :: (qt,zaU T') :: (qv,jvB 6 .nil X) :: (qr,zvB) :: (R ++ L)) o → True:=fun _ _ _ _ _ _ _ _ _ _ => trivial
  simp only [sxZ,z6,z7,z8,j4,j5,j6,j7,j8,j9,x4,x5,x6,x7,x8,x9,reduceCtorEq,↓reduceIte]
  refine zaQ (fun n o tm => ∃ (i:Nat) (ρ':Rs) (T':Tk) (acc:List JV) (X:AV) (R:List (Nat × OB)),n=s.length + 2 - i ∧ acc.length=i ∧ zdW s val ρ=(.mk 6 [] [] (za0 s val n ρ' T' acc).1,(za0 s val n ρ' T' acc).2) ∧ GB s ρ' ∧ GT ρ' T' ∧ T'.2.1.length ≤ s.length ∧ (ρ'.fail=0 → i ≤ ρ'.nodes) ∧ SlO 25 4 acc.length (zad acc) X R ∧ zav ((p,zaJ s ρ') :: (qt,zaU T') :: (qv,jvB 6 .nil X) :: (qr,zvB) :: (R ++ L)) o ∧
    tm.length=49 ∧ tm[0]? = some (.p p 0) ∧ tm[1]? = some (.i .i64 (d:Int)) ∧ tm[4]? = some (.p qr 0) ∧ tm[5]? = some (.p qv 0) ∧ tm[6]? = some (.p qt 0)) (s.length + 2) ⟨0,ρ1,T,[],.nil,[],rfl,rfl,hrarr,hB1.1,hB1.2,hT1,fun _ => Nat.zero_le _,.inl ⟨rfl,by rw [zaz],rfl,rfl⟩,hO4,rfl,rfl,rfl,rfl,rfl,rfl⟩ ?_
  clear hO hO1 hO2 hO2' hO3 hO4 hrarr hB1 hT1 hcl hn0
  rintro n o tm ⟨i,ρ',T',acc,X,R,rfl,hi,hrarr,hGB,hGT,hTx,hnd,hS,hO,hlen,t0,t1,t4,t5,t6⟩
  obtain ⟨e1,e2,e3,e4,s1,s2,s3⟩:=st _ _ _ _ _ hO
  refine zaa fun Z hZ => ?_
  by_cases c1:ρ'.fail=0
  rotate_left
  ·have he:za0 s val (s.length + 2 - i) ρ' T' acc=(acc,ρ'):=by
    cases s.length + 2 - i with
    | zero => rw [za0]
    | succ m => rw [za0,if_pos c1]
   rw [he] at hrarr
   simp only [sxZ,z6,z7,z8,j4,j5,j6,j7,j8,j9,x4,x5,x6,x7,x8,x9,reduceCtorEq,↓reduceIte,List.getElem?_set,hlen,t0,e1,c1]
   subst hZ
   subst hY
   simp only [sxZ,z6,z7,z8,j4,j5,j6,j7,j8,j9,x4,x5,x6,x7,x8,x9,reduceCtorEq,↓reduceIte,List.getElem?_set,hlen,t4,t5,e3,e4,s1]
   exact fin hrarr hS hO
  have hil:i ≤ s.length:=by
   have h1:=hnd c1
   have h2:=hGB.n0 c1
   have h3:=hGB.p1
   omega
  obtain ⟨m,hm⟩:∃ m,s.length + 2 - i=m + 1:=⟨s.length + 1 - i,by omega⟩
  rw [hm,za0,if_neg (fun h => h c1)] at hrarr
  simp only at hrarr
  simp only [sxZ,z6,z7,z8,j4,j5,j6,j7,j8,j9,x4,x5,x6,x7,x8,x9,reduceCtorEq,↓reduceIte,List.getElem?_set,hlen,t0,e1,c1]
  subst hZ
  rw [za3]
  refine zaa fun Z hZ => ?_
  have hvc:=fun {objs:List OB} {K:List OB → AV → Prop} {L:List (Nat × OB)} (h1) (h2) (h3) => hv (objs:=objs) (K:=K) (L:=L) (ρ:=ρ') T' hGB hGT hTx h1 h2 h3
  have hg1:=hg ρ' T' hGB hGT
  have hn1:=hn ρ' T'
  generalize val ρ' T'=a at hvc hg1 hn1 hrarr
  obtain ⟨v,ρ2⟩:=a
  simp only at hvc hg1 hn1 hrarr
  obtain ⟨c0,c1',c2,c3,hcv⟩:∃ c0 c1 c2 c3,zao v=[c0,c1,c2,c3]:=⟨_,_,_,_,zak v⟩
  have hCL:zaL ((p,zaJ s ρ') :: (qt,zaU T') :: (qv,jvB 6 .nil X) :: (qr,zvB) :: (R ++ L)):=zgC (E1:=0) (s1:=0) (R1:=[]) (.inl ⟨rfl,rfl,rfl,rfl⟩) hS hC
  refine zaw (fun o tm => ∃ X' R',SlO 25 4 (acc ++ [v]).length (zad (acc ++ [v])) X' R' ∧ zav ((p,zaJ s ρ2) :: (qt,zaU T') :: (qv,jvB 6 .nil X') :: (qr,zvB) :: (R' ++ L)) o ∧ tm.length=49 ∧ tm[0]? = some (.p p 0) ∧ tm[1]? = some (.i .i64 (d:Int)) ∧ tm[4]? = some (.p qr 0) ∧ tm[5]? = some (.p qv 0) ∧ tm[6]? = some (.p qt 0)) ?_ ?_
  ·simp only [sxZ,z6,z7,z8,j4,j5,j6,j7,j8,j9,x4,x5,x6,x7,x8,x9,reduceCtorEq,↓reduceIte,List.getElem?_set,hlen,t0,t1,t5,t6,e2,e3]
   refine zam (hvc hCL hO fun o2 hO2 => ?_)
   obtain ⟨e1',e2',e3',e4',s1',s2',s3'⟩:=st _ _ _ _ _ hO2
   rw [hcv]
   rcases hS with ⟨z1,z2,rfl,rfl⟩ | ⟨b,g,rfl,rfl⟩
   ·have a0:acc=[]:=List.eq_nil_of_length_eq_zero z1
    have hlt:=hO2.lt (i:=qv) (x:=jvB 6 .nil .nil) (by simp)
    have hne:¬ o2.length=qv:=by omega
    have gx:∀ x,(o2 ++ [x])[qv]? = some (.box 25 [.i .i64 6,.s [],.nil,.nil]):=fun x => by rw [List.getElem?_append_left hlt]; exact e3'
    simp only [sxZ,z6,z7,z8,j4,j5,j6,j7,j8,j9,x4,x5,x6,x7,x8,x9,reduceCtorEq,↓reduceIte,List.getElem?_set,hlen,t0,t1,t5,t6,e2',e3',gn1,sn1,gx,hne,zab,List.length_set,t4,and_self,and_true]
    have hN:=hO2.new (.orow 25 4 0 1 [c0,c1',c2,c3])
    have hR:=hN.set (A:=[(o2.length,OB.orow 25 4 0 1 [c0,c1',c2,c3]),(p,zaJ s ρ2),(qt,zaU T')]) (jvB 6 .nil (.orow o2.length 0))
    refine ⟨_,[(o2.length,.orow 25 4 0 1 [c0,c1',c2,c3])],.inr ⟨_,_,rfl,by rw [a0,List.nil_append,zaI,zaz,hcv]; rfl⟩,hR.perm ?_⟩
    exact List.perm_middle (l₁:=[(p,zaJ s ρ2),(qt,zaU T'),(qv,jvB 6 .nil (.orow o2.length 0)),(qr,zvB)]).symm
   ·have e5:=hO2.get (i:=b) (x:=.orow 25 4 g acc.length (zad acc)) (by simp)
    have hlt:=hO2.lt (i:=qv) (x:=jvB 6 .nil (.orow b g)) (by simp)
    have hlt4:=hO2.lt (i:=b) (x:=.orow 25 4 g acc.length (zad acc)) (by simp)
    have hne:¬ b=qv:=by
     intro h
     have:=hO2.1
     simp only [List.map_cons,List.map_append,List.nodup_cons] at this
     exact this.2.2.1 (by simp [h])
    have gs:∀ x,(o2.set b x)[b]? = some x:=fun x => List.getElem?_set_self hlt4
    have gx:∀ x,(o2.set b x)[qv]? = some (.box 25 [.i .i64 6,.s [],.nil,.orow b g]):=fun x => by rw [List.getElem?_set_ne hne]; exact e3'
    have hjl:=zaK acc
    simp only [sxZ,z6,z7,z8,j4,j5,j6,j7,j8,j9,x4,x5,x6,x7,x8,x9,reduceCtorEq,↓reduceIte,List.getElem?_set,hlen,t0,t1,t5,t6,e2',e3',e5,gs,gx,hne,zab,List.length_set,t4,and_self,and_true]
    refine ⟨⟨by omega,by omega⟩,?_⟩
    have hN:=hO2.set (A:=[(p,zaJ s ρ2),(qt,zaU T'),(qv,jvB 6 .nil (.orow b g)),(qr,zvB)]) (.orow 25 4 (g + 1) (acc.length + 1) (zad acc ++ [c0,c1',c2,c3]))
    have hR:=hN.set (A:=[(p,zaJ s ρ2),(qt,zaU T')]) (jvB 6 .nil (.orow b (g + 1)))
    exact ⟨_,[(b,.orow 25 4 (g + 1) (acc.length + 1) (zad acc ++ [c0,c1',c2,c3]))],.inr ⟨_,_,rfl,by rw [zdO,zaI,zaz,hcv]; rfl⟩,hR⟩
  ·clear hO hS hlen t0 t1 t4 t5 t6 e1 e2 e3 e4 s1 s2 s3 hCL hvc hv hg hn
   rintro o5 tm ⟨X',R',hS,hO5,hlen,t0,t1,t4,t5,t6⟩
   subst hZ
   refine zaa fun Z hZ => ?_
   simp only [sxZ,z6,z7,z8,j4,j5,j6,j7,j8,j9,x4,x5,x6,x7,x8,x9,reduceCtorEq,↓reduceIte,List.getElem?_set,hlen,t0]
   refine zam (zcy (by omega) hO5 fun o6 hO6 => ?_)
   have hB2:=zbh hg1
   have hT2:=zbE hg1
   have hn2:=za9 s ρ2
   have hfz:=zal s ρ2
   generalize zac s ρ2=N at hO6 hB2 hT2 hn2 hfz hrarr ⊢
   obtain ⟨T2,ρ3⟩:=N
   simp only at hO6 hB2 hT2 hn2 hfz hrarr ⊢
   obtain ⟨e1,e2,e3,e4,s1,s2,s3⟩:=st _ _ _ _ _ hO6
   unfold zhP tkC
   simp only [sxZ,z6,z7,z8,j4,j5,j6,j7,j8,j9,x4,x5,x6,x7,x8,x9,reduceCtorEq,↓reduceIte,List.getElem?_set,hlen,t6,e2,s2]
   rw [f1]
   have hO7:=zav.set (A:=[(p,zaJ s ρ3)]) (zaU T2) hO6
   have hO7:zav ((p,zaJ s ρ3) :: (qt,zaU T2) :: (qv,jvB 6 .nil X') :: (qr,zvB) :: (R' ++ L)) (o6.set qt (zaU (T2.1,T2.2.1,T2.2.2))):=hO7
   generalize o6.set qt (zaU (T2.1,T2.2.1,T2.2.2))=o7 at hO7 ⊢
   refine zbR (fun t => t.length=49 ∧ t[0]? = some (.p p 0) ∧ t[1]? = some (.i .i64 (d:Int)) ∧ t[4]? = some (.p qr 0) ∧ t[5]? = some (.p qv 0) ∧ t[6]? = some (.p qt 0)) ?_ ?_
   ·simp only [sxZ,z6,z7,z8,j4,j5,j6,j7,j8,j9,x4,x5,x6,x7,x8,x9,reduceCtorEq,↓reduceIte,List.length_set,List.getElem?_set,hlen,t0,t1,t4,t5,t6,and_self]
   clear hO6 hO5 hlen t0 t1 t4 t5 t6 e1 e2 e3 e4 s1 s2 s3
   rintro tm ⟨hlen,t0,t1,t4,t5,t6⟩
   obtain ⟨e1,e2,e3,e4,s1,s2,s3⟩:=st _ _ _ _ _ hO7
   subst hZ
   refine zaa fun Z hZ => ?_
   simp only [sxZ,z6,z7,z8,j4,j5,j6,j7,j8,j9,x4,x5,x6,x7,x8,x9,reduceCtorEq,↓reduceIte,List.getElem?_set,hlen,t6,e2]
   refine zam (zft T2 93 ?_)
   cases hcl:isP T2 93 with
   | true =>
    rw [hcl,if_pos rfl] at hrarr
    simp only [sxZ,z6,z7,z8,j4,j5,j6,j7,j8,j9,x4,x5,x6,x7,x8,x9,reduceCtorEq,↓reduceIte,List.getElem?_set,hlen,t4,t5,e3,e4,s1]
    exact fin hrarr hS hO7
   | false =>
    rw [hcl,if_neg Bool.false_ne_true] at hrarr
    simp only [sxZ,z6,z7,z8,j4,j5,j6,j7,j8,j9,x4,x5,x6,x7,x8,x9,reduceCtorEq,↓reduceIte,List.getElem?_set,hlen]
    subst hZ
    refine zaa fun Z hZ => ?_
    refine zaw (fun o tm => zav ((p,zaJ s (zaC ρ3 T2 44)) :: (qt,zaU T2) :: (qv,jvB 6 .nil X') :: (qr,zvB) :: (R' ++ L)) o ∧ tm.length=49 ∧ tm[0]? = some (.p p 0) ∧ tm[1]? = some (.i .i64 (d:Int)) ∧ tm[4]? = some (.p qr 0) ∧ tm[5]? = some (.p qv 0) ∧ tm[6]? = some (.p qt 0)) ?_ ?_
    ·refine zaa fun W hW => ?_
     by_cases c3:ρ3.fail=0
     rotate_left
     ·have hw:zaC ρ3 T2 44=ρ3:=by unfold zaC; rw [if_neg (fun h => c3 h.1)]
      simp only [sxZ,z6,z7,z8,j4,j5,j6,j7,j8,j9,x4,x5,x6,x7,x8,x9,reduceCtorEq,↓reduceIte,List.getElem?_set,hlen,t0,e1,c3]
      subst hW
      simp only [sxZ,z6,z7,z8,j4,j5,j6,j7,j8,j9,x4,x5,x6,x7,x8,x9,reduceCtorEq,↓reduceIte,zab,List.length_set,List.getElem?_set,hlen,t0,t1,t4,t5,t6,hw,and_self,and_true]
      exact hO7
     ·simp only [sxZ,z6,z7,z8,j4,j5,j6,j7,j8,j9,x4,x5,x6,x7,x8,x9,reduceCtorEq,↓reduceIte,List.getElem?_set,hlen,t0,t6,e1,e2,c3]
      refine zam (zft T2 44 ?_)
      cases h44:isP T2 44 with
      | true =>
       have hw:zaC ρ3 T2 44=ρ3:=by unfold zaC; rw [if_neg (fun h => by rw [h44] at h; cases h.2)]
       simp only [sxZ,z6,z7,z8,j4,j5,j6,j7,j8,j9,x4,x5,x6,x7,x8,x9,reduceCtorEq,↓reduceIte,List.getElem?_set,hlen]
       subst hW
       simp only [sxZ,z6,z7,z8,j4,j5,j6,j7,j8,j9,x4,x5,x6,x7,x8,x9,reduceCtorEq,↓reduceIte,zab,List.length_set,List.getElem?_set,hlen,t0,t1,t4,t5,t6,hw,and_self,and_true]
       exact hO7
      | false =>
       have hw:zaC ρ3 T2 44=zax ρ3 T2.2.2 140:=by unfold zaC; rw [if_pos ⟨c3,h44⟩]
       simp only [sxZ,z6,z7,z8,j4,j5,j6,j7,j8,j9,x4,x5,x6,x7,x8,x9,reduceCtorEq,↓reduceIte,List.getElem?_set,hlen]
       subst hW
       simp only [sxZ,z6,z7,z8,j4,j5,j6,j7,j8,j9,x4,x5,x6,x7,x8,x9,reduceCtorEq,↓reduceIte,List.getElem?_set,hlen,t0,t6,e2]
       refine zam (zce hO7 T2.2.2 140 fun o8 hO8 => ?_)
       simp only [sxZ,z6,z7,z8,j4,j5,j6,j7,j8,j9,x4,x5,x6,x7,x8,x9,reduceCtorEq,↓reduceIte,zab,List.length_set,List.getElem?_set,hlen,t0,t1,t4,t5,t6,hw,and_self,and_true]
       exact hO8
    ·clear hO7 hlen t0 t1 t4 t5 t6 e1 e2 e3 e4 s1 s2 s3
     rintro o8 tm ⟨hO8,hlen,t0,t1,t4,t5,t6⟩
     subst hZ
     have hB3:=zeC hB2.1 T2 44
     have hn3:=zes ρ3 T2 44
     have hfz3:=za2 ρ3 T2 44
     generalize zaC ρ3 T2 44=ρ4 at hO8 hB3 hn3 hfz3 hrarr
     simp only [sxZ,z6,z7,z8,j4,j5,j6,j7,j8,j9,x4,x5,x6,x7,x8,x9,reduceCtorEq,↓reduceIte,List.getElem?_set,hlen,t0]
     refine zam (zcy (by omega) hO8 fun o9 hO9 => ?_)
     have hB4:=zbh hB3
     have hT4:=zbE hB3
     have hn4:=za9 s ρ4
     have hfz4:=zal s ρ4
     generalize zac s ρ4=N at hO9 hB4 hT4 hn4 hfz4 hrarr ⊢
     obtain ⟨T5,ρ5⟩:=N
     simp only at hO9 hB4 hT4 hn4 hfz4 hrarr ⊢
     obtain ⟨e1,e2,e3,e4,s1,s2,s3⟩:=st _ _ _ _ _ hO9
     unfold zhP tkC
     simp only [sxZ,z6,z7,z8,j4,j5,j6,j7,j8,j9,x4,x5,x6,x7,x8,x9,reduceCtorEq,↓reduceIte,List.getElem?_set,hlen,t6,e2,s2]
     rw [f1]
     have hO10:zav ((p,zaJ s ρ5) :: (qt,zaU T5) :: (qv,jvB 6 .nil X') :: (qr,zvB) :: (R' ++ L)) (o9.set qt (zaU (T5.1,T5.2.1,T5.2.2))):=zav.set (A:=[(p,zaJ s ρ5)]) (zaU T5) hO9
     generalize o9.set qt (zaU (T5.1,T5.2.1,T5.2.2))=o10 at hO10 ⊢
     refine ⟨m,by omega,i + 1,ρ5,T5,acc ++ [v],X',R',by omega,by rw [List.length_append,hi]; rfl,hrarr,hB4.1,hB4.2,hT4,fun hf => ?_,hS,hO10,?_⟩
     ·have q4:ρ4.fail=0:=by
       by_cases c:ρ4.fail=0
       ·exact c
       ·exact absurd ((hfz4 c).1.symm.trans hf) c
      have q3:ρ3.fail=0:=by
       by_cases c:ρ3.fail=0
       ·exact c
       ·exact absurd ((hfz3 c).1.symm.trans q4) c
      have q2:ρ2.fail=0:=by
       by_cases c:ρ2.fail=0
       ·exact c
       ·exact absurd ((hfz c).1.symm.trans q3) c
      have:=hn1 q2
      have:=hnd c1
      omega
     ·simp only [sxZ,z6,z7,z8,j4,j5,j6,j7,j8,j9,x4,x5,x6,x7,x8,x9,reduceCtorEq,↓reduceIte,List.length_set,List.getElem?_set,hlen,t0,t1,t4,t5,t6,and_self]
end
end
section
attribute [local irreducible] run
def SlP (ks:List (List UInt8)) (its:List JV) (X:AV) (R1:List (Nat × OB)) (Y:AV) (R2:List (Nat × OB)):Prop :=
 (ks=[] ∧ its=[] ∧ X=.nil ∧ R1=[] ∧ Y=.nil ∧ R2=[]) ∨ ∃ b1 g1 b2 g2,X=.orow b1 g1 ∧ R1=[(b1,.orow 9 1 g1 ks.length (ks.map .s))] ∧ Y=.orow b2 g2 ∧ R2=[(b2,.orow 25 4 g2 its.length (zad its))]
theorem SlP.k {ks:List (List UInt8)} {its:List JV} {X Y:AV} {R1 R2:List (Nat × OB)} (h:SlP ks its X R1 Y R2):SlO 9 1 ks.length (ks.map .s) X R1:=by
 rcases h with ⟨rfl,rfl,rfl,rfl,rfl,rfl⟩ | ⟨b1,g1,b2,g2,rfl,rfl,rfl,rfl⟩
 ·exact .inl ⟨rfl,rfl,rfl,rfl⟩
 ·exact .inr ⟨_,_,rfl,rfl⟩
theorem SlP.i {ks:List (List UInt8)} {its:List JV} {X Y:AV} {R1 R2:List (Nat × OB)} (h:SlP ks its X R1 Y R2):SlO 25 4 its.length (zad its) Y R2:=by
 rcases h with ⟨rfl,rfl,rfl,rfl,rfl,rfl⟩ | ⟨b1,g1,b2,g2,rfl,rfl,rfl,rfl⟩
 ·exact .inl ⟨rfl,zaz,rfl,rfl⟩
 ·exact .inr ⟨_,_,rfl,rfl⟩
theorem SlP.flat {ks:List (List UInt8)} {its:List JV} {X Y:AV} {R1 R2:List (Nat × OB)} (h:SlP ks its X R1 Y R2):X.flat=true ∧ Y.flat=true:=by
 rcases h with ⟨rfl,rfl,rfl,rfl,rfl,rfl⟩ | ⟨b1,g1,b2,g2,rfl,rfl,rfl,rfl⟩ <;> exact ⟨rfl,rfl⟩
section
variable [Tabs Tryz.prog] [Utf Tryz.prog] {objs:List OB} {K:List OB → AV → Prop} {L:List (Nat × OB)} {p:Nat} {s:List UInt8} {ρ:Rs}
theorem object_k {val:Rs → Tk → JV × Rs} {d:Nat} (hv:ValK s p d val) (hg:GV s val) (hn:∀ ρ t,(val ρ t).2.fail=0 → ρ.nodes + 1 ≤ (val ρ t).2.nodes) (hvz:zeJ val) (hs:s.length ≤ 1048576) (hB:GB s ρ) (hC:zaL ((p,zaJ s ρ) :: L)) (hO:zav ((p,zaJ s ρ) :: L) objs)
  (hk:∀ o,zav ((p,zaJ s (zd6 s val ρ).2) :: L) o → K o (.agg (zao (zd6 s val ρ).1))):zah Tryz.prog 51 [.p p 0,.i .i64 (d:Int)] objs K:=by
 refine zno (E1:=9) (s1:=1) (E2:=25) (s2:=4) (zd6 s val ρ).1 (zfW hC) hk ?_
 refine zcP is_ref14_parser_object fun C _ => ?_
 have fin:∀ {o:List OB} {ρ':Rs} {ks:List (List UInt8)} {its:List JV} {X Y:AV} {R1 R2:List (Nat × OB)} {qt qv qr:Nat} {T V W:OB},zd6 s val ρ=(.mk 7 [] ks its,ρ') → SlP ks its X R1 Y R2 → zav ((p,zaJ s ρ') :: (qt,T) :: (qv,V) :: (qr,W) :: (R1 ++ (R2 ++ L))) o →
   ∃ X' R1 Y' R2,SlO 9 1 (zd6 s val ρ).1.keys.length ((zd6 s val ρ).1.keys.map .s) X' R1 ∧ SlO 25 4 (zd6 s val ρ).1.items.length (zad (zd6 s val ρ).1.items) Y' R2 ∧ zav ((p,zaJ s (zd6 s val ρ).2) :: (R1 ++ (R2 ++ L))) (o.set qr (jvB 7 X Y)) ∧ AV.agg [.i .i64 7,.s [],X,Y]=.agg [.i .i64 (zd6 s val ρ).1.kind,.s (zd6 s val ρ).1.text,X',Y']:=by
  intro o ρ' ks its X Y R1 R2 qt qv qr T V W he hS hO
  rw [he]
  refine ⟨X,R1,Y,R2,hS.k,hS.i,?_,rfl⟩
  exact (zav.set (A:=[(p,zaJ s ρ'),(qt,T),(qv,V)]) (jvB 7 X Y) hO).sub ((((List.sublist_cons_self _ _).trans (List.sublist_cons_self _ _)).trans (List.sublist_cons_self _ _)).cons_cons _)
 rw [c_ref14_parser_object]
 refine zaa fun Z0 hZ0 => ?_
 simp only [sxZ,z6,z7,z8,j4,j5,j6,j7,j8,j9,x4,x5,x6,x7,x8,x9,reduceCtorEq,↓reduceIte]
 have hO1:=hO.new zvB
 unfold zvB at hO1
 generalize hqr:objs.length=qr at hO1 ⊢
 generalize objs ++ [OB.box 25 [.i .i64 0,.s [],.nil,.nil]]=o1 at hO1 ⊢
 subst hZ0
 refine zaa fun Z0 hZ0 => ?_
 simp only [sxZ,z6,z7,z8,j4,j5,j6,j7,j8,j9,x4,x5,x6,x7,x8,x9,reduceCtorEq,↓reduceIte,gn1,sn1]
 have hO2:=hO1.new (jvB 7 .nil .nil)
 unfold jvB at hO2
 generalize hqv:o1.length=qv at hO2 ⊢
 generalize o1 ++ [OB.box 25 [.i .i64 7,.s [],.nil,.nil]]=o2 at hO2 ⊢
 subst hZ0
 refine zaa fun Z0 hZ0 => ?_
 simp only [sxZ,z6,z7,z8,j4,j5,j6,j7,j8,j9,x4,x5,x6,x7,x8,x9,reduceCtorEq,↓reduceIte]
 have hO2':zav ((p,zaJ s ρ) :: (qv,jvB 7 .nil .nil) :: (qr,zvB) :: L) o2:=hO2.perm ((List.Perm.cons _ (List.Perm.swap _ _ _)).trans (List.Perm.swap _ _ _))
 refine zam (zcy (by omega) hO2' fun o3 hO3 => ?_)
 have hB1:=zbh hB
 have hT1:=zbE hB
 have hrobj:zd6 s val ρ=if isP (zac s ρ).1 125=true then (.mk 7 [] [] [],(zac s ρ).2) else (.mk 7 [] (zaR s val (s.length + 2) (zac s ρ).2 (zac s ρ).1 [] []).1.1 (zaR s val (s.length + 2) (zac s ρ).2 (zac s ρ).1 [] []).1.2,(zaR s val (s.length + 2) (zac s ρ).2 (zac s ρ).1 [] []).2):=rfl
 generalize zac s ρ=N at hO3 hB1 hT1 hrobj ⊢
 obtain ⟨T,ρ1⟩:=N
 simp only at hO3 hB1 hT1 hrobj ⊢
 unfold zhP tkC
 simp only [sxZ,z6,z7,z8,j4,j5,j6,j7,j8,j9,x4,x5,x6,x7,x8,x9,reduceCtorEq,↓reduceIte,gn1,sn1]
 have f1:∀ x y z,OB.box 54 [.i .i64 x,.s y,.i .i64 z]=zaU (x,y,z):=fun _ _ _ => rfl
 rw [f1]
 have hO4:=hO3.new (zaU T)
 have hO4:zav ((p,zaJ s ρ1) :: (o3.length,zaU T) :: (qv,jvB 7 .nil .nil) :: (qr,zvB) :: ([] ++ ([] ++ L))) (o3 ++ [zaU T]):=hO4.perm (List.Perm.swap _ _ _)
 generalize o3.length=qt at hO4 ⊢
 generalize o3 ++ [zaU (T.1,T.2.1,T.2.2)]=o4 at hO4 ⊢
 have st:∀ (o:List OB) (ρ':Rs) (T':Tk) (X:AV) (R1:List (Nat × OB)) (Y:AV) (R2:List (Nat × OB)),zav ((p,zaJ s ρ') :: (qt,zaU T') :: (qv,jvB 7 X Y) :: (qr,zvB) :: (R1 ++ (R2 ++ L))) o → o[p]? = some (.box 51 [.s s,.i .i64 ρ'.pos,.i .i64 (ρ'.nodes:Int),.i .i64 ρ'.fail,.i .i64 ρ'.wh]) ∧ o[qt]? = some (.box 54 [.i .i64 T'.1,.s T'.2.1,.i .i64 T'.2.2]) ∧ o[qv]? = some (.box 25 [.i .i64 7,.s [],X,Y]) ∧ o[qr]? = some (.box 25 [.i .i64 0,.s [],.nil,.nil]) ∧ (∀ x,(o.set qr x)[qr]? = some x) ∧ (∀ x,(o.set qt x)[qt]? = some x) ∧ (∀ x,(o.set qv x)[qv]? = some x) :=
  fun o ρ' T' X R1 Y R2 h => ⟨h.get (by simp [zaJ]),h.get (by simp [zaU,tkC]),h.get (by simp [jvB]),h.get (by simp [zvB]),fun x => List.getElem?_set_self (h.lt (i:=qr) (x:=zvB) (by simp)),fun x => List.getElem?_set_self (h.lt (i:=qt) (x:=zaU T') (by simp)),fun x => List.getElem?_set_self (h.lt (i:=qv) (x:=jvB 7 X Y) (by simp))⟩
 subst hZ0
 refine zaa fun Z0 hZ0 => ?_
 obtain ⟨e1,e2,e3,e4,s1,s2,s3⟩:=st _ _ _ _ _ _ _ hO4
 simp only [sxZ,z6,z7,z8,j4,j5,j6,j7,j8,j9,x4,x5,x6,x7,x8,x9,reduceCtorEq,↓reduceIte,e2]
 refine zam (zft T 125 ?_)
 cases hcl:isP T 125 with
 | true =>
  rw [hcl,if_pos rfl] at hrobj
  simp only [sxZ,z6,z7,z8,j4,j5,j6,j7,j8,j9,x4,x5,x6,x7,x8,x9,reduceCtorEq,↓reduceIte,e3,e4,s1]
  exact fin hrobj (.inl ⟨rfl,rfl,rfl,rfl,rfl,rfl⟩) hO4
 | false =>
  rw [hcl,if_neg Bool.false_ne_true] at hrobj
  simp only [sxZ,z6,z7,z8,j4,j5,j6,j7,j8,j9,x4,x5,x6,x7,x8,x9,reduceCtorEq,↓reduceIte]
  subst hZ0
  refine zaa fun Z0 hZ0 => ?_
  clear e1 e2 e3 e4 s1 s2 s3
  simp only [sxZ,z6,z7,z8,j4,j5,j6,j7,j8,j9,x4,x5,x6,x7,x8,x9,reduceCtorEq,↓reduceIte]
  refine zaQ (fun n o tm => ∃ (i:Nat) (ρ':Rs) (T':Tk) (ks:List (List UInt8)) (its:List JV) (X:AV) (R1:List (Nat × OB)) (Y:AV) (R2:List (Nat × OB)),n=s.length + 2 - i ∧ ks.length=i ∧ its.length=i ∧ zd6 s val ρ=(.mk 7 [] (zaR s val n ρ' T' ks its).1.1 (zaR s val n ρ' T' ks its).1.2,(zaR s val n ρ' T' ks its).2) ∧ GB s ρ' ∧ T'.2.1.length ≤ s.length ∧ (ρ'.fail=0 → i ≤ ρ'.nodes) ∧ SlP ks its X R1 Y R2 ∧ zav ((p,zaJ s ρ') :: (qt,zaU T') :: (qv,jvB 7 X Y) :: (qr,zvB) :: (R1 ++ (R2 ++ L))) o ∧
    tm.length=98 ∧ tm[0]? = some (.p p 0) ∧ tm[1]? = some (.i .i64 (d:Int)) ∧ tm[4]? = some (.p qr 0) ∧ tm[5]? = some (.p qv 0) ∧ tm[6]? = some (.p qt 0)) (s.length + 2) ⟨0,ρ1,T,[],[],.nil,[],.nil,[],rfl,rfl,rfl,hrobj,hB1.1,hT1,fun _ => Nat.zero_le _,.inl ⟨rfl,rfl,rfl,rfl,rfl,rfl⟩,hO4,rfl,rfl,rfl,rfl,rfl,rfl⟩ ?_
  clear hO hO1 hO2 hO2' hO3 hO4 hrobj hB1 hT1 hcl
  rintro n o tm ⟨i,ρ',T',ks,its,X,R1,Y,R2,rfl,hi,hi2,hrobj,hGB,hTx,hnd,hS,hO,hlen,t0,t1,t4,t5,t6⟩
  obtain ⟨e1,e2,e3,e4,s1,s2,s3⟩:=st _ _ _ _ _ _ _ hO
  refine zaa fun Z hZ => ?_
  by_cases c1:ρ'.fail=0
  rotate_left
  ·have he:zaR s val (s.length + 2 - i) ρ' T' ks its=((ks,its),ρ'):=by
    cases s.length + 2 - i with
    | zero => rw [zaR]
    | succ m => rw [zaR,if_pos c1]
   rw [he] at hrobj
   simp only [sxZ,z6,z7,z8,j4,j5,j6,j7,j8,j9,x4,x5,x6,x7,x8,x9,reduceCtorEq,↓reduceIte,List.getElem?_set,hlen,t0,e1,c1]
   subst hZ
   subst hZ0
   simp only [sxZ,z6,z7,z8,j4,j5,j6,j7,j8,j9,x4,x5,x6,x7,x8,x9,reduceCtorEq,↓reduceIte,List.getElem?_set,hlen,t4,t5,e3,e4,s1,hS.flat.1,hS.flat.2]
   exact fin hrobj hS hO
  have hil:i ≤ s.length:=by
   have h1:=hnd c1
   have h2:=hGB.n0 c1
   have h3:=hGB.p1
   omega
  obtain ⟨m,hm⟩:∃ m,s.length + 2 - i=m + 1:=⟨s.length + 1 - i,by omega⟩
  rw [hm,zaR,if_neg (fun h => h c1)] at hrobj
  simp only at hrobj
  simp only [sxZ,z6,z7,z8,j4,j5,j6,j7,j8,j9,x4,x5,x6,x7,x8,x9,reduceCtorEq,↓reduceIte,List.getElem?_set,hlen,t0,e1,c1]
  subst hZ
  rw [za3]
  clear s1 s2 s3 e1 e4
  refine zaa fun Z hZ => ?_
  have hk1:∀ t,t=ks → zdw ρ' T' t=(if T'.2.1 ∈ ks then zax (if ¬ T'.1=3 then zax ρ' T'.2.2 140 else ρ') T'.2.2 143 else if ¬ T'.1=3 then zax ρ' T'.2.2 140 else ρ'):=fun t h => by rw [h]; rfl
  have hk1:=hk1 ks rfl
  have hGk:=gb_key hGB T' ks
  have hnk:=rkey_n ρ' T' ks
  generalize hρa:(if ¬ T'.1=3 then zax ρ' T'.2.2 140 else ρ')=ρa at hk1
  refine zaw (fun o tm => zav ((p,zaJ s ρa) :: (qt,zaU T') :: (qv,jvB 7 X Y) :: (qr,zvB) :: (R1 ++ (R2 ++ L))) o ∧ tm.length=98 ∧ tm[0]? = some (.p p 0) ∧ tm[1]? = some (.i .i64 (d:Int)) ∧ tm[4]? = some (.p qr 0) ∧ tm[5]? = some (.p qv 0) ∧ tm[6]? = some (.p qt 0)) ?_ ?_
  ·refine zaa fun W hW => ?_
   by_cases c3:T'.1=3
   ·rw [if_neg (fun h => h c3)] at hρa
    subst hρa
    simp only [sxZ,z6,z7,z8,j4,j5,j6,j7,j8,j9,x4,x5,x6,x7,x8,x9,reduceCtorEq,↓reduceIte,List.getElem?_set,hlen,t6,e2,c3]
    subst hW
    simp only [sxZ,z6,z7,z8,j4,j5,j6,j7,j8,j9,x4,x5,x6,x7,x8,x9,reduceCtorEq,↓reduceIte,zab,List.length_set,List.getElem?_set,hlen,t0,t1,t4,t5,t6,and_self,and_true]
    exact hO
   ·rw [if_pos c3] at hρa
    simp only [sxZ,z6,z7,z8,j4,j5,j6,j7,j8,j9,x4,x5,x6,x7,x8,x9,reduceCtorEq,↓reduceIte,List.getElem?_set,hlen,t6,e2,c3]
    subst hW
    simp only [sxZ,z6,z7,z8,j4,j5,j6,j7,j8,j9,x4,x5,x6,x7,x8,x9,reduceCtorEq,↓reduceIte,List.getElem?_set,hlen,t0,t6,e2]
    refine zam (zce hO T'.2.2 140 fun o8 hO8 => ?_)
    rw [hρa] at hO8
    simp only [sxZ,z6,z7,z8,j4,j5,j6,j7,j8,j9,x4,x5,x6,x7,x8,x9,reduceCtorEq,↓reduceIte,zab,List.length_set,List.getElem?_set,hlen,t0,t1,t4,t5,t6,and_self,and_true]
    exact hO8
  clear hO hlen t0 t1 t4 t5 t6 e2 e3
  rintro oa tm ⟨hO,hlen,t0,t1,t4,t5,t6⟩
  subst hZ
  refine zaa fun Z hZ => ?_
  refine zaw (fun o tm => zav ((p,zaJ s (zdw ρ' T' ks)) :: (qt,zaU T') :: (qv,jvB 7 X Y) :: (qr,zvB) :: (R1 ++ (R2 ++ L))) o ∧ tm.length=98 ∧ tm[0]? = some (.p p 0) ∧ tm[1]? = some (.i .i64 (d:Int)) ∧ tm[4]? = some (.p qr 0) ∧ tm[5]? = some (.p qv 0) ∧ tm[6]? = some (.p qt 0)) ?_ ?_
  ·obtain ⟨e1,e2,e3,e4,s1,s2,s3⟩:=st _ _ _ _ _ _ _ hO
   refine zaa fun W hW => ?_
   have hPerm:((p,zaJ s ρa) :: (qt,zaU T') :: (qv,jvB 7 X Y) :: (qr,zvB) :: (R1 ++ (R2 ++ L))).Perm (R1 ++ (R2 ++ ((p,zaJ s ρa) :: (qt,zaU T') :: (qv,jvB 7 X Y) :: (qr,zvB) :: L))):=by
    have h0:∀ (A B C:List (Nat × OB)),(A ++ (B ++ C)).Perm (B ++ (A ++ C)):=fun A B C => by
     rw [← List.append_assoc,← List.append_assoc]
     exact List.Perm.append_right C List.perm_append_comm
    refine (h0 [(p,zaJ s ρa),(qt,zaU T'),(qv,jvB 7 X Y),(qr,zvB)] R1 (R2 ++ L)).trans ?_
    exact List.Perm.append_left R1 (h0 [(p,zaJ s ρa),(qt,zaU T'),(qv,jvB 7 X Y),(qr,zvB)] R2 L)
   simp only [sxZ,z6,z7,z8,j4,j5,j6,j7,j8,j9,x4,x5,x6,x7,x8,x9,reduceCtorEq,↓reduceIte,List.getElem?_set,hlen,t5,t6,e2,e3]
   refine zam (znq ks its T'.2.1 (by omega) (by omega) hS.k hS.i (hO.perm hPerm) (fun hm o w ho => ?_) (fun hm o ho => ?_))
   ·have ho:=ho.perm hPerm.symm
    rw [if_pos hm] at hk1
    rw [zak]
    simp only [sxZ,z6,z7,z8,j4,j5,j6,j7,j8,j9,x4,x5,x6,x7,x8,x9,reduceCtorEq,↓reduceIte,List.getElem?_set,hlen,gn1,sn1]
    have ho2:=ho.app [OB.box 25 [.i .i64 w.kind,.s w.text,.row w.keys.length (w.keys.map .s),.row w.items.length (zad w.items)]]
    obtain ⟨e1',e2',e3',_,_,_,_⟩:=st _ _ _ _ _ _ _ ho2
    subst hW
    simp only [sxZ,z6,z7,z8,j4,j5,j6,j7,j8,j9,x4,x5,x6,x7,x8,x9,reduceCtorEq,↓reduceIte,List.getElem?_set,hlen,t0,t6,e2']
    refine zam (zce ho2 T'.2.2 143 fun o8 hO8 => ?_)
    rw [← hk1] at hO8
    simp only [sxZ,z6,z7,z8,j4,j5,j6,j7,j8,j9,x4,x5,x6,x7,x8,x9,reduceCtorEq,↓reduceIte,zab,List.length_set,List.getElem?_set,hlen,t0,t1,t4,t5,t6,and_self,and_true]
    exact hO8
   ·have ho:=ho.perm hPerm.symm
    rw [if_neg hm] at hk1
    simp only [sxZ,z6,z7,z8,j4,j5,j6,j7,j8,j9,x4,x5,x6,x7,x8,x9,reduceCtorEq,↓reduceIte,List.getElem?_set,hlen,gn1,sn1]
    have ho2:=ho.app [OB.box 25 [.i .i64 0,.s [],.nil,.nil]]
    subst hW
    rw [← hk1] at ho2
    simp only [sxZ,z6,z7,z8,j4,j5,j6,j7,j8,j9,x4,x5,x6,x7,x8,x9,reduceCtorEq,↓reduceIte,zab,List.length_set,List.getElem?_set,hlen,t0,t1,t4,t5,t6,and_self,and_true]
    exact ho2
  clear hO hlen t0 t1 t4 t5 t6 hk1 hρa
  generalize zdw ρ' T' ks=ρk at hrobj hGk hnk
  rintro ob tm ⟨hO,hlen,t0,t1,t4,t5,t6⟩
  subst hZ
  refine zaa fun Z hZ => ?_
  obtain ⟨e1,e2,e3,e4,s1,s2,s3⟩:=st _ _ _ _ _ _ _ hO
  simp only [sxZ,z6,z7,z8,j4,j5,j6,j7,j8,j9,x4,x5,x6,x7,x8,x9,reduceCtorEq,↓reduceIte,List.getElem?_set,hlen,t6,e2]
  refine zbR (fun tm => tm.length=98 ∧ tm[0]? = some (.p p 0) ∧ tm[1]? = some (.i .i64 (d:Int)) ∧ tm[4]? = some (.p qr 0) ∧ tm[5]? = some (.p qv 0) ∧ tm[6]? = some (.p qt 0) ∧ tm[9]? = some (.s T'.2.1)) ?_ ?_
  ·simp only [sxZ,z6,z7,z8,j4,j5,j6,j7,j8,j9,x4,x5,x6,x7,x8,x9,reduceCtorEq,↓reduceIte,List.length_set,List.getElem?_set,hlen,t0,t1,t4,t5,t6,and_self]
  clear hlen t0 t1 t4 t5 t6
  rintro tm ⟨hlen,t0,t1,t4,t5,t6,t9⟩
  subst hZ
  refine zaa fun Z hZ => ?_
  refine zaa fun W0 hW0 => ?_
  simp only [sxZ,z6,z7,z8,j4,j5,j6,j7,j8,j9,x4,x5,x6,x7,x8,x9,reduceCtorEq,↓reduceIte,List.getElem?_set,hlen,t0]
  refine zam (zcy (by omega) hO fun o6 hO6 => ?_)
  have hB_ρ2:=zbh hGk
  have hT_ρ2:=zbE hGk
  have hn_ρ2:=za9 s ρk
  have hz_ρ2:=zal s ρk
  generalize zac s ρk=N at hO6 hB_ρ2 hT_ρ2 hn_ρ2 hz_ρ2 hrobj ⊢
  obtain ⟨T2,ρ2⟩:=N
  simp only at hO6 hB_ρ2 hT_ρ2 hn_ρ2 hz_ρ2 hrobj ⊢
  obtain ⟨e1,e2,e3,e4,s1,s2,s3⟩:=st _ _ _ _ _ _ _ hO6
  unfold zhP tkC
  simp only [sxZ,z6,z7,z8,j4,j5,j6,j7,j8,j9,x4,x5,x6,x7,x8,x9,reduceCtorEq,↓reduceIte,List.getElem?_set,hlen,t6,e2,s2]
  rw [f1]
  have hO7:zav ((p,zaJ s ρ2) :: (qt,zaU T2) :: (qv,jvB 7 X Y) :: (qr,zvB) :: (R1 ++ (R2 ++ L))) (o6.set qt (zaU (T2.1,T2.2.1,T2.2.2))):=zav.set (A:=[(p,zaJ s ρ2)]) (zaU T2) hO6
  generalize o6.set qt (zaU (T2.1,T2.2.1,T2.2.2))=o7 at hO7 ⊢
  refine zbR (fun tm => tm.length=98 ∧ tm[0]? = some (.p p 0) ∧ tm[1]? = some (.i .i64 (d:Int)) ∧ tm[4]? = some (.p qr 0) ∧ tm[5]? = some (.p qv 0) ∧ tm[6]? = some (.p qt 0) ∧ tm[9]? = some (.s T'.2.1)) ?_ ?_
  ·simp only [sxZ,z6,z7,z8,j4,j5,j6,j7,j8,j9,x4,x5,x6,x7,x8,x9,reduceCtorEq,↓reduceIte,List.length_set,List.getElem?_set,hlen,t0,t1,t4,t5,t6,t9,and_self]
  clear hO6 hO hlen t0 t1 t4 t5 t6 t9 e1 e2 e3 e4 s1 s2 s3
  rintro tm ⟨hlen,t0,t1,t4,t5,t6,t9⟩
  have hO:=hO7
  clear hO7
  subst hW0
  refine zaw (fun o tm => zav ((p,zaJ s (zaC ρ2 T2 58)) :: (qt,zaU T2) :: (qv,jvB 7 X Y) :: (qr,zvB) :: (R1 ++ (R2 ++ L))) o ∧ tm.length=98 ∧ tm[0]? = some (.p p 0) ∧ tm[1]? = some (.i .i64 (d:Int)) ∧ tm[4]? = some (.p qr 0) ∧ tm[5]? = some (.p qv 0) ∧ tm[6]? = some (.p qt 0) ∧ tm[9]? = some (.s T'.2.1)) ?_ ?_
  ·obtain ⟨e1,e2,e3,e4,s1,s2,s3⟩:=st _ _ _ _ _ _ _ hO
   refine zaa fun W hW => ?_
   by_cases c3:ρ2.fail=0
   rotate_left
   ·have hw:zaC ρ2 T2 58=ρ2:=by unfold zaC; rw [if_neg (fun h => c3 h.1)]
    simp only [sxZ,z6,z7,z8,j4,j5,j6,j7,j8,j9,x4,x5,x6,x7,x8,x9,reduceCtorEq,↓reduceIte,List.getElem?_set,hlen,t0,e1,c3]
    subst hW
    simp only [sxZ,z6,z7,z8,j4,j5,j6,j7,j8,j9,x4,x5,x6,x7,x8,x9,reduceCtorEq,↓reduceIte,zab,List.length_set,List.getElem?_set,hlen,t0,t1,t4,t5,t6,t9,hw,and_self,and_true]
    exact hO
   ·simp only [sxZ,z6,z7,z8,j4,j5,j6,j7,j8,j9,x4,x5,x6,x7,x8,x9,reduceCtorEq,↓reduceIte,List.getElem?_set,hlen,t0,t6,e1,e2,c3]
    refine zam (zft T2 58 ?_)
    cases h44:isP T2 58 with
    | true =>
     have hw:zaC ρ2 T2 58=ρ2:=by unfold zaC; rw [if_neg (fun h => by rw [h44] at h; cases h.2)]
     simp only [sxZ,z6,z7,z8,j4,j5,j6,j7,j8,j9,x4,x5,x6,x7,x8,x9,reduceCtorEq,↓reduceIte,List.getElem?_set,hlen]
     subst hW
     simp only [sxZ,z6,z7,z8,j4,j5,j6,j7,j8,j9,x4,x5,x6,x7,x8,x9,reduceCtorEq,↓reduceIte,zab,List.length_set,List.getElem?_set,hlen,t0,t1,t4,t5,t6,t9,hw,and_self,and_true]
     exact hO
    | false =>
     have hw:zaC ρ2 T2 58=zax ρ2 T2.2.2 140:=by unfold zaC; rw [if_pos ⟨c3,h44⟩]
     simp only [sxZ,z6,z7,z8,j4,j5,j6,j7,j8,j9,x4,x5,x6,x7,x8,x9,reduceCtorEq,↓reduceIte,List.getElem?_set,hlen]
     subst hW
     simp only [sxZ,z6,z7,z8,j4,j5,j6,j7,j8,j9,x4,x5,x6,x7,x8,x9,reduceCtorEq,↓reduceIte,List.getElem?_set,hlen,t0,t6,e2]
     refine zam (zce hO T2.2.2 140 fun o8 hO8 => ?_)
     simp only [sxZ,z6,z7,z8,j4,j5,j6,j7,j8,j9,x4,x5,x6,x7,x8,x9,reduceCtorEq,↓reduceIte,zab,List.length_set,List.getElem?_set,hlen,t0,t1,t4,t5,t6,t9,hw,and_self,and_true]
     exact hO8
  clear hO hlen t0 t1 t4 t5 t6 t9
  rintro oc tm ⟨hO,hlen,t0,t1,t4,t5,t6,t9⟩
  have hG3:=zeC hB_ρ2.1 T2 58
  have hn3:=zes ρ2 T2 58
  have hz3:=za2 ρ2 T2 58
  generalize zaC ρ2 T2 58=ρ3 at hO hG3 hn3 hz3 hrobj
  subst hZ
  refine zaa fun Z hZ => ?_
  simp only [sxZ,z6,z7,z8,j4,j5,j6,j7,j8,j9,x4,x5,x6,x7,x8,x9,reduceCtorEq,↓reduceIte,List.getElem?_set,hlen,t0]
  refine zam (zcy (by omega) hO fun o6 hO6 => ?_)
  have hB4:=zbh hG3
  have hT4:=zbE hG3
  have hn4:=za9 s ρ3
  have hz4:=zal s ρ3
  generalize zac s ρ3=N at hO6 hB4 hT4 hn4 hz4 hrobj ⊢
  obtain ⟨T4,ρ4⟩:=N
  simp only at hO6 hB4 hT4 hn4 hz4 hrobj ⊢
  have hvc:=fun {objs:List OB} {K:List OB → AV → Prop} {L:List (Nat × OB)} (h1) (h2) (h3) => hv (objs:=objs) (K:=K) (L:=L) (ρ:=ρ4) T4 hB4.1 hB4.2 hT4 h1 h2 h3
  have hg5:=hg ρ4 T4 hB4.1 hB4.2
  have hn5:=hn ρ4 T4
  have hz5:=hvz ρ4 T4
  generalize val ρ4 T4=a at hvc hg5 hn5 hz5 hrobj
  obtain ⟨v,ρ5⟩:=a
  simp only at hvc hg5 hn5 hz5 hrobj
  obtain ⟨c0,c1',c2,c3,hcv⟩:∃ c0 c1 c2 c3,zao v=[c0,c1,c2,c3]:=⟨_,_,_,_,zak v⟩
  have hcf:(AV.agg [c0,c1',c2,c3]).flat=true:=by
   have:=zak v
   rw [hcv] at this
   injection this with q0 this
   injection this with q1 this
   injection this with q2 this
   injection this with q3 _
   subst q0 q1 q2 q3
   rfl
  have hCL:zaL ((p,zaJ s ρ4) :: (qt,zaU T2) :: (qv,jvB 7 X Y) :: (qr,zvB) :: (R1 ++ (R2 ++ L))):=zgC hS.k hS.i hC
  unfold zhP tkC
  simp only [sxZ,z6,z7,z8,j4,j5,j6,j7,j8,j9,x4,x5,x6,x7,x8,x9,reduceCtorEq,↓reduceIte,List.getElem?_set,hlen,t0,t1]
  refine zam (hvc hCL hO6 fun o7 hO7 => ?_)
  rw [hcv]
  simp only [sxZ,z6,z7,z8,j4,j5,j6,j7,j8,j9,x4,x5,x6,x7,x8,x9,reduceCtorEq,↓reduceIte,List.getElem?_set,hlen,gn1,sn1,hcf]
  have hO8:=hO7.new (.box 25 [c0,c1',c2,c3])
  generalize o7.length=qi at hO8 ⊢
  generalize o7 ++ [OB.box 25 [c0,c1',c2,c3]]=o8 at hO8 ⊢
  refine zbR (fun tm => tm.length=98 ∧ tm[0]? = some (.p p 0) ∧ tm[1]? = some (.i .i64 (d:Int)) ∧ tm[4]? = some (.p qr 0) ∧ tm[5]? = some (.p qv 0) ∧ tm[6]? = some (.p qt 0) ∧ tm[9]? = some (.s T'.2.1) ∧ tm[10]? = some (.p qi 0)) ?_ ?_
  ·simp only [sxZ,z6,z7,z8,j4,j5,j6,j7,j8,j9,x4,x5,x6,x7,x8,x9,reduceCtorEq,↓reduceIte,List.length_set,List.getElem?_set,hlen,t0,t1,t4,t5,t6,t9,and_self]
  clear hO hO6 hO7 hlen t0 t1 t4 t5 t6 t9
  rintro tm ⟨hlen,t0,t1,t4,t5,t6,t9,t10⟩
  subst hZ
  refine zaa fun Z hZ => ?_
  have hO8p:zav ((p,zaJ s ρ5) :: (qt,zaU T2) :: (qv,jvB 7 X Y) :: (qr,zvB) :: (R1 ++ (R2 ++ L))) o8:=hO8.sub (List.sublist_cons_self _ _)
  obtain ⟨e1,e2,e3,e4,s1,s2,s3⟩:=st _ _ _ _ _ _ _ hO8p
  have ei:=hO8.get (i:=qi) (x:=.box 25 [c0,c1',c2,c3]) (by simp)
  refine zaw (fun o tm => ∃ X' R1' Y' R2',SlP (ks ++ [T'.2.1]) (its ++ [v]) X' R1' Y' R2' ∧ zav ((p,zaJ s ρ5) :: (qt,zaU T2) :: (qv,jvB 7 X' Y') :: (qr,zvB) :: (R1' ++ (R2' ++ L))) o ∧ tm.length=98 ∧ tm[0]? = some (.p p 0) ∧ tm[1]? = some (.i .i64 (d:Int)) ∧ tm[4]? = some (.p qr 0) ∧ tm[5]? = some (.p qv 0) ∧ tm[6]? = some (.p qt 0)) ?_ ?_
  ·rcases hS with ⟨z1,z2,rfl,rfl,rfl,rfl⟩ | ⟨b1,g1,b2,g2,rfl,rfl,rfl,rfl⟩
   ·have hlq:=(List.getElem?_eq_some_iff.1 e3).1
    have hli:=(List.getElem?_eq_some_iff.1 ei).1
    have n1:¬ qv=o8.length:=by omega
    have n2:¬ qi=o8.length:=by omega
    have h1:∀ x,(o8 ++ [x])[qv]? = some (.box 25 [.i .i64 7,.s [],.nil,.nil]):=fun x => by rw [List.getElem?_append_left hlq]; exact e3
    have h2:∀ x,(o8 ++ [x])[qi]? = some (.box 25 [c0,c1',c2,c3]):=fun x => by rw [List.getElem?_append_left hli]; exact ei
    have h3:∀ x y,(o8 ++ [x] ++ [y])[qv]? = some (.box 25 [.i .i64 7,.s [],.nil,.nil]):=fun x y => by rw [List.getElem?_append_left (by simp; omega)]; exact h1 x
    have h4:∀ x y z,((o8 ++ [x] ++ [y]).set qv z)[qv]? = some z:=fun x y z => List.getElem?_set_self (by simp; omega)
    subst z1 z2
    simp only [sxZ,z6,z7,z8,j4,j5,j6,j7,j8,j9,x4,x5,x6,x7,x8,x9,reduceCtorEq,↓reduceIte,List.getElem?_set,hlen,t5,t9,t10,e3,ei,gn1,sn1,h1,h2,h3,h4,n1,n2,zab,List.length_set,List.set_set,t0,t1,t4,t6,and_self,and_true,not_false_eq_true,true_and]
    have hN:=(hO8p.new (.orow 9 1 0 1 [AV.s T'.2.1])).new (.orow 25 4 0 1 [c0,c1',c2,c3])
    have elen:(o8 ++ [OB.orow 9 1 0 1 [AV.s T'.2.1]]).length=o8.length + 1:=by simp
    rw [elen] at hN
    have hR:=hN.set (A:=[(o8.length + 1,OB.orow 25 4 0 1 [c0,c1',c2,c3]),(o8.length,OB.orow 9 1 0 1 [AV.s T'.2.1]),(p,zaJ s ρ5),(qt,zaU T2)]) (jvB 7 (.orow o8.length 0) (.orow (o8.length + 1) 0))
    refine ⟨_,[(o8.length,OB.orow 9 1 0 1 [AV.s T'.2.1])],_,[(o8.length + 1,OB.orow 25 4 0 1 [c0,c1',c2,c3])],.inr ⟨_,_,_,_,rfl,rfl,rfl,by rw [zaI,zaz,hcv]; rfl⟩,hR.perm ?_⟩
    refine (List.perm_append_comm (l₁:=[(o8.length + 1,OB.orow 25 4 0 1 [c0,c1',c2,c3]),(o8.length,OB.orow 9 1 0 1 [AV.s T'.2.1])]) (l₂:=[(p,zaJ s ρ5),(qt,zaU T2),(qv,jvB 7 (.orow o8.length 0) (.orow (o8.length + 1) 0)),(qr,zvB)])).append_right L |>.trans ?_
    exact List.Perm.cons _ (List.Perm.cons _ (List.Perm.cons _ (List.Perm.cons _ (List.Perm.swap _ _ _))))
   ·have eb1:=hO8.get (i:=b1) (x:=.orow 9 1 g1 ks.length (ks.map .s)) (by simp)
    have eb2:=hO8.get (i:=b2) (x:=.orow 25 4 g2 its.length (zad its)) (by simp)
    have hlq:=(List.getElem?_eq_some_iff.1 e3).1
    have hl1:=(List.getElem?_eq_some_iff.1 eb1).1
    have hl2:=(List.getElem?_eq_some_iff.1 eb2).1
    have hnd8:=hO8.1
    simp only [List.map_cons,List.map_append,List.map_nil,List.nodup_cons,List.cons_append,List.nil_append,List.mem_cons,List.mem_append,List.not_mem_nil,or_false,not_or] at hnd8
    have n1:¬ qv=b1:=hnd8.2.2.2.1.2.1
    have n2:¬ qi=b1:=hnd8.1.2.2.2.2.1
    have n3:¬ b1=b2:=hnd8.2.2.2.2.2.1.1
    have n4:¬ qv=b2:=hnd8.2.2.2.1.2.2.1
    have n1':¬ b1=qv:=fun h => n1 h.symm
    have n2':¬ b1=qi:=fun h => n2 h.symm
    have n4':¬ b2=qv:=fun h => n4 h.symm
    have h0:∀ x,(o8.set b1 x)[b1]? = some x:=fun x => List.getElem?_set_self hl1
    have h1:∀ x,(o8.set b1 x)[qv]? = some (.box 25 [.i .i64 7,.s [],.orow b1 g1,.orow b2 g2]):=fun x => by rw [List.getElem?_set_ne n1']; exact e3
    have h2:∀ x,(o8.set b1 x)[qi]? = some (.box 25 [c0,c1',c2,c3]):=fun x => by rw [List.getElem?_set_ne n2']; exact ei
    have h5:∀ x,(o8.set b1 x)[b2]? = some (.orow 25 4 g2 its.length (zad its)):=fun x => by rw [List.getElem?_set_ne n3]; exact eb2
    have h3:∀ x y,((o8.set b1 x).set b2 y)[qv]? = some (.box 25 [.i .i64 7,.s [],.orow b1 g1,.orow b2 g2]):=fun x y => by rw [List.getElem?_set_ne n4']; exact h1 x
    have h4:∀ x y z,(((o8.set b1 x).set b2 y).set qv z)[qv]? = some z:=fun x y z => List.getElem?_set_self (by simp; omega)
    have hjl:=zaK its
    simp only [sxZ,z6,z7,z8,j4,j5,j6,j7,j8,j9,x4,x5,x6,x7,x8,x9,reduceCtorEq,↓reduceIte,List.getElem?_set,hlen,t5,t9,t10,e3,ei,eb1,h0,h1,h2,h3,h4,h5,n1,n2,zab,List.length_set,List.set_set,t0,t1,t4,t6,and_self,and_true,not_false_eq_true,true_and]
    refine ⟨⟨by omega,by omega⟩,⟨by omega,by omega⟩,?_⟩
    have hN:=hO8p.set (A:=[(p,zaJ s ρ5),(qt,zaU T2),(qv,jvB 7 (.orow b1 g1) (.orow b2 g2)),(qr,zvB)]) (.orow 9 1 (g1 + 1) (ks.length + 1) (ks.map AV.s ++ [AV.s T'.2.1]))
    have hN:=hN.set (A:=[(p,zaJ s ρ5),(qt,zaU T2),(qv,jvB 7 (.orow b1 g1) (.orow b2 g2)),(qr,zvB),(b1,OB.orow 9 1 (g1 + 1) (ks.length + 1) (ks.map AV.s ++ [AV.s T'.2.1]))]) (.orow 25 4 (g2 + 1) (its.length + 1) (zad its ++ [c0,c1',c2,c3]))
    have hR:=hN.set (A:=[(p,zaJ s ρ5),(qt,zaU T2)]) (jvB 7 (.orow b1 (g1 + 1)) (.orow b2 (g2 + 1)))
    exact ⟨_,[(b1,OB.orow 9 1 (g1 + 1) (ks.length + 1) (ks.map AV.s ++ [AV.s T'.2.1]))],_,[(b2,OB.orow 25 4 (g2 + 1) (its.length + 1) (zad its ++ [c0,c1',c2,c3]))],.inr ⟨_,_,_,_,rfl,by rw [List.map_append,List.length_append]; rfl,rfl,by rw [zdO,zaI,zaz,hcv,List.length_append]; rfl⟩,hR⟩
  clear hO8 hO8p hS hlen t0 t1 t4 t5 t6 t9 t10 e1 e2 e3 e4 s1 s2 s3 ei hCL hvc hv hg hn hcf hB hGB hTx
  rintro oc tm ⟨X',R1',Y',R2',hS,hO,hlen,t0,t1,t4,t5,t6⟩
  subst hZ
  refine zaa fun Z hZ => ?_
  simp only [sxZ,z6,z7,z8,j4,j5,j6,j7,j8,j9,x4,x5,x6,x7,x8,x9,reduceCtorEq,↓reduceIte,List.getElem?_set,hlen,t0]
  refine zam (zcy (by omega) hO fun o6 hO6 => ?_)
  have hB_ρ6:=zbh hg5
  have hT_ρ6:=zbE hg5
  have hn_ρ6:=za9 s ρ5
  have hz_ρ6:=zal s ρ5
  generalize zac s ρ5=N at hO6 hB_ρ6 hT_ρ6 hn_ρ6 hz_ρ6 hrobj ⊢
  obtain ⟨T6,ρ6⟩:=N
  simp only at hO6 hB_ρ6 hT_ρ6 hn_ρ6 hz_ρ6 hrobj ⊢
  obtain ⟨e1,e2,e3,e4,s1,s2,s3⟩:=st _ _ _ _ _ _ _ hO6
  unfold zhP tkC
  simp only [sxZ,z6,z7,z8,j4,j5,j6,j7,j8,j9,x4,x5,x6,x7,x8,x9,reduceCtorEq,↓reduceIte,List.getElem?_set,hlen,t6,e2,s2]
  rw [f1]
  have hO7:zav ((p,zaJ s ρ6) :: (qt,zaU T6) :: (qv,jvB 7 X' Y') :: (qr,zvB) :: (R1' ++ (R2' ++ L))) (o6.set qt (zaU (T6.1,T6.2.1,T6.2.2))):=zav.set (A:=[(p,zaJ s ρ6)]) (zaU T6) hO6
  generalize o6.set qt (zaU (T6.1,T6.2.1,T6.2.2))=o7 at hO7 ⊢
  refine zbR (fun tm => tm.length=98 ∧ tm[0]? = some (.p p 0) ∧ tm[1]? = some (.i .i64 (d:Int)) ∧ tm[4]? = some (.p qr 0) ∧ tm[5]? = some (.p qv 0) ∧ tm[6]? = some (.p qt 0)) ?_ ?_
  ·simp only [sxZ,z6,z7,z8,j4,j5,j6,j7,j8,j9,x4,x5,x6,x7,x8,x9,reduceCtorEq,↓reduceIte,List.length_set,List.getElem?_set,hlen,t0,t1,t4,t5,t6,and_self]
  clear hO6 hO hlen t0 t1 t4 t5 t6 e1 e2 e3 e4 s1 s2 s3
  rintro tm ⟨hlen,t0,t1,t4,t5,t6⟩
  have hO:=hO7
  clear hO7
  subst hZ
  refine zaa fun Z hZ => ?_
  obtain ⟨e1,e2,e3,e4,s1,s2,s3⟩:=st _ _ _ _ _ _ _ hO
  simp only [sxZ,z6,z7,z8,j4,j5,j6,j7,j8,j9,x4,x5,x6,x7,x8,x9,reduceCtorEq,↓reduceIte,List.getElem?_set,hlen,t6,e2]
  refine zam (zft T6 125 ?_)
  cases hcl:isP T6 125 with
  | true =>
   rw [hcl,if_pos rfl] at hrobj
   simp only [sxZ,z6,z7,z8,j4,j5,j6,j7,j8,j9,x4,x5,x6,x7,x8,x9,reduceCtorEq,↓reduceIte,List.getElem?_set,hlen,t4,t5,e3,e4,s1,hS.flat.1,hS.flat.2]
   exact fin hrobj hS hO
  | false =>
  rw [hcl,if_neg Bool.false_ne_true] at hrobj
  simp only [sxZ,z6,z7,z8,j4,j5,j6,j7,j8,j9,x4,x5,x6,x7,x8,x9,reduceCtorEq,↓reduceIte,List.getElem?_set,hlen]
  refine zbR (fun tm => tm.length=98 ∧ tm[0]? = some (.p p 0) ∧ tm[1]? = some (.i .i64 (d:Int)) ∧ tm[4]? = some (.p qr 0) ∧ tm[5]? = some (.p qv 0) ∧ tm[6]? = some (.p qt 0)) ?_ ?_
  ·simp only [sxZ,z6,z7,z8,j4,j5,j6,j7,j8,j9,x4,x5,x6,x7,x8,x9,reduceCtorEq,↓reduceIte,List.length_set,List.getElem?_set,hlen,t0,t1,t4,t5,t6,and_self]
  clear hlen t0 t1 t4 t5 t6 e1 e2 e3 e4 s1 s2 s3
  rintro tm ⟨hlen,t0,t1,t4,t5,t6⟩
  subst hZ
  refine zaa fun Z hZ => ?_
  refine zaw (fun o tm => zav ((p,zaJ s (zaC ρ6 T6 44)) :: (qt,zaU T6) :: (qv,jvB 7 X' Y') :: (qr,zvB) :: (R1' ++ (R2' ++ L))) o ∧ tm.length=98 ∧ tm[0]? = some (.p p 0) ∧ tm[1]? = some (.i .i64 (d:Int)) ∧ tm[4]? = some (.p qr 0) ∧ tm[5]? = some (.p qv 0) ∧ tm[6]? = some (.p qt 0)) ?_ ?_
  ·obtain ⟨e1,e2,e3,e4,s1,s2,s3⟩:=st _ _ _ _ _ _ _ hO
   refine zaa fun W hW => ?_
   by_cases c3:ρ6.fail=0
   rotate_left
   ·have hw:zaC ρ6 T6 44=ρ6:=by unfold zaC; rw [if_neg (fun h => c3 h.1)]
    simp only [sxZ,z6,z7,z8,j4,j5,j6,j7,j8,j9,x4,x5,x6,x7,x8,x9,reduceCtorEq,↓reduceIte,List.getElem?_set,hlen,t0,e1,c3]
    subst hW
    simp only [sxZ,z6,z7,z8,j4,j5,j6,j7,j8,j9,x4,x5,x6,x7,x8,x9,reduceCtorEq,↓reduceIte,zab,List.length_set,List.getElem?_set,hlen,t0,t1,t4,t5,t6,hw,and_self,and_true]
    exact hO
   ·simp only [sxZ,z6,z7,z8,j4,j5,j6,j7,j8,j9,x4,x5,x6,x7,x8,x9,reduceCtorEq,↓reduceIte,List.getElem?_set,hlen,t0,t6,e1,e2,c3]
    refine zam (zft T6 44 ?_)
    cases h44:isP T6 44 with
    | true =>
     have hw:zaC ρ6 T6 44=ρ6:=by unfold zaC; rw [if_neg (fun h => by rw [h44] at h; cases h.2)]
     simp only [sxZ,z6,z7,z8,j4,j5,j6,j7,j8,j9,x4,x5,x6,x7,x8,x9,reduceCtorEq,↓reduceIte,List.getElem?_set,hlen]
     subst hW
     simp only [sxZ,z6,z7,z8,j4,j5,j6,j7,j8,j9,x4,x5,x6,x7,x8,x9,reduceCtorEq,↓reduceIte,zab,List.length_set,List.getElem?_set,hlen,t0,t1,t4,t5,t6,hw,and_self,and_true]
     exact hO
    | false =>
     have hw:zaC ρ6 T6 44=zax ρ6 T6.2.2 140:=by unfold zaC; rw [if_pos ⟨c3,h44⟩]
     simp only [sxZ,z6,z7,z8,j4,j5,j6,j7,j8,j9,x4,x5,x6,x7,x8,x9,reduceCtorEq,↓reduceIte,List.getElem?_set,hlen]
     subst hW
     simp only [sxZ,z6,z7,z8,j4,j5,j6,j7,j8,j9,x4,x5,x6,x7,x8,x9,reduceCtorEq,↓reduceIte,List.getElem?_set,hlen,t0,t6,e2]
     refine zam (zce hO T6.2.2 140 fun o8 hO8 => ?_)
     simp only [sxZ,z6,z7,z8,j4,j5,j6,j7,j8,j9,x4,x5,x6,x7,x8,x9,reduceCtorEq,↓reduceIte,zab,List.length_set,List.getElem?_set,hlen,t0,t1,t4,t5,t6,hw,and_self,and_true]
     exact hO8
  clear hO hlen t0 t1 t4 t5 t6
  rintro oc tm ⟨hO,hlen,t0,t1,t4,t5,t6⟩
  have hG7:=zeC hB_ρ6.1 T6 44
  have hn7:=zes ρ6 T6 44
  have hz7:=za2 ρ6 T6 44
  generalize zaC ρ6 T6 44=ρ7 at hO hG7 hn7 hz7 hrobj
  subst hZ
  simp only [sxZ,z6,z7,z8,j4,j5,j6,j7,j8,j9,x4,x5,x6,x7,x8,x9,reduceCtorEq,↓reduceIte,List.getElem?_set,hlen,t0]
  refine zam (zcy (by omega) hO fun o9 hO9 => ?_)
  have hB8:=zbh hG7
  have hT8:=zbE hG7
  have hn8:=za9 s ρ7
  have hz8:=zal s ρ7
  generalize zac s ρ7=N at hO9 hB8 hT8 hn8 hz8 hrobj ⊢
  obtain ⟨T8,ρ8⟩:=N
  simp only at hO9 hB8 hT8 hn8 hz8 hrobj ⊢
  obtain ⟨e1,e2,e3,e4,s1,s2,s3⟩:=st _ _ _ _ _ _ _ hO9
  unfold zhP tkC
  simp only [sxZ,z6,z7,z8,j4,j5,j6,j7,j8,j9,x4,x5,x6,x7,x8,x9,reduceCtorEq,↓reduceIte,List.getElem?_set,hlen,t6,e2,s2]
  rw [f1]
  have hO10:zav ((p,zaJ s ρ8) :: (qt,zaU T8) :: (qv,jvB 7 X' Y') :: (qr,zvB) :: (R1' ++ (R2' ++ L))) (o9.set qt (zaU (T8.1,T8.2.1,T8.2.2))):=zav.set (A:=[(p,zaJ s ρ8)]) (zaU T8) hO9
  generalize o9.set qt (zaU (T8.1,T8.2.1,T8.2.2))=o10 at hO10 ⊢
  have zz:∀ {a b:Rs},zf5 a b → b.fail=0 → a.fail=0:=fun {a b} h hb => by
   by_cases c:a.fail=0
   ·exact c
   ·exact absurd ((h c).1.symm.trans hb) c
  refine ⟨m,by omega,i + 1,ρ8,T8,ks ++ [T'.2.1],its ++ [v],X',R1',Y',R2',by omega,by rw [List.length_append,hi]; rfl,by rw [List.length_append,hi2]; rfl,hrobj,hB8.1,hT8,fun hf => ?_,hS,hO10,?_⟩
  ·have q7:=zz hz8 hf
   have q6:=zz hz7 q7
   have q5:=zz hz_ρ6 q6
   have q4:=zz hz5 q5
   have:=hn5 q5
   have:=hnd c1
   omega
  ·simp only [sxZ,z6,z7,z8,j4,j5,j6,j7,j8,j9,x4,x5,x6,x7,x8,x9,reduceCtorEq,↓reduceIte,List.length_set,List.getElem?_set,hlen,t0,t1,t4,t5,t6,and_self]
end
end
end Go.Proofs.YtadhjoggdbhkgaaGreatDoor
namespace Go.Proofs.YtadhjoggdbhkgaaGreatDoor
open Go.RowKit Sx
section
attribute [local irreducible] run
mutual
/-- with its keys in order -/
def zaY:JV → JV
 | .mk k t ks its => if k=6 then .mk k t [] (zbB its) else .mk k t (zcl ks.length ks) ((zcl ks.length ks).map fun key => ((zbB its)[zdY key ks]?).getD jvZ)
def zbB:List JV → List JV
 | [] => []
 | v :: l => zaY v :: zbB l
end
theorem ordJ_eq (v:JV):zaY v=if v.kind=6 then .mk v.kind v.text [] (zbB v.items) else .mk v.kind v.text (zcl v.keys.length v.keys) ((zcl v.keys.length v.keys).map fun key => ((zbB v.items)[zdY key v.keys]?).getD jvZ):=by cases v; rw [zaY]; rfl
theorem ze5:∀ l:List JV,(zbB l).length=l.length
 | [] => by rw [zbB]
 | v :: l => by rw [zbB,List.length_cons,ze5 l,List.length_cons]
theorem zc1:∀ {l:List JV} {i:Nat} (hi:i < l.length),(zbB l)[i]? = some (zaY l[i])
 | a :: l,0,hi => by rw [zbB]; rfl
 | a :: l,i + 1,hi => by rw [zbB]; simpa using zc1 (l:=l) (i:=i) (by simpa using hi)
def bvB (v:JV):OB:=.box 25 [.i .i64 v.kind,.s v.text,.row v.keys.length (v.keys.map .s),.row v.items.length (zad v.items)]
def oB (v:JV) (X Y:AV):OB:=.box 25 [.i .i64 v.kind,.s v.text,X,Y]
section
variable [Tabs Tryz.prog]
end
end
end Go.Proofs.YtadhjoggdbhkgaaGreatDoor
namespace Go.Proofs.YtadhjoggdbhkgaaGreatDoor
open Go.RowKit Sx
end Go.Proofs.YtadhjoggdbhkgaaGreatDoor
namespace Go.Proofs.YtadhjoggdbhkgaaGreatDoor
open Go.RowKit Sx
section
attribute [local irreducible] run
def zfG:List UInt8:=[110,117,108,108]
mutual
/-- the text of a value -/
def wrJ:JV → List UInt8
 | .mk k t ks its => if k=1 then zfG else if k=2 then zcR else if k=3 then zen else if k=4 then t else if k=5 then (zfz t).2 else if k=7 then 123 :: (wrI true true ks its ++ [125]) else 91 :: (wrI false true ks its ++ [93])
/-- .. of its members: objects', the first one -/
def wrI:Bool → Bool → List (List UInt8) → List JV → List UInt8
 | _,_,_,[] => []
 | o,f,ks,v :: l => (if f=true then [] else [44]) ++ ((if o=true then (zfz (ks.head?.getD [])).2 ++ [58] else []) ++ (wrJ v ++ wrI o false ks.tail l))
end
theorem wrJ_eq (v:JV):wrJ v=if v.kind=1 then zfG else if v.kind=2 then zcR else if v.kind=3 then zen else if v.kind=4 then v.text else if v.kind=5 then (zfz v.text).2 else if v.kind=7 then 123 :: (wrI true true v.keys v.items ++ [125]) else 91 :: (wrI false true v.keys v.items ++ [93]):=by cases v; rw [wrJ]; rfl
theorem zkl (s:List UInt8):(zfz s).2.length ≤ 6 * s.length + 2:=by
 unfold zfz
 split
 ·exact Nat.zero_le _
 split
 ·exact Nat.zero_le _
 ·show (zdX s).length ≤ _
  unfold zdX
  have:=zkm s
  rw [List.length_cons,List.length_append,List.length_cons,List.length_nil]; omega
mutual
/-- objects have as many keys as items, wherever -/
def WfW:JV → Prop
 | .mk k t ks its => (k=7 → ks.length=its.length) ∧ zmf its
def zmf:List JV → Prop
 | [] => True
 | v :: l => WfW v ∧ zmf l
end
theorem zmt:∀ {l:List JV} (h:zmf l) {i:Nat} (hi:i < l.length),WfW l[i]
 | a :: l,h,0,hi => by rw [zmf] at h; exact h.1
 | a :: l,h,i + 1,hi => by rw [zmf] at h; exact zmt h.2 (by simpa using hi)
theorem WfW.its {v:JV} (h:WfW v) {i:Nat} (hi:i < v.items.length):WfW v.items[i]:=by
 cases v with
 | mk k t ks its => rw [WfW] at h; exact zmt h.2 hi
theorem WfW.len {v:JV} (h:WfW v):v.kind=7 → v.keys.length=v.items.length:=by
 cases v with
 | mk k t ks its => rw [WfW] at h; exact h.1
section
variable {P:Program} [Tabs P] {C:Cx}
theorem kAs_slo {E n:Nat} {xs:List AV} {l:List UInt8} {X:AV} {R A B:List (Nat × OB)} {o:List OB} {d:Option Nat} {r:List SO} {k:List IT} {tm:List AV} {F:zaN}
  (hS:SlO E 1 n xs X R) (hO:zav (A ++ (R ++ B)) o) (c:n + l.length ≤ 140737488355328)
  (next:∀ X' R' o',SlO E 1 (n + l.length) (xs ++ byA l) X' R' → zav (A ++ (R' ++ B)) o' → run P C (.ops r :: k) o' (zaq tm d X') F):kAs P C X (.s l) E d r k o tm F:=by
 rcases hS with ⟨rfl,rfl,rfl,rfl⟩ | ⟨b,g,rfl,rfl⟩
 ·rw [kAs_n]
  rw [Nat.zero_add] at c
  refine ⟨c,next _ [(o.length,.orow E 1 0 l.length (byA l))] _ (.inr ⟨_,_,rfl,by rw [Nat.zero_add]; rfl⟩) ?_⟩
  exact (hO.new _).perm (List.perm_middle.symm)
 ·rw [kAs_o,hO.get (i:=b) (x:=.orow E 1 g n xs) (by simp),zor]
  exact ⟨c,next _ [(b,.orow E 1 (g + 1) (n + l.length) (xs ++ byA l))] _ (.inr ⟨_,_,rfl,rfl⟩) (hO.set _)⟩
theorem slo_app {E n:Nat} {a b:List UInt8} {X:AV} {R:List (Nat × OB)} (h:SlO E 1 (a.length + n) (byA a ++ byA b) X R) (hn:b.length=n):SlO E 1 (a ++ b).length (byA (a ++ b)) X R:=by
 rw [List.length_append,zmb,hn]; exact h
end
section
variable [Tabs Tryz.prog]
end
end
end Go.Proofs.YtadhjoggdbhkgaaGreatDoor
namespace Go.Proofs.YtadhjoggdbhkgaaGreatDoor
open Go.RowKit Sx
section
attribute [local irreducible] run
def zjz (c:UInt8):Bool:=zb1 c [44,93,125,58,91,123,32,9,10,13,34]
def Dl (r:List UInt8):Prop:=∀ c,r[0]? = some c → zjz c=true
theorem dl_all:∀ n:Fin 256,zjz (UInt8.ofNat n.val)=true → zai (UInt8.ofNat n.val)=false ∧ zdi (UInt8.ofNat n.val)=false:=by decide +kernel
theorem dl_no {c:UInt8} (h:zjz c=true):zai c=false ∧ zdi c=false:=by
 have h3:=dl_all ⟨c.toNat,c.toNat_lt⟩
 simp only [UInt8.ofNat_toNat] at h3
 exact h3 h
theorem dl_nil:Dl []:=fun c h => by cases h
theorem zeD {c:UInt8} {r:List UInt8} (h:zjz c=true):Dl (c :: r):=fun d hd => by
 simp only [List.getElem?_cons_zero,Option.some.injEq] at hd
 rw [← hd]; exact h
theorem dl_run {r:List UInt8} (h:Dl r):zaW r=0:=by
 cases r with
 | nil => rfl
 | cons c t => unfold zaW; rw [if_neg (by rw [(dl_no (h c rfl)).1]; exact Bool.false_ne_true)]
theorem dl_word {r:List UInt8} (h:Dl r):zbb r=0:=by
 cases r with
 | nil => rfl
 | cons c t => unfold zbb; rw [if_neg (by rw [(dl_no (h c rfl)).2]; exact Bool.false_ne_true)]
theorem zmW {r:List UInt8} (h:Dl r):∀ x:List UInt8,zaW (x ++ r)=zaW x
 | [] => dl_run h
 | c :: t => by
  rw [List.cons_append]
  unfold zaW
  rw [zmW h t]
theorem zfQ {x r:List UInt8} (h:Dl r) {t:Nat} (ht:t ≤ x.length) {c:UInt8} (hc:zjz c=false):((x ++ r)[t]? = some c)=(x[t]? = some c):=by
 by_cases h1:t < x.length
 ·rw [List.getElem?_append_left h1]
 ·obtain rfl:t=x.length:=by omega
  rw [List.getElem?_append_right (Nat.le_refl _),Nat.sub_self,List.getElem?_eq_none (Nat.le_refl _)]
  refine propext ⟨fun h2 => ?_,fun h2 => by cases h2⟩
  rw [h c h2] at hc
  cases hc
theorem zho {x r:List UInt8} (h:Dl r) {t:Nat} (ht:t ≤ x.length):zaW ((x ++ r).drop t)=zaW (x.drop t):=by
 rw [List.drop_append_of_le_length ht,zmW h]
theorem zj3 (x:List UInt8):za8 x ≤ x.length:=by
 unfold za8
 split
 ·rename_i h; exact (List.getElem?_eq_some_iff.1 h).1
 ·exact Nat.zero_le _
theorem zjU (x:List UInt8):zaF x ≤ x.length:=by
 unfold zaF
 split
 ·rename_i h; exact (List.getElem?_eq_some_iff.1 h).1
 ·have h1:=zdL (x.drop (za8 x))
  have h2:=zj3 x
  rw [List.length_drop] at h1
  omega
theorem frac_le (x:List UInt8) {t:Nat} (ht:t ≤ x.length):zbJ x t ≤ x.length:=by
 unfold zbJ
 split
 ·rename_i h; exact zaV x _ h.2
 ·exact ht
theorem zkA {x r:List UInt8} (h:Dl r):zcU (x ++ r)=zcU x:=by
 have e1:za8 (x ++ r)=za8 x:=by
  unfold za8
  simp only [zfQ h (Nat.zero_le _) (show zjz 45=false from rfl)]
 have e2:zaF (x ++ r)=zaF x:=by
  unfold zaF
  rw [e1]
  simp only [zfQ h (zj3 x) (show zjz 48=false from rfl),zho h (zj3 x)]
 have e3:∀ t,t ≤ x.length → zbJ (x ++ r) t=zbJ x t:=by
  intro t ht
  unfold zbJ
  simp only [zfQ h ht (show zjz 46=false from rfl)]
  by_cases h1:x[t]? = some 46
  ·have h2:=(List.getElem?_eq_some_iff.1 h1).1
   rw [zho h (by omega)]
  ·rw [if_neg (fun k => h1 k.1),if_neg (fun k => h1 k.1)]
 have e4:∀ t,t ≤ x.length → zjC (x ++ r) t=zjC x t:=by
  intro t ht
  unfold zjC
  simp only [zfQ h ht (show zjz 101=false from rfl),zfQ h ht (show zjz 69=false from rfl)]
  by_cases h1:x[t]? = some 101 ∨ x[t]? = some 69
  ·have h2:t < x.length:=by rcases h1 with h1 | h1 <;> exact (List.getElem?_eq_some_iff.1 h1).1
   have e5:zaZ (x ++ r) t=zaZ x t:=by
    unfold zaZ
    simp only [zfQ h (show t + 1 ≤ x.length by omega) (show zjz 43=false from rfl),zfQ h (show t + 1 ≤ x.length by omega) (show zjz 45=false from rfl)]
   have e6:zaZ x t ≤ x.length:=by
    unfold zaZ
    split
    ·rename_i h3
     rcases h3 with h3 | h3
     ·have:=(List.getElem?_eq_some_iff.1 h3).1; omega
     ·have:=(List.getElem?_eq_some_iff.1 h3).1; omega
    ·omega
   rw [e5,zho h e6]
  ·rw [if_neg (fun k => h1 k.1),if_neg (fun k => h1 k.1)]
 unfold zcU
 rw [e1,e2,zho h (zj3 x),e3 _ (zjU x),e4 _ (frac_le x (zjU x))]
def ziW (k:Int) (x b m:List UInt8):Prop:=zaO (b ++ m)=(0,k,x,b.length) ∧ ∃ c t,b=c :: t ∧ zb0 c=false
theorem zmB {c:UInt8} (m:List UInt8) (h:zb1 c [123,125,91,93,58,44]=true) (hw:zb0 c=false):ziW 2 [c] [c] m:=by
 refine ⟨?_,c,[],rfl,hw⟩
 show zaO (c :: m)=_
 rw [zaO,if_pos h]; rfl
theorem zmA {s:List UInt8} (m:List UInt8) (hv:zay s=true):ziW 3 s (zdX s) m:=by
 refine ⟨?_,34,_,rfl,rfl⟩
 have hl:s.length ≤ (s.flatMap zcf).length:=by
  clear hv
  induction s with
  | nil => simp
  | cons c t ih =>
   have:=quo_len c
   rw [List.flatMap_cons,List.length_append,List.length_cons]; omega
 have hq:=quo_back m s.length s [] ((s.flatMap zcf ++ 34 :: m).length + 1) 0 (Nat.le_refl _) (of_decide_eq_true hv) (by rw [List.length_append]; omega)
 have e:zdX s ++ m=34 :: (s.flatMap zcf ++ 34 :: m):=by simp [zdX]
 rw [e,read_quo hq,if_neg (by simp)]
 simp [zdX]
theorem tok_word {x:List UInt8} {m:List UInt8} (hx:x=zfG ∨ x=zcR ∨ x=zen) (hd:Dl m):ziW 5 x x m:=by
 have hw:=dl_word hd
 rcases hx with rfl | rfl | rfl
 ·refine ⟨?_,_,_,rfl,rfl⟩
  have e:zbb (zfG ++ m)=4:=by
   show zbb (110 :: 117 :: 108 :: 108 :: m)=4
   simp only [zbb,hw]; rfl
  show zaO (110 :: 117 :: 108 :: 108 :: m)=_
  have e:zbb (110 :: 117 :: 108 :: 108 :: m)=4:=e
  rw [zaO,if_neg (by decide),if_neg (by decide),if_neg (by decide),e]
  simp [zfG]
 ·refine ⟨?_,_,_,rfl,rfl⟩
  have e:zbb (102 :: 97 :: 108 :: 115 :: 101 :: m)=5:=by
   simp only [zbb,hw]; rfl
  show zaO (102 :: 97 :: 108 :: 115 :: 101 :: m)=_
  rw [zaO,if_neg (by decide),if_neg (by decide),if_neg (by decide),e]
  simp [zcR]
 ·refine ⟨?_,_,_,rfl,rfl⟩
  have e:zbb (116 :: 114 :: 117 :: 101 :: m)=4:=by
   simp only [zbb,hw]; rfl
  show zaO (116 :: 114 :: 117 :: 101 :: m)=_
  rw [zaO,if_neg (by decide),if_neg (by decide),if_neg (by decide),e]
  simp [zen]
theorem zky {x:List UInt8} (h:(za4 x).1=0):zcU x=x.length ∧ ∃ c t,x=c :: t ∧ (c=45 ∨ zai c=true):=by
 unfold za4 at h
 by_cases h1:x=[] ∨ ¬ zcU x=x.length
 ·rw [if_pos h1] at h; cases h
 ·have h2:zcU x=x.length:=Classical.not_not.1 (fun k => h1 (.inr k))
  have h3:¬ x=[]:=fun k => h1 (.inl k)
  refine ⟨h2,?_⟩
  cases x with
  | nil => exact absurd rfl h3
  | cons c t =>
   refine ⟨c,t,rfl,?_⟩
   by_cases h4:c=45
   ·exact .inl h4
   ·right
    have h5:¬ zaW ((c :: t).drop (za8 (c :: t)))=0:=fun k => by
     unfold zcU at h2; rw [if_pos k] at h2; simp at h2
    have h6:za8 (c :: t)=0:=by
     unfold za8; rw [if_neg (by simpa using h4)]
    rw [h6,List.drop_zero,zaW] at h5
    by_cases h7:zai c=true
    ·exact h7
    ·rw [if_neg h7] at h5; exact absurd rfl h5
theorem num_byte:∀ n:Fin 256,(UInt8.ofNat n.val=45 ∨ zai (UInt8.ofNat n.val)=true) → zb1 (UInt8.ofNat n.val) [123,125,91,93,58,44]=false ∧ UInt8.ofNat n.val ≠ 34 ∧ zb0 (UInt8.ofNat n.val)=false:=by decide +kernel
theorem tok_num {x:List UInt8} {m:List UInt8} (h:(za4 x).1=0) (hd:Dl m):ziW 4 x x m:=by
 obtain ⟨h1,c,t,rfl,hc⟩:=zky h
 have h2:=zkA (x:=c :: t) hd
 have h3:=num_byte ⟨c.toNat,c.toNat_lt⟩
 simp only [UInt8.ofNat_toNat] at h3
 obtain ⟨b1,b2,b3⟩:=h3 hc
 refine ⟨?_,c,t,rfl,b3⟩
 rw [h1] at h2
 rw [List.cons_append] at h2 ⊢
 rw [zaO,if_neg (by rw [b1]; exact Bool.false_ne_true),if_neg b2,if_pos hc,h2,if_neg (by simp)]
 have:(c :: (t ++ m)).take (c :: t).length=c :: t:=by rw [← List.cons_append,List.take_left]
 rw [this]
def zcx (w:List UInt8):Prop:=∀ c ∈ w,zb0 c=true
theorem zhJ:∀ {w:List UInt8} (h:zcx w) {c:UInt8} {t:List UInt8},zb0 c=false → zaX (w ++ c :: t)=w.length
 | [],_,c,t,hc => by show zaX (c :: t)=0; rw [zaX,if_neg (by rw [hc]; exact Bool.false_ne_true)]
 | d :: w,h,c,t,hc => by
  rw [List.cons_append,zaX,if_pos (h d (by simp)),zhJ (fun x hx => h x (by simp [hx])) hc,List.length_cons]
theorem zhK:∀ {w:List UInt8} (h:zcx w),zaX w=w.length
 | [],_ => rfl
 | d :: w,h => by rw [zaX,if_pos (h d (by simp)),zhK (fun x hx => h x (by simp [hx])),List.length_cons]
theorem next_spl {s:List UInt8} {a:Nat} {w b m x:List UInt8} {k:Int} (ha:a ≤ s.length) (hs:s.drop a=w ++ (b ++ m)) (hw:zcx w) (h:ziW k x b m) :
  zaB s (a:Int)=((k,x,((a + w.length:Nat):Int)),((a + w.length + b.length:Nat):Int),0):=by
 obtain ⟨h1,c,t,rfl,hc⟩:=h
 unfold zaB
 rw [if_neg (by omega)]
 simp only [Int.toNat_natCast]
 have e:zaX (s.drop a)=w.length:=by rw [hs]; exact zhJ hw hc
 rw [e,← List.drop_drop,hs,List.drop_left,h1]
 simp
theorem next_end {s:List UInt8} {a:Nat} (ha:a ≤ s.length) (hw:zcx (s.drop a)):zaB s (a:Int)=((1,[],(s.length:Int)),(s.length:Int),0):=by
 unfold zaB
 rw [if_neg (by omega)]
 simp only [Int.toNat_natCast]
 rw [zhK hw,List.length_drop,show a + (s.length - a)=s.length by omega,List.drop_length]
 simp [zaO]
def Spl:List (Int × List UInt8) → List UInt8 → List UInt8 → Prop
 | [],l,r => l=r
 | (k,x) :: ts,l,r => ∃ w b m,l=w ++ (b ++ m) ∧ zcx w ∧ ziW k x b m ∧ Spl ts m r
theorem zmL:∀ {a b:List (Int × List UInt8)} {l m r:List UInt8},Spl a l m → Spl b m r → Spl (a ++ b) l r
 | [],b,l,m,r,h,k => by rw [show l=m from h]; exact k
 | (k,x) :: a,b,l,m,r,h,k' => by
  obtain ⟨w,c,n,h1,h2,h3,h4⟩:=h
  exact ⟨w,c,n,h1,h2,h3,zmL h4 k'⟩
theorem zmJ {t:Int × List UInt8} {ts:List (Int × List UInt8)} {l r w:List UInt8} (hw:zcx w) (h:Spl (t :: ts) l r):Spl (t :: ts) (w ++ l) r:=by
 obtain ⟨k,x⟩:=t
 obtain ⟨w',b,m,rfl,h2,h3,h4⟩:=h
 exact ⟨w ++ w',b,m,by rw [List.append_assoc],fun c hc => (List.mem_append.1 hc).elim (hw c) (h2 c),h3,h4⟩
theorem spl_one {k:Int} {x b m:List UInt8} (h:ziW k x b m):Spl [(k,x)] (b ++ m) m:=⟨[],b,m,rfl,(fun c hc => by cases hc),h,rfl⟩
def zcZ:Ms → List (Int × List UInt8) → Option Ms
 | σ,[] => some σ
 | σ,(k,x) :: ts => if σ.st=7 ∨ ¬ (zaA σ (k,x,0)).1=0 then none else zcZ (zaA σ (k,x,0)).2 ts
theorem zjX (σ:Ms) (k p:Int) (x:List UInt8):zaA σ (k,x,p)=zaA σ (k,x,0):=rfl
theorem zbe {σ σ':Ms} {k:Int} {x:List UInt8} {ts:List (Int × List UInt8)} (h7:¬ σ.st=7) (h:zaA σ (k,x,0)=(0,σ')):zcZ σ ((k,x) :: ts)=zcZ σ' ts:=by
 rw [zcZ,h,if_neg (fun k => k.elim h7 (fun k => k rfl))]
theorem mrun (s:List UInt8):∀ (ts:List (Int × List UInt8)) (σ σ':Ms) (a:Nat) (r:List UInt8),a ≤ s.length → Spl ts (s.drop a) r → zcZ σ ts=some σ' → ∃ b:Nat,b ≤ s.length ∧ s.drop b=r ∧ ∀ R,MRes s b σ' R → MRes s a σ R
 | [],σ,σ',a,r,ha,h,hr => by
  rw [zcZ] at hr
  cases hr
  exact ⟨a,ha,h,fun R h => h⟩
 | (k,x) :: ts,σ,σ',a,r,ha,h,hr => by
  obtain ⟨w,b,m,h1,h2,h3,h4⟩:=h
  have hn:=next_spl ha h1 h2 h3
  rw [zcZ] at hr
  by_cases hc:σ.st=7 ∨ ¬ (zaA σ (k,x,0)).1=0
  ·rw [if_pos hc] at hr; cases hr
  rw [if_neg hc] at hr
  have hl:=congrArg List.length h1
  rw [List.length_drop,List.length_append,List.length_append] at hl
  have hd:s.drop (a + w.length + b.length)=m:=by
   rw [Nat.add_assoc,← List.drop_drop,h1,← List.append_assoc,← List.length_append,List.drop_left]
  obtain ⟨q,q1,q2,q3⟩:=mrun s ts _ σ' (a + w.length + b.length) r (by omega) (by rw [hd]; exact h4) hr
  refine ⟨q,q1,q2,fun R hR => ?_⟩
  have h5:=q3 R hR
  have h7:¬ σ.st=7:=fun k => hc (.inl k)
  have h0:(zaA σ (k,x,0)).1=0:=Classical.not_not.1 fun k => hc (.inr k)
  refine MRes.step h7 (by rw [hn]) (by rw [hn,zjX]; exact h0) ?_
  rw [hn,zjX]
  exact h5
theorem zl0 {s:List UInt8} {ts:List (Int × List UInt8)} {r:List UInt8} {n:Nat} {v:JV} (h:Spl ts s r) (hr:zcx r) (hm:zcZ ms0 ts=some ⟨6,[],n,v⟩):MRes s 0 ms0 (v,(s.length:Int),0):=by
 obtain ⟨b,h1,h2,h3⟩:=mrun s ts ms0 _ 0 r (Nat.zero_le _) h hm
 refine h3 _ ?_
 have hn:=next_end h1 (by rw [h2]; exact hr)
 have ht:zaA ⟨6,[],n,v⟩ (1,[],(s.length:Int))=(0,⟨7,[],n,v⟩):=by simp [zaA]
 refine MRes.step (by simp) (by rw [hn]) (by rw [hn,ht]) ?_
 rw [hn,ht]
 exact MRes.fin rfl
end
end Go.Proofs.YtadhjoggdbhkgaaGreatDoor
namespace Go.Proofs.YtadhjoggdbhkgaaGreatDoor
open Go.RowKit Sx
section
attribute [local irreducible] run
mutual
/-- a value that is written and read, d deep -/
def RdJ:JV → Nat → Prop
 | .mk k t ks its,d =>
  ((k=1 ∨ k=2 ∨ k=3) ∧ t=[] ∧ ks=[] ∧ its=[]) ∨ (k=4 ∧ za4 t=(0,t) ∧ ks=[] ∧ its=[]) ∨ (k=5 ∧ (zay t=true ∧ t.length ≤ 1048576) ∧ ks=[] ∧ its=[]) ∨
  (k=6 ∧ t=[] ∧ ks=[] ∧ d < 64 ∧ RdL its (d + 1)) ∨ (k=7 ∧ t=[] ∧ ks.length=its.length ∧ ks.Nodup ∧ (∀ x ∈ ks,zay x=true ∧ x.length ≤ 1048576) ∧ d < 64 ∧ RdL its (d + 1))
def RdL:List JV → Nat → Prop
 | [],_ => True
 | v :: l,d => RdJ v d ∧ RdL l d
end
theorem zc0:∀ {l:List JV} {d:Nat},RdL l d ↔ ∀ x ∈ l,RdJ x d
 | [],d => by rw [RdL]; simp
 | v :: l,d => by rw [RdL,zc0 (l:=l)]; simp
mutual
/-- the tokens of a value -/
def zhO:JV → List (Int × List UInt8)
 | .mk k t ks its => if k=1 then [(5,zfG)] else if k=2 then [(5,zcR)] else if k=3 then [(5,zen)] else if k=4 then [(4,t)] else if k=5 then [(3,t)] else if k=7 then (2,[123]) :: (zel true true ks its ++ [(2,[125])]) else (2,[91]) :: (zel false true ks its ++ [(2,[93])])
def zel:Bool → Bool → List (List UInt8) → List JV → List (Int × List UInt8)
 | _,_,_,[] => []
 | o,f,ks,v :: l => (if f=true then [] else [(2,[44])]) ++ ((if o=true then [(3,ks.head?.getD []),(2,[58])] else []) ++ (zhO v ++ zel o false ks.tail l))
end
theorem zpu {st:Int} (h:st=1 ∨ st=5) (its:List JV) (S:List Fr) (n:Nat) (r:JV):zaA ⟨st,⟨false,[],its⟩ :: S,n,r⟩ (2,[93],0)=(0,zdV ⟨st,S,n,r⟩ (.mk 6 [] [] its)):=by
 rcases h with rfl | rfl <;> simp [zaA,onM,zgu,isP,zej,Fr.val]
theorem zpt {st:Int} (h:st=3 ∨ st=5) (ks:List (List UInt8)) (its:List JV) (S:List Fr) (n:Nat) (r:JV):zaA ⟨st,⟨true,ks,its⟩ :: S,n,r⟩ (2,[125],0)=(0,zdV ⟨st,S,n,r⟩ (.mk 7 [] ks its)):=by
 rcases h with rfl | rfl <;> simp [zaA,onM,zgu,isP,zej,Fr.val]
theorem zcF {σ:Ms} {t:Tk} (hst:σ.st=0 ∨ σ.st=1) (h1:isP t 93=false) (h2:isP t 125=false):zaA σ t=zcw σ t:=by
 unfold zaA
 rcases hst with h | h
 ·rw [if_pos h]
 ·rw [if_neg (by omega),if_pos h]
  have:zgu σ t=false:=by
   unfold zgu
   cases σ.stk with
   | nil => rfl
   | cons f r =>
    show isP t (if f.obj=true then 125 else 93)=false
    split <;> assumption
  rw [this,if_neg Bool.false_ne_true]
theorem zeG {σ:Ms} {t:Tk} {k:Int} {x:List UInt8} (hv:vkE t=k) (h0:k ≠ 0) (h6:k ≠ 6) (h7:k ≠ 7) (hx:zmy t=(0,x)) (hn:σ.nodes + 1 ≤ 20000):zcw σ t=(0,zdV ⟨σ.st,σ.stk,σ.nodes + 1,σ.root⟩ (.mk k x [] [])):=by
 unfold zcw
 rw [hv,hx,if_neg h0,if_neg (by omega),if_neg (by simp),if_neg (by omega)]
theorem zgG {σ:Ms} {t:Tk} {k:Int} (o:Bool) (hv:vkE t=k) (hk:k=if o=true then 7 else 6) (hd:σ.stk.length < 64) (hn:σ.nodes + 1 ≤ 20000):zcw σ t=(0,zcz σ o):=by
 unfold zcw
 have:decide (vkE t=7)=o:=by rw [hv,hk]; cases o <;> simp
 rw [this,hv,if_neg (by rw [hk]; cases o <;> simp),if_pos (by rw [hk]; cases o <;> simp),if_neg (by omega),if_neg (by omega)]
mutual
theorem zjc:∀ (v:JV) (d:Nat),RdJ v d → ∀ (σ:Ms) (ts:List (Int × List UInt8)),(σ.st=0 ∨ σ.st=1) → σ.stk.length=d → σ.nodes + v.size ≤ 20000 → zcZ σ (zhO v ++ ts)=zcZ (zdV ⟨σ.st,σ.stk,σ.nodes + v.size,σ.root⟩ v) ts
 | .mk k t ks its,d,h,σ,ts,hst,hd,hn => by
  have ha:=zmV its (d + 1)
  have ho:=zmS its (d + 1)
  rw [RdJ] at h
  have h7:¬ σ.st=7:=by omega
  have hsz:JV.size (.mk k t ks its)=JV.sizes its + 1:=size_eq _
  rw [hsz] at hn ⊢
  rw [zhO]
  rcases h with ⟨hk,rfl,rfl,rfl⟩ | ⟨rfl,hx,rfl,rfl⟩ | ⟨rfl,_,rfl,rfl⟩ | ⟨rfl,rfl,rfl,hd2,hl⟩ | ⟨rfl,rfl,hlen,hnd,_,hd2,hl⟩
  ·have hz:JV.sizes [] + 1=1:=by rw [JV.sizes]
   rw [hz] at hn ⊢
   have key:∀ x:List UInt8,vkE (5,x,0)=k → k ≠ 0 → k ≠ 6 → k ≠ 7 → zcZ σ ([(5,x)] ++ ts)=zcZ (zdV ⟨σ.st,σ.stk,σ.nodes + 1,σ.root⟩ (.mk k [] [] [])) ts:=by
    intro x hv h0 h6 h7'
    refine zbe h7 ?_
    rw [zcF hst (by simp [isP]) (by simp [isP])]
    exact zeG hv h0 h6 h7' (by unfold zmy; rw [hv,if_neg (by omega),if_neg (by omega)]) hn
   rcases hk with rfl | rfl | rfl
   ·exact key zfG rfl (by decide) (by decide) (by decide)
   ·exact key zcR rfl (by decide) (by decide) (by decide)
   ·exact key zen rfl (by decide) (by decide) (by decide)
  ·have hz:JV.sizes [] + 1=1:=by rw [JV.sizes]
   rw [hz] at hn ⊢
   have hv:vkE (4,t,0)=4:=by simp [vkE]
   show zcZ σ ((4,t) :: ts)=_
   refine zbe h7 ?_
   rw [zcF hst (by simp [isP]) (by simp [isP])]
   exact zeG hv (by decide) (by decide) (by decide) (by unfold zmy; rw [if_pos hv,hx]) hn
  ·have hz:JV.sizes [] + 1=1:=by rw [JV.sizes]
   rw [hz] at hn ⊢
   have hv:vkE (3,t,0)=5:=by simp [vkE]
   show zcZ σ ((3,t) :: ts)=_
   refine zbe h7 ?_
   rw [zcF hst (by simp [isP]) (by simp [isP])]
   exact zeG hv (by decide) (by decide) (by decide) (by unfold zmy; rw [if_neg (by rw [hv]; decide),if_pos hv]) hn
  ·show zcZ σ ((2,[91]) :: ((zel false true [] its ++ [(2,[93])]) ++ ts))=_
   rw [List.append_assoc]
   rw [zbe h7 ((zcF hst rfl rfl).trans (zgG (k:=6) false rfl rfl (by omega) (by omega)))]
   have h1:=ha hl true 1 σ.stk (σ.nodes + 1) σ.root [] [] ([(2,[93])] ++ ts) rfl (by omega) (by omega)
   show zcZ ⟨1,⟨false,[],[]⟩ :: σ.stk,σ.nodes + 1,σ.root⟩ _=_
   rw [h1,List.nil_append]
   have hs:(if its.isEmpty=true then (1:Int) else 5)=1 ∨ (if its.isEmpty=true then (1:Int) else 5)=5:=by
    split
    ·exact .inl rfl
    ·exact .inr rfl
   generalize (if its.isEmpty=true then (1:Int) else 5)=st at hs
   show zcZ _ ((2,[93]) :: ts)=_
   rw [zbe (by show ¬ st=7; omega) (zpu hs its _ _ _),zbT st σ.st,show σ.nodes + 1 + JV.sizes its=σ.nodes + (JV.sizes its + 1) by omega]
  ·show zcZ σ ((2,[123]) :: ((zel true true ks its ++ [(2,[125])]) ++ ts))=_
   rw [List.append_assoc]
   rw [zbe h7 ((zcF hst rfl rfl).trans (zgG (k:=7) true rfl rfl (by omega) (by omega)))]
   have h1:=ho hl true 3 σ.stk (σ.nodes + 1) σ.root ks [] [] ([(2,[125])] ++ ts) rfl hlen (by rw [List.nil_append]; exact hnd) (by omega) (by omega)
   show zcZ ⟨3,⟨true,[],[]⟩ :: σ.stk,σ.nodes + 1,σ.root⟩ _=_
   rw [h1,List.nil_append,List.nil_append]
   have hs:(if its.isEmpty=true then (3:Int) else 5)=3 ∨ (if its.isEmpty=true then (3:Int) else 5)=5:=by
    split
    ·exact .inl rfl
    ·exact .inr rfl
   generalize (if its.isEmpty=true then (3:Int) else 5)=st at hs
   show zcZ _ ((2,[125]) :: ts)=_
   rw [zbe (by show ¬ st=7; omega) (zpt hs ks its _ _ _),zbT st σ.st,show σ.nodes + 1 + JV.sizes its=σ.nodes + (JV.sizes its + 1) by omega]
theorem zmV:∀ (l:List JV) (d:Nat),RdL l d → ∀ (f:Bool) (st:Int) (S:List Fr) (n:Nat) (r:JV) (ks:List (List UInt8)) (its0:List JV) (ts:List (Int × List UInt8)),(st=if f=true then 1 else 5) → S.length + 1=d → n + JV.sizes l ≤ 20000 →
  zcZ ⟨st,⟨false,[],its0⟩ :: S,n,r⟩ (zel false f ks l ++ ts)=zcZ ⟨if l.isEmpty=true then st else 5,⟨false,[],its0 ++ l⟩ :: S,n + JV.sizes l,r⟩ ts
 | [],d,h,f,st,S,n,r,ks,its0,ts,hst,hd,hn => by
  rw [zel,JV.sizes,List.append_nil]; rfl
 | v :: l,d,h,f,st,S,n,r,ks,its0,ts,hst,hd,hn => by
  rw [RdL] at h
  rw [JV.sizes] at hn ⊢
  have hv:=zjc v d h.1
  have hl:=fun ts => zmV l d h.2 false 5 S (n + v.size) r ks.tail (its0 ++ [v]) ts rfl hd (by omega)
  have e5:(if l.isEmpty=true then (5:Int) else 5)=5:=by split <;> rfl
  have rest:∀ st',(st'=0 ∨ st'=1) → zcZ ⟨st',⟨false,[],its0⟩ :: S,n,r⟩ (zhO v ++ (zel false false ks.tail l ++ ts))=zcZ ⟨5,⟨false,[],its0 ++ v :: l⟩ :: S,n + (v.size + JV.sizes l),r⟩ ts:=by
   intro st' h'
   rw [hv ⟨st',⟨false,[],its0⟩ :: S,n,r⟩ _ h' (by show S.length + 1=d; omega) (by show n + v.size ≤ 20000; omega)]
   show zcZ ⟨5,⟨false,[],its0 ++ [v]⟩ :: S,n + v.size,r⟩ _=_
   rw [hl,e5,List.append_assoc,Nat.add_assoc]
   rfl
  rw [zel]
  show zcZ _ (_ ++ ([] ++ (zhO v ++ zel false false ks.tail l)) ++ ts)=zcZ ⟨5,_,_,_⟩ ts
  rw [List.nil_append]
  cases f with
  | true =>
   rw [if_pos rfl] at hst
   subst hst
   show zcZ _ ([] ++ (zhO v ++ zel false false ks.tail l) ++ ts)=_
   rw [List.nil_append,List.append_assoc]
   exact rest 1 (.inr rfl)
  | false =>
   rw [if_neg Bool.false_ne_true] at hst
   subst hst
   show zcZ _ ((2,[44]) :: ((zhO v ++ zel false false ks.tail l) ++ ts))=_
   rw [List.append_assoc,zbe (σ':=⟨0,⟨false,[],its0⟩ :: S,n,r⟩) (by show ¬ (5:Int)=7; decide) (by simp [zaA,onM,zgu,isP])]
   exact rest 0 (.inl rfl)
theorem zmS:∀ (l:List JV) (d:Nat),RdL l d → ∀ (f:Bool) (st:Int) (S:List Fr) (n:Nat) (r:JV) (ks ks0:List (List UInt8)) (its0:List JV) (ts:List (Int × List UInt8)),(st=if f=true then 3 else 5) → ks.length=l.length → (ks0 ++ ks).Nodup → S.length + 1=d → n + JV.sizes l ≤ 20000 →
  zcZ ⟨st,⟨true,ks0,its0⟩ :: S,n,r⟩ (zel true f ks l ++ ts)=zcZ ⟨if l.isEmpty=true then st else 5,⟨true,ks0 ++ ks,its0 ++ l⟩ :: S,n + JV.sizes l,r⟩ ts
 | [],d,h,f,st,S,n,r,ks,ks0,its0,ts,hst,hlen,hnd,hd,hn => by
  have:ks=[]:=List.eq_nil_of_length_eq_zero hlen
  subst this
  rw [zel,JV.sizes,List.append_nil,List.append_nil]; rfl
 | v :: l,d,h,f,st,S,n,r,[],ks0,its0,ts,hst,hlen,hnd,hd,hn => by cases hlen
 | v :: l,d,h,f,st,S,n,r,key :: ks,ks0,its0,ts,hst,hlen,hnd,hd,hn => by
  rw [RdL] at h
  rw [JV.sizes] at hn ⊢
  have hv:=zjc v d h.1
  have hnd2:((ks0 ++ [key]) ++ ks).Nodup:=by rw [List.append_assoc]; exact hnd
  have hl:=fun ts => zmS l d h.2 false 5 S (n + v.size) r ks (ks0 ++ [key]) (its0 ++ [v]) ts rfl (by simpa using hlen) hnd2 hd (by omega)
  have e5:(if l.isEmpty=true then (5:Int) else 5)=5:=by split <;> rfl
  have hmem:¬ key ∈ ks0:=fun hm => (List.nodup_append.1 hnd).2.2 key hm key (by simp) rfl
  have rest:∀ st',(st'=2 ∨ st'=3) → zcZ ⟨st',⟨true,ks0,its0⟩ :: S,n,r⟩ ((3,key) :: (2,[58]) :: (zhO v ++ (zel true false ks l ++ ts)))=zcZ ⟨5,⟨true,ks0 ++ key :: ks,its0 ++ v :: l⟩ :: S,n + (v.size + JV.sizes l),r⟩ ts:=by
   intro st' h'
   rw [zbe (σ':=⟨4,⟨true,ks0 ++ [key],its0⟩ :: S,n,r⟩) (by show ¬ st'=7; omega) (by rcases h' with rfl | rfl <;> simp [zaA,keyM,zgu,isP,hmem])]
   rw [zbe (σ':=⟨0,⟨true,ks0 ++ [key],its0⟩ :: S,n,r⟩) (by show ¬ (4:Int)=7; decide) (by simp [zaA,isP])]
   rw [hv ⟨0,⟨true,ks0 ++ [key],its0⟩ :: S,n,r⟩ _ (.inl rfl) (by show S.length + 1=d; omega) (by show n + v.size ≤ 20000; omega)]
   show zcZ ⟨5,⟨true,ks0 ++ [key],its0 ++ [v]⟩ :: S,n + v.size,r⟩ _=_
   rw [hl,e5,List.append_assoc,List.append_assoc,Nat.add_assoc]
   rfl
  rw [zel]
  show zcZ _ (_ ++ ([(3,key),(2,[58])] ++ (zhO v ++ zel true false ks l)) ++ ts)=zcZ ⟨5,_,_,_⟩ ts
  cases f with
  | true =>
   rw [if_pos rfl] at hst
   subst hst
   show zcZ _ ((3,key) :: (2,[58]) :: ((zhO v ++ zel true false ks l) ++ ts))=_
   rw [List.append_assoc]
   exact rest 3 (.inr rfl)
  | false =>
   rw [if_neg Bool.false_ne_true] at hst
   subst hst
   show zcZ _ ((2,[44]) :: (3,key) :: (2,[58]) :: ((zhO v ++ zel true false ks l) ++ ts))=_
   rw [List.append_assoc,zbe (σ':=⟨2,⟨true,ks0,its0⟩ :: S,n,r⟩) (by show ¬ (5:Int)=7; decide) (by simp [zaA,onM,zgu,isP])]
   exact rest 2 (.inl rfl)
end
end
end Go.Proofs.YtadhjoggdbhkgaaGreatDoor
namespace Go.Proofs.YtadhjoggdbhkgaaGreatDoor
open Go.RowKit Sx
section
attribute [local irreducible] run
def puL:List UInt8:=[44,58,91,93,123,125]
def whL:List UInt8:=[32,9,13,10]
def kSp (sp:List UInt8) (i:Nat):Nat:=(sp[i % sp.length]?.getD 0).toNat
def preS (k:Nat):List UInt8:=if k % 2=1 then [whL[k / 2 % 4]?.getD 0] else []
def zlW (k:Nat):List UInt8:=if k / 8 % 2=1 then [whL[k / 16 % 4]?.getD 0] else []
def zbw (sp:List UInt8):List UInt8 → Bool → Nat → List UInt8
 | [],_,_ => []
 | c :: t,ins,i =>
  if ins=true ∧ c=92 then (match t with
   | [] => [c]
   | d :: t' => c :: d :: zbw sp t' true (i + 2))
  else preS (if ins=false ∧ zb1 c puL=true then kSp sp i else 0) ++ (c :: (zlW (if ins=false ∧ zb1 c puL=true then kSp sp i else 0) ++ zbw sp t (if c=34 then !ins else ins) (i + 1)))
theorem wh_all:∀ n:Fin 4,zb0 (whL[n.val]?.getD 0)=true:=by decide +kernel
theorem zik (k:Nat):zcx (preS k):=by
 intro c hc
 unfold preS at hc
 split at hc
 ·rw [List.mem_singleton] at hc
  rw [hc]
  exact wh_all ⟨k / 2 % 4,by omega⟩
 ·cases hc
theorem zlV (k:Nat):zcx (zlW k):=by
 intro c hc
 unfold zlW at hc
 split at hc
 ·rw [List.mem_singleton] at hc
  rw [hc]
  exact wh_all ⟨k / 16 % 4,by omega⟩
 ·cases hc
theorem zbU {sp:List UInt8} {c:UInt8} {t:List UInt8} {ins:Bool} {i:Nat} (h:¬ (ins=true ∧ c=92)):zbw sp (c :: t) ins i=preS (if ins=false ∧ zb1 c puL=true then kSp sp i else 0) ++ (c :: (zlW (if ins=false ∧ zb1 c puL=true then kSp sp i else 0) ++ zbw sp t (if c=34 then !ins else ins) (i + 1))):=by
 rw [zbw.eq_def]; exact if_neg h
theorem zcn {sp:List UInt8} {d:UInt8} {t:List UInt8} {i:Nat}:zbw sp (92 :: d :: t) true i=92 :: d :: zbw sp t true (i + 2):=by
 rw [zbw.eq_def]; exact if_pos ⟨rfl,rfl⟩
theorem zlG {sp:List UInt8} {c:UInt8} {t:List UInt8} {i:Nat} (h:zb1 c puL=false) (h34:c ≠ 34):zbw sp (c :: t) false i=c :: zbw sp t false (i + 1):=by
 rw [zbU (by simp),if_neg (by rw [h]; simp),if_neg h34]; rfl
theorem zcG {sp:List UInt8} {c:UInt8} {t:List UInt8} {i:Nat} (h92:c ≠ 92) (h34:c ≠ 34):zbw sp (c :: t) true i=c :: zbw sp t true (i + 1):=by
 rw [zbU (by simp [h92]),if_neg (by simp),if_neg h34]; rfl
theorem sprd_in {sp:List UInt8} {t:List UInt8} {i:Nat}:zbw sp (34 :: t) false i=34 :: zbw sp t true (i + 1):=by
 rw [zbU (by simp),if_neg (by decide),if_pos rfl]; rfl
theorem sprd_out {sp:List UInt8} {t:List UInt8} {i:Nat}:zbw sp (34 :: t) true i=34 :: zbw sp t false (i + 1):=by
 rw [zbU (by decide),if_neg (by decide),if_pos rfl]; rfl
theorem sprd_pu {sp:List UInt8} {c:UInt8} {t:List UInt8} {i:Nat} (h:zb1 c puL=true) (h34:c ≠ 34):zbw sp (c :: t) false i=preS (kSp sp i) ++ (c :: (zlW (kSp sp i) ++ zbw sp t false (i + 1))):=by
 rw [zbU (by simp),if_pos ⟨rfl,h⟩,if_neg h34]
theorem zk0:∀ n:Fin 16,zfK n.val ≠ 34 ∧ zfK n.val ≠ 92:=by decide +kernel
theorem zmH (sp:List UInt8) (c:UInt8) (r:List UInt8) (i:Nat):zbw sp (zcf c ++ r) true i=zcf c ++ zbw sp r true (i + (zcf c).length):=by
 unfold zcf
 by_cases c1:c=34 ∨ c=92
 ·rw [if_pos c1]; exact zcn
 rw [if_neg c1]
 by_cases c2:c=8
 ·rw [if_pos c2]; exact zcn
 rw [if_neg c2]
 by_cases c3:c=12
 ·rw [if_pos c3]; exact zcn
 rw [if_neg c3]
 by_cases c4:c=10
 ·rw [if_pos c4]; exact zcn
 rw [if_neg c4]
 by_cases c5:c=13
 ·rw [if_pos c5]; exact zcn
 rw [if_neg c5]
 by_cases c6:c=9
 ·rw [if_pos c6]; exact zcn
 rw [if_neg c6]
 by_cases c7:c.toNat < 32
 ·rw [if_pos c7]
  have h1:=zk0 ⟨c.toNat / 16,by omega⟩
  have h2:=zk0 ⟨c.toNat % 16,by omega⟩
  simp only at h1 h2
  generalize zfK (c.toNat / 16)=a at *
  generalize zfK (c.toNat % 16)=b at *
  show zbw sp (92 :: 117 :: 48 :: 48 :: a :: b :: r) true i=92 :: 117 :: 48 :: 48 :: a :: b :: zbw sp r true (i + 6)
  rw [zcn,zcG (by decide) (by decide),zcG (by decide) (by decide),zcG h1.2 h1.1,zcG h2.2 h2.1]
 ·rw [if_neg c7]
  exact zcG (fun h => c1 (.inr h)) (fun h => c1 (.inl h))
theorem zhV (sp:List UInt8):∀ (s r:List UInt8) (i:Nat),zbw sp (s.flatMap zcf ++ r) true i=s.flatMap zcf ++ zbw sp r true (i + (s.flatMap zcf).length)
 | [],r,i => by simp
 | c :: s,r,i => by
  rw [List.flatMap_cons,List.append_assoc,zmH,zhV sp s,List.append_assoc,List.length_append,Nat.add_assoc]
theorem zj1 (sp s r:List UInt8) (i:Nat):zbw sp (zdX s ++ r) false i=zdX s ++ zbw sp r false (i + (zdX s).length):=by
 have e:zdX s ++ r=34 :: (s.flatMap zcf ++ 34 :: r):=by simp [zdX]
 rw [e,sprd_in,zhV,sprd_out]
 have e2:i + (zdX s).length=i + 1 + (s.flatMap zcf).length + 1:=by simp [zdX]; omega
 rw [e2]
 simp [zdX]
def Calm (x:List UInt8):Prop:=∀ c ∈ x,zb1 c puL=false ∧ c ≠ 34
theorem zfn (sp:List UInt8):∀ (x:List UInt8),Calm x → ∀ (r:List UInt8) (i:Nat),zbw sp (x ++ r) false i=x ++ zbw sp r false (i + x.length)
 | [],_,r,i => by simp
 | c :: x,h,r,i => by
  have h1:=h c (by simp)
  rw [List.cons_append,zlG h1.1 h1.2,zfn sp x (fun d hd => h d (by simp [hd])),List.length_cons,List.cons_append,show i + 1 + x.length=i + (x.length + 1) by omega]
theorem dl_pu:∀ n:Fin 256,(zb1 (UInt8.ofNat n.val) puL=true ∨ UInt8.ofNat n.val=34) → zjz (UInt8.ofNat n.val)=true:=by decide +kernel
theorem num_calm {x:List UInt8} (h:(za4 x).1=0):Calm x:=by
 obtain ⟨h1,_⟩:=zky h
 intro c hc
 have h3:=dl_pu ⟨c.toNat,c.toNat_lt⟩
 simp only [UInt8.ofNat_toNat] at h3
 have key:¬ zjz c=true:=by
  intro hd
  obtain ⟨a,b,rfl⟩:=List.append_of_mem hc
  have h4:=zkA (x:=a) (zeD (r:=b) hd)
  rw [h1] at h4
  have h5:=zg9 a
  rw [List.length_append,List.length_cons] at h4
  omega
 refine ⟨?_,fun e => key (h3 (.inr e))⟩
 cases h6:zb1 c puL with
 | false => rfl
 | true => exact absurd (h3 (.inl h6)) key
theorem zd5:∀ (l:List UInt8) (ins:Bool) (i:Nat),zbw [] l ins i=l
 | [],ins,i => by rw [zbw]
 | [c],ins,i => by
  by_cases h:ins=true ∧ c=92
  ·rw [zbw.eq_def]; exact if_pos h
  ·have k0:kSp [] i=0:=rfl
   rw [zbU h,k0,zd5,ite_self]; rfl
 | c :: d :: t,ins,i => by
  by_cases h:ins=true ∧ c=92
  ·obtain ⟨rfl,rfl⟩:=h
   rw [zcn,zd5]
  ·have k0:kSp [] i=0:=rfl
   rw [zbU h,k0,zd5,ite_self]; rfl
def zdE (ts:List (Int × List UInt8)) (l r:List UInt8):Prop:=∃ w,zcx w ∧ Spl ts l (w ++ r)
theorem zms {a b:List UInt8} (ha:zcx a) (hb:zcx b):zcx (a ++ b):=fun c hc => (List.mem_append.1 hc).elim (ha c) (hb c)
theorem zhI:zcx []:=fun c hc => by cases hc
theorem zdE.app {a b:List (Int × List UInt8)} {l m r:List UInt8} (h:zdE a l m) (k:zdE b m r):zdE (a ++ b) l r:=by
 obtain ⟨w,hw,h1⟩:=h
 obtain ⟨w',hw',h2⟩:=k
 cases b with
 | nil =>
  rw [show m=w' ++ r from h2,← List.append_assoc] at h1
  exact ⟨w ++ w',zms hw hw',by rw [List.append_nil]; exact h1⟩
 | cons t b => exact ⟨w',hw',zmL h1 (zmJ hw h2)⟩
theorem zdE.none (r:List UInt8):zdE [] r r:=⟨[],zhI,rfl⟩
theorem zdE.tok {k:Int} {x b r:List UInt8} (h:ziW k x b r):zdE [(k,x)] (b ++ r) r:=⟨[],zhI,spl_one h⟩
theorem zdE.pu {c:UInt8} (sp t:List UInt8) (i:Nat) (h:zb1 c puL=true) (h2:zb1 c [123,125,91,93,58,44]=true) (h34:c ≠ 34) (hw:zb0 c=false):zdE [(2,[c])] (zbw sp (c :: t) false i) (zbw sp t false (i + 1)):=by
 rw [sprd_pu h h34]
 refine ⟨zlW (kSp sp i),zlV _,?_⟩
 exact ⟨preS (kSp sp i),[c],_,rfl,zik _,zmB _ h2 hw,rfl⟩
theorem white_dl:∀ n:Fin 256,zb0 (UInt8.ofNat n.val)=true → zjz (UInt8.ofNat n.val)=true:=by decide +kernel
theorem zmI {sp r:List UInt8} {i:Nat} (h:Dl r):Dl (zbw sp r false i):=by
 cases r with
 | nil => rw [zbw]; exact dl_nil
 | cons c t =>
  have hc:=h c rfl
  rw [zbU (by simp)]
  generalize (if false=false ∧ zb1 c puL=true then kSp sp i else 0)=k
  have hw:=zik k
  cases hp:preS k with
  | nil => exact zeD hc
  | cons d u =>
   have h1:=hw d (by rw [hp]; simp)
   have h3:=white_dl ⟨d.toNat,d.toNat_lt⟩
   simp only [UInt8.ofNat_toNat] at h3
   exact zeD (h3 h1)
theorem dl_items (o:Bool) (ks:List (List UInt8)) (l:List JV) {r:List UInt8} (h:Dl r):Dl (wrI o false ks l ++ r):=by
 cases l with
 | nil => rw [wrI]; exact h
 | cons v l => rw [wrI]; exact zeD rfl
theorem zny {s:List UInt8} (h:zay s=true ∧ s.length ≤ 1048576):(zfz s).2=zdX s:=by
 unfold zfz
 rw [if_neg (by omega),if_neg (by rw [h.1]; simp)]
mutual
theorem zmK (sp:List UInt8):∀ (v:JV) (d:Nat),RdJ v d → ∀ (r:List UInt8) (i:Nat),Dl r → zdE (zhO v) (zbw sp (wrJ v ++ r) false i) (zbw sp r false (i + (wrJ v).length))
 | .mk k t ks its,d,h,r,i,hr => by
  have hi:=fun o (hl:RdL its (d + 1)) (hk:o=true → ks.length=its.length ∧ ∀ x ∈ ks,zay x=true ∧ x.length ≤ 1048576) => zhW sp its (d + 1) hl o true ks hk
  rw [RdJ] at h
  rw [zhO,wrJ]
  have word:∀ x,x=zfG ∨ x=zcR ∨ x=zen → zdE [(5,x)] (zbw sp (x ++ r) false i) (zbw sp r false (i + x.length)):=by
   intro x hx
   have hc:Calm x:=by
    rcases hx with rfl | rfl | rfl
    ·exact of_decide_eq_true (p:=∀ c ∈ zfG,zb1 c puL=false ∧ c ≠ 34) (by decide)
    ·exact of_decide_eq_true (p:=∀ c ∈ zcR,zb1 c puL=false ∧ c ≠ 34) (by decide)
    ·exact of_decide_eq_true (p:=∀ c ∈ zen,zb1 c puL=false ∧ c ≠ 34) (by decide)
   rw [zfn sp x hc]
   exact zdE.tok (tok_word hx (zmI hr))
  rcases h with ⟨hk,rfl,rfl,rfl⟩ | ⟨rfl,hx,rfl,rfl⟩ | ⟨rfl,hx,rfl,rfl⟩ | ⟨rfl,rfl,rfl,hd2,hl⟩ | ⟨rfl,rfl,hlen,hnd,hv,hd2,hl⟩
  ·rcases hk with rfl | rfl | rfl
   ·exact word _ (.inl rfl)
   ·exact word _ (.inr (.inl rfl))
   ·exact word _ (.inr (.inr rfl))
  ·show zdE [(4,t)] (zbw sp (t ++ r) false i) (zbw sp r false (i + t.length))
   have hx:(za4 t).1=0:=by rw [hx]
   rw [zfn sp t (num_calm hx)]
   exact zdE.tok (tok_num hx (zmI hr))
  ·show zdE [(3,t)] (zbw sp ((zfz t).2 ++ r) false i) (zbw sp r false (i + ((zfz t).2).length))
   rw [zny hx,zj1]
   exact zdE.tok (zmA _ hx.1)
  ·have h1:=hi false hl (fun h => by cases h)
   show zdE ([(2,[91])] ++ (zel false true [] its ++ [(2,[93])])) (zbw sp (91 :: ((wrI false true [] its ++ [93]) ++ r)) false i) (zbw sp r false (i + (91 :: (wrI false true [] its ++ [93])).length))
   rw [List.append_assoc]
   refine (zdE.pu sp _ i rfl rfl (by decide) rfl).app ((h1 ([93] ++ r) (i + 1) (zeD rfl)).app ?_)
   have h2:=zdE.pu sp r (i + 1 + (wrI false true [] its).length) (c:=93) rfl rfl (by decide) rfl
   rw [show i + 1 + (wrI false true [] its).length + 1=i + (91 :: (wrI false true [] its ++ [93])).length by rw [List.length_cons,List.length_append]; simp only [List.length_cons,List.length_nil]; omega] at h2
   exact h2
  ·have h1:=hi true hl (fun h => ⟨hlen,hv⟩)
   show zdE ([(2,[123])] ++ (zel true true ks its ++ [(2,[125])])) (zbw sp (123 :: ((wrI true true ks its ++ [125]) ++ r)) false i) (zbw sp r false (i + (123 :: (wrI true true ks its ++ [125])).length))
   rw [List.append_assoc]
   refine (zdE.pu sp _ i rfl rfl (by decide) rfl).app ((h1 ([125] ++ r) (i + 1) (zeD rfl)).app ?_)
   have h2:=zdE.pu sp r (i + 1 + (wrI true true ks its).length) (c:=125) rfl rfl (by decide) rfl
   rw [show i + 1 + (wrI true true ks its).length + 1=i + (123 :: (wrI true true ks its ++ [125])).length by rw [List.length_cons,List.length_append]; simp only [List.length_cons,List.length_nil]; omega] at h2
   exact h2
theorem zhW (sp:List UInt8):∀ (l:List JV) (d:Nat),RdL l d → ∀ (o f:Bool) (ks:List (List UInt8)),(o=true → ks.length=l.length ∧ ∀ x ∈ ks,zay x=true ∧ x.length ≤ 1048576) → ∀ (r:List UInt8) (i:Nat),Dl r → zdE (zel o f ks l) (zbw sp (wrI o f ks l ++ r) false i) (zbw sp r false (i + (wrI o f ks l).length))
 | [],d,h,o,f,ks,hk,r,i,hr => by
  rw [zel,wrI]
  exact zdE.none _
 | v :: l,d,h,o,f,ks,hk,r,i,hr => by
  rw [RdL] at h
  rw [zel,wrI]
  have h1:=zmK sp v d h.1
  have h2:=zhW sp l d h.2 o false ks.tail (fun ho => by
   obtain ⟨k1,k2⟩:=hk ho
   refine ⟨by rw [List.length_tail,k1,List.length_cons]; rfl,fun x hx => k2 x (List.mem_of_mem_tail hx)⟩)
  have rest:∀ j,zdE (zhO v ++ zel o false ks.tail l) (zbw sp ((wrJ v ++ wrI o false ks.tail l) ++ r) false j) (zbw sp r false (j + (wrJ v ++ wrI o false ks.tail l).length)):=by
   intro j
   rw [List.append_assoc,List.length_append,← Nat.add_assoc]
   exact (h1 _ j (dl_items o ks.tail l hr)).app (h2 r _ hr)
  have keys:∀ j,zdE ((if o=true then [(3,ks.head?.getD []),(2,[58])] else []) ++ (zhO v ++ zel o false ks.tail l)) (zbw sp (((if o=true then (zfz (ks.head?.getD [])).2 ++ [58] else []) ++ (wrJ v ++ wrI o false ks.tail l)) ++ r) false j) (zbw sp r false (j + ((if o=true then (zfz (ks.head?.getD [])).2 ++ [58] else []) ++ (wrJ v ++ wrI o false ks.tail l)).length)):=by
   intro j
   cases o with
   | false => exact rest j
   | true =>
    obtain ⟨k1,k2⟩:=hk rfl
    cases ks with
    | nil => cases k1
    | cons key ks =>
     have hx:=k2 key (by simp)
     show zdE ([(3,key)] ++ ([(2,[58])] ++ (zhO v ++ zel true false ks l))) (zbw sp ((((zfz key).2 ++ [58]) ++ (wrJ v ++ wrI true false ks l)) ++ r) false j) (zbw sp r false (j + (((zfz key).2 ++ [58]) ++ (wrJ v ++ wrI true false ks l)).length))
     rw [zny hx,List.append_assoc,List.append_assoc,zj1]
     refine (zdE.tok (zmA _ hx.1)).app ((zdE.pu sp _ _ rfl rfl (by decide) rfl).app ?_)
     have h3:zdE (zhO v ++ zel true false ks l) (zbw sp ((wrJ v ++ wrI true false ks l) ++ r) false (j + (zdX key).length + 1)) (zbw sp r false (j + (zdX key).length + 1 + (wrJ v ++ wrI true false ks l).length)):=rest (j + (zdX key).length + 1)
     rw [show j + (zdX key).length + 1 + (wrJ v ++ wrI true false ks l).length=j + ((zdX key ++ [58]) ++ (wrJ v ++ wrI true false ks l)).length by simp only [List.length_append,List.length_cons,List.length_nil]; omega] at h3
     exact h3
  cases f with
  | true => exact keys i
  | false =>
   show zdE ([(2,[44])] ++ _) (zbw sp (44 :: (_ ++ r)) false i) _
   refine (zdE.pu sp _ i rfl rfl (by decide) rfl).app ?_
   have h3:=keys (i + 1)
   rw [Nat.add_right_comm] at h3
   exact h3
end
theorem zns (sp:List UInt8) {v:JV} (h:RdJ v 0) (hs:v.size ≤ 20000) (hl:(zbw sp (wrJ v) false 0).length ≤ 1048576):zbW (zbw sp (wrJ v) false 0)=(v,((zbw sp (wrJ v) false 0).length:Int),0):=by
 have h1:=zmK sp v 0 h [] 0 dl_nil
 rw [List.append_nil] at h1
 obtain ⟨w,hw,h2⟩:=h1
 have hm:=zjc v 0 h ms0 [] (.inl rfl) rfl (by show 0 + v.size ≤ 20000; omega)
 rw [List.append_nil,zcZ] at hm
 refine (parse_eq hl (zl0 h2 ?_ hm)).symm
 rw [zbw,List.append_nil]
 exact hw
end
end Go.Proofs.YtadhjoggdbhkgaaGreatDoor
namespace Go.Proofs.YtadhjoggdbhkgaaGreatDoor
open Go.RowKit Sx
section
attribute [local irreducible] run
theorem zhf:∀ (l:List JV) (d n:Int),0 ≤ n → 0 < zcm l d n → zcm l d n ≤ 20000 → ∀ x ∈ l,0 < zbZ x d ∧ zbZ x d ≤ 20000
 | [],d,n,h0,h1,h2,x,hx => by cases hx
 | v :: l,d,n,h0,h1,h2,x,hx => by
  rw [zcm] at h1 h2
  have hb:=zkX v d
  by_cases c1:zbZ v d=0
  ·rw [if_pos c1] at h1; omega
  rw [if_neg c1] at h1 h2
  by_cases c2:20000 < n + zbZ v d
  ·rw [if_pos c2] at h2; omega
  rw [if_neg c2] at h1 h2
  rcases List.mem_cons.1 hx with rfl | hx
  ·omega
  ·exact zhf l d _ (by omega) h1 h2 x hx
mutual
/-- a valid value -/
theorem rd_of:∀ (v:JV) (d:Nat),ze1 v=true → JKp v → 0 < zbZ v d → zbZ v d ≤ 20000 → RdJ v d
 | .mk k t ks its,d,hs,hk,h1,h2 => by
  obtain ⟨l1,l2,l3,l4⟩:=hk.lens
  have hi:=rdL_of its (d + 1)
  have hki:zhG its:=by rw [JKp] at hk; exact hk.2.2.2.2
  rw [zbZ] at h1 h2
  rw [ze1] at hs
  simp only [JV.text,JV.keys,JV.items] at l1 l2 l3 l4
  rw [RdJ]
  by_cases a1:k=1 ∨ k=3 ∨ k=2
  ·rw [if_pos a1] at hs
   simp only [Bool.and_eq_true,decide_eq_true_eq] at hs
   exact .inl ⟨by omega,hs.1,List.eq_nil_of_length_eq_zero hs.2.1,List.eq_nil_of_length_eq_zero hs.2.2⟩
  rw [if_neg a1] at hs
  by_cases a4:k=4
  ·rw [if_pos a4] at hs
   simp only [Bool.and_eq_true,decide_eq_true_eq] at hs
   exact .inr (.inl ⟨a4,Prod.ext hs.1 hs.2.1,List.eq_nil_of_length_eq_zero hs.2.2.1,List.eq_nil_of_length_eq_zero hs.2.2.2⟩)
  rw [if_neg a4] at hs
  by_cases a5:k=5
  ·rw [if_pos a5] at hs
   simp only [Bool.and_eq_true,decide_eq_true_eq] at hs
   exact .inr (.inr (.inl ⟨a5,⟨hs.1,by omega⟩,List.eq_nil_of_length_eq_zero hs.2.1,List.eq_nil_of_length_eq_zero hs.2.2⟩))
  rw [if_neg a5] at hs
  by_cases a6:k=6
  ·rw [if_pos a6] at hs
   simp only [Bool.and_eq_true,decide_eq_true_eq] at hs
   have hin:(if k=6 ∨ k=7 then (d:Int) + 1 else (d:Int))=(d:Int) + 1:=if_pos (.inl a6)
   rw [hin] at h1 h2
   by_cases c64:64 < (d:Int) + 1
   ·rw [if_pos c64] at h1; omega
   rw [if_neg c64] at h1 h2
   exact .inr (.inr (.inr (.inl ⟨a6,hs.1,List.eq_nil_of_length_eq_zero hs.2.1,by omega,hi hs.2.2 hki (fun x hx => zhf its _ 1 (by decide) h1 h2 x hx)⟩)))
  rw [if_neg a6] at hs
  by_cases a7:k=7
  ·rw [if_pos a7] at hs
   unfold zdl at hs
   simp only [Bool.and_eq_true,decide_eq_true_eq,List.all_eq_true] at hs
   have hin:(if k=6 ∨ k=7 then (d:Int) + 1 else (d:Int))=(d:Int) + 1:=if_pos (.inr a7)
   rw [hin] at h1 h2
   by_cases c64:64 < (d:Int) + 1
   ·rw [if_pos c64] at h1; omega
   rw [if_neg c64] at h1 h2
   exact .inr (.inr (.inr (.inr ⟨a7,hs.1,hs.2.1,hs.2.2.1.1,fun x hx => ⟨hs.2.2.1.2 x hx,by have:=l4 x hx; omega⟩,by omega,hi hs.2.2.2 hki (fun x hx => zhf its _ 1 (by decide) h1 h2 x hx)⟩)))
  rw [if_neg a7] at hs
  cases hs
theorem rdL_of:∀ (l:List JV) (d:Nat),zdv l=true → zhG l → (∀ x ∈ l,0 < zbZ x (d:Int) ∧ zbZ x (d:Int) ≤ 20000) → RdL l d
 | [],d,hs,hk,h => by rw [RdL]; trivial
 | v :: l,d,hs,hk,h => by
  rw [zdv,Bool.and_eq_true] at hs
  rw [zhG] at hk
  rw [RdL]
  have h0:=h v (by simp)
  exact ⟨rd_of v d hs.1 hk.1 h0.1 h0.2,rdL_of l d hs.2 hk.2 fun x hx => h x (by simp [hx])⟩
end
theorem rd_val {v:JV} (h:zeM v=true) (hk:JKp v):RdJ v 0:=by
 unfold zeM at h
 simp only [Bool.and_eq_true,decide_eq_true_eq] at h
 exact rd_of v 0 h.2 hk h.1.1 h.1.2
mutual
theorem zic:∀ (v:JV) (d:Nat),RdJ v d → ze1 v=true
 | .mk k t ks its,d,h => by
  have hi:=znu its (d + 1)
  rw [RdJ] at h
  rw [ze1]
  rcases h with ⟨hk,rfl,rfl,rfl⟩ | ⟨rfl,hx,rfl,rfl⟩ | ⟨rfl,hx,rfl,rfl⟩ | ⟨rfl,rfl,rfl,hd2,hl⟩ | ⟨rfl,rfl,hlen,hnd,hv,hd2,hl⟩
  ·rw [if_pos (by omega)]; rfl
  ·rw [if_neg (by decide),if_pos rfl,hx]; simp
  ·rw [if_neg (by decide),if_neg (by decide),if_pos rfl,hx.1]; rfl
  ·rw [if_neg (by decide),if_neg (by decide),if_neg (by decide),if_pos rfl,hi hl]; rfl
  ·rw [if_neg (by decide),if_neg (by decide),if_neg (by decide),if_neg (by decide),if_pos rfl,hi hl]
   unfold zdl
   have:ks.all zay=true:=List.all_eq_true.2 fun x hx => (hv x hx).1
   rw [this,decide_eq_true hnd,decide_eq_true hlen]; rfl
theorem znu:∀ (l:List JV) (d:Nat),RdL l d → zdv l=true
 | [],d,h => by rw [zdv]
 | v :: l,d,h => by rw [RdL] at h; rw [zdv,zic v d h.1,znu l d h.2]; rfl
end
mutual
theorem rd_wf:∀ (v:JV) (d:Nat),RdJ v d → WfW v
 | .mk k t ks its,d,h => by
  have hi:=rdL_wf its (d + 1)
  rw [RdJ] at h
  rw [WfW]
  rcases h with ⟨hk,rfl,rfl,rfl⟩ | ⟨rfl,hx,rfl,rfl⟩ | ⟨rfl,hx,rfl,rfl⟩ | ⟨rfl,rfl,rfl,hd2,hl⟩ | ⟨rfl,rfl,hlen,hnd,hv,hd2,hl⟩
  ·exact ⟨fun _ => rfl,by rw [zmf]; trivial⟩
  ·exact ⟨fun _ => rfl,by rw [zmf]; trivial⟩
  ·exact ⟨fun _ => rfl,by rw [zmf]; trivial⟩
  ·exact ⟨fun h => absurd h (by decide),hi hl⟩
  ·exact ⟨fun _ => hlen,hi hl⟩
theorem rdL_wf:∀ (l:List JV) (d:Nat),RdL l d → zmf l
 | [],d,h => by rw [zmf]; trivial
 | v :: l,d,h => by rw [RdL] at h; rw [zmf]; exact ⟨rd_wf v d h.1,rdL_wf l d h.2⟩
end
theorem ord_perm {ks:List (List UInt8)} {l:List JV} (hnd:ks.Nodup) (hlen:ks.length=l.length) (n:Nat):((zcl n ks).map fun key => (l[zdY key ks]?).getD jvZ).Perm l:=by
 have e:(ks.map fun key => (l[zdY key ks]?).getD jvZ)=l:=by
  apply List.ext_getElem (by rw [List.length_map,hlen])
  intro i h1 h2
  rw [List.getElem_map,zbG hnd,List.getElem?_eq_getElem h2]; rfl
 have:=(za1 n ks).map fun key => (l[zdY key ks]?).getD jvZ
 rw [e] at this
 exact this
theorem zlJ {a b:List JV} (h:a.Perm b):JV.sizes a=JV.sizes b:=by
 induction h with
 | nil => rfl
 | cons x h ih => rw [JV.sizes,JV.sizes,ih]
 | swap x y l => rw [JV.sizes,JV.sizes,JV.sizes,JV.sizes]; omega
 | trans h1 h2 i1 i2 => rw [i1,i2]
theorem zeb {v:JV} {d:Nat} (h:RdJ v d):(v.items=[] ∧ v.keys=[] ∧ zaY v=v ∧ v.kind ≠ 6 ∧ v.kind ≠ 7) ∨ (v.kind=6 ∧ v.keys=[] ∧ zaY v=.mk 6 v.text [] (zbB v.items)) ∨
  (v.kind=7 ∧ v.keys.length=v.items.length ∧ v.keys.Nodup ∧ ∃ S its,zaY v=.mk 7 v.text S its ∧ S=zcl v.keys.length v.keys ∧ its=(S.map fun key => ((zbB v.items)[zdY key v.keys]?).getD jvZ) ∧ S.Perm v.keys ∧ its.Perm (zbB v.items)):=by
 cases v with
 | mk k t ks its =>
  rw [RdJ] at h
  have z:∀ k:Int,k ≠ 6 → zaY (.mk k t [] [])=.mk k t [] []:=fun k hk => by
   rw [zaY,if_neg hk]; rfl
  rcases h with ⟨hk,rfl,rfl,rfl⟩ | ⟨rfl,hx,rfl,rfl⟩ | ⟨rfl,hx,rfl,rfl⟩ | ⟨rfl,rfl,rfl,hd2,hl⟩ | ⟨rfl,rfl,hlen,hnd,hv,hd2,hl⟩
  ·exact .inl ⟨rfl,rfl,z k (by omega),by show k ≠ 6; omega,by show k ≠ 7; omega⟩
  ·exact .inl ⟨rfl,rfl,z _ (by decide),by show (4:Int) ≠ 6; decide,by show (4:Int) ≠ 7; decide⟩
  ·exact .inl ⟨rfl,rfl,z _ (by decide),by show (5:Int) ≠ 6; decide,by show (5:Int) ≠ 7; decide⟩
  ·exact .inr (.inl ⟨rfl,rfl,by rw [zaY,if_pos rfl]; rfl⟩)
  ·refine .inr (.inr ⟨rfl,hlen,hnd,_,_,by rw [zaY,if_neg (by decide)]; rfl,rfl,rfl,za1 _ _,?_⟩)
   exact ord_perm hnd (by rw [ze5]; exact hlen) _
mutual
theorem zil:∀ (v:JV) (d:Nat),RdJ v d → RdJ (zaY v) d
 | .mk k t ks its,d,h => by
  have hi:=znO its (d + 1)
  have hc:=zeb h
  have h0:=h
  rw [RdJ] at h
  rcases hc with ⟨_,_,e,_⟩ | ⟨k6,_,e⟩ | ⟨k7,hlen,hnd,S,its',e,_,_,hS,hI⟩
  ·rw [e]; exact h0
  ·simp only [JV.kind,JV.text,JV.items] at k6 e
   rw [e,RdJ]
   rcases h with ⟨hk,_⟩ | ⟨h,_⟩ | ⟨h,_⟩ | ⟨_,rfl,rfl,hd2,hl⟩ | ⟨h,_⟩
   ·omega
   ·omega
   ·omega
   ·exact .inr (.inr (.inr (.inl ⟨rfl,rfl,rfl,hd2,hi hl⟩)))
   ·omega
  ·simp only [JV.kind,JV.text,JV.items,JV.keys] at k7 e hlen hnd hS hI
   rw [e,RdJ]
   rcases h with ⟨hk,_⟩ | ⟨h,_⟩ | ⟨h,_⟩ | ⟨h,_⟩ | ⟨_,rfl,_,_,hv,hd2,hl⟩
   ·omega
   ·omega
   ·omega
   ·omega
   ·have hl2:=hi hl
    rw [zc0] at hl2
    exact .inr (.inr (.inr (.inr ⟨rfl,rfl,by rw [hS.length_eq,hI.length_eq,ze5]; exact hlen,hS.nodup_iff.2 hnd,fun x hx => hv x (hS.mem_iff.1 hx),hd2,zc0.2 fun x hx => hl2 x (hI.mem_iff.1 hx)⟩)))
theorem znO:∀ (l:List JV) (d:Nat),RdL l d → RdL (zbB l) d
 | [],d,h => by rw [zbB,RdL]; trivial
 | v :: l,d,h => by rw [RdL] at h; rw [zbB,RdL]; exact ⟨zil v d h.1,znO l d h.2⟩
end
mutual
theorem zg4:∀ (v:JV) (d:Nat),RdJ v d → (zaY v).size=v.size
 | .mk k t ks its,d,h => by
  have hi:=zim its (d + 1)
  have hc:=zeb h
  rw [RdJ] at h
  have hl:RdL its (d + 1):=by
   rcases h with ⟨_,_,_,rfl⟩ | ⟨_,_,_,rfl⟩ | ⟨_,_,_,rfl⟩ | ⟨_,_,_,_,hl⟩ | ⟨_,_,_,_,_,_,hl⟩
   ·rw [RdL]; trivial
   ·rw [RdL]; trivial
   ·rw [RdL]; trivial
   ·exact hl
   ·exact hl
  have h1:=hi hl
  rcases hc with ⟨_,_,e,_⟩ | ⟨k6,_,e⟩ | ⟨k7,hlen,hnd,S,its',e,_,_,hS,hI⟩
  ·rw [e]
  ·rw [e,size_eq,size_eq]
   show JV.sizes (zbB its) + 1=_
   rw [h1]; rfl
  ·rw [e,size_eq,size_eq]
   show JV.sizes its' + 1=_
   rw [zlJ hI]
   show JV.sizes (zbB its) + 1=_
   rw [h1]; rfl
theorem zim:∀ (l:List JV) (d:Nat),RdL l d → JV.sizes (zbB l)=JV.sizes l
 | [],d,h => by rw [zbB]
 | v :: l,d,h => by rw [RdL] at h; rw [zbB,JV.sizes,JV.sizes,zg4 v d h.1,zim l d h.2]
end
theorem zjx:∀ (l:List JV) (w:JV) (ks:List (List UInt8)),(∀ (i:Nat) (h1:i < ks.length) (h2:i < l.length),(zdZ w ks[i]).2=true ∧ zeV l[i] (zdZ w ks[i]).1=true) → zhd ks l w=true
 | [],w,ks,_ => by rw [zhd]
 | v :: l,w,[],_ => by rw [zhd]
 | v :: l,w,k :: ks,hw => by
  have h0:=hw 0 (by simp) (by simp)
  simp only [List.getElem_cons_zero] at h0
  rw [zhd]
  simp only [h0]
  rw [zjx l w ks fun i h1 h2 => by
   have:=hw (i + 1) (by simpa using h1) (by simpa using h2)
   simpa only [List.getElem_cons_succ] using this]
  rfl
mutual
/-- in order or not: equal -/
theorem ord_eq:∀ (v:JV) (d:Nat),RdJ v d → zeV (zaY v) v=true
 | .mk k t ks its,d,h => by
  have hi:=znP its (d + 1)
  have hc:=zeb h
  have hs:=zic _ _ h
  rw [RdJ] at h
  have hl:RdL its (d + 1):=by
   rcases h with ⟨_,_,_,rfl⟩ | ⟨_,_,_,rfl⟩ | ⟨_,_,_,rfl⟩ | ⟨_,_,_,_,hl⟩ | ⟨_,_,_,_,_,_,hl⟩
   ·rw [RdL]; trivial
   ·rw [RdL]; trivial
   ·rw [RdL]; trivial
   ·exact hl
   ·exact hl
  have h1:=hi hl
  rcases hc with ⟨_,_,e,_⟩ | ⟨k6,_,e⟩ | ⟨k7,hlen,hnd,S,its',e,hS0,hI0,hS,hI⟩
  ·rw [e]; exact zee _ hs
  ·simp only [JV.kind,JV.text,JV.items] at k6 e
   rw [e,zhe,k6]
   show (decide ((6:Int)=6) && _)=true
   rw [if_neg (by show ¬ ((6:Int)=1 ∨ (6:Int)=2 ∨ (6:Int)=3); decide),if_neg (by show ¬ ((6:Int)=4 ∨ (6:Int)=5); decide),if_pos (show (JV.mk 6 t [] (zbB its)).kind=6 from rfl)]
   exact h1.1
  ·simp only [JV.kind,JV.text,JV.items,JV.keys] at k7 e hlen hnd hS hI hS0 hI0
   rw [e,zhe,k7]
   show (decide ((7:Int)=7) && _)=true
   rw [if_neg (by show ¬ ((7:Int)=1 ∨ (7:Int)=2 ∨ (7:Int)=3); decide),if_neg (by show ¬ ((7:Int)=4 ∨ (7:Int)=5); decide),if_neg (by show ¬ (7:Int)=6; decide),if_pos (show (JV.mk 7 t S its').kind=7 from rfl)]
   show (true && (decide (S.length=ks.length) && zhd S its' (.mk 7 t ks its)))=true
   rw [decide_eq_true hS.length_eq,Bool.true_and,Bool.true_and]
   refine zjx its' _ S fun i q1 q2 => ?_
   have hm:S[i] ∈ ks:=hS.mem_iff.1 (List.getElem_mem q1)
   obtain ⟨j,hj1,hj2⟩:=List.mem_iff_getElem.1 hm
   have hg:=zfL (v:=.mk 7 t ks its) rfl hlen hnd hj1
   have e2:its'[i]=zaY (its[j]'(by omega)):=by
    have:its'[i]? = some (zaY (its[j]'(by omega))):=by
     rw [hI0,List.getElem?_map,List.getElem?_eq_getElem q1,← hj2]
     show some ((zbB its)[zdY ks[j] ks]?.getD jvZ)=_
     rw [zbG hnd hj1,zc1 (by omega)]; rfl
    rw [List.getElem?_eq_getElem q2] at this
    exact Option.some.inj this
   rw [e2,← hj2]
   have hg:zdZ (.mk 7 t ks its) ks[j]=(its[j]'(by omega),true):=hg
   rw [hg]
   exact ⟨rfl,h1.2 j (by omega)⟩
theorem znP:∀ (l:List JV) (d:Nat),RdL l d → zeU (zbB l) l=true ∧ ∀ (i:Nat) (h:i < l.length),zeV (zaY l[i]) l[i]=true
 | [],d,h => ⟨by rw [zbB,zeU]; rfl,fun i h => by simp at h⟩
 | v :: l,d,h => by
  rw [RdL] at h
  have h1:=ord_eq v d h.1
  have h2:=znP l d h.2
  refine ⟨by rw [zbB,zeU,h1,h2.1]; rfl,fun i hi => ?_⟩
  cases i with
  | zero => exact h1
  | succ i => exact h2.2 i (by simpa using hi)
end
end
end Go.Proofs.YtadhjoggdbhkgaaGreatDoor
namespace Go.Proofs.YtadhjoggdbhkgaaGreatDoor
open Go.RowKit Sx
section
attribute [local irreducible] run
def zdf (ks:List (List UInt8)) (its:List JV):Bool:=decide (ks.length=0) && decide (its.length=0)
mutual
/-- valid inside d arrays and objects, whatever the number of values -/
def zme:JV → Nat → Bool
 | .mk k t ks its,d =>
  if k=1 ∨ k=2 ∨ k=3 then decide (t=[]) && zdf ks its
  else if k=4 then (decide ((za4 t).1=0) && decide ((za4 t).2=t)) && zdf ks its
  else if k=5 then zay t && zdf ks its
  else if k=6 then decide (ks.length=0) && ((decide (t=[]) && decide (d < 64)) && zhF its (d + 1))
  else if k=7 then (decide (ks.length=its.length) && ((decide (t=[]) && decide (d < 64)) && zhF its (d + 1))) && zdl ks
  else false
def zhF:List JV → Nat → Bool
 | [],_ => true
 | v :: l,d => zme v d && zhF l d
end
def accI (v:JV) (d:Nat):Bool:=(decide (v.text=[]) && decide (d ≤ 64)) && zhF v.items d
theorem accB_eq (v:JV) (d:Nat):zme v d =
  if v.kind=1 ∨ v.kind=2 ∨ v.kind=3 then decide (v.text=[]) && zdf v.keys v.items
  else if v.kind=4 then (decide ((za4 v.text).1=0) && decide ((za4 v.text).2=v.text)) && zdf v.keys v.items
  else if v.kind=5 then zay v.text && zdf v.keys v.items
  else if v.kind=6 then decide (v.keys.length=0) && accI v (d + 1)
  else if v.kind=7 then (decide (v.keys.length=v.items.length) && accI v (d + 1)) && zdl v.keys
  else false:=by
 cases v with
 | mk k t ks its =>
  rw [zme]
  unfold accI
  have:decide (d + 1 ≤ 64)=decide (d < 64):=rfl
  rw [this]
  rfl
theorem accL_at:∀ {l:List JV} {d i:Nat} (hi:i < l.length),zhF (l.drop i) d=(zme l[i] d && zhF (l.drop (i + 1)) d):=fun hi => by
 rw [List.drop_eq_getElem_cons hi,zhF]
mutual
theorem zhw:∀ (v:JV) (d:Int),v.size ≤ 20000 → zbZ v d=0 ∨ zbZ v d=v.size
 | .mk k t ks its,d,h => by
  have hs:JV.size (.mk k t ks its)=JV.sizes its + 1:=size_eq _
  rw [hs] at h ⊢
  rw [zbZ]
  generalize (if k=6 ∨ k=7 then d + 1 else d)=e
  by_cases h64:64 < e
  ·rw [if_pos h64]; exact .inl rfl
  ·rw [if_neg h64]
   have:=ziN its e 1 (by decide) (by omega)
   omega
theorem ziN:∀ (l:List JV) (d n:Int),1 ≤ n → n + JV.sizes l ≤ 20000 → zcm l d n=0 ∨ zcm l d n=n + JV.sizes l
 | [],d,n,h1,h => by rw [zcm,JV.sizes]; right; simp
 | v :: l,d,n,h1,h => by
  rw [JV.sizes] at h
  rw [zcm,JV.sizes]
  have hv:=zhw v d (by omega)
  rcases hv with hv | hv
  ·rw [if_pos hv]; exact .inl rfl
  ·have hp:1 ≤ v.size:=by have:=size_eq v; omega
   rw [hv,if_neg (by omega),if_neg (by omega)]
   have:=ziN l d (n + v.size) (by omega) (by omega)
   omega
end
mutual
theorem zpM:∀ (v:JV) (d:Nat),v.size ≤ 20000 → d ≤ 64 → zme v d=(ze1 v && decide (0 < zbZ v (d:Int)))
 | .mk k t ks its,d,h,hd => by
  have hs:JV.size (.mk k t ks its)=JV.sizes its + 1:=size_eq _
  rw [hs] at h
  have hl:=zlA its (d + 1) 1 (by decide) (by omega)
  rw [zme,ze1,zbZ]
  have leaf:¬ (k=6 ∨ k=7) → ∀ x:Bool,(x && zdf ks its)=((x && (decide (ks.length=0) && decide (its.length=0))) && decide (0 < if 64 < (if k=6 ∨ k=7 then (d:Int) + 1 else (d:Int)) then (0:Int) else zcm its (if k=6 ∨ k=7 then (d:Int) + 1 else (d:Int)) 1)):=by
   intro hk x
   rw [if_neg hk,if_neg (by omega)]
   unfold zdf
   by_cases hi:its.length=0
   ·have:its=[]:=List.eq_nil_of_length_eq_zero hi
    rw [this,zcm]; simp
   ·simp [hi]
  by_cases a1:k=1 ∨ k=2 ∨ k=3
  ·have a1p:k=1 ∨ k=3 ∨ k=2:=by omega
   rw [if_pos a1,if_pos a1p]
   exact leaf (by omega) _
  have a1n:¬ (k=1 ∨ k=3 ∨ k=2):=by omega
  rw [if_neg a1,if_neg a1n]
  by_cases a4:k=4
  ·rw [if_pos a4,if_pos a4,← Bool.and_assoc]
   rw [leaf (by omega)]
  rw [if_neg a4,if_neg a4]
  by_cases a5:k=5
  ·rw [if_pos a5,if_pos a5]
   exact leaf (by omega) _
  rw [if_neg a5,if_neg a5]
  have body:∀ x:Bool,(((decide (t=[]) && decide (d < 64)) && zhF its (d + 1)) && x)=((decide (t=[]) && (zdv its && x)) && decide (0 < if 64 < (d:Int) + 1 then (0:Int) else zcm its ((d:Int) + 1) 1)):=by
   intro x
   by_cases h64:d < 64
   ·rw [hl (by omega),if_neg (by omega)]
    have:((d + 1:Nat):Int)=(d:Int) + 1:=rfl
    rw [this,decide_eq_true h64]
    generalize decide (t=[])=p
    generalize zdv its=q
    generalize decide (0 < zcm its ((d:Int) + 1) 1)=r
    cases p <;> cases q <;> cases r <;> cases x <;> rfl
   ·rw [if_pos (by omega),decide_eq_false h64]; simp
  by_cases a6:k=6
  ·rw [if_pos a6,if_pos a6,if_pos (show k=6 ∨ k=7 from .inl a6)]
   have:=body true
   rw [Bool.and_true,Bool.and_true] at this
   rw [this]
   generalize decide (t=[])=p
   generalize zdv its=q
   generalize decide (ks.length=0)=s
   generalize decide (0 < if 64 < (d:Int) + 1 then (0:Int) else zcm its ((d:Int) + 1) 1)=r
   cases p <;> cases q <;> cases r <;> cases s <;> rfl
  rw [if_neg a6,if_neg a6]
  by_cases a7:k=7
  ·rw [if_pos a7,if_pos a7,if_pos (show k=6 ∨ k=7 from .inr a7)]
   have:=body (zdl ks)
   rw [Bool.and_assoc,this]
   generalize decide (t=[])=p
   generalize zdv its=q
   generalize zdl ks=u
   generalize decide (ks.length=its.length)=s
   generalize decide (0 < if 64 < (d:Int) + 1 then (0:Int) else zcm its ((d:Int) + 1) 1)=r
   cases p <;> cases q <;> cases r <;> cases s <;> cases u <;> rfl
  rw [if_neg a7,if_neg a7]; rfl
theorem zlA:∀ (l:List JV) (d:Nat) (n:Int),1 ≤ n → n + JV.sizes l ≤ 20000 → d ≤ 64 → zhF l d=(zdv l && decide (0 < zcm l (d:Int) n))
 | [],d,n,h1,h,hd => by rw [zhF,zdv,zcm,decide_eq_true (by omega)]; rfl
 | v :: l,d,n,h1,h,hd => by
  rw [JV.sizes] at h
  have hv:=zpM v d (by omega) hd
  have hp:1 ≤ v.size:=by have:=size_eq v; omega
  rw [zhF,zdv,zcm,hv]
  rcases zhw v (d:Int) (by omega) with hc | hc
  ·rw [if_pos hc,hc]; simp
  ·rw [hc,if_neg (by omega),if_neg (by omega),decide_eq_true (by omega),zlA l d (n + v.size) (by omega) (by omega) hd]
   simp only [Bool.and_true,Bool.and_assoc]
end
theorem zmv (v:JV) (h:v.size ≤ 20000):zeM v=zme v 0:=by
 rw [zpM v 0 h (by decide)]
 unfold zeM
 have hc:=zhw v 0 h
 have:decide (0 < zbZ v 0 ∧ zbZ v 0 ≤ 20000)=decide (0 < zbZ v 0):=decide_eq_decide.2 (by omega)
 rw [this,Bool.and_comm]
 rfl
end
end Go.Proofs.YtadhjoggdbhkgaaGreatDoor
namespace Go.Proofs.YtadhjoggdbhkgaaGreatDoor
open Go.RowKit Sx
theorem ziR {P:Program} [Tabs P] {f:FuncId} {args args':List AV} {objs:List OB} {K:List OB → AV → Prop} (h:∀ G I ys,zaf G I args ys → zaf G I args' ys) (hc:zah P f args' objs K):zah P f args objs K :=
 fun C _ G I w hin hm ys hd => hc C G I w hin hm ys (h G I ys hd)
end Go.Proofs.YtadhjoggdbhkgaaGreatDoor
namespace Go.Proofs.YtadhjoggdbhkgaaGreatDoor
open Nat renaming reduceAdd → z6, reduceSub → z7, reduceLeDiff → z8, reduceLT → j4, reduceMul → j5, reduceEqDiff → j6
open Int renaming reduceToNat → j7, reduceAdd → j8, reduceSub → j9, reduceMul → x4, reduceNeg → x5, reduceLT → x6, reduceLE → x7, reduceEq → x8, reduceNe → x9
open Go.RowKit Sx
section
attribute [local irreducible] run
theorem zgS:∀ l:List (List UInt8),zat (l.map AV.s)=true
 | [] => rfl
 | c :: l => zgS l
section
variable [Tabs Tryz.prog] {objs:List OB} {K:List OB → AV → Prop}
theorem isLeaf_k (v:JV) (hk:K objs (.b (zdf v.keys v.items))):zah Tryz.prog 40 [.agg (zao v)] objs K:=by
 refine zbk is_jsonwrite_isLeaf (by simp only [zat,AV.plain,zba,Bool.and_self]) fun C _ => ?_
 rw [c_jsonwrite_isLeaf]
 rw [zak]
 unfold zdf at hk
 refine zaa fun Z hZ => ?_
 simp only [sxZ,z6,z7,z8,j4,j5,j6,j7,j8,j9,x4,x5,x6,x7,x8,x9,reduceCtorEq,↓reduceIte]
 subst hZ
 by_cases c1:(v.keys.length:Int)=0
 ·have d1:v.keys.length=0:=by omega
  have z0:decide ((v.items.length:Int)=0)=decide (v.items.length=0):=decide_eq_decide.2 (by omega)
  rw [decide_eq_true d1,Bool.true_and] at hk
  simp only [sxZ,z6,z7,z8,j4,j5,j6,j7,j8,j9,x4,x5,x6,x7,x8,x9,reduceCtorEq,↓reduceIte,c1,z0]
  exact hk
 ·have d1:¬ v.keys.length=0:=by omega
  rw [decide_eq_false d1,Bool.false_and] at hk
  simp only [sxZ,z6,z7,z8,j4,j5,j6,j7,j8,j9,x4,x5,x6,x7,x8,x9,reduceCtorEq,↓reduceIte,c1]
  exact hk
theorem zpG [Utf Tryz.prog] (l:List (List UInt8)) (hl:l.length ≤ 140737488351232) (ht:∀ k ∈ l,k.length ≤ 140737488351232) (hk:K objs (.b (zdl l))):zah Tryz.prog 44 [.row l.length (l.map .s)] objs K:=by
 refine zbk is_jsonwrite_areKeys (by simp only [zat,AV.plain,zgS,Bool.and_self]) fun C _ => ?_
 rw [c_jsonwrite_areKeys]
 refine zaa fun Z hZ => ?_
 simp only [sxZ,z6,z7,z8,j4,j5,j6,j7,j8,j9,x4,x5,x6,x7,x8,x9,reduceCtorEq,↓reduceIte]
 subst hZ
 refine zaa fun Z hZ => ?_
 simp only [sxZ,z6,z7,z8,j4,j5,j6,j7,j8,j9,x4,x5,x6,x7,x8,x9,reduceCtorEq,↓reduceIte]
 have hO:zav [(0,OB.mp [])] [OB.mp []]:=⟨by simp,fun x hx => by
  simp only [List.mem_cons,List.not_mem_nil,or_false] at hx
  rcases hx with rfl <;> rfl⟩
 subst hZ
 refine zaa fun Z hZ => ?_
 refine zaa fun W hW => ?_
 simp only [sxZ,z6,z7,z8,j4,j5,j6,j7,j8,j9,x4,x5,x6,x7,x8,x9,reduceCtorEq,↓reduceIte]
 subst hW
 rw [za3]
 refine zaQ (fun n o tm => ∃ (i:Nat) (es:List (List UInt8 × AV)),i ≤ l.length ∧ n=l.length - i ∧ o=[OB.mp es] ∧ (∀ key,zhD key es=if key ∈ l.take i then some (.b true) else none) ∧ (l.take i).Nodup ∧ (l.take i).all zay=true ∧ tm.length=26 ∧ tm[3]? = some (.m 0) ∧ tm[9]? = some (.row l.length (l.map .s)) ∧ tm[10]? = some (.i .i64 (l.length:Int)) ∧ tm[11]? = some (.i .i64 (i:Int))) l.length ⟨0,[],Nat.zero_le _,rfl,rfl,fun key => rfl,List.nodup_nil,rfl,rfl,rfl,rfl,rfl,rfl⟩ ?_
 rintro n _ tm ⟨i,es,hi,rfl,rfl,hes,hnd,hall,hlen,t3,t9,t10,t11⟩
 refine zaa fun W hW => ?_
 by_cases hlt:(i:Int) < (l.length:Int)
 ·have hi':i < l.length:=by omega
  have kv:(l.map AV.s)[i * 1]? = some (.s l[i]):=by rw [Nat.mul_one,List.getElem?_map,List.getElem?_eq_getElem hi']; rfl
  have htk:l.take (i + 1)=l.take i ++ [l[i]]:=by rw [List.take_add_one,List.getElem?_eq_getElem hi']; rfl
  have hmem:=List.getElem_mem hi'
  have hkl:=ht _ hmem
  have hdr:=List.drop_eq_getElem_cons hi'
  have hsplit:=List.take_append_drop i l
  rw [hdr] at hsplit
  generalize l[i]=key at kv htk hkl hsplit hmem
  have hge:=hes key
  simp only [sxZ,z6,z7,z8,j4,j5,j6,j7,j8,j9,x4,x5,x6,x7,x8,x9,reduceCtorEq,↓reduceIte,List.getElem?_set,hlen,t9,t10,t11,hlt]
  subst hW
  refine zaa fun W hW => ?_
  simp only [sxZ,z6,z7,z8,j4,j5,j6,j7,j8,j9,x4,x5,x6,x7,x8,x9,reduceCtorEq,↓reduceIte,List.getElem?_set,hlen]
  subst hW
  refine zaa fun V hV => ?_
  rw [za3]
  refine zaa fun W hW => ?_
  simp only [sxZ,z6,z7,z8,j4,j5,j6,j7,j8,j9,x4,x5,x6,x7,x8,x9,reduceCtorEq,↓reduceIte,List.getElem?_set,hlen,t9,t11,kv,List.length_map]
  refine ⟨⟨by omega,by omega,by omega⟩,?_⟩
  subst hW
  refine zaa fun W hW => ?_
  by_cases c1:key ∈ l.take i
  ·rw [if_pos c1] at hge
   have hd:zdl l=false:=by
    unfold zdl
    have:¬ l.Nodup:=fun h => by
     rw [← hsplit,List.nodup_append] at h
     exact h.2.2 key c1 key (by simp) rfl
    rw [decide_eq_false this]; rfl
   rw [hd] at hk
   simp only [sxZ,z6,z7,z8,j4,j5,j6,j7,j8,j9,x4,x5,x6,x7,x8,x9,reduceCtorEq,↓reduceIte,List.getElem?_set,hlen,t3,hge]
   exact hk
  ·rw [if_neg c1] at hge
   simp only [sxZ,z6,z7,z8,j4,j5,j6,j7,j8,j9,x4,x5,x6,x7,x8,x9,reduceCtorEq,↓reduceIte,List.getElem?_set,hlen,t3,hge]
   refine zam (zgQ key hkl ?_)
   cases hv:zay key with
   | false =>
    have hd:zdl l=false:=by
     unfold zdl
     have:l.all zay=false:=by
      rw [List.all_eq_false]
      exact ⟨key,hmem,by rw [hv]; decide⟩
     rw [this,Bool.and_false]
    rw [hd] at hk
    simp only [sxZ,z6,z7,z8,j4,j5,j6,j7,j8,j9,x4,x5,x6,x7,x8,x9,reduceCtorEq,↓reduceIte,List.getElem?_set,hlen,Bool.not_false]
    exact hk
   | true =>
    simp only [sxZ,z6,z7,z8,j4,j5,j6,j7,j8,j9,x4,x5,x6,x7,x8,x9,reduceCtorEq,↓reduceIte,List.getElem?_set,hlen,Bool.not_true]
    subst hW
    simp only [sxZ,z6,z7,z8,j4,j5,j6,j7,j8,j9,x4,x5,x6,x7,x8,x9,reduceCtorEq,↓reduceIte,List.getElem?_set,hlen,t3]
    subst hV
    simp only [sxZ,z6,z7,z8,j4,j5,j6,j7,j8,j9,x4,x5,x6,x7,x8,x9,reduceCtorEq,↓reduceIte,List.getElem?_set,hlen,List.length_set,t3,t9,t10,t11]
    refine ⟨by omega,l.length - (i + 1),by omega,i + 1,zhC key (.b true) es,by omega,rfl,rfl,fun k2 => ?_,?_,?_,rfl⟩
    ·rw [zip,hes k2,htk]
     by_cases c2:key=k2
     ·rw [if_pos c2,if_pos (by simp [c2])]
     ·rw [if_neg c2]
      by_cases c3:k2 ∈ l.take i
      ·rw [if_pos c3,if_pos (by simp [c3])]
      ·rw [if_neg c3,if_neg (by
        simp only [List.mem_append,List.mem_singleton,not_or]
        exact ⟨c3,fun h => c2 h.symm⟩)]
    ·rw [htk,List.nodup_append]
     exact ⟨hnd,by simp,fun a ha b hb => by rw [List.mem_singleton] at hb; rw [hb]; rintro rfl; exact c1 ha⟩
    ·rw [htk,List.all_append,hall]; simp [hv]
 simp only [sxZ,z6,z7,z8,j4,j5,j6,j7,j8,j9,x4,x5,x6,x7,x8,x9,reduceCtorEq,↓reduceIte,List.getElem?_set,hlen,t9,t10,t11,hlt]
 subst hW
 subst hZ
 have hn:i=l.length:=by omega
 rw [hn,List.take_of_length_le (Nat.le_refl _)] at hnd hall
 have hd:zdl l=true:=by
  unfold zdl; rw [decide_eq_true hnd,hall]; rfl
 rw [hd] at hk
 simp only [sxZ,z6,z7,z8,j4,j5,j6,j7,j8,j9,x4,x5,x6,x7,x8,x9,reduceCtorEq,↓reduceIte,List.getElem?_set,hlen]
 exact hk
end
end
section
attribute [local irreducible] run
def ckB (n:Nat):OB:=.box 47 [.i .i64 (n:Int)]
def vvB (v:JV):OB:=.box 25 [.i .i64 v.kind,.s v.text,.row v.keys.length (v.keys.map .s),.row v.items.length (zad v.items)]
section
variable [Tabs Tryz.prog]
def AccK (p:Nat) (v:JV) (d:Nat):Prop :=
 ∀ {objs:List OB} {K:List OB → AV → Prop} {L:List (Nat × OB)} {n:Nat},n + v.size ≤ 20000 → zav ((p,ckB n) :: L) objs → (∀ o n',(zme v d=true → n'=n + v.size) → zav ((p,ckB n') :: L) o → K o (.b (zme v d))) → zah Tryz.prog 25 [.p p 0,.agg (zao v),.i .i64 (d:Int)] objs K
theorem zga (p:Nat) (v:JV) (d n:Nat) (hl:v.items.length ≤ 140737488351232) (hd:d ≤ 65) (hn:n + JV.sizes v.items ≤ 20000) (ih:d ≤ 64 → ∀ (i:Nat) (h:i < v.items.length),AccK p v.items[i] d)
  {objs:List OB} {K:List OB → AV → Prop} {L:List (Nat × OB)} (hO:zav ((p,ckB n) :: L) objs) (hk:∀ o n',(accI v d=true → n'=n + JV.sizes v.items) → zav ((p,ckB n') :: L) o → K o (.b (accI v d))) :
  zah Tryz.prog 43 [.p p 0,.agg (zao v),.i .i64 (d:Int)] objs K:=by
 refine zcP is_jsonwrite_checker_acceptsItems fun C _ => ?_
 rw [c_jsonwrite_checker_acceptsItems]
 have hjc:=zak v
 have hO2:=hO.new (vvB v)
 have hacc:accI v d=((decide (v.text=[]) && decide (d ≤ 64)) && zhF v.items d):=rfl
 rw [hjc]
 refine zaa fun Z hZ => ?_
 simp only [sxZ,z6,z7,z8,j4,j5,j6,j7,j8,j9,x4,x5,x6,x7,x8,x9,reduceCtorEq,↓reduceIte]
 have f0:objs ++ [OB.box 25 [.i .i64 v.kind,.s v.text,.row v.keys.length (v.keys.map .s),.row v.items.length (zad v.items)]]=objs ++ [vvB v]:=rfl
 rw [f0]
 generalize objs.length=q at hO2 ⊢
 generalize objs ++ [vvB v]=o at hO2 ⊢
 subst hZ
 refine zaa fun Z hZ => ?_
 have e0:=hO2.get (i:=q) (x:=.box 25 [.i .i64 v.kind,.s v.text,.row v.keys.length (v.keys.map .s),.row v.items.length (zad v.items)]) (by simp [vvB])
 have hO3:∀ {o:List OB} {n':Nat},zav ((q,vvB v) :: (p,ckB n') :: L) o → zav ((p,ckB n') :: L) o:=fun h => h.sub (List.sublist_cons_self _ _)
 by_cases ct:v.text=[]
 rotate_left
 ·rw [hacc,decide_eq_false ct] at hk
  simp only [sxZ,z6,z7,z8,j4,j5,j6,j7,j8,j9,x4,x5,x6,x7,x8,x9,reduceCtorEq,↓reduceIte,e0,ct]
  exact hk _ n (fun h => by cases h) (hO3 hO2)
 by_cases cd:d ≤ 64
 rotate_left
 ·rw [hacc,decide_eq_false cd,Bool.and_false] at hk
  have cd2:(64:Int) < (d:Int):=by omega
  simp only [sxZ,z6,z7,z8,j4,j5,j6,j7,j8,j9,x4,x5,x6,x7,x8,x9,reduceCtorEq,↓reduceIte,e0,ct,cd2]
  exact hk _ n (fun h => by cases h) (hO3 hO2)
 rw [hacc,decide_eq_true ct,decide_eq_true cd,Bool.and_self,Bool.true_and] at hk
 have cd2:¬ (64:Int) < (d:Int):=by omega
 simp only [sxZ,z6,z7,z8,j4,j5,j6,j7,j8,j9,x4,x5,x6,x7,x8,x9,reduceCtorEq,↓reduceIte,e0,ct,cd2]
 subst hZ
 refine zaa fun Z hZ => ?_
 refine zaa fun W hW => ?_
 simp only [sxZ,z6,z7,z8,j4,j5,j6,j7,j8,j9,x4,x5,x6,x7,x8,x9,reduceCtorEq,↓reduceIte,e0]
 subst hW
 rw [za3]
 refine zaQ (fun m o tm => ∃ (i n':Nat),i ≤ v.items.length ∧ m=v.items.length - i ∧ n' + JV.sizes (v.items.drop i)=n + JV.sizes v.items ∧ zhF v.items d=zhF (v.items.drop i) d ∧ zav ((p,ckB n') :: L) o ∧ tm.length=29 ∧ tm[0]? = some (.p p 0) ∧ tm[2]? = some (.i .i64 (d:Int)) ∧ tm[17]? = some (.row v.items.length (zad v.items)) ∧ tm[18]? = some (.i .i64 (v.items.length:Int)) ∧ tm[19]? = some (.i .i64 (i:Int))) v.items.length ⟨0,n,Nat.zero_le _,rfl,rfl,rfl,hO3 hO2,rfl,rfl,rfl,rfl,rfl,rfl⟩ ?_
 clear hO hO2 e0
 rintro m o tm ⟨i,n',hi,rfl,hsz,hal,hO,hlen,t0,t2,t17,t18,t19⟩
 refine zaa fun W hW => ?_
 by_cases hlt:(i:Int) < (v.items.length:Int)
 ·have hi':i < v.items.length:=by omega
  have hjc:=zfJ hi'
  have hjl:=zaK v.items
  have hcall:AccK p v.items[i] d:=ih cd i hi'
  have hdr:=List.drop_eq_getElem_cons hi'
  have hat:=accL_at (d:=d) hi'
  rw [hdr,JV.sizes] at hsz
  rw [hat] at hal
  generalize v.items[i]=x at hjc hcall hsz hal
  have hjx:=zak x
  unfold AccK at hcall
  rw [hjx] at hjc hcall
  simp only [sxZ,z6,z7,z8,j4,j5,j6,j7,j8,j9,x4,x5,x6,x7,x8,x9,reduceCtorEq,↓reduceIte,List.getElem?_set,hlen,t17,t18,t19,hlt]
  subst hW
  refine zaa fun W hW => ?_
  simp only [sxZ,z6,z7,z8,j4,j5,j6,j7,j8,j9,x4,x5,x6,x7,x8,x9,reduceCtorEq,↓reduceIte,List.getElem?_set,hlen]
  subst hW
  refine zaa fun V hV => ?_
  rw [za3]
  refine zaa fun W hW => ?_
  simp only [sxZ,z6,z7,z8,j4,j5,j6,j7,j8,j9,x4,x5,x6,x7,x8,x9,reduceCtorEq,↓reduceIte,List.getElem?_set,hlen,t17,t19,hjc]
  refine ⟨⟨by omega,by omega,by omega⟩,by omega,?_⟩
  simp only [sxZ,z6,z7,z8,j4,j5,j6,j7,j8,j9,x4,x5,x6,x7,x8,x9,reduceCtorEq,↓reduceIte,List.getElem?_set,hlen,gn1,sn1]
  have hO2:=hO.new (vvB x)
  have f0:o ++ [OB.box 25 [.i .i64 x.kind,.s x.text,.row x.keys.length (x.keys.map .s),.row x.items.length (zad x.items)]]=o ++ [vvB x]:=rfl
  rw [f0]
  generalize o.length=qi at hO2 ⊢
  generalize o ++ [vvB x]=o2 at hO2 ⊢
  have ei:=hO2.get (i:=qi) (x:=.box 25 [.i .i64 x.kind,.s x.text,.row x.keys.length (x.keys.map .s),.row x.items.length (zad x.items)]) (by simp [vvB])
  have hO3:zav ((p,ckB n') :: L) o2:=hO2.sub (List.sublist_cons_self _ _)
  subst hW
  refine zaa fun W hW => ?_
  simp only [sxZ,z6,z7,z8,j4,j5,j6,j7,j8,j9,x4,x5,x6,x7,x8,x9,reduceCtorEq,↓reduceIte,List.getElem?_set,hlen,t0,t2,ei]
  refine zam (hcall (n:=n') (by omega) hO3 ?_)
  intro o3 n3 hn3 hO4
  generalize zme x d=bx at hn3 hal ⊢
  cases bx with
  | false =>
   rw [hal,Bool.false_and] at hk
   simp only [sxZ,z6,z7,z8,j4,j5,j6,j7,j8,j9,x4,x5,x6,x7,x8,x9,reduceCtorEq,↓reduceIte,List.getElem?_set,hlen,Bool.not_false]
   subst hW
   simp only [sxZ,z6,z7,z8,j4,j5,j6,j7,j8,j9,x4,x5,x6,x7,x8,x9,reduceCtorEq,↓reduceIte,List.getElem?_set,hlen]
   exact hk _ n3 (fun h => by cases h) hO4
  | true =>
   rw [Bool.true_and] at hal
   have hn4:=hn3 rfl
   simp only [sxZ,z6,z7,z8,j4,j5,j6,j7,j8,j9,x4,x5,x6,x7,x8,x9,reduceCtorEq,↓reduceIte,List.getElem?_set,hlen,Bool.not_true]
   subst hW
   subst hV
   simp only [sxZ,z6,z7,z8,j4,j5,j6,j7,j8,j9,x4,x5,x6,x7,x8,x9,reduceCtorEq,↓reduceIte,List.getElem?_set,hlen,t0,t2,t17,t18,t19]
   exact ⟨by omega,v.items.length - (i + 1),by omega,i + 1,n3,by omega,rfl,by omega,hal,hO4,rfl⟩
 have hn2:i=v.items.length:=by omega
 rw [hn2,List.drop_length] at hsz hal
 rw [hal,zhF] at hk
 rw [JV.sizes] at hsz
 simp only [sxZ,z6,z7,z8,j4,j5,j6,j7,j8,j9,x4,x5,x6,x7,x8,x9,reduceCtorEq,↓reduceIte,List.getElem?_set,hlen,t17,t18,t19,hlt]
 subst hW
 subst hZ
 simp only [sxZ,z6,z7,z8,j4,j5,j6,j7,j8,j9,x4,x5,x6,x7,x8,x9,reduceCtorEq,↓reduceIte,List.getElem?_set,hlen]
 exact hk _ n' (fun _ => by omega) hO
theorem zpL [Pow Tryz.prog] [Utf Tryz.prog] (p:Nat):∀ (m:Nat) (v:JV),v.size < m → JOk v → ∀ d:Nat,d ≤ 64 → AccK p v d:=by
 intro m
 induction m with
 | zero => intro v h; omega
 | succ m ih =>
  intro v hm hv d hd objs K L n hn hO hk
  have hsz:=size_eq v
  obtain ⟨l1,l2,l3,l4,l5⟩:v.text.length ≤ 140737488351232 ∧ v.keys.length ≤ 140737488351232 ∧ (∀ k ∈ v.keys,k.length ≤ 140737488351232) ∧ v.items.length ≤ 140737488351232 ∧ True:=by
   cases v with
   | mk k t ks its => rw [JOk] at hv; exact ⟨hv.2.1,hv.2.2.1,hv.2.2.2.1,hv.2.2.2.2.1,trivial⟩
  have hitems:=fun {objs:List OB} {K:List OB → AV → Prop} {L:List (Nat × OB)} {n':Nat} (h1:n' + JV.sizes v.items ≤ 20000) (h2:zav ((p,ckB n') :: L) objs) (h3) => zga p v (d + 1) n' l4 (by omega) h1 (fun hd2 i hi => ih v.items[i] (by have:=zbD hi; omega) (hv.its hi) (d + 1) hd2) (objs:=objs) (K:=K) (L:=L) h2 h3
  have hleaf:=fun {objs:List OB} {K:List OB → AV → Prop} (h) => isLeaf_k v (objs:=objs) (K:=K) h
  have hkeys:=fun {objs:List OB} {K:List OB → AV → Prop} (h) => zpG v.keys l2 l3 (objs:=objs) (K:=K) h
  have hnum:=fun {objs:List OB} {K:List OB → AV → Prop} (h) => number_e v.text l1 (objs:=objs) (K:=K) h
  have hutf:=fun {objs:List OB} {K:List OB → AV → Prop} (h) => zgQ v.text l1 (objs:=objs) (K:=K) h
  have heq:=accB_eq v d
  have hjc:=zak v
  refine zcP is_jsonwrite_checker_accepts fun C _ => ?_
  rw [c_jsonwrite_checker_accepts]
  have hO2:=hO.new (vvB v)
  rw [hjc] at hleaf hitems ⊢
  refine zaa fun Z hZ => ?_
  simp only [sxZ,z6,z7,z8,j4,j5,j6,j7,j8,j9,x4,x5,x6,x7,x8,x9,reduceCtorEq,↓reduceIte]
  have f0:objs ++ [OB.box 25 [.i .i64 v.kind,.s v.text,.row v.keys.length (v.keys.map .s),.row v.items.length (zad v.items)]]=objs ++ [vvB v]:=rfl
  rw [f0]
  generalize objs.length=q at hO2 ⊢
  generalize objs ++ [vvB v]=o at hO2 ⊢
  subst hZ
  have ep:=hO2.get (i:=p) (x:=.box 47 [.i .i64 (n:Int)]) (by simp [ckB])
  have hpl:=(List.getElem?_eq_some_iff.1 ep).1
  have gp:∀ z,(o.set p z)[p]? = some z:=fun z => List.getElem?_set_self hpl
  refine zaa fun Z hZ => ?_
  simp only [sxZ,z6,z7,z8,j4,j5,j6,j7,j8,j9,x4,x5,x6,x7,x8,x9,reduceCtorEq,↓reduceIte,ep,gp]
  refine ⟨⟨by omega,by omega⟩,?_⟩
  have hO3:=hO2.set (A:=[(q,vvB v)]) (ckB (n + 1))
  have f1:o.set p (OB.box 47 [.i .i64 ((n:Int) + 1)])=o.set p (ckB (n + 1)):=rfl
  rw [f1]
  clear hO2 gp ep hpl f1
  generalize o.set p (ckB (n + 1))=o at hO3 ⊢
  have ep:=hO3.get (i:=p) (x:=.box 47 [.i .i64 ((n + 1:Nat):Int)]) (by simp [ckB])
  have e0:=hO3.get (i:=q) (x:=.box 25 [.i .i64 v.kind,.s v.text,.row v.keys.length (v.keys.map .s),.row v.items.length (zad v.items)]) (by simp [vvB])
  have hO4:zav ((p,ckB (n + 1)) :: L) o:=hO3.sub (List.sublist_cons_self _ _)
  have hO6:zav ((p,ckB (n + 1)) :: (q,vvB v) :: L) o:=hO3.perm (List.Perm.swap _ _ _)
  have drp:∀ {o:List OB} {n':Nat},zav ((p,ckB n') :: (q,vvB v) :: L) o → zav ((p,ckB n') :: L) o:=fun h => h.sub ((List.sublist_cons_self _ _).cons_cons _)
  subst hZ
  refine zaa fun Z hZ => ?_
  have cn:¬ (20000:Int) < ((n + 1:Nat):Int):=by omega
  simp only [sxZ,z6,z7,z8,j4,j5,j6,j7,j8,j9,x4,x5,x6,x7,x8,x9,reduceCtorEq,↓reduceIte,ep,cn]
  subst hZ
  have leaf0:∀ b:Bool,zdf v.keys v.items=true → b=true → n + 1=n + v.size:=fun b h _ => by
   unfold zdf at h
   simp only [Bool.and_eq_true,decide_eq_true_eq] at h
   have:v.items=[]:=List.eq_nil_of_length_eq_zero h.2
   rw [hsz,this,JV.sizes]
  have fin:∀ b:Bool,zme v d=b → (b=true → zdf v.keys v.items=true) → K o (.b b):=fun b hb h => by
   have:=hk o (n + 1) (fun h2 => leaf0 b (h (hb ▸ h2)) (hb ▸ h2)) hO4
   rwa [hb] at this
  rw [zm6]
  by_cases a1:v.kind=1 ∨ v.kind=2 ∨ v.kind=3
  ·rw [if_pos a1] at heq
   have key:K o (.b (decide (v.text=[]) && zdf v.keys v.items)):=fin _ heq (fun h => by simp only [Bool.and_eq_true] at h; exact h.2)
   by_cases ct:v.text=[]
   ·rw [decide_eq_true ct,Bool.true_and] at key
    rcases a1 with a | a | a
    all_goals
     rw [a,ct] at e0 hleaf
     simp only [sxZ,z6,z7,z8,j4,j5,j6,j7,j8,j9,x4,x5,x6,x7,x8,x9,reduceCtorEq,↓reduceIte,e0]
     refine zam (hleaf ?_)
     simp only [sxZ,z6,z7,z8,j4,j5,j6,j7,j8,j9,x4,x5,x6,x7,x8,x9,reduceCtorEq,↓reduceIte]
     exact key
   ·rw [decide_eq_false ct,Bool.false_and] at key
    rcases a1 with a | a | a
    all_goals
     rw [a] at e0
     simp only [sxZ,z6,z7,z8,j4,j5,j6,j7,j8,j9,x4,x5,x6,x7,x8,x9,reduceCtorEq,↓reduceIte,e0,ct]
     exact key
  rw [if_neg a1] at heq
  have b1:¬ v.kind=1:=fun h => a1 (.inl h)
  have b2:¬ v.kind=2:=fun h => a1 (.inr (.inl h))
  have b3:¬ v.kind=3:=fun h => a1 (.inr (.inr h))
  by_cases a4:v.kind=4
  ·rw [if_pos a4] at heq
   have key:K o (.b ((decide ((za4 v.text).1=0) && decide ((za4 v.text).2=v.text)) && zdf v.keys v.items)):=fin _ heq (fun h => by simp only [Bool.and_eq_true] at h; exact h.2)
   rw [a4] at e0 hleaf
   simp only [sxZ,z6,z7,z8,j4,j5,j6,j7,j8,j9,x4,x5,x6,x7,x8,x9,reduceCtorEq,↓reduceIte,e0]
   refine zam (hnum ?_)
   generalize za4 v.text=r at key ⊢
   obtain ⟨r1,r2⟩:=r
   simp only at key ⊢
   by_cases c1:r1=0
   ·by_cases c2:r2=v.text
    ·rw [decide_eq_true c1,decide_eq_true c2,Bool.and_self,Bool.true_and] at key
     simp only [sxZ,z6,z7,z8,j4,j5,j6,j7,j8,j9,x4,x5,x6,x7,x8,x9,reduceCtorEq,↓reduceIte,e0,c1,c2]
     refine zam (hleaf ?_)
     simp only [sxZ,z6,z7,z8,j4,j5,j6,j7,j8,j9,x4,x5,x6,x7,x8,x9,reduceCtorEq,↓reduceIte]
     exact key
    ·rw [decide_eq_false c2,Bool.and_false,Bool.false_and] at key
     simp only [sxZ,z6,z7,z8,j4,j5,j6,j7,j8,j9,x4,x5,x6,x7,x8,x9,reduceCtorEq,↓reduceIte,e0,c1,c2]
     exact key
   ·rw [decide_eq_false c1,Bool.false_and,Bool.false_and] at key
    simp only [sxZ,z6,z7,z8,j4,j5,j6,j7,j8,j9,x4,x5,x6,x7,x8,x9,reduceCtorEq,↓reduceIte,e0,c1]
    exact key
  rw [if_neg a4] at heq
  by_cases a5:v.kind=5
  ·rw [if_pos a5] at heq
   have key:K o (.b (zay v.text && zdf v.keys v.items)):=fin _ heq (fun h => by simp only [Bool.and_eq_true] at h; exact h.2)
   rw [a5] at e0 hleaf
   simp only [sxZ,z6,z7,z8,j4,j5,j6,j7,j8,j9,x4,x5,x6,x7,x8,x9,reduceCtorEq,↓reduceIte,e0]
   refine zam (hutf ?_)
   generalize zay v.text=u at key ⊢
   cases u with
   | true =>
    rw [Bool.true_and] at key
    simp only [sxZ,z6,z7,z8,j4,j5,j6,j7,j8,j9,x4,x5,x6,x7,x8,x9,reduceCtorEq,↓reduceIte,e0]
    refine zam (hleaf ?_)
    simp only [sxZ,z6,z7,z8,j4,j5,j6,j7,j8,j9,x4,x5,x6,x7,x8,x9,reduceCtorEq,↓reduceIte]
    exact key
   | false =>
    rw [Bool.false_and] at key
    simp only [sxZ,z6,z7,z8,j4,j5,j6,j7,j8,j9,x4,x5,x6,x7,x8,x9,reduceCtorEq,↓reduceIte,e0]
    exact key
  rw [if_neg a5] at heq
  by_cases a6:v.kind=6
  ·rw [if_pos a6] at heq
   by_cases ck:v.keys.length=0
   ·rw [decide_eq_true ck,Bool.true_and] at heq
    have ck2:(v.keys.length:Int)=0:=by omega
    rw [a6] at e0 hitems
    simp only [sxZ,z6,z7,z8,j4,j5,j6,j7,j8,j9,x4,x5,x6,x7,x8,x9,reduceCtorEq,↓reduceIte,e0,ck2]
    refine ⟨⟨by omega,by omega⟩,?_⟩
    refine zam (hitems (n':=n + 1) (by omega) hO6 fun o5 n5 hn5 hO5 => ?_)
    have:=hk o5 n5 (fun h => by rw [heq] at h; have:=hn5 h; omega) (drp hO5)
    rw [heq] at this
    simp only [sxZ,z6,z7,z8,j4,j5,j6,j7,j8,j9,x4,x5,x6,x7,x8,x9,reduceCtorEq,↓reduceIte]
    exact this
   ·rw [decide_eq_false ck,Bool.false_and] at heq
    have ck2:¬ (v.keys.length:Int)=0:=by omega
    have key:=fin false heq (fun h => by cases h)
    rw [a6] at e0
    simp only [sxZ,z6,z7,z8,j4,j5,j6,j7,j8,j9,x4,x5,x6,x7,x8,x9,reduceCtorEq,↓reduceIte,e0,ck2]
    exact key
  rw [if_neg a6] at heq
  by_cases a7:v.kind=7
  ·rw [if_pos a7] at heq
   by_cases ck:v.keys.length=v.items.length
   ·rw [decide_eq_true ck,Bool.true_and] at heq
    have ck2:(v.keys.length:Int)=(v.items.length:Int):=by omega
    rw [a7] at e0 hitems
    simp only [sxZ,z6,z7,z8,j4,j5,j6,j7,j8,j9,x4,x5,x6,x7,x8,x9,reduceCtorEq,↓reduceIte,e0,ck2]
    refine ⟨⟨by omega,by omega⟩,?_⟩
    refine zam (hitems (n':=n + 1) (by omega) hO6 fun o5 n5 hn5 hO5 => ?_)
    cases hi:accI v (d + 1) with
    | false =>
     rw [hi,Bool.false_and] at heq
     have:=hk o5 n5 (fun h => by rw [heq] at h; cases h) (drp hO5)
     rw [heq] at this
     simp only [sxZ,z6,z7,z8,j4,j5,j6,j7,j8,j9,x4,x5,x6,x7,x8,x9,reduceCtorEq,↓reduceIte]
     exact this
    | true =>
     rw [hi,Bool.true_and] at heq
     have hn6:=hn5 hi
     have key:=hk o5 n5 (fun h => by omega) (drp hO5)
     rw [heq] at key
     have e5:=hO5.get (i:=q) (x:=.box 25 [.i .i64 v.kind,.s v.text,.row v.keys.length (v.keys.map .s),.row v.items.length (zad v.items)]) (by simp [vvB])
     rw [a7] at e5
     simp only [sxZ,z6,z7,z8,j4,j5,j6,j7,j8,j9,x4,x5,x6,x7,x8,x9,reduceCtorEq,↓reduceIte,e5]
     refine zam (hkeys ?_)
     simp only [sxZ,z6,z7,z8,j4,j5,j6,j7,j8,j9,x4,x5,x6,x7,x8,x9,reduceCtorEq,↓reduceIte]
     exact key
   ·rw [decide_eq_false ck,Bool.false_and,Bool.false_and] at heq
    have ck2:¬ (v.keys.length:Int)=(v.items.length:Int):=by omega
    have key:=fin false heq (fun h => by cases h)
    rw [a7] at e0
    simp only [sxZ,z6,z7,z8,j4,j5,j6,j7,j8,j9,x4,x5,x6,x7,x8,x9,reduceCtorEq,↓reduceIte,e0,ck2]
    exact key
  rw [if_neg a7] at heq
  have key:=fin false heq (fun h => by cases h)
  simp only [sxZ,z6,z7,z8,j4,j5,j6,j7,j8,j9,x4,x5,x6,x7,x8,x9,reduceCtorEq,↓reduceIte,e0,b1,b2,b3,a4,a5,a6,a7]
  exact key
end
end
end Go.Proofs.YtadhjoggdbhkgaaGreatDoor
namespace Go.Proofs.YtadhjoggdbhkgaaGreatDoor
open Go.RowKit
theorem zl3 (x:ByteArray) (w:World):Calls Tryz.prog 56 #[.string x] w fun e w' => e=.returned (.bool false) ∧ w'=w:=by
 go_enter Tryz.func56,Tryz.ntmps56
 go_wp2
 go_ret
 exact ⟨by simp,rfl⟩
def cmpB (x y:ByteArray):Int:=if Op.bytesLess x.toList y.toList=true then -1 else if x.toList=y.toList then 0 else 1
theorem cmpS_any (x y:ByteArray) (w:World):Calls Tryz.prog 37 #[.string x,.string y] w fun e w' => e=.returned (.int .i64 (cmpB x y)) ∧ w'=w:=by
 go_enter Tryz.func37,Tryz.ntmps37
 go_wp2_with (go_at_call 56; refine (zl3 _ _).mono ?_; rintro e w' ⟨rfl,hw⟩; rw [hw])
 all_goals (go_ret; refine ⟨?_,rfl⟩; unfold cmpB; (repeat' split) <;> first | rfl | (exfalso; simp_all))
set_option maxHeartbeats 4000000 in
/-- the closure: two places by their keys -/
theorem zjF (W:World) (g:Nat) (k t it:Value) (a:Option Addr) (n c:Nat) (ks:List ByteArray) (T:TypeId) (x y:Nat) (hx:x < n) (hy:y < n) (hn:n ≤ 140737488355328)
  (h1:W.cell? ⟨g,2,none⟩=some (.slice a n c)) (ad:Addr) (ha:a=some ad) (h2:W.cell? (ad.add x)=some (.string (ks.getD x default))) (h3:W.cell? (ad.add y)=some (.string (ks.getD y default))) :
  Calls Tryz.prog 36 #[.int .i64 x,.int .i64 y,.pointer (some ⟨g,0,none⟩)] W fun e w' => e=.returned (.int .i64 (cmpB (ks.getD x default) (ks.getD y default))) ∧ ∃ q,w'=W.drewN q:=by
 subst ha
 have bx:(0:Int) ≤ (x:Int):=by omega
 have by':(0:Int) ≤ (y:Int):=by omega
 have cx:(x:Int) < (n:Int):=by omega
 have cy:(y:Int) < (n:Int):=by omega
 go_enter Tryz.func36,Tryz.ntmps36
 go_wp2_with fail
 go_quiet ((go_at_call 37; exact Calls.quiet_of_same (cmpS_any _ _ _)))
 go_wp2_with fail
 go_ret
 exact ⟨rfl,_,rfl⟩
end Go.Proofs.YtadhjoggdbhkgaaGreatDoor
namespace Go.Proofs.YtadhjoggdbhkgaaGreatDoor
open Go.RowKit Go.Shelf Go.Lib Go.Sort Sx
section
attribute [local irreducible] run
def keyB (ks:List (List UInt8)) (i:Nat):ByteArray:=⟨(ks.getD i []).toArray⟩
theorem ziu (ks:List (List UInt8)) (i:Nat):(keyB ks i).toList=ks.getD i []:=by
 unfold keyB
 exact ByteArray.toList_mk _
def zl2 (n:Nat) (ks:List (List UInt8)) (x y:Fin n):Int:=cmpB (keyB ks x.val) (keyB ks y.val)
theorem ze7 (n:Nat) (ks:List (List UInt8)) (x y:Fin n):ltOf (zl2 n ks) x y=zbr (ks.getD x.val []) (ks.getD y.val []):=by
 unfold ltOf zl2 cmpB
 rw [ziu,ziu]
 unfold zbr
 cases h:Op.bytesLess (ks.getD x.val []) (ks.getD y.val []) with
 | true => rfl
 | false =>
  rw [if_neg (by decide)]
  split <;> rfl
theorem zj0 {a b:List UInt8}:zbr b a=false ↔ leS a b=true:=by
 unfold leS
 rcases zdI a b with h | h | h
 ·rw [h]
  have:zbr b a=false:=by
   cases k:zbr b a with
   | false => rfl
   | true => have:=zbN _ _ _ h k; rw [zbd] at this; cases this
  simp [this]
 ·subst h; simp [zbd]
 ·have h2:zbr a b=false:=by
   cases k:zbr a b with
   | false => rfl
   | true => have:=zbN _ _ _ h k; rw [zbd] at this; cases this
  have h3:a ≠ b:=by rintro rfl; rw [zbd] at h; cases h
  simp [h,h2,h3]
theorem zn7 (n:Nat) (ks:List (List UInt8)):SWO (ltOf (zl2 n ks)) where
 irrefl x:=by rw [ze7,zbd]
 trans x y z h1 h2:=by rw [ze7] at *; exact zbN _ _ _ h1 h2
 ntrans x y z h1 h2:=by rw [ze7] at *; rw [zj0] at *; exact zit _ _ _ h2 h1
def encF (n:Nat) (x:Fin n):Value:=.int .i64 (x.val:Int)
theorem zfo {α:Type} [Inhabited α] {enc:α → Value} {w:World} {g T:Nat} {cur:List Value} {d dk:Array α} {m:Nat} {os:Array Obj} (hg:w.heap[g]? = some (.cells cur.toArray T (0,0))) (hH:Holds enc w g 0 d) (hs:dk.size=d.size) :
  sortWorld enc w g 0 m dk os=grow ((w.drewN m).setCells g 0 (dk.toList.map enc)) os:=by
 unfold sortWorld
 have:=putRow_eq_setCells enc w g 0 d dk.toList m hH (by simpa using hs)
 rw [Array.toArray_toList] at this
 rw [this]
theorem zlH {α:Type} [Inhabited α] {enc:α → Value} {w:World} {g T:Nat} {cur:List Value} {d dk:Array α} {m:Nat} {os:Array Obj} (hg:w.heap[g]? = some (.cells cur.toArray T (0,0))) (hH:Holds enc w g 0 d) (hs:dk.size=d.size) (hl:d.size ≤ cur.length) {k:Nat} (hk:k < w.heap.size) (hne:k ≠ g) :
  (sortWorld enc w g 0 m dk os).heap[k]? = w.heap[k]?:=by
 rw [zfo hg hH hs]
 obtain ⟨s1,s2,s3,_⟩:=zb5 g T (dk.toList.map enc) 0 (w.drewN m) cur hg (by simp; omega)
 show (((w.drewN m).setCells g 0 (dk.toList.map enc)).heap ++ os)[k]? = _
 rw [Array.getElem?_append_left (by rw [s3]; exact hk),s2 k hne]; rfl
theorem ziJ:∀ {l:List (List UInt8)} {ys:List Value} {G:Gh} {I:Imm},zaf G I (l.map .s) ys → ys=l.map fun s => Value.string ⟨s.toArray⟩
 | [],ys,G,I,h => by simpa [zaf] using h
 | a :: l,ys,G,I,h => by
  simp only [List.map_cons,zaf,Den] at h
  obtain ⟨y,ys',rfl,rfl,h⟩:=h
  rw [ziJ h]; rfl
theorem ziK:∀ {l:List Nat} {ys:List Value} {G:Gh} {I:Imm},zaf G I (l.map fun (i:Nat) => AV.i .i64 (i:Int)) ys → ys=l.map fun (i:Nat) => Value.int .i64 (i:Int)
 | [],ys,G,I,h => by simpa [zaf] using h
 | a :: l,ys,G,I,h => by
  simp only [List.map_cons,zaf,Den] at h
  obtain ⟨y,ys',rfl,rfl,h⟩:=h
  rw [ziK h]; rfl
theorem zgy:∀ (l:List Nat) {G:Gh} {I:Imm},zaf G I (l.map fun (i:Nat) => AV.i .i64 (i:Int)) (l.map fun (i:Nat) => Value.int .i64 (i:Int))
 | [],G,I => zaf.nil
 | a :: l,G,I => zaf.cons (by simp only [Den]) (zgy l)
theorem ziO:∀ args w,(callFunc 36 args).run Tryz.prog w=.ok (.enter 36 args) w:=enters_of Tryz.func36 (by kernel_rfl) rfl
theorem zhM (n:Nat):(List.finRange n).map Fin.val=List.range n:=by
 apply List.ext_getElem (by simp)
 intro i h1 h2
 simp
section
variable [Tabs Tryz.prog]
theorem zlI {ks:List (List UInt8)} {b gen n c:Nat} {T:Nat} {x0 x1 x3:AV} {objs:List OB} {K:List OB → AV → Prop}
  (hb:objs[b]? = some (.orow 3 1 gen n ((List.range n).map fun (i:Nat) => AV.i .i64 (i:Int))))
  (hc:objs[c]? = some (.box T [x0,x1,.row n (ks.map .s),x3])) (hl:ks.length=n) (hmax:n ≤ 140737488355328) (hnd:ks.Nodup)
  (hk:∀ p:List Nat,p.Perm (List.range n) → (p.map fun i => ks.getD i [])=zcl n ks → K (objs.set b (.orow 3 1 gen n (p.map fun (i:Nat) => AV.i .i64 (i:Int)))) (.tup [])) :
  zah Tryz.prog 35 [.orow b gen,.fn 36 [] [.p c 0]] objs K:=by
 intro C _ G I w hin hm ys hd
 obtain ⟨v,vs,m1,m2,m3,m4,m5⟩:=hm.row b _ _ _ _ _ hb
 obtain ⟨gc,zs,q1,q2,q3,q4⟩:=hm.box c T _ hc
 simp only [zaf,Den] at hd q3
 obtain ⟨y0,_,rfl,⟨g0,v0,k1,k2,k3,k4⟩,y1,_,rfl,⟨us,cs,rfl,rfl,⟨z,_,rfl,⟨gp,r1,rfl⟩,rfl⟩⟩,rfl⟩:=hd
 rw [m1] at k1
 injection k1 with k1
 injection k1 with k1 k1'
 subst k1 k1'
 obtain rfl:=k3 rfl
 rw [q1] at r1
 injection r1 with r1
 subst r1
 obtain ⟨w0,_,rfl,d0,w1,_,rfl,d1,w2,_,rfl,⟨ka,kc,kys,rfl,kcap,kd,k1c,kcell⟩,w3,_,rfl,d3,rfl⟩:=q3
 have hvs:=ziK m3
 have hkys:=ziJ kd
 by_cases hn:n=0
 ·subst hn
  have hk0:=hk [] (List.Perm.refl _) (by
   have:ks=[]:=List.eq_nil_of_length_eq_zero (by omega)
   rw [this]; rfl)
  have e0:objs.set b (.orow 3 1 gen 0 (([]:List Nat).map fun (i:Nat) => AV.i .i64 (i:Int)))=objs:=by
   have hlt:=(List.getElem?_eq_some_iff.1 hb).1
   have he:OB.orow 3 1 gen 0 (([]:List Nat).map fun (i:Nat) => AV.i .i64 (i:Int))=objs[b]:=(List.getElem?_eq_some_iff.1 hb).2.symm
   rw [he]
   exact List.set_getElem_self hlt
  rw [e0] at hk0
  have hv:∃ p cap,y0=.slice p 0 cap:=by
   rcases m2.2 with ⟨rfl,_⟩ | ⟨g,cap,cur,rfl,_⟩
   ·exact ⟨_,_,rfl⟩
   ·exact ⟨_,_,rfl⟩
  obtain ⟨p,cap,rfl⟩:=hv
  refine (AnyF.slices_SortFunc_none (P:=Tryz.prog) (ρ:=Tryz.laysSlF6_f35_ren) { Tryz.laysSlF6_f35 with } p cap _ w).mono ?_
  rintro e w' ⟨rfl,rfl⟩
  exact ⟨_,objs,.tup [],G,I,rfl,hk0,Gh.le.refl G,Imm.le.refl I,hin,hm,by simp only [Den]; exact ⟨[],rfl,zaf.nil⟩⟩
 rcases m2.2 with ⟨rfl,h0⟩ | ⟨g,cap,cur,rfl,hx1,hx2,hx3,hx4,hx5,hx6⟩
 ·exact absurd h0 hn
 have hown:G.own b=some g:=by rw [zbi m5 m1]; rfl
 haveI:Inhabited (Fin n):=⟨⟨0,by omega⟩⟩
 let d:Array (Fin n):=(List.finRange n).toArray
 have hds:d.size=n:=by simp [d]
 have hcur:w.heap[g]? = some (.cells cur.toList.toArray 3 (0,0)):=by simpa using hx2
 have hH:Holds (encF n) w g 0 d:=by
  intro j hj
  rw [hds] at hj
  have hcell:=m2.cells (g:=g) rfl j (.int .i64 (j:Int)) (by rw [hvs,List.getElem?_map,List.getElem?_range hj]; rfl)
  rw [zaD] at hcell
  refine ⟨?_,?_⟩
  ·rw [Nat.zero_add,hcell]
   have:d[j]! = ⟨j,hj⟩:=by
    rw [getElem!_pos d j (by rw [hds]; exact hj)]
    simp [d]
   rw [this]; rfl
  ·unfold World.frozen?
   simp [hx2]
 have hgc:gc ≠ g:=fun e => by
  subst e
  have:=hm.inj c b gc (zas q1) hown
  subst this
  rw [hc] at hb; cases hb
 have hgclt:=hm.lt c gc (zas q1)
 have hcmp:CmpLays1 Tryz.prog 36 #[.pointer (some ⟨gc,0,none⟩)] (encF n) (zl2 n ks) g 0 d.size w:=by
  intro m os dk hsz x y
  have hoth:=fun k hk hne => zlH (m:=m) (os:=os) hcur hH hsz (by rw [hds,Array.length_toList,hx5]; omega) (k:=k) hk hne
  have hcells:∀ i (hi:i < n),∃ ad,ka=some ad ∧ (sortWorld (encF n) w g 0 m dk os).cell? (ad.add i)=some (.string (keyB ks i)):=by
   intro i hi
   have hi':i < ks.length:=by omega
   obtain ⟨g2,off,rfl,hi2⟩:=kcell i (.string (keyB ks i)) (by
    rw [hkys,List.getElem?_map,List.getElem?_eq_getElem hi']
    unfold keyB
    rw [List.getD_eq_getElem?_getD,List.getElem?_eq_getElem hi']; rfl)
   refine ⟨_,rfl,?_⟩
   have h1:=hm.imm _ _ _ hi2
   have h2:=World.block_lt_of_cell? (h:=h1)
   have h3:g2 ≠ g:=fun e => by subst e; exact hm.apart b _ _ _ hown hi2
   have ea:(⟨g2,off,none⟩:Addr).add i=⟨g2,off + i,none⟩:=by simp [Addr.add]
   rw [ea,← h1]
   exact zcT (hoth g2 h2 h3)
  obtain ⟨ad,ea,hc1⟩:=hcells x.val x.isLt
  obtain ⟨ad',ea',hc2⟩:=hcells y.val y.isLt
  rw [ea] at ea'
  injection ea' with ea'
  subst ea'
  have hbox:(sortWorld (encF n) w g 0 m dk os).cell? ⟨gc,2,none⟩=some (.slice ka n kc):=by
   rw [zcT (hoth gc hgclt hgc)]
   unfold World.cell?
   rw [q2]; rfl
  have hcc:=zjF (sortWorld (encF n) w g 0 m dk os) gc w0 w1 w3 ka n kc ((List.range n).map (keyB ks)) T x.val y.val x.isLt y.isLt hmax hbox ad ea
   (by rw [hc1,List.getD_eq_getElem?_getD,List.getElem?_map,List.getElem?_range x.isLt]; rfl) (by rw [hc2,List.getD_eq_getElem?_getD,List.getElem?_map,List.getElem?_range y.isLt]; rfl)
  refine hcc.mono ?_
  rintro e w' ⟨rfl,q,rfl⟩
  refine ⟨?_,q,#[],by rw [grow_empty]⟩
  unfold zl2
  rw [List.getD_eq_getElem?_getD,List.getD_eq_getElem?_getD,List.getElem?_map,List.getElem?_map,List.getElem?_range x.isLt,List.getElem?_range y.isLt]; rfl
 have hsort:=Tryz.slices_SortFunc (encF n) (fun _ => rfl) (zl2 n ks) (zn7 n ks) 36 #[.pointer (some ⟨gc,0,none⟩)] g 0 cap d w ziO hcmp hH (hm.lt b g hown) (by rw [hds]; omega)
 rw [hds] at hsort
 refine hsort.mono ?_
 rintro e w' ⟨rfl,d',m,os,hp,hs,rfl⟩
 have hd's:d'.size=n:=hp.1.trans hds
 have hperm:d'.toList.Perm (List.finRange n):=by
  have:=hp.2.2
  have e1:d'.extract 0 n=d':=Array.extract_eq_self_of_le (by omega)
  have e2:d.extract 0 n=d:=Array.extract_eq_self_of_le (by omega)
  rw [e1,e2] at this
  simpa [d] using this
 have hpr:(d'.toList.map Fin.val).Perm (List.range n):=by
  have:=hperm.map Fin.val
  rwa [zhM] at this
 have hps:((d'.toList.map Fin.val).map fun i => ks.getD i [])=zcl n ks:=by
  have h1:((d'.toList.map Fin.val).map fun i => ks.getD i []).Perm ks:=by
   have:=hpr.map fun i => ks.getD i []
   have e:(List.range n).map (fun i => ks.getD i [])=ks:=by
    apply List.ext_getElem (by simp [hl])
    intro i h1 h2
    rw [List.getElem_map,List.getElem_range,List.getD_eq_getElem?_getD,List.getElem?_eq_getElem h2]; rfl
   rwa [e] at this
  refine List.Perm.eq_of_pairwise (le:=fun x y => leS x y=true) (fun x y _ _ h1 h2 => zkE x y h1 h2) ?_ (zcb _ _ (by omega)) (h1.trans (za1 _ _).symm)
  rw [List.map_map,List.pairwise_map,List.pairwise_iff_getElem]
  intro i j h1 h2 hij
  have h3:=hs i j (Nat.zero_le _) hij (by simpa [hd's] using h2)
  rw [ze7] at h3
  rw [getElem!_pos d' i (by simpa using h1),getElem!_pos d' j (by simpa using h2)] at h3
  exact zj0.1 (by simpa using h3)
 have hkk:=hk _ hpr hps
 rw [zfo hcur hH hp.1]
 have hg1:w.grownBy (w.drewN m) none:=⟨rfl,rfl,rfl,Nat.le_refl _,fun _ _ _ => rfl⟩
 have hin1:=hin.evolve hg1 (by simp)
 have hm1:=hm.evolve hg1
 have hlen:(d'.toList.map Fin.val).length=n:=by simp [hd's]
 have hcells2:(d'.toList.map (encF n))=(d'.toList.map Fin.val).map fun (i:Nat) => Value.int .i64 (i:Int):=by
  rw [List.map_map]; rfl
 obtain ⟨hin2,hm2⟩:=setrow hin1 hm1 b g 0 3 1 gen n cap _ ((d'.toList.map Fin.val).map fun (i:Nat) => AV.i .i64 (i:Int)) ((d'.toList.map Fin.val).map fun (i:Nat) => Value.int .i64 (i:Int)) hb m1 (zgy _) (by
   intro u hu
   obtain ⟨i,_,rfl⟩:=List.mem_map.1 hu
   rfl) (by simp [hd's])
 have hsp:zaT ((List.range n).map fun (i:Nat) => AV.i .i64 (i:Int)) 0 ((d'.toList.map Fin.val).map fun (i:Nat) => AV.i .i64 (i:Int))=(d'.toList.map Fin.val).map fun (i:Nat) => AV.i .i64 (i:Int):=by
  unfold zaT
  rw [List.take_zero,List.nil_append,List.drop_of_length_le (by simp [hd's]),List.append_nil]
 rw [hsp] at hm2
 rw [hcells2]
 have hg2:((w.drewN m).setCells g 0 ((d'.toList.map Fin.val).map fun (i:Nat) => Value.int .i64 (i:Int))).grownBy (grow ((w.drewN m).setCells g 0 ((d'.toList.map Fin.val).map fun (i:Nat) => Value.int .i64 (i:Int))) os) none :=
  ⟨rfl,rfl,rfl,by unfold grow; simp,fun k hk _ => by unfold grow; exact Array.getElem?_append_left hk⟩
 exact ⟨_,_,.tup [],G,I,rfl,hkk,Gh.le.refl G,Imm.le.refl I,hin2.evolve hg2 (by simp),hm2.evolve hg2,by simp only [Den]; exact ⟨[],rfl,zaf.nil⟩⟩
end
end
end Go.Proofs.YtadhjoggdbhkgaaGreatDoor
namespace Go.Proofs.YtadhjoggdbhkgaaGreatDoor
open Go.RowKit Sx
section
attribute [local irreducible] run
theorem zko:∀ {a b:List (List UInt8)},a.Nodup → (∀ x ∈ a,x ∈ b) → a.length=b.length → a.Perm b
 | [],b,_,_,h => by
  have:b=[]:=List.eq_nil_of_length_eq_zero (by simpa using h.symm)
  rw [this]
 | x :: a,b,hn,hs,h => by
  rw [List.nodup_cons] at hn
  have hx:=hs x (by simp)
  have h1:=List.perm_cons_erase hx
  refine List.Perm.trans (List.Perm.cons x (zko (b:=b.erase x) hn.2 (fun y hy => ?_) ?_)) h1.symm
  ·have hne:y ≠ x:=fun e => hn.1 (e ▸ hy)
   exact (List.mem_erase_of_ne hne).2 (hs y (by simp [hy]))
  ·have:=h1.length_eq
   simp only [List.length_cons] at this h
   omega
theorem zhU {a b:List (List UInt8)} (h:a.Perm b):zcl a.length a=zcl b.length b :=
 List.Perm.eq_of_pairwise (le:=fun x y => leS x y=true) (fun x y _ _ h1 h2 => zkE x y h1 h2) (zcb _ _ (Nat.le_refl _)) (zcb _ _ (Nat.le_refl _)) ((za1 _ _).trans (h.trans (za1 _ _).symm))
theorem zoC:∀ (l:List JV) (w:JV) (ks:List (List UInt8)),zhd ks l w=true → ∀ (i:Nat) (h1:i < ks.length) (h2:i < l.length),(zdZ w ks[i]).2=true ∧ zeV l[i] (zdZ w ks[i]).1=true
 | [],w,ks,_,i,_,h2 => by simp at h2
 | v :: l,w,[],_,i,h1,_ => by simp at h1
 | v :: l,w,k :: ks,h,i,h1,h2 => by
  rw [zhd] at h
  simp only [Bool.and_eq_true] at h
  cases i with
  | zero => exact ⟨h.1,h.2.1⟩
  | succ i => exact zoC l w ks h.2.2 i (by simpa using h1) (by simpa using h2)
theorem zoM {w:JV} {key:List UInt8} (hl:w.keys.length=w.items.length) (h:(zdZ w key).2=true):∃ (j:Nat) (h1:j < w.keys.length) (h2:j < w.items.length),w.keys[j]=key ∧ (zdZ w key).1=w.items[j]:=by
 unfold zdZ at h ⊢
 by_cases c:w.kind=7 ∧ zdY key w.keys < w.keys.length
 ·have h2:zdY key w.keys < w.items.length:=by omega
  have h3:=zhg c.2
  rw [List.getElem?_eq_getElem c.2] at h3
  rw [if_pos c,List.getElem?_eq_getElem h2]
  exact ⟨_,c.2,h2,Option.some.inj h3,rfl⟩
 ·rw [if_neg c] at h; cases h
theorem zjl {ks ws:List (List UInt8)} {l m:List JV} (hn:ks.Nodup) (kn:ws.Nodup) (hl:ks.length=l.length) (kl:ws.length=m.length) (hp:ks.Perm ws)
  (h:∀ (i j:Nat) (h1:i < ks.length) (h2:j < ws.length),ks[i]=ws[j] → zaY (l[i]'(by omega))=zaY (m[j]'(by omega))) :
  ((zcl ks.length ks).map fun key => ((zbB l)[zdY key ks]?).getD jvZ)=((zcl ws.length ws).map fun key => ((zbB m)[zdY key ws]?).getD jvZ):=by
 rw [← zhU hp]
 apply List.map_congr_left
 intro key hk
 have h1:key ∈ ks:=(za1 _ _).mem_iff.1 hk
 have h2:key ∈ ws:=hp.mem_iff.1 h1
 obtain ⟨i,hi,e1⟩:=List.mem_iff_getElem.1 h1
 obtain ⟨j,hj,e2⟩:=List.mem_iff_getElem.1 h2
 have q1:=zbG hn hi
 have q2:=zbG kn hj
 rw [e1] at q1
 rw [e2] at q2
 rw [q1,q2,zc1 (by omega),zc1 (by omega),h i j hi hj (e1.trans e2.symm)]
theorem zhb {v:JV} {d:Nat} (h:RdJ v d) (h6:v.kind ≠ 6) (h7:v.kind ≠ 7):v=.mk v.kind v.text [] [] ∧ ((v.kind=1 ∨ v.kind=2 ∨ v.kind=3) ∧ v.text=[] ∨ v.kind=4 ∨ v.kind=5):=by
 cases v with
 | mk k t ks its =>
  rw [RdJ] at h
  simp only [JV.kind,JV.text] at h6 h7 ⊢
  rcases h with ⟨hk,rfl,rfl,rfl⟩ | ⟨rfl,hx,rfl,rfl⟩ | ⟨rfl,hx,rfl,rfl⟩ | ⟨rfl,_⟩ | ⟨rfl,_⟩
  ·exact ⟨rfl,.inl ⟨hk,rfl⟩⟩
  ·exact ⟨rfl,.inr (.inl rfl)⟩
  ·exact ⟨rfl,.inr (.inr rfl)⟩
  ·exact absurd rfl h6
  ·exact absurd rfl h7
theorem zkw {v:JV} {d:Nat} (h:RdJ v d) (h7:v.kind=7):v=.mk 7 [] v.keys v.items ∧ v.keys.length=v.items.length ∧ v.keys.Nodup ∧ ∀ x ∈ v.items,RdJ x (d + 1):=by
 cases v with
 | mk k t ks its =>
  rw [RdJ] at h
  simp only [JV.kind,JV.keys,JV.items] at h7 ⊢
  rcases h with ⟨hk,_⟩ | ⟨hk,_⟩ | ⟨hk,_⟩ | ⟨hk,_⟩ | ⟨rfl,rfl,hlen,hnd,_,_,hl⟩
  ·omega
  ·omega
  ·omega
  ·omega
  ·exact ⟨rfl,hlen,hnd,zc0.1 hl⟩
theorem zls {v:JV} {d:Nat} (h:RdJ v d) (h6:v.kind=6):v=.mk 6 [] [] v.items ∧ ∀ x ∈ v.items,RdJ x (d + 1):=by
 cases v with
 | mk k t ks its =>
  rw [RdJ] at h
  simp only [JV.kind,JV.items] at h6 ⊢
  rcases h with ⟨hk,_⟩ | ⟨hk,_⟩ | ⟨hk,_⟩ | ⟨rfl,rfl,rfl,_,hl⟩ | ⟨hk,_⟩
  ·omega
  ·omega
  ·omega
  ·exact ⟨rfl,zc0.1 hl⟩
  ·omega
mutual
/-- equal values come to the same order -/
theorem zk5:∀ (v w:JV) (d e:Nat),RdJ v d → RdJ w e → zeV v w=true → zaY v=zaY w
 | .mk k t ks its,w,d,e,hv,hw,h => by
  have ih:=zoW its
  have im:=zoV its
  rw [zeV,Bool.and_eq_true,decide_eq_true_eq] at h
  obtain ⟨hk,h⟩:=h
  by_cases c6:k=6
  ·obtain ⟨ev,hi⟩:=zls hv c6
   obtain ⟨ew,hj⟩:=zls hw (hk.symm.trans c6)
   rw [if_neg (by omega),if_neg (by omega),if_pos c6] at h
   have:=ih w.items (d + 1) (e + 1) hi hj h
   rw [ev,ew,zaY,zaY,if_pos rfl,if_pos rfl]
   show JV.mk 6 [] [] (zbB its)=_
   rw [this]
  ·by_cases c7:k=7
   ·obtain ⟨ev,hl,hn,hi⟩:=zkw hv c7
    obtain ⟨ew,kl,kn,hj⟩:=zkw hw (hk.symm.trans c7)
    rw [if_neg (by omega),if_neg (by omega),if_neg c6,if_pos c7,Bool.and_eq_true,decide_eq_true_eq] at h
    simp only [JV.keys,JV.items] at hl hn hi
    have hat:=zoC its w ks h.2
    have hp:ks.Perm w.keys:=zko hn (fun x hx => by
     obtain ⟨i,hi1,rfl⟩:=List.mem_iff_getElem.1 hx
     obtain ⟨j,j1,j2,e1,_⟩:=zoM kl (hat i hi1 (by omega)).1
     rw [← e1]; exact List.getElem_mem _) h.1
    rw [ev,ew,zaY,zaY,if_neg (by decide),if_neg (by decide)]
    show JV.mk 7 [] (zcl ks.length ks) ((zcl ks.length ks).map fun key => ((zbB its)[zdY key ks]?).getD jvZ)=_
    have e1:=zhU hp
    have e2:=zjl (l:=its) (m:=w.items) hn kn hl kl hp (fun i j h1 h2 he => by
     have h3:=hat i h1 (by omega)
     have h4:=zfL (v:=w) (hk.symm.trans c7) kl kn h2
     rw [he,h4] at h3
     exact im i (by omega) w.items[j] (d + 1) (e + 1) (hi _ (List.getElem_mem _)) (hj _ (List.getElem_mem _)) h3.2)
    rw [e2,e1]
   ·obtain ⟨ev,hv2⟩:=zhb hv c6 c7
    obtain ⟨ew,hw2⟩:=zhb hw (by rw [← hk]; exact c6) (by rw [← hk]; exact c7)
    have ht:t=w.text:=by
     simp only [JV.kind,JV.text] at hv2
     rcases hv2 with ⟨a,b⟩ | a | a
     ·rcases hw2 with ⟨_,b'⟩ | a' | a'
      ·rw [b,b']
      ·omega
      ·omega
     ·rw [if_neg (by omega),if_pos (.inl a),decide_eq_true_eq] at h; exact h
     ·rw [if_neg (by omega),if_pos (.inr a),decide_eq_true_eq] at h; exact h
    rw [ev,ew]
    show zaY (.mk k t [] [])=_
    rw [ht,hk]
theorem zoW:∀ (l m:List JV) (d e:Nat),(∀ x ∈ l,RdJ x d) → (∀ x ∈ m,RdJ x e) → zeU l m=true → zbB l=zbB m
 | [],m,d,e,_,_,h => by
  rw [zeU] at h
  have:m=[]:=by simpa using h
  rw [this]
 | v :: l,[],d,e,_,_,h => by rw [zeU] at h; cases h
 | v :: l,w :: m,d,e,hv,hw,h => by
  rw [zeU,Bool.and_eq_true] at h
  rw [zbB,zbB,zk5 v w d e (hv v (by simp)) (hw w (by simp)) h.1,zoW l m d e (fun x hx => hv x (by simp [hx])) (fun x hx => hw x (by simp [hx])) h.2]
theorem zoV:∀ (l:List JV) (i:Nat) (hi:i < l.length) (w:JV) (d e:Nat),RdJ l[i] d → RdJ w e → zeV l[i] w=true → zaY l[i]=zaY w
 | v :: l,0,hi,w,d,e,h1,h2,h => zk5 v w d e h1 h2 h
 | v :: l,i + 1,hi,w,d,e,h1,h2,h => zoV l i (by simpa using hi) w d e h1 h2 h
end
theorem zin (v:JV):(zaY v).kind=v.kind:=by
 cases v with
 | mk k t ks its => rw [zaY]; split <;> rfl
mutual
/-- values of one order are equal -/
theorem zg5:∀ (v w:JV) (d e:Nat),RdJ v d → RdJ w e → zaY v=zaY w → zeV v w=true
 | .mk k t ks its,w,d,e,hv,hw,h => by
  have ih:=zkt its
  have im:=zks its
  have hk:k=w.kind:=by
   have:=congrArg JV.kind h
   rw [zin,zin] at this
   exact this
  have hs:=zic _ _ hv
  by_cases c6:k=6
  ·obtain ⟨ev,hi⟩:=zls hv c6
   obtain ⟨ew,hj⟩:=zls hw (hk.symm.trans c6)
   rw [zeV,decide_eq_true hk,Bool.true_and,if_neg (by omega),if_neg (by omega),if_pos c6]
   rw [ev,ew,zaY,zaY,if_pos rfl,if_pos rfl] at h
   injection h with _ _ _ h
   exact ih w.items (d + 1) (e + 1) hi hj h
  ·by_cases c7:k=7
   ·obtain ⟨ev,hl,hn,hi⟩:=zkw hv c7
    obtain ⟨ew,kl,kn,hj⟩:=zkw hw (hk.symm.trans c7)
    rw [zeV,decide_eq_true hk,Bool.true_and,if_neg (by omega),if_neg (by omega),if_neg c6,if_pos c7]
    rw [ev,ew,zaY,zaY,if_neg (by decide),if_neg (by decide)] at h
    injection h with _ _ h1 h2
    simp only [JV.keys,JV.items] at hl hn hi
    replace h1:zcl ks.length ks=zcl w.keys.length w.keys:=h1
    replace h2:((zcl ks.length ks).map fun key => ((zbB its)[zdY key ks]?).getD jvZ)=((zcl w.keys.length w.keys).map fun key => ((zbB w.items)[zdY key w.keys]?).getD jvZ):=h2
    have hp:ks.Perm w.keys:=(za1 ks.length ks).symm.trans (h1 ▸ za1 w.keys.length w.keys)
    rw [decide_eq_true hp.length_eq,Bool.true_and]
    refine zjx its w ks fun i q1 q2 => ?_
    have hm:ks[i] ∈ w.keys:=hp.mem_iff.1 (List.getElem_mem q1)
    obtain ⟨j,hj1,hj2⟩:=List.mem_iff_getElem.1 hm
    have hg:=zfL (v:=w) (hk.symm.trans c7) kl kn hj1
    rw [hj2] at hg
    rw [hg]
    refine ⟨rfl,im i q2 _ (d + 1) (e + 1) (hi _ (List.getElem_mem _)) (hj _ (List.getElem_mem _)) ?_⟩
    have hS:ks[i] ∈ zcl ks.length ks:=(za1 _ _).mem_iff.2 (List.getElem_mem q1)
    obtain ⟨p,hp1,hp2⟩:=List.mem_iff_getElem.1 hS
    have h3:=congrArg (fun l:List JV => l[p]?) h2
    have hp3:p < (zcl w.keys.length w.keys).length:=by rw [← h1]; exact hp1
    have e3:(zcl w.keys.length w.keys)[p]=ks[i]:=by
     rw [← hp2]
     exact Option.some.inj (by rw [← List.getElem?_eq_getElem hp3,← List.getElem?_eq_getElem hp1,h1])
    simp only [List.getElem?_map,List.getElem?_eq_getElem hp1,List.getElem?_eq_getElem hp3,Option.map_some,Option.some.injEq,hp2,e3] at h3
    have q4:=zbG kn hj1
    rw [hj2] at q4
    rw [zbG hn q1,q4,zc1 q2,zc1 (by omega)] at h3
    exact h3
   ·obtain ⟨ev,_⟩:=zhb hv c6 c7
    obtain ⟨ew,_⟩:=zhb hw (by rw [← hk]; exact c6) (by rw [← hk]; exact c7)
    have e1:∀ (k:Int) (t:List UInt8),¬ k=6 → zaY (.mk k t [] [])=.mk k t [] []:=fun k t hk => by
     have:zcl 0 ([]:List (List UInt8))=[]:=(za1 0 []).eq_nil
     rw [zaY,if_neg hk]
     show JV.mk k t (zcl 0 []) ((zcl 0 []).map _)=_
     rw [this]; rfl
    have e2:JV.mk k t ks its=w:=by
     rw [ev,ew,e1 _ _ (by exact c6),e1 _ _ (by rw [← hk]; exact c6)] at h
     rw [ev,ew]; exact h
    rw [← e2]
    exact zee _ hs
theorem zkt:∀ (l m:List JV) (d e:Nat),(∀ x ∈ l,RdJ x d) → (∀ x ∈ m,RdJ x e) → zbB l=zbB m → zeU l m=true
 | [],[],d,e,_,_,h => by rw [zeU]; rfl
 | [],w :: m,d,e,_,_,h => by rw [zbB,zbB] at h; cases h
 | v :: l,[],d,e,_,_,h => by rw [zbB,zbB] at h; cases h
 | v :: l,w :: m,d,e,hv,hw,h => by
  rw [zbB,zbB] at h
  injection h with h1 h2
  rw [zeU,zg5 v w d e (hv v (by simp)) (hw w (by simp)) h1,zkt l m d e (fun x hx => hv x (by simp [hx])) (fun x hx => hw x (by simp [hx])) h2]
  rfl
theorem zks:∀ (l:List JV) (i:Nat) (hi:i < l.length) (w:JV) (d e:Nat),RdJ l[i] d → RdJ w e → zaY l[i]=zaY w → zeV l[i] w=true
 | v :: l,0,hi,w,d,e,h1,h2,h => zg5 v w d e h1 h2 h
 | v :: l,i + 1,hi,w,d,e,h1,h2,h => zks l i (by simpa using hi) w d e h1 h2 h
end
theorem zkr {v:JV} {d:Nat} (h:RdJ v d):zaY (zaY v)=zaY v:=zk5 _ _ d d (zil v d h) h (ord_eq v d h)
theorem znN {v:JV} {d:Nat} (h:RdJ v d):zeV v (zaY v)=true:=zg5 _ _ d d h (zil v d h) (zkr h).symm
end
end Go.Proofs.YtadhjoggdbhkgaaGreatDoor
