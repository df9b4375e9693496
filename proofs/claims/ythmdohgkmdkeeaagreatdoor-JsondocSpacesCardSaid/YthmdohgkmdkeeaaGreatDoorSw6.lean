/- The texts that the proofs of these statements reach, in their order, as few files. -/
import Derived.Test.YthmdohgkmdkeeaaGreatDoorSw5
set_option linter.unusedVariables false
set_option linter.unusedSimpArgs false
set_option maxRecDepth 100000
namespace Go.Proofs.YthmdohgkmdkeeaaGreatDoor
open Nat renaming reduceAdd → z6, reduceSub → z7, reduceLeDiff → z8, reduceLT → j4, reduceMul → j5, reduceEqDiff → j6
open Int renaming reduceToNat → j7, reduceAdd → j8, reduceSub → j9, reduceMul → x0, reduceNeg → x3, reduceLT → x4, reduceLE → x5, reduceEq → x6, reduceNe → x7
open Go.RowKit Sx
section
attribute [local irreducible] run
mutual
def rvJ:RV → JV
 | .mk k t ks its => .mk k t ks (zl4 its)
def zl4:List RV → List JV
 | [] => []
 | v :: l => rvJ v :: zl4 l
end
theorem zgq:∀ l:List RV,(zl4 l).length=l.length
 | [] => by rw [zl4]; rfl
 | v :: l => by rw [zl4,List.length_cons,zgq l,List.length_cons]
mutual
theorem zjG:∀ r:RV,zdT r=zaj (rvJ r)
 | .mk k t ks its => by rw [zdT,rvJ,zaj,zhx its,zgq]
theorem zhx:∀ l:List RV,zc4 l=zac (zl4 l)
 | [] => by rw [zc4,zl4,zac]
 | v :: l => by rw [zc4,zl4,zac,zjG v,zhx l]
end
mutual
def JOk:JV → Prop
 | .mk k t ks its => (Lit.int .i64 k).wf=true ∧ t.length ≤ 140737488351232 ∧ ks.length ≤ 140737488351232 ∧ (∀ k ∈ ks,k.length ≤ 140737488351232) ∧ its.length ≤ 140737488351232 ∧ zlo its
def zlo:List JV → Prop
 | [] => True
 | v :: l => JOk v ∧ zlo l
end
mutual
theorem rv_ok:∀ r:RV,RVok r → JOk (rvJ r)
 | .mk k t ks its,h => by
  rw [RVok] at h
  rw [rvJ,JOk]
  exact ⟨h.1,h.2.1,h.2.2.1,h.2.2.2.1,by rw [zgq]; exact h.2.2.2.2.1,rvs_ok its h.2.2.2.2.2⟩
theorem rvs_ok:∀ l:List RV,zi7 l → zlo (zl4 l)
 | [],_ => by rw [zl4,zlo]; trivial
 | v :: l,h => by
  rw [zi7] at h
  rw [zl4,zlo]
  exact ⟨rv_ok v h.1,rvs_ok l h.2⟩
end
theorem znO:∀ {l:List JV} (h:zlo l) {i:Nat} (hi:i < l.length),JOk l[i]
 | a :: l,h,0,hi => by rw [zlo] at h; exact h.1
 | a :: l,h,i + 1,hi => by rw [zlo] at h; exact znO h.2 (by simpa using hi)
theorem JOk.its {v:JV} (h:JOk v) {i:Nat} (hi:i < v.items.length):JOk v.items[i]:=by
 cases v with
 | mk k t ks its => rw [JOk] at h; exact znO h.2.2.2.2.2 hi
theorem JOk.lens {v:JV} (h:JOk v):v.keys.length ≤ 140737488351232 ∧ v.items.length ≤ 140737488351232 ∧ v.text.length ≤ 140737488351232 ∧ ∀ k ∈ v.keys,k.length ≤ 140737488351232:=by
 cases v with
 | mk k t ks its => rw [JOk] at h; exact ⟨h.2.2.1,h.2.2.2.2.1,h.2.1,h.2.2.2.1⟩
mutual
/-- not too many keys and items, wherever -/
def JBd:JV → Prop
 | .mk k t ks its => ks.length ≤ 1099511627780 ∧ its.length ≤ 1099511627776 ∧ zim its
def zim:List JV → Prop
 | [] => True
 | v :: l => JBd v ∧ zim l
end
theorem znT:∀ {l:List JV},(∀ (i:Nat) (h:i < l.length),JBd l[i]) → zim l
 | [],_ => by rw [zim]; trivial
 | v :: l,h => by
  rw [zim]
  exact ⟨h 0 (by simp),znT fun i hi => by have:=h (i + 1) (by simpa using hi); simpa only [List.getElem_cons_succ] using this⟩
theorem znU:∀ {l:List JV} (h:zim l) {i:Nat} (hi:i < l.length),JBd l[i]
 | a :: l,h,0,hi => by rw [zim] at h; exact h.1
 | a :: l,h,i + 1,hi => by rw [zim] at h; exact znU h.2 (by simpa using hi)
theorem JBd.lens {v:JV} (h:JBd v):v.keys.length ≤ 1099511627780 ∧ v.items.length ≤ 1099511627776:=by
 cases v; rw [JBd] at h; exact ⟨h.1,h.2.1⟩
theorem JBd.its {v:JV} (h:JBd v) {i:Nat} (hi:i < v.items.length):JBd v.items[i]:=by
 cases v with
 | mk k t ks its => rw [JBd] at h; exact znU h.2.2 hi
theorem JBd.of {v:JV} (h1:v.keys.length ≤ 1099511627780) (h2:v.items.length ≤ 1099511627776) (h3:∀ (i:Nat) (h:i < v.items.length),JBd v.items[i]):JBd v:=by
 cases v; rw [JBd]; exact ⟨h1,h2,znT h3⟩
theorem zcH (v w:JV):zdx v w=(decide (v.kind=w.kind) && (decide (v.text=w.text) && (decide (v.keys=w.keys) && zbL v.items w.items))):=by
 cases v; cases w; rw [zdx]; rfl
theorem zfV:∀ {l m:List JV},l.length ≠ m.length → zbL l m=false
 | [],[],h => absurd rfl h
 | [],_ :: _,_ => by rw [zbL]; all_goals simp
 | _ :: _,[],_ => by rw [zbL]; all_goals simp
 | v :: l,w :: m,h => by rw [zbL,zfV (l:=l) (m:=m) (by simpa using h)]; simp
theorem zhk:∀ {l m:List JV} {i:Nat} (h1:i < l.length) (h2:i < m.length),zdx l[i] m[i]=false → zbL l m=false
 | v :: l,w :: m,0,_,_,h => by rw [zbL]; simp only [List.getElem_cons_zero] at h; rw [h]; rfl
 | v :: l,w :: m,i + 1,h1,h2,h => by
  rw [zbL,zhk (l:=l) (m:=m) (i:=i) (by simpa using h1) (by simpa using h2) (by simpa using h)]; simp
theorem zfU:∀ {l m:List JV},l.length=m.length → (∀ (i:Nat) (h1:i < l.length) (h2:i < m.length),zdx l[i] m[i]=true) → zbL l m=true
 | [],[],_,_ => by rw [zbL]
 | [],_ :: _,h,_ => by simp at h
 | _ :: _,[],h,_ => by simp at h
 | v :: l,w :: m,h,k => by
  rw [zbL,zfU (l:=l) (m:=m) (by simpa using h) (fun i h1 h2 => by have:=k (i + 1) (by simpa using h1) (by simpa using h2); simp only [List.getElem_cons_succ] at this; exact this)]
  have:=k 0 (by simp) (by simp)
  simp only [List.getElem_cons_zero] at this
  rw [this]; rfl
theorem size_eq (v:JV):v.size=JV.sizes v.items + 1:=by cases v; rw [JV.size]; rfl
theorem zfT:∀ {l:List JV} {i:Nat} (hi:i < l.length),JV.sizes (l.take (i + 1))=JV.sizes (l.take i) + l[i].size
 | a :: l,0,hi => by rw [List.take_succ_cons,List.take_zero,List.take_zero,JV.sizes,JV.sizes,JV.sizes]; simp
 | a :: l,i + 1,hi => by
  rw [List.take_succ_cons,List.take_succ_cons,JV.sizes,JV.sizes,zfT (l:=l) (i:=i) (by simpa using hi)]
  simp only [List.getElem_cons_succ]
  omega
mutual
/-- short texts, not too many keys and items, wherever -/
def JKp:JV → Prop
 | .mk k t ks its => ks.length ≤ 1099511627780 ∧ its.length ≤ 1099511627776 ∧ t.length ≤ 300 ∧ (∀ k ∈ ks,k.length ≤ 300) ∧ zeI its
def zeI:List JV → Prop
 | [] => True
 | v :: l => JKp v ∧ zeI l
end
theorem znQ:∀ {l:List JV},(∀ (i:Nat) (h:i < l.length),JKp l[i]) → zeI l
 | [],_ => by rw [zeI]; trivial
 | v :: l,h => by
  rw [zeI]
  exact ⟨h 0 (by simp),znQ fun i hi => by have:=h (i + 1) (by simpa using hi); simpa only [List.getElem_cons_succ] using this⟩
theorem znR:∀ {l:List JV} (h:zeI l) {i:Nat} (hi:i < l.length),JKp l[i]
 | a :: l,h,0,hi => by rw [zeI] at h; exact h.1
 | a :: l,h,i + 1,hi => by rw [zeI] at h; exact znR h.2 (by simpa using hi)
theorem JKp.lens {v:JV} (h:JKp v):v.keys.length ≤ 1099511627780 ∧ v.items.length ≤ 1099511627776 ∧ v.text.length ≤ 300 ∧ ∀ k ∈ v.keys,k.length ≤ 300:=by
 cases v; rw [JKp] at h; exact ⟨h.1,h.2.1,h.2.2.1,h.2.2.2.1⟩
theorem JKp.its {v:JV} (h:JKp v) {i:Nat} (hi:i < v.items.length):JKp v.items[i]:=by
 cases v with
 | mk k t ks its => rw [JKp] at h; exact znR h.2.2.2.2 hi
theorem JKp.of {v:JV} (h1:v.keys.length ≤ 1099511627780) (h2:v.items.length ≤ 1099511627776) (h3:v.text.length ≤ 300) (h4:∀ k ∈ v.keys,k.length ≤ 300) (h5:∀ (i:Nat) (h:i < v.items.length),JKp v.items[i]):JKp v:=by
 cases v; rw [JKp]; exact ⟨h1,h2,h3,h4,znQ h5⟩
mutual
theorem JKp.bd:∀ {v:JV},JKp v → JBd v
 | .mk k t ks its,h => by rw [JKp] at h; rw [JBd]; exact ⟨h.1,h.2.1,zeI.bd h.2.2.2.2⟩
theorem zeI.bd:∀ {l:List JV},zeI l → zim l
 | [],_ => by rw [zim]; trivial
 | v :: l,h => by rw [zeI] at h; rw [zim]; exact ⟨JKp.bd h.1,zeI.bd h.2⟩
end
mutual
/-- no slice too long, wherever -/
def JLn:JV → Prop
 | .mk k t ks its => ks.length ≤ 140737488351232 ∧ its.length ≤ 140737488351232 ∧ zoZ its
def zoZ:List JV → Prop
 | [] => True
 | v :: l => JLn v ∧ zoZ l
end
mutual
theorem JOk.ln:∀ {v:JV},JOk v → JLn v
 | .mk k t ks its,h => by rw [JOk] at h; rw [JLn]; exact ⟨h.2.2.1,h.2.2.2.2.1,zlo.ln h.2.2.2.2.2⟩
theorem zlo.ln:∀ {l:List JV},zlo l → zoZ l
 | [],_ => by rw [zoZ]; trivial
 | v :: l,h => by rw [zlo] at h; rw [zoZ]; exact ⟨JOk.ln h.1,zlo.ln h.2⟩
end
mutual
theorem JBd.ln:∀ {v:JV},JBd v → JLn v
 | .mk k t ks its,h => by rw [JBd] at h; rw [JLn]; exact ⟨by omega,by omega,zim.ln h.2.2⟩
theorem zim.ln:∀ {l:List JV},zim l → zoZ l
 | [],_ => by rw [zoZ]; trivial
 | v :: l,h => by rw [zim] at h; rw [zoZ]; exact ⟨JBd.ln h.1,zim.ln h.2⟩
end
theorem znP:∀ {l:List JV} (h:zoZ l) {i:Nat} (hi:i < l.length),JLn l[i]
 | a :: l,h,0,hi => by rw [zoZ] at h; exact h.1
 | a :: l,h,i + 1,hi => by rw [zoZ] at h; exact znP h.2 (by simpa using hi)
theorem JLn.its {v:JV} (h:JLn v) {i:Nat} (hi:i < v.items.length):JLn v.items[i]:=by
 cases v with
 | mk k t ks its => rw [JLn] at h; exact znP h.2.2 hi
theorem JLn.lens {v:JV} (h:JLn v):v.keys.length ≤ 140737488351232 ∧ v.items.length ≤ 140737488351232:=by
 cases v with
 | mk k t ks its => rw [JLn] at h; exact ⟨h.1,h.2.1⟩
section
variable [Tabs Tryz.prog]
theorem ziN:∀ (m:Nat) (v:JV) (a d:Int),v.size < m → JOk v → 0 ≤ a → a ≤ 1099511627776 → 0 ≤ d → d ≤ 1099511627776 → ∀ {objs:List OB} {K:List OB → AV → Prop},(∀ n:Int,-1 ≤ n → n ≤ 1099511627776 → (0 ≤ n → JKp v ∧ n + (v.size:Int)=a) → K objs (.i .i64 n)) → zad Tryz.prog 26 [.agg (zaj v),.i .i64 a,.i .i64 d] objs K:=by
 intro m
 induction m with
 | zero => intro v a d h; omega
 | succ m ih =>
  intro v a d hm hv ha ha2 hd hd2 objs K hk
  obtain ⟨l1,l2,l3,l4⟩:=hv.lens
  refine zaX is_keep_size (by simp only [zan,AV.plain,zaR,Bool.and_self]) fun C _ => ?_
  rw [c_keep_size]
  refine zaa fun Y hY => ?_
  simp only [sxZ,z6,z7,z8,j4,j5,j6,j7,j8,j9,x0,x3,x4,x5,x6,x7,reduceCtorEq,↓reduceIte]
  have e0:OB.box 26 (zaj v)=OB.box 26 [.i .i64 v.kind,.s v.text,.row v.keys.length (v.keys.map .s),.row v.items.length (zac v.items)]:=by rw [zal]
  rw [e0]
  subst hY
  refine zaa fun Y hY => ?_
  have bad:∀ (o:List OB) (tm:List AV),True:=fun _ _ => trivial
  by_cases c1:a ≤ 0
  ·simp only [sxZ,z6,z7,z8,j4,j5,j6,j7,j8,j9,x0,x3,x4,x5,x6,x7,reduceCtorEq,↓reduceIte,c1,decide_true]
   exact hk _ (by decide) (by decide) (fun h => absurd h (by decide))
  by_cases c2:d ≤ 0
  ·simp only [sxZ,z6,z7,z8,j4,j5,j6,j7,j8,j9,x0,x3,x4,x5,x6,x7,reduceCtorEq,↓reduceIte,c1,c2,decide_true]
   exact hk _ (by decide) (by decide) (fun h => absurd h (by decide))
  by_cases c3:(300:Int) < v.text.length
  ·simp only [sxZ,z6,z7,z8,j4,j5,j6,j7,j8,j9,x0,x3,x4,x5,x6,x7,reduceCtorEq,↓reduceIte,c1,c2,c3,decide_true]
   exact hk _ (by decide) (by decide) (fun h => absurd h (by decide))
  by_cases c4:(v.items.length:Int) + 4 < v.keys.length
  ·simp only [sxZ,z6,z7,z8,j4,j5,j6,j7,j8,j9,x0,x3,x4,x5,x6,x7,reduceCtorEq,↓reduceIte,c1,c2,c3,c4,decide_true]
   refine ⟨by omega,?_⟩
   exact hk _ (by decide) (by decide) (fun h => absurd h (by decide))
  by_cases c5:a < (v.items.length:Int)
  ·simp only [sxZ,z6,z7,z8,j4,j5,j6,j7,j8,j9,x0,x3,x4,x5,x6,x7,reduceCtorEq,↓reduceIte,c1,c2,c3,c4,c5,decide_true]
   refine ⟨by omega,?_⟩
   exact hk _ (by decide) (by decide) (fun h => absurd h (by decide))
  simp only [sxZ,z6,z7,z8,j4,j5,j6,j7,j8,j9,x0,x3,x4,x5,x6,x7,reduceCtorEq,↓reduceIte,c1,c2,c3,c4,c5,decide_true]
  refine ⟨by omega,?_⟩
  rw [← e0]
  generalize hB:OB.box 26 (zaj v)=B
  subst hY
  refine zaa fun Y hY => ?_
  simp only [sxZ,z6,z7,z8,j4,j5,j6,j7,j8,j9,x0,x3,x4,x5,x6,x7,reduceCtorEq,↓reduceIte]
  refine ⟨by omega,?_⟩
  subst hY
  refine zaa fun Y hY => ?_
  rw [← hB,e0]
  simp only [sxZ,z6,z7,z8,j4,j5,j6,j7,j8,j9,x0,x3,x4,x5,x6,x7,reduceCtorEq,↓reduceIte]
  refine zaE (fun n o tm => ∃ i:Nat,i ≤ v.keys.length ∧ n=v.keys.length - i ∧ o=[OB.box 26 (zaj v)] ∧ (∀ j x,j < i → v.keys[j]? = some x → x.length ≤ 300) ∧ tm.length=69 ∧ tm[1]? = some (.i .i64 (a - 1)) ∧ tm[2]? = some (.i .i64 d) ∧ tm[3]? = some (.p 0 0) ∧ tm[43]? = some (.row v.keys.length (v.keys.map .s)) ∧ tm[44]? = some (.i .i64 (v.keys.length:Int)) ∧ tm[45]? = some (.i .i64 (i:Int))) v.keys.length ⟨0,Nat.zero_le _,rfl,by rw [e0],(fun j x h => by omega),rfl,rfl,rfl,rfl,rfl,rfl,rfl⟩ ?_
  rintro n _ tm ⟨i,hi,rfl,rfl,hks,hlen,t1,t2,t3,t43,t44,t45⟩
  refine zaa fun Z hZ => ?_
  by_cases hlt:(i:Int) < (v.keys.length:Int)
  ·have hi':i < v.keys.length:=by omega
   have hkk:(v.keys.map AV.s)[i * 1]? = some (.s v.keys[i]):=by rw [Nat.mul_one,List.getElem?_map,List.getElem?_eq_getElem hi']; rfl
   have hk4:=l4 _ (List.getElem_mem hi')
   have hk5:v.keys[i]? = some v.keys[i]:=List.getElem?_eq_getElem hi'
   generalize v.keys[i]=key at hkk hk4 hk5
   simp only [sxZ,z6,z7,z8,j4,j5,j6,j7,j8,j9,x0,x3,x4,x5,x6,x7,reduceCtorEq,↓reduceIte,List.getElem?_set,hlen,t1,t2,t3,t43,t44,t45,hlt]
   subst hZ
   simp only [sxZ,z6,z7,z8,j4,j5,j6,j7,j8,j9,x0,x3,x4,x5,x6,x7,reduceCtorEq,↓reduceIte,List.getElem?_set,hlen,t1,t2,t3,t43,t44,t45,hlt,List.length_map,hkk]
   refine ⟨by omega,?_⟩
   by_cases c6:(300:Int) < key.length
   ·simp only [sxZ,z6,z7,z8,j4,j5,j6,j7,j8,j9,x0,x3,x4,x5,x6,x7,reduceCtorEq,↓reduceIte,List.getElem?_set,hlen,t1,t2,t3,t43,t44,t45,c6]
    exact hk _ (by decide) (by decide) (fun h => absurd h (by decide))
   simp only [sxZ,z6,z7,z8,j4,j5,j6,j7,j8,j9,x0,x3,x4,x5,x6,x7,reduceCtorEq,↓reduceIte,List.getElem?_set,hlen,t1,t2,t3,t43,t44,t45,c6]
   refine ⟨by omega,v.keys.length - (i + 1),by omega,i + 1,by omega,rfl,fun j x hj hx => ?_,rfl⟩
   by_cases e:j=i
   ·subst e
    rw [hk5] at hx; injection hx with hx; rw [← hx]; omega
   ·exact hks j x (by omega) hx
  have hn:i=v.keys.length:=by omega
  have hks2:∀ k ∈ v.keys,k.length ≤ 300:=fun k hk => by
   obtain ⟨j,hj⟩:=List.mem_iff_getElem?.1 hk
   exact hks j k (by have:=(List.getElem?_eq_some_iff.1 hj).1; omega) hj
  simp only [sxZ,z6,z7,z8,j4,j5,j6,j7,j8,j9,x0,x3,x4,x5,x6,x7,reduceCtorEq,↓reduceIte,List.getElem?_set,hlen,t1,t2,t3,t43,t44,t45,hlt]
  subst hZ
  simp only [sxZ,z6,z7,z8,j4,j5,j6,j7,j8,j9,x0,x3,x4,x5,x6,x7,reduceCtorEq,↓reduceIte,List.getElem?_set,hlen,t1,t2,t3,t43,t44,t45,hlt]
  refine zbI (fun t => t.length=69 ∧ t[1]? = some (.i .i64 (a - 1)) ∧ t[2]? = some (.i .i64 d) ∧ t[3]? = some (.p 0 0)) ?_ ?_
  ·simp only [sxZ,z6,z7,z8,j4,j5,j6,j7,j8,j9,x0,x3,x4,x5,x6,x7,reduceCtorEq,↓reduceIte,List.length_set,List.getElem?_set,hlen,t1,t2,t3,and_self]
  clear hlen t1 t2 t3 t43 t44 t45 hlt
  rintro tm ⟨hlen,t1,t2,t3⟩
  subst hY
  refine zaa fun Y hY => ?_
  rw [e0]
  simp only [sxZ,z6,z7,z8,j4,j5,j6,j7,j8,j9,x0,x3,x4,x5,x6,x7,reduceCtorEq,↓reduceIte,List.getElem?_set,hlen,t1,t2,t3]
  rw [← e0]
  refine zaE (fun n o tm => ∃ (i:Nat) (b:Int),i ≤ v.items.length ∧ n=v.items.length - i ∧ o[0]? = some (OB.box 26 (zaj v)) ∧ 0 ≤ b ∧ b ≤ 1099511627776 ∧ (∀ (j:Nat) (h:j < v.items.length),j < i → JKp v.items[j]) ∧ b + (JV.sizes (v.items.take i):Int)=a - 1 ∧ tm.length=69 ∧ tm[1]? = some (.i .i64 b) ∧ tm[2]? = some (.i .i64 d) ∧ tm[3]? = some (.p 0 0) ∧ tm[54]? = some (.row v.items.length (zac v.items)) ∧ tm[55]? = some (.i .i64 (v.items.length:Int)) ∧ tm[56]? = some (.i .i64 (i:Int))) v.items.length ⟨0,a - 1,Nat.zero_le _,rfl,rfl,by omega,by omega,(fun j _ h => by omega),by rw [List.take_zero,JV.sizes]; omega,?_⟩ ?_
  ·simp only [sxZ,z6,z7,z8,j4,j5,j6,j7,j8,j9,x0,x3,x4,x5,x6,x7,reduceCtorEq,↓reduceIte,List.length_set,List.getElem?_set,hlen,t1,t2,t3,Int.cast_ofNat_Int,and_self]
  clear hlen t1 t2 t3
  rintro n o tm ⟨i,b,hi,rfl,ho,hb,hb2,hall,hsum,hlen,t1,t2,t3,t54,t55,t56⟩
  refine zaa fun Z hZ => ?_
  by_cases hlt:(i:Int) < (v.items.length:Int)
  ·have hi':i < v.items.length:=by omega
   have hjc:=zd4 hi'
   have hjl:=zax v.items
   have hit:=hv.its hi'
   have hsz:=zbd hi'
   have hsum2:=zfT hi'
   have hall2:JKp v.items[i] → ∀ (j:Nat) (h:j < v.items.length),j < i + 1 → JKp v.items[j]:=by
    intro hs j h1 hj
    by_cases e:j=i
    ·subst e; exact hs
    ·exact hall j h1 (by omega)
   generalize v.items[i]=x at hjc hit hsz hall2 hsum2
   have hcall:=fun {objs:List OB} {K:List OB → AV → Prop} (h) => ih x b (d - 1) (by omega) hit hb hb2 (by omega) (by omega) (objs:=objs) (K:=K) h
   obtain ⟨q0,q1,q2,q3,hq⟩:∃ q0 q1 q2 q3,zaj x=[q0,q1,q2,q3]:=⟨_,_,_,_,zal x⟩
   have hcp:zan [q0,q1,q2,q3]=true:=by rw [← hq]; exact zaR x
   rw [hq] at hjc hcall
   have h0:∀ z,(o ++ [z])[0]? = some (OB.box 26 (zaj v)):=fun z => by rw [List.getElem?_append_left (List.getElem?_eq_some_iff.1 ho).1]; exact ho
   simp only [sxZ,z6,z7,z8,j4,j5,j6,j7,j8,j9,x0,x3,x4,x5,x6,x7,reduceCtorEq,↓reduceIte,List.getElem?_set,hlen,t1,t2,t3,t54,t55,t56,hlt]
   subst hZ
   refine zaa fun Z hZ => ?_
   simp only [sxZ,z6,z7,z8,j4,j5,j6,j7,j8,j9,x0,x3,x4,x5,x6,x7,reduceCtorEq,↓reduceIte,List.getElem?_set,hlen]
   subst hZ
   refine zaa fun W hW => ?_
   rw [zaK]
   refine zaa fun Z hZ => ?_
   simp only [sxZ,z6,z7,z8,j4,j5,j6,j7,j8,j9,x0,x3,x4,x5,x6,x7,reduceCtorEq,↓reduceIte,List.getElem?_set,hlen,t1,t2,t3,t54,t55,t56,hlt,hjc]
   refine ⟨by omega,by omega,?_⟩
   simp only [sxZ,z6,z7,z8,j4,j5,j6,j7,j8,j9,x0,x3,x4,x5,x6,x7,reduceCtorEq,↓reduceIte,List.getElem?_set,hlen,gn1,sn1]
   have h1:=h0 (OB.box 26 [q0,q1,q2,q3])
   have h2:(o ++ [OB.box 26 [q0,q1,q2,q3]])[o.length]? = some (OB.box 26 [q0,q1,q2,q3]):=gn1 _ _
   generalize o ++ [OB.box 26 [q0,q1,q2,q3]]=o1 at h1 h2 ⊢
   subst hZ
   refine zaa fun Z hZ => ?_
   simp only [sxZ,z6,z7,z8,j4,j5,j6,j7,j8,j9,x0,x3,x4,x5,x6,x7,reduceCtorEq,↓reduceIte,List.getElem?_set,hlen,t1,t2,h2]
   refine ⟨by omega,?_⟩
   refine zam (hcall fun n hn1 hn2 hn3 => ?_)
   simp only [sxZ,z6,z7,z8,j4,j5,j6,j7,j8,j9,x0,x3,x4,x5,x6,x7,reduceCtorEq,↓reduceIte,List.getElem?_set,hlen]
   subst hZ
   by_cases c7:n < 0
   ·simp only [sxZ,z6,z7,z8,j4,j5,j6,j7,j8,j9,x0,x3,x4,x5,x6,x7,reduceCtorEq,↓reduceIte,List.getElem?_set,hlen,c7]
    exact hk _ (by decide) (by decide) (fun h => absurd h (by decide))
   simp only [sxZ,z6,z7,z8,j4,j5,j6,j7,j8,j9,x0,x3,x4,x5,x6,x7,reduceCtorEq,↓reduceIte,List.getElem?_set,hlen,c7]
   subst hW
   simp only [sxZ,z6,z7,z8,j4,j5,j6,j7,j8,j9,x0,x3,x4,x5,x6,x7,reduceCtorEq,↓reduceIte,List.getElem?_set,hlen,t1,t2,t3,t54,t55,t56]
   exact ⟨by omega,v.items.length - (i + 1),by omega,i + 1,n,by omega,rfl,h1,by omega,hn2,hall2 (hn3 (by omega)).1,(by have:=(hn3 (by omega)).2; omega),rfl,rfl⟩
  simp only [sxZ,z6,z7,z8,j4,j5,j6,j7,j8,j9,x0,x3,x4,x5,x6,x7,reduceCtorEq,↓reduceIte,List.getElem?_set,hlen,t1,t2,t3,t54,t55,t56,hlt]
  subst hZ
  subst hY
  simp only [sxZ,z6,z7,z8,j4,j5,j6,j7,j8,j9,x0,x3,x4,x5,x6,x7,reduceCtorEq,↓reduceIte,List.getElem?_set,hlen,t1,t2,t3,t54,t55,t56,hlt]
  exact hk _ (by omega) hb2 (fun _ => ⟨JKp.of (by omega) (by omega) (by omega) hks2 fun j h => hall j h (by omega),by rw [size_eq]; rw [List.take_of_length_le (by omega)] at hsum; omega⟩)
theorem same14_l:∀ (m:Nat) (v w:JV),v.size < m → JLn v → ∀ {objs:List OB} {K:List OB → AV → Prop},K objs (.b (zdx v w)) → zad Tryz.prog 11 [.agg (zaj v),.agg (zaj w)] objs K:=by
 intro m
 induction m with
 | zero => intro v w h; omega
 | succ m ih =>
  intro v w hm hv objs K hk
  obtain ⟨l1,l2⟩:=hv.lens
  refine zaX is_ref14_Same (by simp only [zan,AV.plain,zaR,Bool.and_self]) fun C _ => ?_
  rw [c_ref14_Same]
  refine zaa fun Y hY => ?_
  simp only [sxZ,z6,z7,z8,j4,j5,j6,j7,j8,j9,x0,x3,x4,x5,x6,x7,reduceCtorEq,↓reduceIte]
  have e0:OB.box 26 (zaj v)=OB.box 26 [.i .i64 v.kind,.s v.text,.row v.keys.length (v.keys.map .s),.row v.items.length (zac v.items)]:=by rw [zal]
  have e1:OB.box 26 (zaj w)=OB.box 26 [.i .i64 w.kind,.s w.text,.row w.keys.length (w.keys.map .s),.row w.items.length (zac w.items)]:=by rw [zal]
  rw [e0,e1]
  subst hY
  refine zaa fun Y hY => ?_
  have no:zdx v w=false → K objs (.b false):=fun h => by rw [h] at hk; exact hk
  by_cases c1:v.kind=w.kind
  rotate_left
  ·simp only [sxZ,z6,z7,z8,j4,j5,j6,j7,j8,j9,x0,x3,x4,x5,x6,x7,reduceCtorEq,↓reduceIte,c1,decide_false,Bool.not_false]
   exact no (by rw [zcH,decide_eq_false c1]; rfl)
  by_cases c2:v.text=w.text
  rotate_left
  ·simp only [sxZ,z6,z7,z8,j4,j5,j6,j7,j8,j9,x0,x3,x4,x5,x6,x7,reduceCtorEq,↓reduceIte,c1,c2,decide_false,decide_true,Bool.not_false,Bool.not_true]
   exact no (by rw [zcH,decide_eq_false c2]; simp)
  by_cases c3:v.items.length=w.items.length
  rotate_left
  ·have c3':¬ (v.items.length:Int)=w.items.length:=by omega
   simp only [sxZ,z6,z7,z8,j4,j5,j6,j7,j8,j9,x0,x3,x4,x5,x6,x7,reduceCtorEq,↓reduceIte,c1,c2,c3',decide_false,decide_true,Bool.not_false,Bool.not_true]
   exact no (by rw [zcH,zfV c3]; simp)
  by_cases c4:v.keys.length=w.keys.length
  rotate_left
  ·have c4':¬ (v.keys.length:Int)=w.keys.length:=by omega
   simp only [sxZ,z6,z7,z8,j4,j5,j6,j7,j8,j9,x0,x3,x4,x5,x6,x7,reduceCtorEq,↓reduceIte,c1,c2,c3,c4',decide_false,decide_true,Bool.not_false,Bool.not_true]
   exact no (by rw [zcH,decide_eq_false (p:=v.keys=w.keys) (fun h => c4 (by rw [h]))]; simp)
  simp only [sxZ,z6,z7,z8,j4,j5,j6,j7,j8,j9,x0,x3,x4,x5,x6,x7,reduceCtorEq,↓reduceIte,c1,c2,c3,c4,decide_false,decide_true,Bool.not_false,Bool.not_true]
  subst hY
  refine zaa fun Y hY => ?_
  simp only [sxZ,z6,z7,z8,j4,j5,j6,j7,j8,j9,x0,x3,x4,x5,x6,x7,reduceCtorEq,↓reduceIte]
  have q1:v.items.length=w.items.length:=c3
  have q2:v.keys.length=w.keys.length:=c4
  refine zaE (fun n o tm => ∃ i:Nat,i ≤ w.items.length ∧ n=w.items.length - i ∧ o=[OB.box 26 [.i .i64 w.kind,.s w.text,.row w.keys.length (v.keys.map .s),.row w.items.length (zac v.items)],OB.box 26 [.i .i64 w.kind,.s w.text,.row w.keys.length (w.keys.map .s),.row w.items.length (zac w.items)]] ∧ (∀ (j:Nat) (h1:j < v.items.length) (h2:j < w.items.length),j < i → zdx v.items[j] w.items[j]=true) ∧ tm.length=74 ∧ tm[2]? = some (.p 0 0) ∧ tm[3]? = some (.p 1 0) ∧ tm[38]? = some (.row w.items.length (zac v.items)) ∧ tm[39]? = some (.i .i64 (w.items.length:Int)) ∧ tm[40]? = some (.i .i64 (i:Int))) w.items.length ⟨0,Nat.zero_le _,rfl,rfl,fun j _ _ h => by omega,rfl,rfl,rfl,rfl,rfl,rfl⟩ ?_
  rintro n _ tm ⟨i,hi,rfl,rfl,hall,hlen,t2,t3,t38,t39,t40⟩
  refine zaa fun Z hZ => ?_
  by_cases hlt:(i:Int) < (w.items.length:Int)
  ·have hw':i < w.items.length:=by omega
   have hv':i < v.items.length:=by omega
   have jv:=zd4 hv'
   have jw:=zd4 hw'
   have jvl:=zax v.items
   have jwl:=zax w.items
   have hit:=hv.its hv'
   have hsz:=zbd hv'
   have hcall:=fun {objs:List OB} {K:List OB → AV → Prop} (h:K objs (.b (zdx v.items[i] w.items[i]))) => ih v.items[i] w.items[i] (by omega) hit (objs:=objs) (K:=K) h
   simp only [sxZ,z6,z7,z8,j4,j5,j6,j7,j8,j9,x0,x3,x4,x5,x6,x7,reduceCtorEq,↓reduceIte,List.getElem?_set,hlen,t2,t3,t38,t39,t40,hlt]
   subst hZ
   refine zaa fun Z hZ => ?_
   simp only [sxZ,z6,z7,z8,j4,j5,j6,j7,j8,j9,x0,x3,x4,x5,x6,x7,reduceCtorEq,↓reduceIte,List.getElem?_set,hlen]
   subst hZ
   refine zaa fun W hW => ?_
   rw [zaK]
   refine zaa fun Z hZ => ?_
   simp only [sxZ,z6,z7,z8,j4,j5,j6,j7,j8,j9,x0,x3,x4,x5,x6,x7,reduceCtorEq,↓reduceIte,List.getElem?_set,hlen,t40]
   subst hZ
   refine zaa fun Z hZ => ?_
   simp only [sxZ,z6,z7,z8,j4,j5,j6,j7,j8,j9,x0,x3,x4,x5,x6,x7,reduceCtorEq,↓reduceIte,List.getElem?_set,hlen,t2,t3,jv,jw]
   refine ⟨⟨by omega,by omega,by omega⟩,by omega,⟨by omega,by omega,by omega⟩,by omega,?_⟩
   refine zd1 (hcall ⟨rfl,rfl⟩) ?_
   have hno:=zhk hv' hw'
   have hall2:zdx v.items[i] w.items[i]=true → ∀ (j:Nat) (h1:j < v.items.length) (h2:j < w.items.length),j < i + 1 → zdx v.items[j] w.items[j]=true:=by
    intro hs j h1 h2 hj
    by_cases e:j=i
    ·subst e; exact hs
    ·exact hall j h1 h2 (by omega)
   generalize zdx v.items[i] w.items[i]=sm at hno hall2
   simp only [sxZ,z6,z7,z8,j4,j5,j6,j7,j8,j9,x0,x3,x4,x5,x6,x7,reduceCtorEq,↓reduceIte,List.getElem?_set,hlen,t2,t3]
   subst hZ
   cases sm with
   | false =>
    simp only [sxZ,z6,z7,z8,j4,j5,j6,j7,j8,j9,x0,x3,x4,x5,x6,x7,reduceCtorEq,↓reduceIte,List.getElem?_set,hlen,Bool.not_false,Bool.not_true]
    exact no (by rw [zcH,hno rfl]; simp)
   | true =>
    simp only [sxZ,z6,z7,z8,j4,j5,j6,j7,j8,j9,x0,x3,x4,x5,x6,x7,reduceCtorEq,↓reduceIte,List.getElem?_set,hlen,Bool.not_false,Bool.not_true]
    subst hW
    simp only [sxZ,z6,z7,z8,j4,j5,j6,j7,j8,j9,x0,x3,x4,x5,x6,x7,reduceCtorEq,↓reduceIte,List.getElem?_set,hlen,t2,t3,t38,t39,t40]
    exact ⟨by omega,w.items.length - (i + 1),by omega,i + 1,by omega,rfl,hall2 rfl,rfl⟩
  simp only [sxZ,z6,z7,z8,j4,j5,j6,j7,j8,j9,x0,x3,x4,x5,x6,x7,reduceCtorEq,↓reduceIte,List.getElem?_set,hlen,t2,t3,t38,t39,t40,hlt]
  subst hZ
  simp only [sxZ,z6,z7,z8,j4,j5,j6,j7,j8,j9,x0,x3,x4,x5,x6,x7,reduceCtorEq,↓reduceIte,List.getElem?_set,hlen,t2,t3,t38,t39,t40,hlt]
  refine zbI (fun t => t.length=74 ∧ t[2]? = some (.p 0 0) ∧ t[3]? = some (.p 1 0)) ?_ ?_
  ·simp only [sxZ,z6,z7,z8,j4,j5,j6,j7,j8,j9,x0,x3,x4,x5,x6,x7,reduceCtorEq,↓reduceIte,List.length_set,List.getElem?_set,hlen,t2,t3,and_self]
  have hyes:zbL v.items w.items=true:=zfU c3 fun j h1 h2 => hall j h1 h2 (by omega)
  clear hlen t2 t3 t38 t39 t40 hlt
  rintro tm ⟨hlen,t2,t3⟩
  subst hY
  refine zaa fun Y hY => ?_
  simp only [sxZ,z6,z7,z8,j4,j5,j6,j7,j8,j9,x0,x3,x4,x5,x6,x7,reduceCtorEq,↓reduceIte,List.getElem?_set,hlen,t2,t3]
  refine zaE (fun n o tm => ∃ i:Nat,i ≤ w.keys.length ∧ n=w.keys.length - i ∧ o=[OB.box 26 [.i .i64 w.kind,.s w.text,.row w.keys.length (v.keys.map .s),.row w.items.length (zac v.items)],OB.box 26 [.i .i64 w.kind,.s w.text,.row w.keys.length (w.keys.map .s),.row w.items.length (zac w.items)]] ∧ (∀ j:Nat,j < i → v.keys[j]? = w.keys[j]?) ∧ tm.length=74 ∧ tm[2]? = some (.p 0 0) ∧ tm[3]? = some (.p 1 0) ∧ tm[58]? = some (.i .i64 (w.keys.length:Int)) ∧ tm[59]? = some (.i .i64 (i:Int))) w.keys.length ⟨0,Nat.zero_le _,rfl,rfl,fun j h => by omega,?_⟩ ?_
  ·simp only [sxZ,z6,z7,z8,j4,j5,j6,j7,j8,j9,x0,x3,x4,x5,x6,x7,reduceCtorEq,↓reduceIte,List.length_set,List.getElem?_set,hlen,t2,t3,Int.cast_ofNat_Int,and_self]
  clear hlen t2 t3 hall hi i
  rintro n _ tm ⟨i,hi,rfl,rfl,hall,hlen,t2,t3,t58,t59⟩
  refine zaa fun Z hZ => ?_
  by_cases hlt:(i:Int) < (w.keys.length:Int)
  ·have hw':i < w.keys.length:=by omega
   have hv':i < v.keys.length:=by omega
   have kv:(v.keys.map AV.s)[i * 1]? = some (.s v.keys[i]):=by rw [Nat.mul_one,List.getElem?_map,List.getElem?_eq_getElem hv']; rfl
   have kw:(w.keys.map AV.s)[i * 1]? = some (.s w.keys[i]):=by rw [Nat.mul_one,List.getElem?_map,List.getElem?_eq_getElem hw']; rfl
   have hne:¬ v.keys[i]=w.keys[i] → ¬ v.keys=w.keys:=fun h e => h (by simp only [e])
   have hall2:v.keys[i]=w.keys[i] → ∀ j:Nat,j < i + 1 → v.keys[j]? = w.keys[j]?:=by
    intro hs j hj
    by_cases e:j=i
    ·subst e; rw [List.getElem?_eq_getElem hv',List.getElem?_eq_getElem hw',hs]
    ·exact hall j (by omega)
   generalize v.keys[i]=x at kv hne hall2
   generalize w.keys[i]=y at kw hne hall2
   simp only [sxZ,z6,z7,z8,j4,j5,j6,j7,j8,j9,x0,x3,x4,x5,x6,x7,reduceCtorEq,↓reduceIte,List.getElem?_set,hlen,t2,t3,t58,t59,hlt]
   subst hZ
   refine zaa fun Z hZ => ?_
   simp only [sxZ,z6,z7,z8,j4,j5,j6,j7,j8,j9,x0,x3,x4,x5,x6,x7,reduceCtorEq,↓reduceIte,List.getElem?_set,hlen]
   subst hZ
   refine zaa fun W hW => ?_
   rw [zaK]
   refine zaa fun Z hZ => ?_
   simp only [sxZ,z6,z7,z8,j4,j5,j6,j7,j8,j9,x0,x3,x4,x5,x6,x7,reduceCtorEq,↓reduceIte,List.getElem?_set,hlen,t59]
   subst hZ
   refine zaa fun Z hZ => ?_
   simp only [sxZ,z6,z7,z8,j4,j5,j6,j7,j8,j9,x0,x3,x4,x5,x6,x7,reduceCtorEq,↓reduceIte,List.getElem?_set,hlen,t2,t3,kv,kw,List.length_map]
   refine ⟨⟨by omega,by omega,by omega⟩,⟨by omega,by omega,by omega⟩,?_⟩
   subst hZ
   by_cases c5:x=y
   rotate_left
   ·simp only [sxZ,z6,z7,z8,j4,j5,j6,j7,j8,j9,x0,x3,x4,x5,x6,x7,reduceCtorEq,↓reduceIte,List.getElem?_set,hlen,c5,decide_false,decide_true,Bool.not_false,Bool.not_true]
    exact no (by rw [zcH,decide_eq_false (hne c5)]; simp)
   ·simp only [sxZ,z6,z7,z8,j4,j5,j6,j7,j8,j9,x0,x3,x4,x5,x6,x7,reduceCtorEq,↓reduceIte,List.getElem?_set,hlen,c5,decide_false,decide_true,Bool.not_false,Bool.not_true]
    subst hW
    simp only [sxZ,z6,z7,z8,j4,j5,j6,j7,j8,j9,x0,x3,x4,x5,x6,x7,reduceCtorEq,↓reduceIte,List.getElem?_set,hlen,t2,t3,t58,t59]
    exact ⟨by omega,w.keys.length - (i + 1),by omega,i + 1,by omega,rfl,hall2 c5,rfl⟩
  simp only [sxZ,z6,z7,z8,j4,j5,j6,j7,j8,j9,x0,x3,x4,x5,x6,x7,reduceCtorEq,↓reduceIte,List.getElem?_set,hlen,t2,t3,t58,t59,hlt]
  subst hZ
  subst hY
  simp only [sxZ,z6,z7,z8,j4,j5,j6,j7,j8,j9,x0,x3,x4,x5,x6,x7,reduceCtorEq,↓reduceIte,List.getElem?_set,hlen,t2,t3,t58,t59,hlt]
  have hkeys:v.keys=w.keys:=List.ext_getElem? fun j => by
   by_cases h:j < i
   ·exact hall j h
   ·rw [List.getElem?_eq_none (by omega),List.getElem?_eq_none (by omega)]
  have:zdx v w=true:=by rw [zcH,hyes,decide_eq_true c1,decide_eq_true c2,decide_eq_true hkeys]; rfl
  rw [← this]
  exact hk
end
end
section
attribute [local irreducible] run
def zb7 (key:List UInt8):List (List UInt8) → Nat
 | [] => 0
 | k :: l => if k=key then 0 else zb7 key l + 1
theorem zfp {key:List UInt8}:∀ {l:List (List UInt8)},zb7 key l < l.length → l[zb7 key l]? = some key
 | [],h => by simp [zb7] at h
 | k :: l,h => by
  unfold zb7 at h ⊢
  by_cases c:k=key
  ·rw [if_pos c,c]; rfl
  ·rw [if_neg c] at h ⊢
   simpa using zfp (l:=l) (by simpa using h)
theorem ziU {key:List UInt8}:∀ {l:List (List UInt8)} {i:Nat},l[i]? = some key → zb7 key l ≤ i
 | [],i,h => by simp at h
 | k :: l,0,h => by
  simp only [List.getElem?_cons_zero,Option.some.injEq] at h
  unfold zb7; rw [if_pos h]; omega
 | k :: l,i + 1,h => by
  unfold zb7
  split
  ·omega
  ·have:=ziU (l:=l) (i:=i) (by simpa using h)
   omega
def zfI (v:JV) (key:List UInt8):JV × Bool :=
 if v.kind=7 ∧ zb7 key v.keys < v.keys.length then (match v.items[zb7 key v.keys]? with | some x => (x,true) | none => (jvZ,false)) else (jvZ,false)
def zhX (R:JV × Bool):AV:=.tup [.agg (zaj R.1),.b R.2]
theorem zn1 {v:JV} {key:List UInt8} (h:¬ v.kind=7):zfI v key=(jvZ,false):=by unfold zfI; rw [if_neg (fun k => h k.1)]
theorem getJ_at {v:JV} {key:List UInt8} {i:Nat} (h:v.kind=7) (hk:v.keys[i]? = some key) (hi:i < v.items.length) (hall:∀ j,j < i → v.keys[j]? ≠ some key ∨ v.items.length ≤ j):zfI v key=(v.items[i],true):=by
 have hl:=(List.getElem?_eq_some_iff.1 hk).1
 have h1:=ziU hk
 have h2:zb7 key v.keys=i:=by
  rcases Nat.lt_or_ge (zb7 key v.keys) i with h3 | h3
  ·have h4:=zfp (l:=v.keys) (key:=key) (by omega)
   rcases hall _ h3 with h5 | h5
   ·exact absurd h4 h5
   ·omega
  ·omega
 unfold zfI
 rw [if_pos ⟨h,by omega⟩,h2,List.getElem?_eq_getElem hi]
theorem getJ_no {v:JV} {key:List UInt8} (hall:∀ j,j < v.keys.length → v.keys[j]? ≠ some key ∨ v.items.length ≤ j):zfI v key=(jvZ,false):=by
 unfold zfI
 split
 ·rename_i h
  have h4:=zfp h.2
  rcases hall _ h.2 with h5 | h5
  ·exact absurd h4 h5
  ·rw [List.getElem?_eq_none h5]
 ·rfl
theorem den_zv2 {b:Bool} {G:Gh} {I:Imm} {y:Value} (h:Den G I (.tup [.agg [.i .i64 0,.s [],.nil,.nil],.b b]) y):Den G I (zhX (jvZ,b)) y:=by
 unfold zhX jvZ
 rw [zaj,zaw]
 simp only [zag,Den] at h ⊢
 obtain ⟨ys,h1,y0,l0,rfl,⟨zs,rfl,⟨z0,m0,rfl,q0,z1,m1,rfl,q1,z2,m2,rfl,q2,z3,m3,rfl,q3,q4⟩,hz⟩,h2⟩:=h
 refine ⟨_,h1,_,_,rfl,⟨_,rfl,⟨_,_,rfl,q0,_,_,rfl,q1,_,_,rfl,?_,_,_,rfl,?_,q4⟩,hz⟩,h2⟩
 ·exact ⟨none,0,[],q2,⟨Nat.le_refl _,fun ad h => by cases h⟩,rfl,by simp,by simp⟩
 ·exact ⟨none,0,[],q3,⟨Nat.le_refl _,fun ad h => by cases h⟩,rfl,by simp,by simp⟩
theorem jres2 {P:Program} [Tabs P] {f:FuncId} {args:List AV} {objs:List OB} {K:List OB → AV → Prop} (r':AV) (hc:zad P f args objs (fun o r => (∀ G I y,Den G I r y → Den G I r' y) ∧ K o r')):zad P f args objs K:=by
 intro C _ G I w hin hm ys hd
 refine (hc C G I w hin hm ys hd).mono ?_
 rintro e w' ⟨y,objs',r,G',I',he,⟨hr,hk⟩,h1,h2,h3,h4,hy⟩
 exact ⟨y,objs',r',G',I',he,hk,h1,h2,h3,h4,hr _ _ _ hy⟩
section
variable [Tabs Tryz.prog] {objs:List OB} {K:List OB → AV → Prop}
theorem zk3 (v:JV) (key:List UInt8) (hv:JOk v) (hk:K objs (zhX (zfI v key))):zad Tryz.prog 15 [.agg (zaj v),.s key] objs K:=by
 obtain ⟨l1,l2,l3,l4⟩:=hv.lens
 refine jres2 (zhX (zfI v key)) ?_
 refine zaX is_ref14_Get (by simp only [zan,AV.plain,zaR,Bool.and_self]) fun C _ => ?_
 have fin:∀ {o:List OB},zfI v key=(jvZ,false) → ((∀ G I y,Den G I (.tup [.agg [.i .i64 0,.s [],.nil,.nil],.b false]) y → Den G I (zhX (zfI v key)) y) ∧ K objs (zhX (zfI v key))):=fun {o} h => ⟨fun G I y hy => by rw [h]; exact den_zv2 hy,hk⟩
 rw [c_ref14_Get]
 refine zaa fun Y hY => ?_
 simp only [sxZ,z6,z7,z8,j4,j5,j6,j7,j8,j9,x0,x3,x4,x5,x6,x7,reduceCtorEq,↓reduceIte]
 have e0:OB.box 26 (zaj v)=OB.box 26 [.i .i64 v.kind,.s v.text,.row v.keys.length (v.keys.map .s),.row v.items.length (zac v.items)]:=by rw [zal]
 rw [e0]
 subst hY
 refine zaa fun Y hY => ?_
 by_cases c1:v.kind=7
 rotate_left
 ·simp only [sxZ,z6,z7,z8,j4,j5,j6,j7,j8,j9,x0,x3,x4,x5,x6,x7,reduceCtorEq,↓reduceIte,c1,decide_false,Bool.not_false]
  exact fin (o:=[]) (zn1 c1)
 simp only [sxZ,z6,z7,z8,j4,j5,j6,j7,j8,j9,x0,x3,x4,x5,x6,x7,reduceCtorEq,↓reduceIte,c1,decide_true,Bool.not_true]
 subst hY
 refine zaa fun Y hY => ?_
 simp only [sxZ,z6,z7,z8,j4,j5,j6,j7,j8,j9,x0,x3,x4,x5,x6,x7,reduceCtorEq,↓reduceIte]
 refine zaE (fun n o tm => ∃ i:Nat,i ≤ v.keys.length ∧ n=v.keys.length - i ∧ o=[OB.box 26 [.i .i64 7,.s v.text,.row v.keys.length (v.keys.map .s),.row v.items.length (zac v.items)],OB.box 26 [.i .i64 0,.s [],.nil,.nil]] ∧ (∀ j,j < i → v.keys[j]? ≠ some key ∨ v.items.length ≤ j) ∧ tm.length=38 ∧ tm[1]? = some (.s key) ∧ tm[2]? = some (.p 0 0) ∧ tm[4]? = some (.p 1 0) ∧ tm[13]? = some (.i .i64 (v.keys.length:Int)) ∧ tm[14]? = some (.i .i64 (i:Int))) v.keys.length ⟨0,Nat.zero_le _,rfl,rfl,fun j h => by omega,rfl,rfl,rfl,rfl,rfl,rfl⟩ ?_
 rintro n _ tm ⟨i,hi,rfl,rfl,hall,hlen,t1,t2,t4,t13,t14⟩
 refine zaa fun Z hZ => ?_
 by_cases hlt:(i:Int) < (v.keys.length:Int)
 ·have hi':i < v.keys.length:=by omega
  have kv:(v.keys.map AV.s)[i * 1]? = some (.s v.keys[i]):=by rw [Nat.mul_one,List.getElem?_map,List.getElem?_eq_getElem hi']; rfl
  have kv2:v.keys[i]? = some v.keys[i]:=List.getElem?_eq_getElem hi'
  generalize v.keys[i]=x at kv kv2
  simp only [sxZ,z6,z7,z8,j4,j5,j6,j7,j8,j9,x0,x3,x4,x5,x6,x7,reduceCtorEq,↓reduceIte,List.getElem?_set,hlen,t1,t2,t4,t13,t14,hlt]
  subst hZ
  refine zaa fun Z hZ => ?_
  simp only [sxZ,z6,z7,z8,j4,j5,j6,j7,j8,j9,x0,x3,x4,x5,x6,x7,reduceCtorEq,↓reduceIte,List.getElem?_set,hlen]
  subst hZ
  refine zaa fun W hW => ?_
  rw [zaK]
  refine zaa fun Z hZ => ?_
  simp only [sxZ,z6,z7,z8,j4,j5,j6,j7,j8,j9,x0,x3,x4,x5,x6,x7,reduceCtorEq,↓reduceIte,List.getElem?_set,hlen,t14]
  subst hZ
  refine zaa fun Z hZ => ?_
  have next:(x=key → v.items.length ≤ i) → ∀ j,j < i + 1 → v.keys[j]? ≠ some key ∨ v.items.length ≤ j:=by
   intro h j hj
   by_cases e:j=i
   ·subst e
    by_cases ex:x=key
    ·exact .inr (h ex)
    ·left; rw [kv2]; intro h; injection h with h; exact ex h
   ·exact hall j (by omega)
  by_cases c2:x=key
  ·by_cases c3:(i:Int) < v.items.length
   ·have hi2:i < v.items.length:=by omega
    have hg:=getJ_at c1 (by rw [kv2,c2]) hi2 hall
    have jv:=zd4 hi2
    have jvl:=zax v.items
    have hq:=zal v.items[i]
    rw [hq] at jv
    simp only [sxZ,z6,z7,z8,j4,j5,j6,j7,j8,j9,x0,x3,x4,x5,x6,x7,reduceCtorEq,↓reduceIte,List.getElem?_set,hlen,t1,t2,kv,List.length_map,c2,c3,decide_true]
    refine ⟨by omega,?_⟩
    subst hZ
    simp only [sxZ,z6,z7,z8,j4,j5,j6,j7,j8,j9,x0,x3,x4,x5,x6,x7,reduceCtorEq,↓reduceIte,List.getElem?_set,hlen,t1,t2,t4,jv]
    refine ⟨by omega,by omega,?_⟩
    simp only [pub,AV.plain,zaN,zcv,sxZ,z6,z7,z8,j4,j5,j6,j7,j8,j9,x0,x3,x4,x5,x6,x7,reduceCtorEq,↓reduceIte]
    refine ⟨fun G I y hy => ?_,hk⟩
    rw [hg,zhX,hq]
    exact hy
   ·simp only [sxZ,z6,z7,z8,j4,j5,j6,j7,j8,j9,x0,x3,x4,x5,x6,x7,reduceCtorEq,↓reduceIte,List.getElem?_set,hlen,t1,t2,kv,List.length_map,c2,c3,decide_true,decide_false]
    refine ⟨by omega,?_⟩
    subst hZ
    simp only [sxZ,z6,z7,z8,j4,j5,j6,j7,j8,j9,x0,x3,x4,x5,x6,x7,reduceCtorEq,↓reduceIte,List.getElem?_set,hlen,t1,t2,t4]
    subst hW
    simp only [sxZ,z6,z7,z8,j4,j5,j6,j7,j8,j9,x0,x3,x4,x5,x6,x7,reduceCtorEq,↓reduceIte,List.getElem?_set,hlen,t1,t2,t4,t13,t14]
    exact ⟨by omega,v.keys.length - (i + 1),by omega,i + 1,by omega,rfl,next (fun _ => by omega),rfl⟩
  ·simp only [sxZ,z6,z7,z8,j4,j5,j6,j7,j8,j9,x0,x3,x4,x5,x6,x7,reduceCtorEq,↓reduceIte,List.getElem?_set,hlen,t1,t2,kv,List.length_map,c2,decide_false]
   refine ⟨by omega,?_⟩
   subst hZ
   simp only [sxZ,z6,z7,z8,j4,j5,j6,j7,j8,j9,x0,x3,x4,x5,x6,x7,reduceCtorEq,↓reduceIte,List.getElem?_set,hlen,t1,t2,t4]
   subst hW
   simp only [sxZ,z6,z7,z8,j4,j5,j6,j7,j8,j9,x0,x3,x4,x5,x6,x7,reduceCtorEq,↓reduceIte,List.getElem?_set,hlen,t1,t2,t4,t13,t14]
   exact ⟨by omega,v.keys.length - (i + 1),by omega,i + 1,by omega,rfl,next (fun h => absurd h c2),rfl⟩
 simp only [sxZ,z6,z7,z8,j4,j5,j6,j7,j8,j9,x0,x3,x4,x5,x6,x7,reduceCtorEq,↓reduceIte,List.getElem?_set,hlen,t1,t2,t4,t13,t14,hlt]
 subst hZ
 subst hY
 simp only [sxZ,z6,z7,z8,j4,j5,j6,j7,j8,j9,x0,x3,x4,x5,x6,x7,reduceCtorEq,↓reduceIte,List.getElem?_set,hlen,t1,t2,t4,t13,t14,hlt]
 exact fin (o:=[]) (getJ_no fun j hj => hall j (by omega))
end
end
end Go.Proofs.YthmdohgkmdkeeaaGreatDoor
namespace Go.Proofs.YthmdohgkmdkeeaaGreatDoor
open Go.RowKit Sx
section
attribute [local irreducible] run
theorem zfi:∀ (ks:List (List UInt8)) (o:List OB) (d:Nat),zfZ o (d + 1) (ks.map AV.s)=some (ks.map AV.s)
 | [],o,d => by simp only [List.map_nil,zfZ]
 | k :: ks,o,d => by simp only [List.map_cons,zfZ,pub,AV.plain,if_true,zfi ks o d]
theorem ziE:∀ (l:List JV) (o:List OB) (d:Nat),zfZ o (d + 1) (zac l)=some (zac l)
 | [],o,d => by rw [zaw]; simp only [zfZ]
 | v :: l,o,d => by
  rw [zaD,zal]
  simp only [List.cons_append,List.nil_append,zfZ,pub,AV.plain,zaN,zcv,if_true,ziE l o d]
section
variable [Tabs Tryz.prog] {objs:List OB} {K:List OB → AV → Prop}
end
end
end Go.Proofs.YthmdohgkmdkeeaaGreatDoor
namespace Go.Proofs.YthmdohgkmdkeeaaGreatDoor
open Go.RowKit Sx
section
attribute [local irreducible] run
structure WfM (σ:Ms) (a:Nat):Prop where
 top:(σ.st=1 ∨ σ.st=2 ∨ σ.st=3 ∨ σ.st=4 ∨ σ.st=5) → σ.stk ≠ []
 obj:(σ.st=2 ∨ σ.st=3 ∨ σ.st=4) → ∀ f r,σ.stk=f :: r → f.obj=true
 len:∀ f ∈ σ.stk,f.ks.length ≤ a ∧ f.its.length ≤ a
 deep:σ.stk.length ≤ 64
 few:σ.nodes ≤ 20000
theorem wf0 (a:Nat):WfM ms0 a:=⟨fun h => by simp [ms0] at h,fun h => by simp [ms0] at h,fun f h => by simp [ms0] at h,by simp [ms0],by simp [ms0]⟩
theorem wf_add {σ:Ms} {a:Nat} (v:JV) (hl:∀ f ∈ σ.stk,f.ks.length ≤ a ∧ f.its.length ≤ a) (hd:σ.stk.length ≤ 64) (hn:σ.nodes ≤ 20000):WfM (zcU σ v) (a + 1):=by
 unfold zcU
 split
 ·exact ⟨fun h => by simp at h,fun h => by simp at h,fun f h => by simp at h,by simp,hn⟩
 ·rename_i f r hs
  rw [hs] at hl hd
  refine ⟨fun _ => by simp,fun h => by simp at h,fun f' h => ?_,by simpa using hd,hn⟩
  rcases List.mem_cons.1 h with rfl | h
  ·have:=hl f (by simp)
   simp only [List.length_append,List.length_cons,List.length_nil]
   omega
  ·have:=hl f' (by simp [h])
   omega
theorem zgj {σ:Ms} {a:Nat} (h:WfM σ a):WfM (zcA σ) (a + 1):=by
 unfold zcA
 split
 ·exact ⟨h.top,h.obj,fun f hf => by have:=h.len f hf; omega,h.deep,h.few⟩
 ·rename_i f r hs
  refine wf_add _ (fun f' hf => h.len f' (by rw [hs]; exact List.mem_cons_of_mem _ hf)) ?_ h.few
  have:=h.deep
  rw [hs,List.length_cons] at this
  show r.length ≤ 64
  omega
theorem zjh {σ:Ms} {a:Nat} {t:Tk} (h:WfM σ a) (h0:(zaS σ t).1=0):WfM (zaS σ t).2 (a + 1):=by
 unfold zaS at h0 ⊢
 by_cases c0:vkE t=0
 ·rw [if_pos c0] at h0; cases h0
 rw [if_neg c0] at h0 ⊢
 by_cases c1:vkE t=6 ∨ vkE t=7
 ·rw [if_pos c1] at h0 ⊢
  by_cases c2:64 ≤ σ.stk.length
  ·rw [if_pos c2] at h0; cases h0
  rw [if_neg c2] at h0 ⊢
  by_cases c3:20000 ≤ σ.nodes
  ·rw [if_pos c3] at h0; cases h0
  rw [if_neg c3]
  unfold zbP
  refine ⟨fun _ => by simp,fun hs f r hr => ?_,fun f hf => ?_,by simp; omega,by show σ.nodes + 1 ≤ _; omega⟩
  ·injection hr with hr _
   subst hr
   cases hb:decide (vkE t=7)
   ·simp [hb] at hs
   ·rfl
  ·rcases List.mem_cons.1 hf with rfl | hf
   ·simp
   ·have:=h.len f hf; omega
 ·rw [if_neg c1] at h0 ⊢
  by_cases c2:¬ (zgm t).1=0
  ·rw [if_pos c2] at h0; exact absurd h0 c2
  rw [if_neg c2] at h0 ⊢
  by_cases c3:20000 ≤ σ.nodes
  ·rw [if_pos c3] at h0; cases h0
  rw [if_neg c3]
  exact wf_add _ h.len h.deep (by show σ.nodes + 1 ≤ _; omega)
theorem wf_key {σ:Ms} {a:Nat} {t:Tk} (h:WfM σ a) (ho:∀ f r,σ.stk=f :: r → f.obj=true) (h0:(zil σ t).1=0):WfM (zil σ t).2 (a + 1):=by
 unfold zil at h0 ⊢
 split
 ·rename_i hs; rw [hs] at h0; cases h0
 ·rename_i f r hs
  rw [hs] at h0
  simp only at h0
  by_cases c1:¬ t.1=3
  ·rw [if_pos c1] at h0; cases h0
  rw [if_neg c1] at h0 ⊢
  by_cases c2:t.2.1 ∈ f.ks
  ·rw [if_pos c2] at h0; cases h0
  rw [if_neg c2]
  have hd:=h.deep
  rw [hs] at hd
  refine ⟨fun _ => by simp,fun _ f' r' hr => ?_,fun f' hf => ?_,by simpa using hd,h.few⟩
  ·injection hr with hr _
   subst hr
   exact ho f r hs
  ·rcases List.mem_cons.1 hf with rfl | hf
   ·have:=h.len f (by rw [hs]; simp)
    simp only [List.length_append,List.length_cons,List.length_nil]
    omega
   ·have:=h.len f' (by rw [hs]; exact List.mem_cons_of_mem _ hf)
    omega
theorem wf_take {σ:Ms} {a:Nat} {t:Tk} (h:WfM σ a) (h0:(zar σ t).1=0):WfM (zar σ t).2 (a + 1):=by
 have more:∀ f ∈ σ.stk,f.ks.length ≤ a + 1 ∧ f.its.length ≤ a + 1:=fun f hf => by have:=h.len f hf; omega
 unfold zar at h0 ⊢
 by_cases c0:σ.st=0
 ·rw [if_pos c0] at h0 ⊢; exact zjh h h0
 rw [if_neg c0] at h0 ⊢
 by_cases c1:σ.st=1
 ·rw [if_pos c1] at h0 ⊢
  by_cases d:zdL σ t=true
  ·rw [if_pos d]; exact zgj h
  ·rw [if_neg d] at h0 ⊢; exact zjh h h0
 rw [if_neg c1] at h0 ⊢
 by_cases c3:σ.st=3
 ·rw [if_pos c3] at h0 ⊢
  by_cases d:zdL σ t=true
  ·rw [if_pos d]; exact zgj h
  ·rw [if_neg d] at h0 ⊢; exact wf_key h (h.obj (.inr (.inl c3))) h0
 rw [if_neg c3] at h0 ⊢
 by_cases c2:σ.st=2
 ·rw [if_pos c2] at h0 ⊢; exact wf_key h (h.obj (.inl c2)) h0
 rw [if_neg c2] at h0 ⊢
 by_cases c4:σ.st=4
 ·rw [if_pos c4] at h0 ⊢
  by_cases d:isP t 58=true
  ·rw [if_pos d]
   exact ⟨fun h => by simp at h,fun h => by simp at h,more,h.deep,h.few⟩
  ·rw [if_neg d] at h0; cases h0
 rw [if_neg c4] at h0 ⊢
 by_cases c5:σ.st=5
 ·rw [if_pos c5] at h0 ⊢
  have hne:=h.top (by omega)
  unfold onM at h0 ⊢
  split
  ·rename_i hs; exact absurd hs hne
  ·rename_i f r hs
   rw [hs] at h0
   simp only at h0
   by_cases d:zdL σ t=true
   ·rw [if_pos d]; exact zgj h
   rw [if_neg d] at h0 ⊢
   by_cases d2:isP t 44=false
   ·rw [if_pos d2] at h0; cases h0
   rw [if_neg d2]
   refine ⟨fun _ => hne,fun hst f' r' hr => ?_,more,h.deep,h.few⟩
   rw [hs] at hr
   injection hr with hr _
   subst hr
   cases hb:f.obj
   ·simp [hb] at hst
   ·rfl
 rw [if_neg c5] at h0 ⊢
 by_cases c6:σ.st=6
 ·rw [if_pos c6] at h0 ⊢
  by_cases d:t.1=1
  ·rw [if_pos d]
   exact ⟨fun h => by simp at h,fun h => by simp at h,more,h.deep,h.few⟩
  ·rw [if_neg d] at h0; cases h0
 ·rw [if_neg c6] at h0; cases h0
end
end Go.Proofs.YthmdohgkmdkeeaaGreatDoor
namespace Go.Proofs.YthmdohgkmdkeeaaGreatDoor
open Nat renaming reduceAdd → z6, reduceSub → z7, reduceLeDiff → z8, reduceLT → j4, reduceMul → j5, reduceEqDiff → j6
open Int renaming reduceToNat → j7, reduceAdd → j8, reduceSub → j9, reduceMul → x0, reduceNeg → x3, reduceLT → x4, reduceLE → x5, reduceEq → x6, reduceNe → x7
open Go.RowKit Sx
section
attribute [local irreducible] run
def tkC (t:Tk):List AV:=[.i .i64 t.1,.s t.2.1,.i .i64 t.2.2]
def zgW (t:Tk):AV:=.agg (tkC t)
def SlO (E sz n:Nat) (xs:List AV) (X:AV) (L:List (Nat × OB)):Prop :=
 (n=0 ∧ xs=[] ∧ X=.nil ∧ L=[]) ∨ ∃ b g,X=.orow b g ∧ L=[(b,.orow E sz g n xs)]
def MpO (f:Fr) (X:AV) (L:List (Nat × OB)):Prop :=
 (f.obj=false ∧ X=.o (.map none) ∧ L=[]) ∨ (f.obj=true ∧ ∃ b,X=.m b ∧ L=[(b,.mp (f.ks.map fun k => (k,AV.b true)))])
def kdF (f:Fr):Int:=if f.obj=true then 7 else 6
def FrO (f:Fr) (cs:List AV) (L:List (Nat × OB)):Prop :=
 ∃ kx ix mx Lk Li Lm,cs=[.i .i64 (kdF f),.s [],kx,ix,mx] ∧ SlO 9 1 f.ks.length (f.ks.map .s) kx Lk ∧ SlO 26 4 f.its.length (zac f.its) ix Li ∧ MpO f mx Lm ∧ L=Lk ++ (Li ++ Lm)
def StkO (M:List (Nat × OB)):List Fr → List AV → List (Nat × OB) → Prop
 | [],cs,L => cs=[] ∧ L=M
 | f :: r,cs,L => ∃ c0 c1 L0 L1,FrO f c1 L1 ∧ StkO M r c0 L0 ∧ cs=c0 ++ c1 ∧ L=L1 ++ L0
theorem zlR {M:List (Nat × OB)}:∀ {S:List Fr} {cs:List AV} {L:List (Nat × OB)},StkO M S cs L → cs.length=S.length * 5
 | [],cs,L,h => by rw [h.1]; rfl
 | f :: r,cs,L,h => by
  obtain ⟨c0,c1,L0,L1,⟨_,_,_,_,_,_,rfl,_⟩,h2,rfl,_⟩:=h
  rw [List.length_append,zlR h2,List.length_cons]
  simp only [List.length_cons,List.length_nil]
  omega
def StX (M:List (Nat × OB)) (S:List Fr) (X:AV) (L:List (Nat × OB)):Prop :=
 (S=[] ∧ X=.nil ∧ L=M) ∨ ∃ r g cs L',X=.orow r g ∧ StkO M S cs L' ∧ L=(r,.orow 90 5 g S.length cs) :: L'
def prB (st:Int) (X:AV) (nodes:Nat) (r0 r1 r2 r3:AV):OB:=.box 49 [.i .i64 st,X,.i .i64 (nodes:Int),r0,r1,r2,r3]
def PrO (M:List (Nat × OB)) (p:Nat) (σ:Ms) (o:List OB):Prop :=
 ∃ X r0 r1 r2 r3 L,zaH ((p,prB σ.st X σ.nodes r0 r1 r2 r3) :: L) o ∧ StX M σ.stk X L ∧ zan [r0,r1,r2,r3]=true ∧ ((σ.st=6 ∨ σ.st=7) → [r0,r1,r2,r3]=zaj σ.root)
theorem zhE {M:List (Nat × OB)} {p:Nat} {σ:Ms} {f:Fr} {r:List Fr} {o:List OB} (hP:PrO M p σ o) (hs:σ.stk=f :: r):∃ (rr g:Nat) (r0 r1 r2 r3 kx ix mx:AV) (c0:List AV) (L0 Lk Li Lm:List (Nat × OB)),
  zaH ((p,prB σ.st (.orow rr g) σ.nodes r0 r1 r2 r3) :: (rr,.orow 90 5 g (r.length + 1) (c0 ++ [.i .i64 (kdF f),.s [],kx,ix,mx])) :: (Lk ++ (Li ++ Lm) ++ L0)) o ∧
  SlO 9 1 f.ks.length (f.ks.map .s) kx Lk ∧ SlO 26 4 f.its.length (zac f.its) ix Li ∧ MpO f mx Lm ∧ StkO M r c0 L0 ∧ c0.length=r.length * 5 ∧ zan [r0,r1,r2,r3]=true:=by
 obtain ⟨X,r0,r1,r2,r3,L,hO,hX,hpl,hr⟩:=hP
 rw [hs] at hX
 rcases hX with ⟨h,_⟩ | ⟨rr,g,cs,L',rfl,⟨c0,c1,L0,L1,⟨kx,ix,mx,Lk,Li,Lm,rfl,h1,h2,h3,rfl⟩,h4,rfl,rfl⟩,rfl⟩
 ·cases h
 ·exact ⟨rr,g,r0,r1,r2,r3,kx,ix,mx,c0,L0,Lk,Li,Lm,hO,h1,h2,h3,h4,zlR h4,hpl⟩
theorem zk7 {M:List (Nat × OB)} {p:Nat} {st:Int} {nodes:Nat} {root:JV} {f:Fr} {r:List Fr} {o:List OB} {rr g:Nat} {r0 r1 r2 r3 kx ix mx:AV} {c0:List AV} {L0 Lk Li Lm:List (Nat × OB)}
  (hO:zaH ((p,prB st (.orow rr g) nodes r0 r1 r2 r3) :: (rr,.orow 90 5 g (r.length + 1) (c0 ++ [.i .i64 (kdF f),.s [],kx,ix,mx])) :: (Lk ++ (Li ++ Lm) ++ L0)) o)
  (h1:SlO 9 1 f.ks.length (f.ks.map .s) kx Lk) (h2:SlO 26 4 f.its.length (zac f.its) ix Li) (h3:MpO f mx Lm) (h4:StkO M r c0 L0) (hpl:zan [r0,r1,r2,r3]=true) (h5:¬ (st=6 ∨ st=7)):PrO M p ⟨st,f :: r,nodes,root⟩ o :=
 ⟨_,r0,r1,r2,r3,_,hO,.inr ⟨rr,g,_,_,rfl,⟨c0,_,L0,_,⟨kx,ix,mx,Lk,Li,Lm,rfl,h1,h2,h3,rfl⟩,h4,rfl,rfl⟩,rfl⟩,hpl,fun h => absurd h h5⟩
theorem pr_app {M:List (Nat × OB)} {p:Nat} {σ:Ms} {o:List OB} (hP:PrO M p σ o) (more:List OB):PrO M p σ (o ++ more):=by
 obtain ⟨X,r0,r1,r2,r3,L,hO,hX,hpl,hr⟩:=hP
 exact ⟨X,r0,r1,r2,r3,L,hO.app more,hX,hpl,hr⟩
theorem perm_inK {α:Type} (a b:List α) (x:α):(x :: (a ++ b)).Perm (a ++ x :: b):=List.perm_middle.symm
theorem zhd {M:List (Nat × OB)}:∀ {S:List Fr} {cs:List AV} {L:List (Nat × OB)},StkO M S cs L → ∃ A,L=A ++ M ∧ ∀ M',StkO M' S cs (A ++ M')
 | [],cs,L,h => ⟨[],by rw [h.2]; rfl,fun M' => ⟨h.1,rfl⟩⟩
 | f :: r,cs,L,h => by
  obtain ⟨c0,c1,L0,L1,h1,h2,rfl,rfl⟩:=h
  obtain ⟨A,rfl,hA⟩:=zhd h2
  exact ⟨L1 ++ A,by rw [List.append_assoc],fun M' => ⟨c0,c1,A ++ M',L1,h1,hA M',rfl,by rw [List.append_assoc]⟩⟩
theorem zlQ {M:List (Nat × OB)} {S:List Fr} {X:AV} {L:List (Nat × OB)} (h:StX M S X L):∃ A,L=A ++ M ∧ ∀ M',StX M' S X (A ++ M'):=by
 rcases h with ⟨h1,h2,h3⟩ | ⟨r,g,cs,L',h1,h2,h3⟩
 ·exact ⟨[],by rw [h3]; rfl,fun M' => .inl ⟨h1,h2,rfl⟩⟩
 ·obtain ⟨A,rfl,hA⟩:=zhd h2
  exact ⟨_ :: A,by rw [h3]; rfl,fun M' => .inr ⟨r,g,cs,A ++ M',h1,hA M',rfl⟩⟩
theorem zdX {M:List (Nat × OB)} {p:Nat} {σ:Ms} {o:List OB} (hP:PrO M p σ o):∃ B A,zaH ((p,B) :: (A ++ M)) o ∧ ∀ M' o',zaH ((p,B) :: (A ++ M')) o' → PrO M' p σ o':=by
 obtain ⟨X,r0,r1,r2,r3,L,hO,hX,hpl,hr⟩:=hP
 obtain ⟨A,rfl,hA⟩:=zlQ hX
 exact ⟨_,A,hO,fun M' o' h => ⟨X,r0,r1,r2,r3,_,h,hA M',hpl,hr⟩⟩
theorem zb2 {M:List (Nat × OB)} {p:Nat} {σ:Ms} {o:List OB} (hP:PrO M p σ o) {i:Nat} {x:OB} (h:(i,x) ∈ M):o[i]? = some x:=by
 obtain ⟨B,A,hO,_⟩:=zdX hP
 exact hO.get (by simp [h])
theorem pr_lt {M:List (Nat × OB)} {p:Nat} {σ:Ms} {o:List OB} (hP:PrO M p σ o) {i:Nat} {x:OB} (h:(i,x) ∈ M):i < o.length:=(List.getElem?_eq_some_iff.1 (zb2 hP h)).1
theorem zhF {M:List (Nat × OB)} {p:Nat} {σ:Ms} {o:List OB} (hP:PrO M p σ o) (x:OB):PrO ((o.length,x) :: M) p σ (o ++ [x]):=by
 obtain ⟨B,A,hO,hM⟩:=zdX hP
 exact hM _ _ ((hO.new x).perm (perm_inK (_ :: A) M _))
theorem zau {M:List (Nat × OB)} {z:Nat × OB} {p:Nat} {σ:Ms} {o:List OB} (hP:PrO (z :: M) p σ o):PrO M p σ o:=by
 obtain ⟨B,A,hO,hM⟩:=zdX hP
 exact hM _ _ (hO.sub (((List.sublist_cons_self z M).append_left A).cons_cons _))
theorem pr_set {M:List (Nat × OB)} {i p:Nat} {x:OB} {σ:Ms} {o:List OB} (hP:PrO ((i,x) :: M) p σ o) (y:OB):PrO ((i,y) :: M) p σ (o.set i y):=by
 obtain ⟨B,A,hO,hM⟩:=zdX hP
 exact hM _ _ (zaH.set (A:=_ :: A) y hO)
theorem c5_at (c0 l:List AV) (n j:Nat) (h:c0.length=n * 5):(c0 ++ l)[n * 5 + j]? = l[j]?:=by
 rw [List.getElem?_append_right (by omega),show n * 5 + j - c0.length=j by omega]
theorem c5_at0 (c0 l:List AV) (n:Nat) (h:c0.length=n * 5):(c0 ++ l)[n * 5]? = l[0]?:=c5_at c0 l n 0 h
section
variable [Tabs Tryz.prog] {objs:List OB} {K:List OB → AV → Prop}
theorem zd5 (t:Tk) (c:UInt8) (hk:K objs (.b (isP t c))):zad Tryz.prog 39 [zgW t,.s [c]] objs K:=by
 refine zaX is_jsondoc_isPunct rfl fun C _ => ?_
 unfold isP at hk
 by_cases c1:t.1=2
 ·by_cases c2:t.2.1=[c]
  ·simp only [c1,c2,decide_true,Bool.and_self] at hk
   simp only [c_jsondoc_isPunct,zgW,tkC,sxZ,z6,z7,z8,j4,j5,j6,j7,j8,j9,x0,x3,x4,x5,x6,x7,reduceCtorEq,↓reduceIte,c1,c2]
   exact hk
  ·simp only [c1,c2,decide_true,decide_false,Bool.and_false] at hk
   simp only [c_jsondoc_isPunct,zgW,tkC,sxZ,z6,z7,z8,j4,j5,j6,j7,j8,j9,x0,x3,x4,x5,x6,x7,reduceCtorEq,↓reduceIte,c1,c2]
   exact hk
 ·simp only [c1,decide_false,Bool.false_and] at hk
  simp only [c_jsondoc_isPunct,zgW,tkC,sxZ,z6,z7,z8,j4,j5,j6,j7,j8,j9,x0,x3,x4,x5,x6,x7,reduceCtorEq,↓reduceIte,c1]
  exact hk
theorem zir (t:Tk) (hk:K objs (.i .i64 (vkE t))):zad Tryz.prog 60 [zgW t] objs K:=by
 have e:∀ (o:List OB) (K:List OB → AV → Prop) (c:UInt8),K o (.b (isP t c)) → zad Tryz.prog 39 [.agg [.i .i64 t.1,.s t.2.1,.i .i64 t.2.2],.s [c]] o K:=fun o K c h => zd5 t c h
 refine zaX is_jsondoc_valueKind rfl fun C _ => ?_
 unfold vkE zgi zeJ zcS at hk
 rw [c_jsondoc_valueKind]
 refine zaa fun Y hY => ?_
 simp only [zgW,tkC,sxZ,z6,z7,z8,j4,j5,j6,j7,j8,j9,x0,x3,x4,x5,x6,x7,reduceCtorEq,↓reduceIte]
 subst hY
 by_cases c1:t.1=3
 ·rw [if_pos c1] at hk
  simp only [sxZ,z6,z7,z8,j4,j5,j6,j7,j8,j9,x0,x3,x4,x5,x6,x7,reduceCtorEq,↓reduceIte,c1]
  exact hk
 rw [if_neg c1] at hk
 by_cases c2:t.1=4
 ·rw [if_pos c2] at hk
  simp only [sxZ,z6,z7,z8,j4,j5,j6,j7,j8,j9,x0,x3,x4,x5,x6,x7,reduceCtorEq,↓reduceIte,c1,c2]
  exact hk
 rw [if_neg c2] at hk
 simp only [sxZ,z6,z7,z8,j4,j5,j6,j7,j8,j9,x0,x3,x4,x5,x6,x7,reduceCtorEq,↓reduceIte,c1,c2]
 refine zam (e _ _ 91 ?_)
 cases c3:isP t 91
 rotate_left
 ·rw [if_pos c3] at hk
  simp only [sxZ,z6,z7,z8,j4,j5,j6,j7,j8,j9,x0,x3,x4,x5,x6,x7,reduceCtorEq,↓reduceIte]
  exact hk
 rw [if_neg (by rw [c3]; exact Bool.false_ne_true)] at hk
 simp only [sxZ,z6,z7,z8,j4,j5,j6,j7,j8,j9,x0,x3,x4,x5,x6,x7,reduceCtorEq,↓reduceIte]
 refine zam (e _ _ 123 ?_)
 cases c4:isP t 123
 rotate_left
 ·rw [if_pos c4] at hk
  simp only [sxZ,z6,z7,z8,j4,j5,j6,j7,j8,j9,x0,x3,x4,x5,x6,x7,reduceCtorEq,↓reduceIte]
  exact hk
 rw [if_neg (by rw [c4]; exact Bool.false_ne_true)] at hk
 by_cases c5:t.1=5
 rotate_left
 ·rw [if_pos c5] at hk
  simp only [sxZ,z6,z7,z8,j4,j5,j6,j7,j8,j9,x0,x3,x4,x5,x6,x7,reduceCtorEq,↓reduceIte,c5]
  exact hk
 rw [if_neg (fun h => h c5)] at hk
 by_cases c6:t.2.1=[116,114,117,101]
 ·rw [if_pos c6] at hk
  simp only [sxZ,z6,z7,z8,j4,j5,j6,j7,j8,j9,x0,x3,x4,x5,x6,x7,reduceCtorEq,↓reduceIte,c5,c6]
  exact hk
 rw [if_neg c6] at hk
 by_cases c7:t.2.1=[102,97,108,115,101]
 ·rw [if_pos c7] at hk
  have n1:¬ ([102,97,108,115,101]:List UInt8)=[116,114,117,101]:=by decide
  simp only [sxZ,z6,z7,z8,j4,j5,j6,j7,j8,j9,x0,x3,x4,x5,x6,x7,reduceCtorEq,↓reduceIte,c5,c7,n1]
  exact hk
 rw [if_neg c7] at hk
 simp only [sxZ,z6,z7,z8,j4,j5,j6,j7,j8,j9,x0,x3,x4,x5,x6,x7,reduceCtorEq,↓reduceIte,c5,c6,c7]
 exact hk
theorem zlJ {p r g n:Nat} {st:Int} {nodes:Nat} {r0 r1 r2 r3:AV} {cs:List AV} (hb:objs[p]? = some (prB st (.orow r g) nodes r0 r1 r2 r3)) (hr:objs[r]? = some (.orow 90 5 g (n + 1) cs)) (hn:n ≤ 1000000)
  (hk:K objs (.porow r g (n * 5))):zad Tryz.prog 64 [.p p 0] objs K:=by
 refine zcy is_jsondoc_parser_top fun C _ => ?_
 unfold prB at hb
 simp only [c_jsondoc_parser_top,sxZ,z6,z7,z8,j4,j5,j6,j7,j8,j9,x0,x3,x4,x5,x6,x7,reduceCtorEq,↓reduceIte,hb,hr]
 refine ⟨⟨by omega,by omega⟩,⟨by omega,by omega⟩,?_⟩
 rw [show ((n + 1:Nat):Int) - 1=(n:Int) by omega,Int.toNat_natCast]
 exact hk
theorem zfo {M:List (Nat × OB)} {p:Nat} {σ:Ms} {f:Fr} {r:List Fr} (hP:PrO M p σ objs) (hs:σ.stk=f :: r) (hd:r.length ≤ 1000000) (t:Tk) (hk:∀ o,PrO M p σ o → K o (.b (zdL σ t))):zad Tryz.prog 36 [.p p 0,zgW t] objs K:=by
 obtain ⟨rr,g,r0,r1,r2,r3,kx,ix,mx,c0,L0,Lk,Li,Lm,hO,h1,h2,h3,h4,h5,h6⟩:=zhE hP hs
 have hO1:=hO.new (.box 51 (tkC t))
 have hP1:=hk _ (pr_app hP [.box 51 (tkC t)])
 refine zcy is_jsondoc_parser_isClose fun C _ => ?_
 rw [c_jsondoc_parser_isClose]
 refine zaa fun Y hY => ?_
 simp only [zgW,sxZ,z6,z7,z8,j4,j5,j6,j7,j8,j9,x0,x3,x4,x5,x6,x7,reduceCtorEq,↓reduceIte]
 generalize objs ++ [OB.box 51 (tkC t)]=o1 at hO1 hP1 ⊢
 have e0:=hO1.get (i:=objs.length) (x:=.box 51 (tkC t)) (by simp)
 have e1:=hO1.get (i:=p) (x:=prB σ.st (.orow rr g) σ.nodes r0 r1 r2 r3) (by simp)
 have e2:=hO1.get (i:=rr) (x:=.orow 90 5 g (r.length + 1) (c0 ++ [.i .i64 (kdF f),.s [],kx,ix,mx])) (by simp)
 have e3:=c5_at0 c0 [.i .i64 (kdF f),.s [],kx,ix,mx] r.length h5
 subst hY
 refine zaa fun Y hY => ?_
 simp only [sxZ,z6,z7,z8,j4,j5,j6,j7,j8,j9,x0,x3,x4,x5,x6,x7,reduceCtorEq,↓reduceIte]
 refine zam (zlJ e1 e2 hd ?_)
 simp only [sxZ,z6,z7,z8,j4,j5,j6,j7,j8,j9,x0,x3,x4,x5,x6,x7,reduceCtorEq,↓reduceIte,e2,Nat.add_zero,e3]
 have ht:∀ c,zad Tryz.prog 39 [zgW t,.s [c]] o1 (fun o r => o=o1 ∧ r=.b (isP t c)):=fun c => zd5 t c ⟨rfl,rfl⟩
 unfold zdL at hP1
 rw [hs] at hP1
 simp only at hP1
 unfold zgW tkC at ht
 unfold tkC at e0
 cases hf:f.obj
 ·simp only [hf,Bool.false_eq_true,if_false] at hP1
  have hkd:kdF f=6:=by unfold kdF; rw [hf]; rfl
  simp only [sxZ,z6,z7,z8,j4,j5,j6,j7,j8,j9,x0,x3,x4,x5,x6,x7,reduceCtorEq,↓reduceIte,hkd]
  subst hY
  simp only [sxZ,z6,z7,z8,j4,j5,j6,j7,j8,j9,x0,x3,x4,x5,x6,x7,reduceCtorEq,↓reduceIte,e0]
  refine zam ((ht 93).mono ?_)
  rintro o x ⟨rfl,rfl⟩
  simp only [sxZ,z6,z7,z8,j4,j5,j6,j7,j8,j9,x0,x3,x4,x5,x6,x7,reduceCtorEq,↓reduceIte]
  exact hP1
 ·simp only [hf,if_true] at hP1
  have hkd:kdF f=7:=by unfold kdF; rw [hf]; rfl
  simp only [sxZ,z6,z7,z8,j4,j5,j6,j7,j8,j9,x0,x3,x4,x5,x6,x7,reduceCtorEq,↓reduceIte,hkd,e0]
  refine zam ((ht 125).mono ?_)
  rintro o x ⟨rfl,rfl⟩
  simp only [sxZ,z6,z7,z8,j4,j5,j6,j7,j8,j9,x0,x3,x4,x5,x6,x7,reduceCtorEq,↓reduceIte]
  exact hP1
end
end
section
attribute [local irreducible] run
def leS (a b:List UInt8):Bool:=zbO a b || a == b
theorem zdu:∀ (a b c:List UInt8),zbO a b=true → zbO b c=true → zbO a c=true
 | _,[],_,h,_ => by simp [zbO,Op.bytesLess] at h
 | [],_ :: _,[],_,h => by simp [zbO,Op.bytesLess] at h
 | _ :: _,_ :: _,[],_,h => by simp [zbO,Op.bytesLess] at h
 | [],_ :: _,_ :: _,_,_ => by simp [zbO,Op.bytesLess]
 | a :: x,b :: y,c :: z,h,k => by
  simp only [zbO,Op.bytesLess,Bool.or_eq_true,Bool.and_eq_true,decide_eq_true_eq,beq_iff_eq] at h k ⊢
  rcases h with h | ⟨rfl,h⟩
  ·rcases k with k | ⟨rfl,k⟩
   ·exact .inl (UInt8.lt_trans h k)
   ·exact .inl h
  ·rcases k with k | ⟨rfl,k⟩
   ·exact .inl k
   ·exact .inr ⟨rfl,zdu x y z h k⟩
theorem ze4:∀ (a b:List UInt8),zbO a b=true ∨ a=b ∨ zbO b a=true
 | [],[] => .inr (.inl rfl)
 | [],_ :: _ => .inl rfl
 | _ :: _,[] => .inr (.inr rfl)
 | a :: x,b :: y => by
  simp only [zbO,Op.bytesLess,Bool.or_eq_true,Bool.and_eq_true,decide_eq_true_eq,beq_iff_eq]
  by_cases h1:a < b
  ·exact .inl (.inl h1)
  by_cases h2:b < a
  ·exact .inr (.inr (.inl h2))
  have e:a=b:=UInt8.le_antisymm (UInt8.not_lt.1 h2) (UInt8.not_lt.1 h1)
  subst e
  rcases ze4 x y with h | h | h
  ·exact .inl (.inr ⟨rfl,h⟩)
  ·exact .inr (.inl (by rw [h]))
  ·exact .inr (.inr (.inr ⟨rfl,h⟩))
theorem zey:∀ a:List UInt8,zbO a a=false
 | [] => rfl
 | a :: x => by
  have h0:¬ a < a:=UInt8.lt_irrefl a
  have h:=zey x
  unfold zbO at h
  simp [zbO,Op.bytesLess,h0,h]
theorem zne (a b c:List UInt8) (h:leS a b=true) (k:leS b c=true):leS a c=true:=by
 unfold leS at *
 rw [Bool.or_eq_true,beq_iff_eq] at *
 rcases h with h | rfl
 ·rcases k with k | rfl
  ·exact .inl (zdu _ _ _ h k)
  ·exact .inl h
 ·exact k
theorem znf (a b:List UInt8):(leS a b || leS b a)=true:=by
 unfold leS
 rcases ze4 a b with h | rfl | h
 ·rw [h]; rfl
 ·simp
 ·rw [h]; simp
theorem leS_anti (a b:List UInt8) (h:leS a b=true) (k:leS b a=true):a=b:=by
 unfold leS at *
 rw [Bool.or_eq_true,beq_iff_eq] at *
 rcases h with h | h
 ·rcases k with k | k
  ·have:=zdu _ _ _ h k
   rw [zey] at this; cases this
  ·exact k.symm
 ·exact h
def zeg:Nat → List (List UInt8) → List (List UInt8)
 | 0,l => l
 | f + 1,l => if l.length < 2 then l else List.merge (zeg f (l.take (l.length / 2))) (zeg f (l.drop (l.length / 2))) leS
theorem zbb:∀ (f:Nat) (l:List (List UInt8)),(zeg f l).Perm l
 | 0,l => List.Perm.refl _
 | f + 1,l => by
  rw [zeg]
  split
  ·exact List.Perm.refl _
  ·refine (List.merge_perm_append _).trans ?_
   refine ((zbb f _).append (zbb f _)).trans ?_
   rw [List.take_append_drop]
theorem zdv:∀ (f:Nat) (l:List (List UInt8)),l.length ≤ f → (zeg f l).Pairwise (fun a b => leS a b=true)
 | 0,l,h => by
  have:l=[]:=List.eq_nil_of_length_eq_zero (by omega)
  subst this
  exact List.Pairwise.nil
 | f + 1,l,h => by
  rw [zeg]
  split
  ·rename_i h2
   match l,h2 with
   | [],_ => exact List.Pairwise.nil
   | [a],_ => exact List.pairwise_singleton _ _
   | a :: b :: l,h2 => simp at h2; omega
  ·exact List.pairwise_merge zne znf _ _ (zdv f _ (by rw [List.length_take]; omega)) (zdv f _ (by rw [List.length_drop]; omega))
section
variable [Tabs Tryz.prog]
theorem zjp:∀ (f:Nat) (l:List (List UInt8)),l.length ≤ f → l.length ≤ 1099511627780 → ∀ {objs:List OB} {K:List OB → AV → Prop},K objs (.row (zeg f l).length ((zeg f l).map .s)) → zad Tryz.prog 78 [.row l.length (l.map .s)] objs K:=by
 intro f
 induction f with
 | zero =>
  intro l hl hb objs K hk
  have e:l=[]:=List.eq_nil_of_length_eq_zero (by omega)
  subst e
  refine zaX is_ref15_sorted rfl fun C _ => ?_
  rw [c_ref15_sorted]
  have z:((0:Nat):Int) < 2:=by decide
  simp only [sxZ,z6,z7,z8,j4,j5,j6,j7,j8,j9,x0,x3,x4,x5,x6,x7,reduceCtorEq,↓reduceIte,List.length_nil,List.map_nil,z]
  exact hk
 | succ f ih =>
  intro l hl hb objs K hk
  refine zaX is_ref15_sorted (by simp only [zan,AV.plain,zaN,Bool.and_self]) fun C _ => ?_
  rw [c_ref15_sorted]
  refine zaa fun Z hZ => ?_
  simp only [sxZ,z6,z7,z8,j4,j5,j6,j7,j8,j9,x0,x3,x4,x5,x6,x7,reduceCtorEq,↓reduceIte]
  subst hZ
  refine zaa fun Z hZ => ?_
  rw [zeg] at hk
  by_cases c2:l.length < 2
  ·rw [if_pos c2] at hk
   have c2':(l.length:Int) < 2:=by omega
   simp only [sxZ,z6,z7,z8,j4,j5,j6,j7,j8,j9,x0,x3,x4,x5,x6,x7,reduceCtorEq,↓reduceIte,c2',zaN]
   exact hk
  rw [if_neg c2] at hk
  have c2':¬ (l.length:Int) < 2:=by omega
  simp only [sxZ,z6,z7,z8,j4,j5,j6,j7,j8,j9,x0,x3,x4,x5,x6,x7,reduceCtorEq,↓reduceIte,c2']
  subst hZ
  refine zaa fun Z hZ => ?_
  have hq:((l.length:Int)).tdiv 2=((l.length / 2:Nat):Int):=(Int.ofNat_tdiv l.length 2).symm
  generalize hh:l.length / 2=h at hk hq
  have ihx:=fun (l':List (List UInt8)) (n:Nat) (xs:List AV) (hn:n=l'.length) (hx:xs=l'.map .s) (h1:l'.length ≤ f) (h2:l'.length ≤ 1099511627780) {objs:List OB} {K:List OB → AV → Prop} (hk:K objs (.row (zeg f l').length ((zeg f l').map .s))) => (by subst hn hx; exact ih l' h1 h2 hk:zad Tryz.prog 78 [.row n xs] objs K)
  have hla:(l.take h).length=h:=by rw [List.length_take]; omega
  have hlb:(l.drop h).length=l.length - h:=List.length_drop
  have ha:List.take (h * 1) (l.map AV.s)=(l.take h).map .s:=by rw [Nat.mul_one,List.map_take]
  have hb2:List.drop (h * 1) (List.take (l.length * 1) (l.map AV.s))=(l.drop h).map .s:=by
   rw [Nat.mul_one,Nat.mul_one,List.take_of_length_le (by simp),List.map_drop]
  simp only [sxZ,z6,z7,z8,j4,j5,j6,j7,j8,j9,x0,x3,x4,x5,x6,x7,reduceCtorEq,↓reduceIte,hq,Int.toNat_natCast]
  refine ⟨⟨by omega,by omega⟩,⟨by omega,by omega⟩,?_⟩
  refine kpcall (ihx (l.take h) h _ hla.symm ha (by omega) (by omega) rfl) (by rw [ha]; simp only [zan,AV.plain,zaN,Bool.and_self]) (by simp only [AV.plain,zaN]) ?_
  simp only [sxZ,z6,z7,z8,j4,j5,j6,j7,j8,j9,x0,x3,x4,x5,x6,x7,reduceCtorEq,↓reduceIte,hq,Int.toNat_natCast]
  refine ⟨⟨by omega,by omega⟩,⟨by omega,by omega⟩,?_⟩
  refine kpcall (ihx (l.drop h) _ _ hlb.symm hb2 (by omega) (by omega) rfl) (by rw [hb2]; simp only [zan,AV.plain,zaN,Bool.and_self]) (by simp only [AV.plain,zaN]) ?_
  have hra:0 < (zeg f (l.take h)).length:=by rw [(zbb f _).length_eq]; omega
  have hrb:0 < (zeg f (l.drop h)).length:=by rw [(zbb f _).length_eq]; omega
  have hls:(zeg f (l.take h)).length + (zeg f (l.drop h)).length=l.length:=by rw [(zbb f _).length_eq,(zbb f _).length_eq]; omega
  generalize zeg f (l.take h)=ra at hk hra hls ⊢
  generalize zeg f (l.drop h)=rb at hk hrb hls ⊢
  simp only [sxZ,z6,z7,z8,j4,j5,j6,j7,j8,j9,x0,x3,x4,x5,x6,x7,reduceCtorEq,↓reduceIte]
  subst hZ
  refine zaa fun Z hZ => ?_
  simp only [sxZ,z6,z7,z8,j4,j5,j6,j7,j8,j9,x0,x3,x4,x5,x6,x7,reduceCtorEq,↓reduceIte]
  subst hZ
  refine zaa fun Z hZ => ?_
  rw [zaK]
  refine zaE (fun n o tm => ∃ (acc a b:List (List UInt8)) (X:AV),n=a.length + b.length ∧ List.merge ra rb leS=acc ++ List.merge a b leS ∧ acc.length + a.length + b.length=l.length ∧ (acc=[] → a=ra ∧ b=rb) ∧ ((acc=[] ∧ o=[] ∧ X=.nil) ∨ ∃ g,o=[.orow 9 1 g acc.length (acc.map .s)] ∧ X=.orow 0 g) ∧
   tm.length=58 ∧ tm[3]? = some (.row a.length (a.map .s)) ∧ tm[4]? = some (.row b.length (b.map .s)) ∧ tm[5]? = some X) (ra.length + rb.length) ⟨[],ra,rb,.nil,rfl,rfl,by rw [List.length_nil]; omega,fun _ => ⟨rfl,rfl⟩,.inl ⟨rfl,rfl,rfl⟩,rfl,rfl,rfl,rfl⟩ ?_
  rintro n o tm ⟨acc,a,b,X,rfl,hm,hlen2,hin,hX,hlen,t3,t4,t5⟩
  have last:∀ (tm:List AV),(a=[] ∨ b=[]) → tm.length=58 → tm[3]? = some (.row a.length (a.map .s)) → tm[4]? = some (.row b.length (b.map .s)) → tm[5]? = some X → run Tryz.prog C [.code Z] o tm (endK [.tmp 2] fun r => K objs r):=by
   intro tm hab hlen t3 t4 t5
   have hmab:List.merge a b leS=a ++ b:=by
    rcases hab with rfl | rfl
    ·rw [List.nil_merge]; rfl
    ·rw [List.merge_right,List.append_nil]
   rcases hX with ⟨h1,_,_⟩ | ⟨g,rfl,rfl⟩
   ·obtain ⟨rfl,rfl⟩:=hin h1
    rcases hab with rfl | rfl
    ·simp at hra
    ·simp at hrb
   subst hZ
   simp only [sxZ,z6,z7,z8,j4,j5,j6,j7,j8,j9,x0,x3,x4,x5,x6,x7,reduceCtorEq,↓reduceIte,List.getElem?_set,hlen,t3,t4,t5]
   refine ⟨⟨by simp,by omega,by omega⟩,⟨by simp,by omega,by omega⟩,?_⟩
   rw [← List.map_append,← List.map_append,zfi]
   rw [hm,hmab,← List.append_assoc,List.length_append,List.length_append] at hk
   exact hk
  refine zaa fun W hW => ?_
  cases a with
  | nil =>
   have z:¬ (0:Int) < ((0:Nat):Int):=by decide
   simp only [sxZ,z6,z7,z8,j4,j5,j6,j7,j8,j9,x0,x3,x4,x5,x6,x7,reduceCtorEq,↓reduceIte,List.getElem?_set,hlen,t3,List.length_nil,z]
   refine last _ (.inl rfl) ?_ ?_ ?_ ?_
   all_goals simp only [List.length_set,List.getElem?_set,hlen,t3,t4,t5,Nat.reduceEqDiff,if_false,reduceIte]
  | cons x a =>
  cases b with
  | nil =>
   have z:¬ (0:Int) < ((0:Nat):Int):=by decide
   have z2:(0:Int) < ((a.length + 1:Nat):Int):=by omega
   simp only [sxZ,z6,z7,z8,j4,j5,j6,j7,j8,j9,x0,x3,x4,x5,x6,x7,reduceCtorEq,↓reduceIte,List.getElem?_set,hlen,t3,t4,List.length_nil,List.length_cons,z,z2]
   refine last _ (.inr rfl) ?_ ?_ ?_ ?_
   all_goals simp only [List.length_set,List.getElem?_set,hlen,t3,t4,t5,Nat.reduceEqDiff,if_false,reduceIte]
  | cons y b =>
  have z1:(0:Int) < ((b.length + 1:Nat):Int):=by omega
  have z2:(0:Int) < ((a.length + 1:Nat):Int):=by omega
  simp only [sxZ,z6,z7,z8,j4,j5,j6,j7,j8,j9,x0,x3,x4,x5,x6,x7,reduceCtorEq,↓reduceIte,List.getElem?_set,hlen,t3,t4,List.length_cons,z1,z2]
  subst hW
  rw [zaK]
  refine zaa fun W hW => ?_
  simp only [sxZ,z6,z7,z8,j4,j5,j6,j7,j8,j9,x0,x3,x4,x5,x6,x7,reduceCtorEq,↓reduceIte,List.getElem?_set,hlen,t3,t4,List.map_cons,List.length_cons]
  refine ⟨⟨by omega,by simp⟩,⟨by omega,by simp⟩,?_⟩
  have hxa:List.drop 1 (List.take ((a.length + 1) * 1) (AV.s x :: a.map AV.s))=a.map .s:=by
   rw [Nat.mul_one,List.take_of_length_le (by simp)]; rfl
  have hxb:List.drop 1 (List.take ((b.length + 1) * 1) (AV.s y :: b.map AV.s))=b.map .s:=by
   rw [Nat.mul_one,List.take_of_length_le (by simp)]; rfl
  have hla1:a.length + 1 - 1=a.length:=rfl
  have hlb1:b.length + 1 - 1=b.length:=rfl
  simp only [List.length_cons] at hlen2
  subst hW
  cases hle:(zbO x y || x == y) with
  | true =>
   have hm2:List.merge ra rb leS=(acc ++ [x]) ++ List.merge a (y :: b) leS:=by
    rw [hm,List.cons_merge_cons,if_pos (show leS x y=true from hle),List.append_assoc]; rfl
   rcases hX with ⟨h1,rfl,rfl⟩ | ⟨g,rfl,rfl⟩
   ·simp only [sxZ,z6,z7,z8,j4,j5,j6,j7,j8,j9,x0,x3,x4,x5,x6,x7,reduceCtorEq,↓reduceIte,List.getElem?_set,hlen,t3,t5,hle,List.map_cons,List.length_cons]
    refine ⟨⟨by omega,by simp⟩,by omega,_,?_,acc ++ [x],a,y :: b,_,rfl,hm2,by simp only [List.length_append,List.length_cons,List.length_nil] at hlen2 ⊢; omega,fun h => by simp at h,.inr ⟨_,by rw [h1]; rfl,rfl⟩,by rw [hxa]; rfl,t4,rfl⟩
    ·show _ < _; simp only [List.length_cons]; omega
   ·simp only [sxZ,z6,z7,z8,j4,j5,j6,j7,j8,j9,x0,x3,x4,x5,x6,x7,reduceCtorEq,↓reduceIte,List.getElem?_set,hlen,t3,t5,hle,List.map_cons,List.length_cons]
    refine ⟨⟨by omega,by simp⟩,⟨by omega,by omega⟩,by omega,_,?_,acc ++ [x],a,y :: b,_,rfl,hm2,by simp only [List.length_append,List.length_cons,List.length_nil] at hlen2 ⊢; omega,fun h => by simp at h,.inr ⟨_,by rw [List.map_append,List.length_append]; rfl,rfl⟩,by rw [hxa]; rfl,t4,rfl⟩
    ·show _ < _; simp only [List.length_cons]; omega
  | false =>
   have hm2:List.merge ra rb leS=(acc ++ [y]) ++ List.merge (x :: a) b leS:=by
    rw [hm,List.cons_merge_cons,if_neg (show ¬ leS x y=true from by unfold leS; rw [hle]; exact Bool.false_ne_true),List.append_assoc]; rfl
   rcases hX with ⟨h1,rfl,rfl⟩ | ⟨g,rfl,rfl⟩
   ·simp only [sxZ,z6,z7,z8,j4,j5,j6,j7,j8,j9,x0,x3,x4,x5,x6,x7,reduceCtorEq,↓reduceIte,List.getElem?_set,hlen,t4,t5,hle,List.map_cons,List.length_cons]
    refine ⟨⟨by omega,by simp⟩,by omega,_,?_,acc ++ [y],x :: a,b,_,rfl,hm2,by simp only [List.length_append,List.length_cons,List.length_nil] at hlen2 ⊢; omega,fun h => by simp at h,.inr ⟨_,by rw [h1]; rfl,rfl⟩,t3,by rw [hxb]; rfl,rfl⟩
    ·show _ < _; simp only [List.length_cons]; omega
   ·simp only [sxZ,z6,z7,z8,j4,j5,j6,j7,j8,j9,x0,x3,x4,x5,x6,x7,reduceCtorEq,↓reduceIte,List.getElem?_set,hlen,t4,t5,hle,List.map_cons,List.length_cons]
    refine ⟨⟨by omega,by simp⟩,⟨by omega,by omega⟩,by omega,_,?_,acc ++ [y],x :: a,b,_,rfl,hm2,by simp only [List.length_append,List.length_cons,List.length_nil] at hlen2 ⊢; omega,fun h => by simp at h,.inr ⟨_,by rw [List.map_append,List.length_append]; rfl,rfl⟩,t3,by rw [hxb]; rfl,rfl⟩
    ·show _ < _; simp only [List.length_cons]; omega
end
end
section
attribute [local irreducible] run
def zfw (ks:List (List UInt8)):Bool:=decide ks.Nodup && ks.all za2
theorem zeC:∀ {s:List (List UInt8)},s.Pairwise (fun a b => leS a b=true) → (∀ j a b,s[j]? = some a → s[j + 1]? = some b → a ≠ b) → s.Nodup
 | [],_,_ => List.nodup_nil
 | a :: s,h,k => by
  rw [List.pairwise_cons] at h
  rw [List.nodup_cons]
  refine ⟨fun hm => ?_,zeC h.2 fun j x y hx hy => k (j + 1) x y (by simpa using hx) (by simpa using hy)⟩
  cases s with
  | nil => cases hm
  | cons b s =>
   have hab:=k 0 a b rfl rfl
   rcases List.mem_cons.1 hm with e | hm
   ·exact hab e
   ·have h1:=h.1 b (by simp)
    have h2:=(List.pairwise_cons.1 h.2).1 a hm
    exact hab (leS_anti _ _ h1 h2)
section
variable [Tabs Tryz.prog] {objs:List OB} {K:List OB → AV → Prop}
theorem zi3 (l:List (List UInt8)) (hb:l.length ≤ 1099511627780) (ht:∀ k ∈ l,k.length ≤ 140737488351232) (hk:K objs (.b (zfw l))):zad Tryz.prog 76 [.row l.length (l.map .s)] objs K:=by
 refine zaX is_ref15_different (by simp only [zan,AV.plain,zaN,Bool.and_self]) fun C _ => ?_
 rw [c_ref15_different]
 refine zaa fun Z hZ => ?_
 simp only [sxZ,z6,z7,z8,j4,j5,j6,j7,j8,j9,x0,x3,x4,x5,x6,x7,reduceCtorEq,↓reduceIte]
 subst hZ
 refine zaa fun Z hZ => ?_
 simp only [sxZ,z6,z7,z8,j4,j5,j6,j7,j8,j9,x0,x3,x4,x5,x6,x7,reduceCtorEq,↓reduceIte]
 refine zam (zjp l.length l (Nat.le_refl _) hb ?_)
 have hp:=zbb l.length l
 have hso:=zdv l.length l (Nat.le_refl _)
 generalize zeg l.length l=s at hp hso ⊢
 have hsl:=hp.length_eq
 have hst:∀ k ∈ s,k.length ≤ 140737488351232:=fun k hk => ht k (hp.mem_iff.1 hk)
 have no:(∃ k ∈ s,za2 k=false) ∨ ¬ s.Nodup → zfw l=false:=by
  intro h
  unfold zfw
  rcases h with ⟨k,h1,h2⟩ | h
  ·have:l.all za2=false:=by
    rw [List.all_eq_false]
    exact ⟨k,hp.mem_iff.1 h1,by rw [h2]; exact Bool.false_ne_true⟩
   rw [this,Bool.and_false]
  ·have:¬ l.Nodup:=fun hn => h (hp.nodup_iff.2 hn)
   rw [decide_eq_false this]; rfl
 simp only [sxZ,z6,z7,z8,j4,j5,j6,j7,j8,j9,x0,x3,x4,x5,x6,x7,reduceCtorEq,↓reduceIte]
 subst hZ
 refine zaa fun Z hZ => ?_
 simp only [sxZ,z6,z7,z8,j4,j5,j6,j7,j8,j9,x0,x3,x4,x5,x6,x7,reduceCtorEq,↓reduceIte]
 refine zaE (fun n o tm => ∃ i:Nat,i ≤ s.length ∧ n=s.length - i ∧ o=[] ∧ (∀ j a,j < i → s[j]? = some a → za2 a=true) ∧ (∀ j a b,j + 1 < i → s[j]? = some a → s[j + 1]? = some b → a ≠ b) ∧ tm.length=32 ∧ tm[3]? = some (.row s.length (s.map .s)) ∧ tm[8]? = some (.row s.length (s.map .s)) ∧ tm[9]? = some (.i .i64 (s.length:Int)) ∧ tm[10]? = some (.i .i64 (i:Int))) s.length ⟨0,Nat.zero_le _,rfl,rfl,fun j a h => by omega,fun j a b h => by omega,rfl,rfl,rfl,rfl,rfl⟩ ?_
 rintro n _ tm ⟨i,hi,rfl,rfl,hv,hd,hlen,t3,t8,t9,t10⟩
 refine zaa fun W hW => ?_
 by_cases hlt:(i:Int) < (s.length:Int)
 ·have hi':i < s.length:=by omega
  have kv:(s.map AV.s)[i * 1]? = some (.s s[i]):=by rw [Nat.mul_one,List.getElem?_map,List.getElem?_eq_getElem hi']; rfl
  have kv2:s[i]? = some s[i]:=List.getElem?_eq_getElem hi'
  have kv3:s[i] ∈ s:=List.getElem_mem hi'
  generalize s[i]=x at kv kv2 kv3
  simp only [sxZ,z6,z7,z8,j4,j5,j6,j7,j8,j9,x0,x3,x4,x5,x6,x7,reduceCtorEq,↓reduceIte,List.getElem?_set,hlen,t3,t8,t9,t10,hlt]
  subst hW
  refine zaa fun W hW => ?_
  simp only [sxZ,z6,z7,z8,j4,j5,j6,j7,j8,j9,x0,x3,x4,x5,x6,x7,reduceCtorEq,↓reduceIte,List.getElem?_set,hlen]
  subst hW
  refine zaa fun V hV => ?_
  rw [zaK]
  refine zaa fun W hW => ?_
  simp only [sxZ,z6,z7,z8,j4,j5,j6,j7,j8,j9,x0,x3,x4,x5,x6,x7,reduceCtorEq,↓reduceIte,List.getElem?_set,hlen,t8,t10,kv,List.length_map]
  refine ⟨⟨by omega,by omega⟩,?_⟩
  subst hW
  refine zaa fun W hW => ?_
  simp only [sxZ,z6,z7,z8,j4,j5,j6,j7,j8,j9,x0,x3,x4,x5,x6,x7,reduceCtorEq,↓reduceIte,List.getElem?_set,hlen]
  refine zam (zhn x (hst x kv3) ?_)
  cases hvx:za2 x with
  | false =>
   simp only [sxZ,z6,z7,z8,j4,j5,j6,j7,j8,j9,x0,x3,x4,x5,x6,x7,reduceCtorEq,↓reduceIte,List.getElem?_set,hlen,Bool.not_false]
   subst hW
   simp only [sxZ,z6,z7,z8,j4,j5,j6,j7,j8,j9,x0,x3,x4,x5,x6,x7,reduceCtorEq,↓reduceIte,List.getElem?_set,hlen]
   rw [no (.inl ⟨x,kv3,hvx⟩)] at hk
   exact hk
  | true =>
   have hv':∀ j a,j < i + 1 → s[j]? = some a → za2 a=true:=by
    intro j a hj ha
    by_cases e:j=i
    ·subst e
     rw [kv2] at ha; injection ha with ha; rw [← ha]; exact hvx
    ·exact hv j a (by omega) ha
   cases i with
   | zero =>
    have z:¬ (0:Int) < ((0:Nat):Int):=by decide
    simp only [sxZ,z6,z7,z8,j4,j5,j6,j7,j8,j9,x0,x3,x4,x5,x6,x7,reduceCtorEq,↓reduceIte,List.getElem?_set,hlen,Bool.not_true,z]
    subst hW
    simp only [sxZ,z6,z7,z8,j4,j5,j6,j7,j8,j9,x0,x3,x4,x5,x6,x7,reduceCtorEq,↓reduceIte,List.getElem?_set,hlen]
    subst hV
    simp only [sxZ,z6,z7,z8,j4,j5,j6,j7,j8,j9,x0,x3,x4,x5,x6,x7,reduceCtorEq,↓reduceIte,List.getElem?_set,hlen,t3,t8,t9,t10]
    exact ⟨by omega,s.length - 1,by omega,1,by omega,rfl,hv',fun j a b h => by omega,rfl⟩
   | succ i =>
    have z:(0:Int) < ((i + 1:Nat):Int):=by omega
    have z3:(((i + 1:Nat):Int) - 1)=(i:Int):=by omega
    have hj':i < s.length:=by omega
    have jv:(s.map AV.s)[i * 1]? = some (.s s[i]):=by rw [Nat.mul_one,List.getElem?_map,List.getElem?_eq_getElem hj']; rfl
    have jv2:s[i]? = some s[i]:=List.getElem?_eq_getElem hj'
    generalize s[i]=y at jv jv2
    by_cases ce:y=x
    ·simp only [sxZ,z6,z7,z8,j4,j5,j6,j7,j8,j9,x0,x3,x4,x5,x6,x7,reduceCtorEq,↓reduceIte,List.getElem?_set,hlen,Bool.not_true,z,z3,t3,Int.toNat_natCast,jv,List.length_map,ce,decide_true]
     refine ⟨⟨by omega,by omega⟩,⟨by omega,by omega,by omega⟩,?_⟩
     subst hW
     simp only [sxZ,z6,z7,z8,j4,j5,j6,j7,j8,j9,x0,x3,x4,x5,x6,x7,reduceCtorEq,↓reduceIte,List.getElem?_set,hlen]
     have hnn:¬ s.Nodup:=fun h => by
      have h1:=(List.getElem?_eq_some_iff.1 jv2).2
      have h2:=(List.getElem?_eq_some_iff.1 kv2).2
      exact List.pairwise_iff_getElem.1 h i (i + 1) hj' hi' (by omega) (by rw [h1,h2,ce])
     rw [no (.inr hnn)] at hk
     exact hk
    ·simp only [sxZ,z6,z7,z8,j4,j5,j6,j7,j8,j9,x0,x3,x4,x5,x6,x7,reduceCtorEq,↓reduceIte,List.getElem?_set,hlen,Bool.not_true,z,z3,t3,Int.toNat_natCast,jv,List.length_map,ce,decide_false]
     refine ⟨⟨by omega,by omega⟩,⟨by omega,by omega,by omega⟩,?_⟩
     subst hW
     simp only [sxZ,z6,z7,z8,j4,j5,j6,j7,j8,j9,x0,x3,x4,x5,x6,x7,reduceCtorEq,↓reduceIte,List.getElem?_set,hlen]
     subst hV
     simp only [sxZ,z6,z7,z8,j4,j5,j6,j7,j8,j9,x0,x3,x4,x5,x6,x7,reduceCtorEq,↓reduceIte,List.getElem?_set,hlen,t3,t8,t9,t10]
     refine ⟨by omega,s.length - (i + 1 + 1),by omega,i + 1 + 1,by omega,rfl,hv',fun j a b hj ha hb => ?_,rfl⟩
     by_cases e:j=i
     ·subst e
      rw [jv2] at ha; injection ha with ha
      rw [kv2] at hb; injection hb with hb
      rw [← ha,← hb]; exact ce
     ·exact hd j a b (by omega) ha hb
 simp only [sxZ,z6,z7,z8,j4,j5,j6,j7,j8,j9,x0,x3,x4,x5,x6,x7,reduceCtorEq,↓reduceIte,List.getElem?_set,hlen,t3,t8,t9,t10,hlt]
 subst hW
 subst hZ
 simp only [sxZ,z6,z7,z8,j4,j5,j6,j7,j8,j9,x0,x3,x4,x5,x6,x7,reduceCtorEq,↓reduceIte,List.getElem?_set,hlen]
 have hyes:zfw l=true:=by
  unfold zfw
  have h1:s.Nodup:=zeC hso fun j a b ha hb => hd j a b (by have:=(List.getElem?_eq_some_iff.1 hb).1; omega) ha hb
  have h2:l.all za2=true:=by
   rw [List.all_eq_true]
   intro k hk
   obtain ⟨j,hj⟩:=List.mem_iff_getElem?.1 (hp.mem_iff.2 hk)
   exact hv j k (by have:=(List.getElem?_eq_some_iff.1 hj).1; omega) hj
  rw [h2,decide_eq_true (hp.nodup_iff.1 h1)]; rfl
 rw [hyes] at hk
 exact hk
end
end
section
attribute [local irreducible] run
mutual
/-- how many values there are within depth d; 0 if too deep -/
def zb6:JV → Int → Int
 | .mk k t ks its,d => if 64 < (if k=6 ∨ k=7 then d + 1 else d) then 0 else zd3 its (if k=6 ∨ k=7 then d + 1 else d) 1
def zd3:List JV → Int → Int → Int
 | [],_,n => n
 | v :: l,d,n => if zb6 v d=0 then 0 else if 20000 < n + zb6 v d then 20001 else zd3 l d (n + zb6 v d)
end
mutual
theorem zgD:∀ (v:JV) (d:Int),0 ≤ zb6 v d ∧ zb6 v d ≤ 20001
 | .mk k t ks its,d => by
  rw [zb6]
  generalize (if k=6 ∨ k=7 then d + 1 else d)=e
  by_cases h:64 < e
  ·rw [if_pos h]; omega
  ·rw [if_neg h]; exact zkh its e 1 (by decide) (by decide)
theorem zkh:∀ (l:List JV) (d n:Int),0 ≤ n → n ≤ 20000 → 0 ≤ zd3 l d n ∧ zd3 l d n ≤ 20001
 | [],d,n,h1,h2 => by rw [zd3]; omega
 | v :: l,d,n,h1,h2 => by
  rw [zd3]
  have h:=zgD v d
  split
  ·omega
  split
  ·omega
  ·exact zkh l d _ (by omega) (by omega)
end
theorem jcntE_eq (v:JV) (d:Int):zb6 v d=if 64 < (if v.kind=6 ∨ v.kind=7 then d + 1 else d) then 0 else zd3 v.items (if v.kind=6 ∨ v.kind=7 then d + 1 else d) 1:=by cases v; rw [zb6]; rfl
theorem zcM {α:Type} {l:List α} {i:Nat} (hi:i < l.length):l.drop i=l[i] :: l.drop (i + 1):=List.drop_eq_getElem_cons hi
section
variable [Tabs Tryz.prog]
theorem count_k:∀ (m:Nat) (v:JV) (d:Int),v.size < m → JLn v → 0 ≤ d → d ≤ 64 → ∀ {objs:List OB} {K:List OB → AV → Prop},K objs (.i .i64 (zb6 v d)) → zad Tryz.prog 47 [.agg (zaj v),.i .i64 d] objs K:=by
 intro m
 induction m with
 | zero => intro v d h; omega
 | succ m ih =>
  intro v d hm hv hd hd2 objs K hk
  obtain ⟨l1,l2⟩:=hv.lens
  refine zaX is_ref15_count (by simp only [zan,AV.plain,zaR,Bool.and_self]) fun C _ => ?_
  rw [c_ref15_count]
  refine zaa fun Z hZ => ?_
  simp only [sxZ,z6,z7,z8,j4,j5,j6,j7,j8,j9,x0,x3,x4,x5,x6,x7,reduceCtorEq,↓reduceIte]
  have e0:OB.box 26 (zaj v)=OB.box 26 [.i .i64 v.kind,.s v.text,.row v.keys.length (v.keys.map .s),.row v.items.length (zac v.items)]:=by rw [zal]
  rw [e0]
  rw [jcntE_eq] at hk
  subst hZ
  refine zaa fun Z hZ => ?_
  simp only [sxZ,z6,z7,z8,j4,j5,j6,j7,j8,j9,x0,x3,x4,x5,x6,x7,reduceCtorEq,↓reduceIte]
  subst hZ
  refine zaa fun Z hZ => ?_
  generalize hin:(if v.kind=6 ∨ v.kind=7 then d + 1 else d)=inn at hk
  have hinb:0 ≤ inn ∧ inn ≤ 65:=by rw [← hin]; split <;> omega
  refine zaG (fun o tm => o=[OB.box 26 [.i .i64 v.kind,.s v.text,.row v.keys.length (v.keys.map .s),.row v.items.length (zac v.items)]] ∧ tm.length=42 ∧ tm[2]? = some (.p 0 0) ∧ tm[5]? = some (.i .i64 inn)) ?_ ?_
  ·by_cases c6:v.kind=6
   ·rw [if_pos (.inl c6)] at hin
    subst hin
    simp only [sxZ,z6,z7,z8,j4,j5,j6,j7,j8,j9,x0,x3,x4,x5,x6,x7,reduceCtorEq,↓reduceIte,c6,zab,and_self,and_true]
    omega
   by_cases c7:v.kind=7
   ·rw [if_pos (.inr c7)] at hin
    subst hin
    simp only [sxZ,z6,z7,z8,j4,j5,j6,j7,j8,j9,x0,x3,x4,x5,x6,x7,reduceCtorEq,↓reduceIte,c6,c7,zab,and_self,and_true]
    omega
   ·rw [if_neg (by omega)] at hin
    subst hin
    simp only [sxZ,z6,z7,z8,j4,j5,j6,j7,j8,j9,x0,x3,x4,x5,x6,x7,reduceCtorEq,↓reduceIte,c6,c7,zab,and_self,and_true]
  rintro _ tm ⟨rfl,hlen,t2,t5⟩
  subst hZ
  refine zaa fun Z hZ => ?_
  by_cases c64:64 < inn
  ·rw [if_pos c64] at hk
   simp only [sxZ,z6,z7,z8,j4,j5,j6,j7,j8,j9,x0,x3,x4,x5,x6,x7,reduceCtorEq,↓reduceIte,List.getElem?_set,hlen,t5,c64]
   exact hk
  rw [if_neg c64] at hk
  simp only [sxZ,z6,z7,z8,j4,j5,j6,j7,j8,j9,x0,x3,x4,x5,x6,x7,reduceCtorEq,↓reduceIte,List.getElem?_set,hlen,t5,c64]
  subst hZ
  refine zaa fun Z hZ => ?_
  simp only [sxZ,z6,z7,z8,j4,j5,j6,j7,j8,j9,x0,x3,x4,x5,x6,x7,reduceCtorEq,↓reduceIte,List.getElem?_set,hlen]
  subst hZ
  refine zaa fun Z hZ => ?_
  simp only [sxZ,z6,z7,z8,j4,j5,j6,j7,j8,j9,x0,x3,x4,x5,x6,x7,reduceCtorEq,↓reduceIte,List.getElem?_set,hlen,t2,t5]
  refine zaE (fun n o tm => ∃ (i:Nat) (b:Int),i ≤ v.items.length ∧ n=v.items.length - i ∧ 1 ≤ b ∧ b ≤ 20000 ∧ zd3 v.items inn 1=zd3 (v.items.drop i) inn b ∧ tm.length=42 ∧ tm[5]? = some (.i .i64 inn) ∧ tm[6]? = some (.i .i64 b) ∧ tm[24]? = some (.row v.items.length (zac v.items)) ∧ tm[25]? = some (.i .i64 (v.items.length:Int)) ∧ tm[26]? = some (.i .i64 (i:Int))) v.items.length ⟨0,1,Nat.zero_le _,rfl,by decide,by decide,rfl,?_⟩ ?_
  ·simp only [sxZ,z6,z7,z8,j4,j5,j6,j7,j8,j9,x0,x3,x4,x5,x6,x7,reduceCtorEq,↓reduceIte,List.length_set,List.getElem?_set,hlen,t2,t5,Int.cast_ofNat_Int,and_self]
  clear hlen t2 t5
  rintro n o tm ⟨i,b,hi,rfl,hb,hb2,hc,hlen,t5,t6,t24,t25,t26⟩
  refine zaa fun W hW => ?_
  by_cases hlt:(i:Int) < (v.items.length:Int)
  ·have hi':i < v.items.length:=by omega
   have hjc:=zd4 hi'
   have hjl:=zax v.items
   have hit:=hv.its hi'
   have hsz:=zbd hi'
   rw [zcM hi',zd3] at hc
   generalize v.items[i]=x at hjc hit hsz hc
   have hbd:=zgD x inn
   have hcall:=fun {objs:List OB} {K:List OB → AV → Prop} (h) => ih x inn (by omega) hit (by omega) (by omega) (objs:=objs) (K:=K) h
   generalize zb6 x inn=cx at hcall hbd hc
   obtain ⟨q0,q1,q2,q3,hq⟩:∃ q0 q1 q2 q3,zaj x=[q0,q1,q2,q3]:=⟨_,_,_,_,zal x⟩
   rw [hq] at hjc hcall
   simp only [sxZ,z6,z7,z8,j4,j5,j6,j7,j8,j9,x0,x3,x4,x5,x6,x7,reduceCtorEq,↓reduceIte,List.getElem?_set,hlen,t24,t25,t26,hlt]
   subst hW
   refine zaa fun W hW => ?_
   simp only [sxZ,z6,z7,z8,j4,j5,j6,j7,j8,j9,x0,x3,x4,x5,x6,x7,reduceCtorEq,↓reduceIte,List.getElem?_set,hlen]
   subst hW
   refine zaa fun V hV => ?_
   rw [zaK]
   refine zaa fun W hW => ?_
   simp only [sxZ,z6,z7,z8,j4,j5,j6,j7,j8,j9,x0,x3,x4,x5,x6,x7,reduceCtorEq,↓reduceIte,List.getElem?_set,hlen,t24,t26,hjc]
   refine ⟨⟨by omega,by omega,by omega⟩,by omega,?_⟩
   simp only [sxZ,z6,z7,z8,j4,j5,j6,j7,j8,j9,x0,x3,x4,x5,x6,x7,reduceCtorEq,↓reduceIte,List.getElem?_set,hlen,gn1,sn1]
   subst hW
   refine zaa fun W hW => ?_
   simp only [sxZ,z6,z7,z8,j4,j5,j6,j7,j8,j9,x0,x3,x4,x5,x6,x7,reduceCtorEq,↓reduceIte,List.getElem?_set,hlen,t5,gn1]
   refine zam (hcall ?_)
   simp only [sxZ,z6,z7,z8,j4,j5,j6,j7,j8,j9,x0,x3,x4,x5,x6,x7,reduceCtorEq,↓reduceIte,List.getElem?_set,hlen]
   subst hW
   refine zaa fun W hW => ?_
   by_cases c0:cx=0
   ·rw [if_pos c0] at hc
    simp only [sxZ,z6,z7,z8,j4,j5,j6,j7,j8,j9,x0,x3,x4,x5,x6,x7,reduceCtorEq,↓reduceIte,List.getElem?_set,hlen,c0]
    rw [hc] at hk
    exact hk
   rw [if_neg c0] at hc
   simp only [sxZ,z6,z7,z8,j4,j5,j6,j7,j8,j9,x0,x3,x4,x5,x6,x7,reduceCtorEq,↓reduceIte,List.getElem?_set,hlen,c0]
   subst hW
   refine zaa fun W hW => ?_
   simp only [sxZ,z6,z7,z8,j4,j5,j6,j7,j8,j9,x0,x3,x4,x5,x6,x7,reduceCtorEq,↓reduceIte,List.getElem?_set,hlen,t6]
   refine ⟨⟨by omega,by omega⟩,?_⟩
   subst hW
   by_cases c9:20000 < b + cx
   ·rw [if_pos c9] at hc
    simp only [sxZ,z6,z7,z8,j4,j5,j6,j7,j8,j9,x0,x3,x4,x5,x6,x7,reduceCtorEq,↓reduceIte,List.getElem?_set,hlen,c9]
    rw [hc] at hk
    exact hk
   rw [if_neg c9] at hc
   simp only [sxZ,z6,z7,z8,j4,j5,j6,j7,j8,j9,x0,x3,x4,x5,x6,x7,reduceCtorEq,↓reduceIte,List.getElem?_set,hlen,c9]
   subst hV
   simp only [sxZ,z6,z7,z8,j4,j5,j6,j7,j8,j9,x0,x3,x4,x5,x6,x7,reduceCtorEq,↓reduceIte,List.getElem?_set,hlen,t5,t24,t25,t26]
   exact ⟨by omega,v.items.length - (i + 1),by omega,i + 1,b + cx,by omega,rfl,by omega,by omega,hc,rfl,rfl⟩
  simp only [sxZ,z6,z7,z8,j4,j5,j6,j7,j8,j9,x0,x3,x4,x5,x6,x7,reduceCtorEq,↓reduceIte,List.getElem?_set,hlen,t24,t25,t26,hlt]
  subst hW
  subst hZ
  simp only [sxZ,z6,z7,z8,j4,j5,j6,j7,j8,j9,x0,x3,x4,x5,x6,x7,reduceCtorEq,↓reduceIte,List.getElem?_set,hlen,t6]
  rw [hc,List.drop_eq_nil_of_le (by omega),zd3] at hk
  exact hk
end
end
section
attribute [local irreducible] run
mutual
/-- does it have the right fields? -/
def zdJ:JV → Bool
 | .mk k t ks its =>
  if k=1 ∨ k=3 ∨ k=2 then decide (t=[]) && (decide (ks.length=0) && decide (its.length=0))
  else if k=4 then decide ((zcL t).1=0) && (decide ((zcL t).2=t) && (decide (ks.length=0) && decide (its.length=0)))
  else if k=5 then za2 t && (decide (ks.length=0) && decide (its.length=0))
  else if k=6 then decide (t=[]) && (decide (ks.length=0) && zdg its)
  else if k=7 then decide (t=[]) && (decide (ks.length=its.length) && (zfw ks && zdg its))
  else false
def zdg:List JV → Bool
 | [] => true
 | v :: l => zdJ v && zdg l
end
theorem zl1 (v:JV):zdJ v =
  if v.kind=1 ∨ v.kind=3 ∨ v.kind=2 then decide (v.text=[]) && (decide (v.keys.length=0) && decide (v.items.length=0))
  else if v.kind=4 then decide ((zcL v.text).1=0) && (decide ((zcL v.text).2=v.text) && (decide (v.keys.length=0) && decide (v.items.length=0)))
  else if v.kind=5 then za2 v.text && (decide (v.keys.length=0) && decide (v.items.length=0))
  else if v.kind=6 then decide (v.text=[]) && (decide (v.keys.length=0) && zdg v.items)
  else if v.kind=7 then decide (v.text=[]) && (decide (v.keys.length=v.items.length) && (zfw v.keys && zdg v.items))
  else false:=by cases v; rw [zdJ]; rfl
def zjj (v:JV):Bool:=decide (0 < zb6 v 0 ∧ zb6 v 0 ≤ 20000) && zdJ v
section
variable [Tabs Tryz.prog]
theorem shape_k:∀ (m:Nat) (v:JV),v.size < m → JKp v → ∀ {objs:List OB} {K:List OB → AV → Prop},K objs (.b (zdJ v)) → zad Tryz.prog 48 [.agg (zaj v)] objs K:=by
 intro m
 induction m with
 | zero => intro v h; omega
 | succ m ih =>
  intro v hm hv objs K hk
  obtain ⟨l1,l2,l3,l4⟩:=hv.lens
  refine zaX is_ref15_shape (by simp only [zan,AV.plain,zaR,Bool.and_self]) fun C _ => ?_
  rw [c_ref15_shape]
  refine zaa fun Z hZ => ?_
  simp only [sxZ,z6,z7,z8,j4,j5,j6,j7,j8,j9,x0,x3,x4,x5,x6,x7,reduceCtorEq,↓reduceIte]
  have e0:OB.box 26 (zaj v)=OB.box 26 [.i .i64 v.kind,.s v.text,.row v.keys.length (v.keys.map .s),.row v.items.length (zac v.items)]:=by rw [zal]
  rw [e0]
  rw [zl1] at hk
  have z0:∀ n:Nat,decide ((n:Int)=0)=decide (n=0):=fun n => decide_eq_decide.2 (by omega)
  subst hZ
  refine zaa fun Z hZ => ?_
  refine zaa fun W hW => ?_
  simp only [sxZ,z6,z7,z8,j4,j5,j6,j7,j8,j9,x0,x3,x4,x5,x6,x7,reduceCtorEq,↓reduceIte]
  subst hW
  rw [zaK]
  have loop:∀ (tm:List AV),tm.length=115 → tm[1]? = some (.p 0 0) → K objs (.b (zdg v.items)) → run Tryz.prog C [.code Z] [OB.box 26 [.i .i64 v.kind,.s v.text,.row v.keys.length (v.keys.map .s),.row v.items.length (zac v.items)]] tm (endK [.tmp 2] fun r => K objs r):=by
   intro tm hlen t1 hk
   have z115:=hlen
   subst hZ
   refine zaa fun Z hZ => ?_
   refine zaa fun W hW => ?_
   simp only [sxZ,z6,z7,z8,j4,j5,j6,j7,j8,j9,x0,x3,x4,x5,x6,x7,reduceCtorEq,↓reduceIte,List.getElem?_set,hlen,t1]
   subst hW
   rw [zaK]
   refine zaE (fun n o tm => ∃ i:Nat,i ≤ v.items.length ∧ n=v.items.length - i ∧ zdg v.items=zdg (v.items.drop i) ∧ tm.length=115 ∧ tm[105]? = some (.row v.items.length (zac v.items)) ∧ tm[106]? = some (.i .i64 (v.items.length:Int)) ∧ tm[107]? = some (.i .i64 (i:Int))) v.items.length ⟨0,Nat.zero_le _,rfl,rfl,?_⟩ ?_
   ·simp only [sxZ,z6,z7,z8,j4,j5,j6,j7,j8,j9,x0,x3,x4,x5,x6,x7,reduceCtorEq,↓reduceIte,List.length_set,List.getElem?_set,hlen,t1,Int.cast_ofNat_Int,and_self]
   clear hlen t1 z115
   rintro n o tm ⟨i,hi,rfl,hc,hlen,t105,t106,t107⟩
   refine zaa fun W hW => ?_
   by_cases hlt:(i:Int) < (v.items.length:Int)
   ·have hi':i < v.items.length:=by omega
    have hjc:=zd4 hi'
    have hjl:=zax v.items
    have hit:=hv.its hi'
    have hsz:=zbd hi'
    rw [zcM hi',zdg] at hc
    generalize v.items[i]=x at hjc hit hsz hc
    have hcall:=fun {objs:List OB} {K:List OB → AV → Prop} (h) => ih x (by omega) hit (objs:=objs) (K:=K) h
    generalize zdJ x=sx at hcall hc
    obtain ⟨q0,q1,q2,q3,hq⟩:∃ q0 q1 q2 q3,zaj x=[q0,q1,q2,q3]:=⟨_,_,_,_,zal x⟩
    rw [hq] at hjc hcall
    simp only [sxZ,z6,z7,z8,j4,j5,j6,j7,j8,j9,x0,x3,x4,x5,x6,x7,reduceCtorEq,↓reduceIte,List.getElem?_set,hlen,t105,t106,t107,hlt]
    subst hW
    refine zaa fun W hW => ?_
    simp only [sxZ,z6,z7,z8,j4,j5,j6,j7,j8,j9,x0,x3,x4,x5,x6,x7,reduceCtorEq,↓reduceIte,List.getElem?_set,hlen]
    subst hW
    refine zaa fun V hV => ?_
    rw [zaK]
    refine zaa fun W hW => ?_
    simp only [sxZ,z6,z7,z8,j4,j5,j6,j7,j8,j9,x0,x3,x4,x5,x6,x7,reduceCtorEq,↓reduceIte,List.getElem?_set,hlen,t105,t107,hjc]
    refine ⟨⟨by omega,by omega,by omega⟩,by omega,?_⟩
    simp only [sxZ,z6,z7,z8,j4,j5,j6,j7,j8,j9,x0,x3,x4,x5,x6,x7,reduceCtorEq,↓reduceIte,List.getElem?_set,hlen,gn1,sn1]
    subst hW
    refine zaa fun W hW => ?_
    simp only [sxZ,z6,z7,z8,j4,j5,j6,j7,j8,j9,x0,x3,x4,x5,x6,x7,reduceCtorEq,↓reduceIte,List.getElem?_set,hlen,gn1]
    refine zam (hcall ?_)
    cases sx with
    | false =>
     simp only [sxZ,z6,z7,z8,j4,j5,j6,j7,j8,j9,x0,x3,x4,x5,x6,x7,reduceCtorEq,↓reduceIte,List.getElem?_set,hlen,Bool.not_false]
     subst hW
     simp only [sxZ,z6,z7,z8,j4,j5,j6,j7,j8,j9,x0,x3,x4,x5,x6,x7,reduceCtorEq,↓reduceIte,List.getElem?_set,hlen]
     rw [hc] at hk
     exact hk
    | true =>
     simp only [sxZ,z6,z7,z8,j4,j5,j6,j7,j8,j9,x0,x3,x4,x5,x6,x7,reduceCtorEq,↓reduceIte,List.getElem?_set,hlen,Bool.not_true]
     subst hW
     simp only [sxZ,z6,z7,z8,j4,j5,j6,j7,j8,j9,x0,x3,x4,x5,x6,x7,reduceCtorEq,↓reduceIte,List.getElem?_set,hlen]
     subst hV
     simp only [sxZ,z6,z7,z8,j4,j5,j6,j7,j8,j9,x0,x3,x4,x5,x6,x7,reduceCtorEq,↓reduceIte,List.getElem?_set,hlen,t105,t106,t107]
     exact ⟨by omega,v.items.length - (i + 1),by omega,i + 1,by omega,rfl,hc,rfl⟩
   simp only [sxZ,z6,z7,z8,j4,j5,j6,j7,j8,j9,x0,x3,x4,x5,x6,x7,reduceCtorEq,↓reduceIte,List.getElem?_set,hlen,t105,t106,t107,hlt]
   subst hW
   subst hZ
   simp only [sxZ,z6,z7,z8,j4,j5,j6,j7,j8,j9,x0,x3,x4,x5,x6,x7,reduceCtorEq,↓reduceIte,List.getElem?_set,hlen]
   rw [hc,List.drop_eq_nil_of_le (by omega),zdg] at hk
   exact hk
  by_cases a1:v.kind=1 ∨ v.kind=3 ∨ v.kind=2
  ·rw [if_pos a1] at hk
   rw [← z0,← z0] at hk
   by_cases b1:v.text=[]
   ·by_cases b2:(v.keys.length:Int)=0
    ·simp only [b1,b2,decide_true,Bool.true_and] at hk
     rcases a1 with a1 | a1 | a1
     all_goals
      simp only [sxZ,z6,z7,z8,j4,j5,j6,j7,j8,j9,x0,x3,x4,x5,x6,x7,reduceCtorEq,↓reduceIte,a1,b1,b2]
      exact hk
    ·simp only [b1,b2,decide_true,decide_false,Bool.true_and,Bool.false_and] at hk
     rcases a1 with a1 | a1 | a1
     all_goals
      simp only [sxZ,z6,z7,z8,j4,j5,j6,j7,j8,j9,x0,x3,x4,x5,x6,x7,reduceCtorEq,↓reduceIte,a1,b1,b2]
      exact hk
   ·simp only [b1,decide_false,Bool.false_and] at hk
    rcases a1 with a1 | a1 | a1
    all_goals
     simp only [sxZ,z6,z7,z8,j4,j5,j6,j7,j8,j9,x0,x3,x4,x5,x6,x7,reduceCtorEq,↓reduceIte,a1,b1]
     exact hk
  rw [if_neg a1] at hk
  have n1:¬ v.kind=1:=fun h => a1 (.inl h)
  have n3:¬ v.kind=3:=fun h => a1 (.inr (.inl h))
  have n2:¬ v.kind=2:=fun h => a1 (.inr (.inr h))
  by_cases a4:v.kind=4
  ·rw [if_pos a4] at hk
   rw [← z0,← z0] at hk
   simp only [sxZ,z6,z7,z8,j4,j5,j6,j7,j8,j9,x0,x3,x4,x5,x6,x7,reduceCtorEq,↓reduceIte,a4]
   refine zam (zme v.text (by omega) ?_)
   by_cases b1:(zcL v.text).1=0
   ·by_cases b2:(zcL v.text).2=v.text
    ·by_cases b3:(v.keys.length:Int)=0
     ·simp only [b1,b2,b3,decide_true,Bool.true_and] at hk
      simp only [sxZ,z6,z7,z8,j4,j5,j6,j7,j8,j9,x0,x3,x4,x5,x6,x7,reduceCtorEq,↓reduceIte,b1,b2,b3]
      exact hk
     ·simp only [b1,b2,b3,decide_true,decide_false,Bool.true_and,Bool.false_and] at hk
      simp only [sxZ,z6,z7,z8,j4,j5,j6,j7,j8,j9,x0,x3,x4,x5,x6,x7,reduceCtorEq,↓reduceIte,b1,b2,b3]
      exact hk
    ·simp only [b1,b2,decide_true,decide_false,Bool.true_and,Bool.false_and] at hk
     simp only [sxZ,z6,z7,z8,j4,j5,j6,j7,j8,j9,x0,x3,x4,x5,x6,x7,reduceCtorEq,↓reduceIte,b1,b2]
     exact hk
   ·simp only [b1,decide_false,Bool.false_and] at hk
    simp only [sxZ,z6,z7,z8,j4,j5,j6,j7,j8,j9,x0,x3,x4,x5,x6,x7,reduceCtorEq,↓reduceIte,b1]
    exact hk
  rw [if_neg a4] at hk
  by_cases a5:v.kind=5
  ·rw [if_pos a5] at hk
   rw [← z0,← z0] at hk
   simp only [sxZ,z6,z7,z8,j4,j5,j6,j7,j8,j9,x0,x3,x4,x5,x6,x7,reduceCtorEq,↓reduceIte,a5]
   refine zam (zhn v.text (by omega) ?_)
   cases b1:za2 v.text with
   | false =>
    rw [b1] at hk
    simp only [sxZ,z6,z7,z8,j4,j5,j6,j7,j8,j9,x0,x3,x4,x5,x6,x7,reduceCtorEq,↓reduceIte]
    exact hk
   | true =>
    rw [b1] at hk
    by_cases b3:(v.keys.length:Int)=0
    ·simp only [b3,decide_true,Bool.true_and] at hk
     simp only [sxZ,z6,z7,z8,j4,j5,j6,j7,j8,j9,x0,x3,x4,x5,x6,x7,reduceCtorEq,↓reduceIte,b3]
     exact hk
    ·simp only [b3,decide_false,Bool.true_and,Bool.false_and] at hk
     simp only [sxZ,z6,z7,z8,j4,j5,j6,j7,j8,j9,x0,x3,x4,x5,x6,x7,reduceCtorEq,↓reduceIte,b3]
     exact hk
  rw [if_neg a5] at hk
  by_cases a6:v.kind=6
  ·rw [if_pos a6] at hk
   rw [← z0] at hk
   by_cases b1:v.text=[]
   ·by_cases b2:(v.keys.length:Int)=0
    ·simp only [b1,b2,decide_true,Bool.true_and] at hk
     simp only [a6,b1] at loop
     simp only [sxZ,z6,z7,z8,j4,j5,j6,j7,j8,j9,x0,x3,x4,x5,x6,x7,reduceCtorEq,↓reduceIte,a6,b1,b2]
     exact loop _ rfl rfl hk
    ·simp only [b1,b2,decide_true,decide_false,Bool.true_and,Bool.false_and] at hk
     simp only [sxZ,z6,z7,z8,j4,j5,j6,j7,j8,j9,x0,x3,x4,x5,x6,x7,reduceCtorEq,↓reduceIte,a6,b1,b2]
     exact hk
   ·simp only [b1,decide_false,Bool.false_and] at hk
    simp only [sxZ,z6,z7,z8,j4,j5,j6,j7,j8,j9,x0,x3,x4,x5,x6,x7,reduceCtorEq,↓reduceIte,a6,b1]
    exact hk
  rw [if_neg a6] at hk
  by_cases a7:v.kind=7
  ·rw [if_pos a7] at hk
   have z1:decide ((v.keys.length:Int)=v.items.length)=decide (v.keys.length=v.items.length):=decide_eq_decide.2 (by omega)
   rw [← z1] at hk
   by_cases b1:v.text=[]
   ·by_cases b2:(v.keys.length:Int)=v.items.length
    ·simp only [b1,b2,decide_true,Bool.true_and] at hk
     simp only [a7,b1] at loop
     simp only [sxZ,z6,z7,z8,j4,j5,j6,j7,j8,j9,x0,x3,x4,x5,x6,x7,reduceCtorEq,↓reduceIte,a7,b1,b2]
     refine zam (zi3 v.keys (by omega) (fun k hk => by have:=l4 k hk; omega) ?_)
     cases b3:zfw v.keys with
     | false =>
      rw [b3] at hk
      simp only [sxZ,z6,z7,z8,j4,j5,j6,j7,j8,j9,x0,x3,x4,x5,x6,x7,reduceCtorEq,↓reduceIte,Bool.not_false]
      exact hk
     | true =>
      rw [b3] at hk
      simp only [sxZ,z6,z7,z8,j4,j5,j6,j7,j8,j9,x0,x3,x4,x5,x6,x7,reduceCtorEq,↓reduceIte,Bool.not_true]
      exact loop _ rfl rfl hk
    ·simp only [b1,b2,decide_true,decide_false,Bool.true_and,Bool.false_and] at hk
     simp only [sxZ,z6,z7,z8,j4,j5,j6,j7,j8,j9,x0,x3,x4,x5,x6,x7,reduceCtorEq,↓reduceIte,a7,b1,b2]
     exact hk
   ·simp only [b1,decide_false,Bool.false_and] at hk
    simp only [sxZ,z6,z7,z8,j4,j5,j6,j7,j8,j9,x0,x3,x4,x5,x6,x7,reduceCtorEq,↓reduceIte,a7,b1]
    exact hk
  rw [if_neg a7] at hk
  simp only [sxZ,z6,z7,z8,j4,j5,j6,j7,j8,j9,x0,x3,x4,x5,x6,x7,reduceCtorEq,↓reduceIte,n1,n2,n3,a4,a5,a6,a7]
  exact hk
theorem zlE (v:JV) (hv:JKp v) {objs:List OB} {K:List OB → AV → Prop} (hk:K objs (.b (zjj v))):zad Tryz.prog 27 [.agg (zaj v)] objs K:=by
 refine zaX is_ref15_Valid (by simp only [zan,AV.plain,zaR,Bool.and_self]) fun C _ => ?_
 rw [c_ref15_Valid]
 have hc:=fun {objs:List OB} {K:List OB → AV → Prop} (h) => count_k (v.size + 1) v 0 (Nat.lt_succ_self _) hv.bd.ln (by decide) (by decide) (objs:=objs) (K:=K) h
 have hs:=fun {objs:List OB} {K:List OB → AV → Prop} (h) => shape_k (v.size + 1) v (Nat.lt_succ_self _) hv (objs:=objs) (K:=K) h
 unfold zjj at hk
 generalize zb6 v 0=c at hc hk
 generalize zdJ v=b at hs hk
 obtain ⟨q0,q1,q2,q3,hq⟩:∃ q0 q1 q2 q3,zaj v=[q0,q1,q2,q3]:=⟨_,_,_,_,zal v⟩
 rw [hq] at hc hs ⊢
 refine zaa fun Z hZ => ?_
 simp only [sxZ,z6,z7,z8,j4,j5,j6,j7,j8,j9,x0,x3,x4,x5,x6,x7,reduceCtorEq,↓reduceIte]
 subst hZ
 refine zaa fun Z hZ => ?_
 simp only [sxZ,z6,z7,z8,j4,j5,j6,j7,j8,j9,x0,x3,x4,x5,x6,x7,reduceCtorEq,↓reduceIte]
 refine zam (hc ?_)
 simp only [sxZ,z6,z7,z8,j4,j5,j6,j7,j8,j9,x0,x3,x4,x5,x6,x7,reduceCtorEq,↓reduceIte]
 subst hZ
 by_cases c1:0 < c
 ·by_cases c2:c ≤ 20000
  ·simp only [sxZ,z6,z7,z8,j4,j5,j6,j7,j8,j9,x0,x3,x4,x5,x6,x7,reduceCtorEq,↓reduceIte,c1,c2]
   refine zam (hs ?_)
   simp only [sxZ,z6,z7,z8,j4,j5,j6,j7,j8,j9,x0,x3,x4,x5,x6,x7,reduceCtorEq,↓reduceIte]
   simp only [c1,c2,and_self,decide_true,Bool.true_and] at hk
   exact hk
  ·simp only [sxZ,z6,z7,z8,j4,j5,j6,j7,j8,j9,x0,x3,x4,x5,x6,x7,reduceCtorEq,↓reduceIte,c1,c2]
   simp only [c2,and_false,decide_false,Bool.false_and] at hk
   exact hk
 ·simp only [sxZ,z6,z7,z8,j4,j5,j6,j7,j8,j9,x0,x3,x4,x5,x6,x7,reduceCtorEq,↓reduceIte,c1]
  simp only [c1,false_and,decide_false,Bool.false_and] at hk
  exact hk
end
end
section
attribute [local irreducible] run
mutual
/-- equal, the order of keys aside -/
def ziR:JV → JV → Bool
 | .mk k t ks its,w => decide (k=w.kind) && (if k=1 ∨ k=2 ∨ k=3 then true else if k=4 ∨ k=5 then decide (t=w.text) else if k=6 then zgX its w.items else if k=7 then decide (ks.length=w.keys.length) && zhT ks its w else false)
def zgX:List JV → List JV → Bool
 | [],m => m.isEmpty
 | v :: l,m => match m with
  | [] => false
  | w :: m => ziR v w && zgX l m
def zhT:List (List UInt8) → List JV → JV → Bool
 | ks,[],w => true
 | ks,v :: l,w => match ks with
  | [] => true
  | k :: ks => (zfI w k).2 && (ziR v (zfI w k).1 && zhT ks l w)
end
theorem zgB (v w:JV):ziR v w=(decide (v.kind=w.kind) && (if v.kind=1 ∨ v.kind=2 ∨ v.kind=3 then true else if v.kind=4 ∨ v.kind=5 then decide (v.text=w.text) else if v.kind=6 then zgX v.items w.items else if v.kind=7 then decide (v.keys.length=w.keys.length) && zhT v.keys v.items w else false)):=by cases v; rw [ziR]; rfl
theorem zkg:∀ {l m:List JV},l.length ≠ m.length → zgX l m=false
 | [],[],h => absurd rfl h
 | [],_ :: _,_ => by rw [zgX]; rfl
 | _ :: _,[],_ => by rw [zgX]
 | v :: l,w :: m,h => by rw [zgX,zkg (l:=l) (m:=m) (by simpa using h)]; simp
theorem zcG:∀ {l:List JV} (h:zdg l=true) {i:Nat} (hi:i < l.length),zdJ l[i]=true
 | a :: l,h,0,hi => by rw [zdg,Bool.and_eq_true] at h; exact h.1
 | a :: l,h,i + 1,hi => by rw [zdg,Bool.and_eq_true] at h; exact zcG h.2 (by simpa using hi)
theorem zb9 {v:JV} (h:zdJ v=true):((v.kind=1 ∨ v.kind=2 ∨ v.kind=3 ∨ v.kind=4 ∨ v.kind=5) ∧ v.keys.length=0 ∧ v.items.length=0) ∨ (v.kind=6 ∧ v.keys.length=0 ∧ zdg v.items=true) ∨ (v.kind=7 ∧ v.keys.length=v.items.length ∧ v.keys.Nodup ∧ zdg v.items=true):=by
 rw [zl1] at h
 by_cases a1:v.kind=1 ∨ v.kind=3 ∨ v.kind=2
 ·rw [if_pos a1] at h
  simp only [Bool.and_eq_true,decide_eq_true_eq] at h
  exact .inl ⟨by omega,h.2.1,h.2.2⟩
 rw [if_neg a1] at h
 by_cases a4:v.kind=4
 ·rw [if_pos a4] at h
  simp only [Bool.and_eq_true,decide_eq_true_eq] at h
  exact .inl ⟨by omega,h.2.2.1,h.2.2.2⟩
 rw [if_neg a4] at h
 by_cases a5:v.kind=5
 ·rw [if_pos a5] at h
  simp only [Bool.and_eq_true,decide_eq_true_eq] at h
  exact .inl ⟨by omega,h.2.1,h.2.2⟩
 rw [if_neg a5] at h
 by_cases a6:v.kind=6
 ·rw [if_pos a6] at h
  simp only [Bool.and_eq_true,decide_eq_true_eq] at h
  exact .inr (.inl ⟨a6,h.2.1,h.2.2⟩)
 rw [if_neg a6] at h
 by_cases a7:v.kind=7
 ·rw [if_pos a7] at h
  unfold zfw at h
  simp only [Bool.and_eq_true,decide_eq_true_eq] at h
  exact .inr (.inr ⟨a7,h.2.1,h.2.2.1.1,h.2.2.2⟩)
 rw [if_neg a7] at h
 cases h
theorem zcw:∀ {l:List (List UInt8)} (h:l.Nodup) {i:Nat} (hi:i < l.length),zb7 l[i] l=i
 | a :: l,h,0,hi => by
  simp only [List.getElem_cons_zero]
  unfold zb7; rw [if_pos rfl]
 | a :: l,h,i + 1,hi => by
  rw [List.nodup_cons] at h
  have hi':i < l.length:=by simpa using hi
  have hne:¬ a=l[i]:=fun e => h.1 (by rw [e]; exact List.getElem_mem _)
  unfold zb7
  simp only [List.getElem_cons_succ]
  rw [if_neg hne,zcw h.2 hi']
theorem ziW {v:JV} (h7:v.kind=7) (hl:v.keys.length=v.items.length) (hn:v.keys.Nodup) {i:Nat} (hi:i < v.keys.length):zfI v v.keys[i]=(v.items[i]'(by omega),true):=by
 unfold zfI
 rw [zcw hn hi,if_pos ⟨h7,hi⟩,List.getElem?_eq_getElem (by omega)]
mutual
theorem zfm:∀ v:JV,zdJ v=true → ziR v v=true
 | .mk k t ks its,h => by
  have hk:=zb9 h
  have h1:=fun (hs:zdg its=true) => zhU its hs
  have h2:=fun (hs:zdg its=true) (w:JV) (ks':List (List UInt8)) (hw:∀ i (h1:i < ks'.length) (h2:i < its.length),zfI w ks'[i]=(its[i],true)) => zhS its hs w ks' hw
  rw [zgB]
  simp only [JV.kind,JV.text,JV.keys,JV.items] at hk ⊢
  simp only [decide_true,Bool.true_and]
  rcases hk with ⟨h0,_⟩ | ⟨h0,_,hs⟩ | ⟨h0,hl,hn,hs⟩
  ·by_cases a:k=1 ∨ k=2 ∨ k=3
   ·rw [if_pos a]
   ·rw [if_neg a,if_pos (by omega)]
  ·rw [if_neg (by omega),if_neg (by omega),if_pos h0]
   exact h1 hs
  ·rw [if_neg (by omega),if_neg (by omega),if_neg (by omega),if_pos h0]
   exact h2 hs _ ks fun i q1 q2 => ziW (v:=.mk k t ks its) h0 hl hn q1
theorem zhU:∀ l:List JV,zdg l=true → zgX l l=true
 | [],_ => by rw [zgX]; rfl
 | v :: l,h => by
  rw [zdg,Bool.and_eq_true] at h
  rw [zgX,zfm v h.1,zhU l h.2]; rfl
theorem zhS:∀ (l:List JV),zdg l=true → ∀ (w:JV) (ks:List (List UInt8)),(∀ i (h1:i < ks.length) (h2:i < l.length),zfI w ks[i]=(l[i],true)) → zhT ks l w=true
 | [],_,w,ks,_ => by rw [zhT]
 | v :: l,h,w,[],_ => by rw [zhT]
 | v :: l,h,w,k :: ks,hw => by
  rw [zdg,Bool.and_eq_true] at h
  have h0:=hw 0 (by simp) (by simp)
  simp only [List.getElem_cons_zero] at h0
  rw [zhT]
  simp only [h0]
  rw [zfm v h.1,zhS l h.2 w ks fun i h1 h2 => by
   have:=hw (i + 1) (by simpa using h1) (by simpa using h2)
   simpa only [List.getElem_cons_succ] using this]
  rfl
end
theorem zhL (k k':List UInt8) (v:AV):∀ es:List (List UInt8 × AV),zeO k' (zfG k v es)=if k=k' then some v else zeO k' es
 | [] => by simp only [zfG,zeO]
 | e :: r => by
  have ih:=zhL k k' v r
  simp only [zfG]
  split
  ·rename_i h
   simp only [zeO]
   by_cases c:k=k'
   ·rw [if_pos c,if_pos c]
   ·rw [if_neg c,if_neg c,if_neg (fun h2 => c (h ▸ h2))]
  ·rename_i h
   simp only [zeO]
   by_cases c:e.1=k'
   ·rw [if_pos c,if_pos c,if_neg (fun h2 => h (c.trans h2.symm))]
   ·rw [if_neg c,if_neg c,ih]
section
variable [Tabs Tryz.prog] {objs:List OB} {K:List OB → AV → Prop} {L:List (Nat × OB)}
theorem zjL (v:JV) (hv:JLn v) (hl:v.keys.length=v.items.length) (hO:zaH L objs) (hk:∀ o b es,(∀ key,zeO key es=if zb7 key v.keys < v.keys.length then some (.i .i64 (zb7 key v.keys:Int)) else none) → zaH ((b,.mp es) :: L) o → K o (.m b)):zad Tryz.prog 51 [.agg (zaj v)] objs K:=by
 obtain ⟨l1,l2⟩:=hv.lens
 refine zcy is_jsondoc_places fun C _ => ?_
 rw [c_jsondoc_places]
 have hjc:=zal v
 have flatV:(AV.agg (zaj v)).flat=true:=by rw [hjc]; rfl
 have hO2:=(hO.new (.box 26 (zaj v))).new (.mp [])
 have elen:(objs ++ [OB.box 26 (zaj v)]).length=objs.length + 1:=by simp
 rw [elen] at hO2
 rw [hjc] at flatV hO2 ⊢
 have hlI:((v.items.length:Nat):Int)=(v.keys.length:Int):=by omega
 have nlt:¬ (v.keys.length:Int) < (v.keys.length:Int):=by omega
 refine zaa fun Z hZ => ?_
 simp only [sxZ,z6,z7,z8,j4,j5,j6,j7,j8,j9,x0,x3,x4,x5,x6,x7,reduceCtorEq,↓reduceIte]
 subst hZ
 refine zaa fun Z hZ => ?_
 simp only [sxZ,z6,z7,z8,j4,j5,j6,j7,j8,j9,x0,x3,x4,x5,x6,x7,reduceCtorEq,↓reduceIte,gn1]
 generalize objs.length=qv at hO2 ⊢
 generalize objs ++ [OB.box 26 [.i .i64 v.kind,.s v.text,.row v.keys.length (v.keys.map .s),.row v.items.length (zac v.items)]] ++ [OB.mp []]=o at hO2 ⊢
 subst hZ
 refine zaa fun Z hZ => ?_
 refine zaa fun W hW => ?_
 have e0:=hO2.get (i:=qv) (x:=.box 26 [.i .i64 v.kind,.s v.text,.row v.keys.length (v.keys.map .s),.row v.items.length (zac v.items)]) (by simp)
 simp only [sxZ,z6,z7,z8,j4,j5,j6,j7,j8,j9,x0,x3,x4,x5,x6,x7,reduceCtorEq,↓reduceIte,e0,hlI,nlt,if_false]
 subst hW
 rw [zaK]
 refine zaE (fun n o tm => ∃ (i:Nat) (es:List (List UInt8 × AV)),i ≤ v.keys.length ∧ n=v.keys.length - i ∧ zaH ((qv + 1,.mp es) :: (qv,.box 26 [.i .i64 v.kind,.s v.text,.row v.keys.length (v.keys.map .s),.row v.items.length (zac v.items)]) :: L) o ∧ (∀ key,zeO key es=if zb7 key v.keys < i then some (.i .i64 (zb7 key v.keys:Int)) else none) ∧ tm.length=42 ∧ tm[1]? = some (.p qv 0) ∧ tm[3]? = some (.m (qv + 1)) ∧ tm[17]? = some (.i .i64 (v.keys.length:Int)) ∧ tm[18]? = some (.i .i64 (i:Int))) v.keys.length ⟨0,[],Nat.zero_le _,rfl,hO2,fun key => rfl,rfl,rfl,rfl,rfl,rfl⟩ ?_
 clear hO2 e0
 rintro n o tm ⟨i,es,hi,rfl,hO2,hes,hlen,t1,t3,t17,t18⟩
 have e0:=hO2.get (i:=qv) (x:=.box 26 [.i .i64 v.kind,.s v.text,.row v.keys.length (v.keys.map .s),.row v.items.length (zac v.items)]) (by simp)
 have em:=hO2.get (i:=qv + 1) (x:=.mp es) (by simp)
 refine zaa fun W hW => ?_
 by_cases hlt:(i:Int) < (v.keys.length:Int)
 ·have hi':i < v.keys.length:=by omega
  have kv:(v.keys.map AV.s)[i * 1]? = some (.s v.keys[i]):=by rw [Nat.mul_one,List.getElem?_map,List.getElem?_eq_getElem hi']; rfl
  have kv2:v.keys[i]? = some v.keys[i]:=List.getElem?_eq_getElem hi'
  generalize v.keys[i]=x at kv kv2
  have hx:=hes x
  have hle:=ziU kv2
  simp only [sxZ,z6,z7,z8,j4,j5,j6,j7,j8,j9,x0,x3,x4,x5,x6,x7,reduceCtorEq,↓reduceIte,List.getElem?_set,hlen,t17,t18,hlt]
  subst hW
  refine zaa fun W hW => ?_
  simp only [sxZ,z6,z7,z8,j4,j5,j6,j7,j8,j9,x0,x3,x4,x5,x6,x7,reduceCtorEq,↓reduceIte,List.getElem?_set,hlen]
  subst hW
  refine zaa fun V hV => ?_
  rw [zaK]
  refine zaa fun W hW => ?_
  simp only [sxZ,z6,z7,z8,j4,j5,j6,j7,j8,j9,x0,x3,x4,x5,x6,x7,reduceCtorEq,↓reduceIte,List.getElem?_set,hlen,t18]
  subst hW
  refine zaa fun W hW => ?_
  by_cases c:zb7 x v.keys < i
  ·rw [if_pos c] at hx
   have hes2:∀ key,zeO key es=if zb7 key v.keys < i + 1 then some (.i .i64 (zb7 key v.keys:Int)) else none:=by
    intro key
    rw [hes key]
    by_cases c1:zb7 key v.keys < i
    ·rw [if_pos c1,if_pos (by omega)]
    ·rw [if_neg c1,if_neg]
     intro c2
     have e:zb7 key v.keys=i:=by omega
     have:=zfp (key:=key) (l:=v.keys) (by omega)
     rw [e,kv2] at this
     injection this with this
     rw [this] at c; omega
   simp only [sxZ,z6,z7,z8,j4,j5,j6,j7,j8,j9,x0,x3,x4,x5,x6,x7,reduceCtorEq,↓reduceIte,List.getElem?_set,hlen,t1,t3,e0,em,kv,hx,List.length_map]
   refine ⟨⟨by omega,by omega,by omega⟩,?_⟩
   subst hW
   simp only [sxZ,z6,z7,z8,j4,j5,j6,j7,j8,j9,x0,x3,x4,x5,x6,x7,reduceCtorEq,↓reduceIte,List.getElem?_set,hlen,Bool.not_true]
   subst hV
   simp only [sxZ,z6,z7,z8,j4,j5,j6,j7,j8,j9,x0,x3,x4,x5,x6,x7,reduceCtorEq,↓reduceIte,List.getElem?_set,hlen,t1,t3,t17,t18]
   exact ⟨by omega,v.keys.length - (i + 1),by omega,i + 1,es,by omega,rfl,hO2,hes2,rfl⟩
  ·rw [if_neg c] at hx
   have hix:zb7 x v.keys=i:=by omega
   have hes2:∀ key,zeO key (zfG x (.i .i64 (i:Int)) es)=if zb7 key v.keys < i + 1 then some (.i .i64 (zb7 key v.keys:Int)) else none:=by
    intro key
    rw [zhL,hes key]
    by_cases cx:x=key
    ·rw [if_pos cx,← cx,hix,if_pos (by omega)]
    ·rw [if_neg cx]
     by_cases c1:zb7 key v.keys < i
     ·rw [if_pos c1,if_pos (by omega)]
     ·rw [if_neg c1,if_neg]
      intro c2
      have e:zb7 key v.keys=i:=by omega
      have:=zfp (key:=key) (l:=v.keys) (by omega)
      rw [e,kv2] at this
      injection this with this
      exact cx this
   simp only [sxZ,z6,z7,z8,j4,j5,j6,j7,j8,j9,x0,x3,x4,x5,x6,x7,reduceCtorEq,↓reduceIte,List.getElem?_set,hlen,t1,t3,e0,em,kv,hx,List.length_map]
   refine ⟨⟨by omega,by omega,by omega⟩,?_⟩
   subst hW
   simp only [sxZ,z6,z7,z8,j4,j5,j6,j7,j8,j9,x0,x3,x4,x5,x6,x7,reduceCtorEq,↓reduceIte,List.getElem?_set,hlen,Bool.not_false,t1,t3,e0,em,kv,List.length_map,AV.one]
   refine ⟨⟨by omega,by omega,by omega⟩,?_⟩
   subst hV
   simp only [sxZ,z6,z7,z8,j4,j5,j6,j7,j8,j9,x0,x3,x4,x5,x6,x7,reduceCtorEq,↓reduceIte,List.getElem?_set,hlen,t1,t3,t17,t18]
   exact ⟨by omega,v.keys.length - (i + 1),by omega,i + 1,zfG x (.i .i64 (i:Int)) es,by omega,rfl,zaH.set (A:=[]) (OB.mp (zfG x (.i .i64 (i:Int)) es)) hO2,hes2,rfl⟩
 have hn:i=v.keys.length:=by omega
 simp only [sxZ,z6,z7,z8,j4,j5,j6,j7,j8,j9,x0,x3,x4,x5,x6,x7,reduceCtorEq,↓reduceIte,List.getElem?_set,hlen,t17,t18,hlt]
 subst hW
 subst hZ
 simp only [sxZ,z6,z7,z8,j4,j5,j6,j7,j8,j9,x0,x3,x4,x5,x6,x7,reduceCtorEq,↓reduceIte,List.getElem?_set,hlen,t3]
 rw [hn] at hes
 exact hk _ _ _ hes (hO2.sub ((List.sublist_cons_self _ _).cons_cons _))
end
end
end Go.Proofs.YthmdohgkmdkeeaaGreatDoor
namespace Go.Proofs.YthmdohgkmdkeeaaGreatDoor
open Go.RowKit Sx
section
attribute [local irreducible] run
end
end Go.Proofs.YthmdohgkmdkeeaaGreatDoor
namespace Go.Proofs.YthmdohgkmdkeeaaGreatDoor
open Go.RowKit Sx
section
attribute [local irreducible] run
end
end Go.Proofs.YthmdohgkmdkeeaaGreatDoor
namespace Go.Proofs.YthmdohgkmdkeeaaGreatDoor
open Nat renaming reduceAdd → z6, reduceSub → z7, reduceLeDiff → z8, reduceLT → j4, reduceMul → j5, reduceEqDiff → j6
open Int renaming reduceToNat → j7, reduceAdd → j8, reduceSub → j9, reduceMul → x0, reduceNeg → x3, reduceLT → x4, reduceLE → x5, reduceEq → x6, reduceNe → x7
open Go.RowKit Sx
section
attribute [local irreducible] run
theorem ze8 {α:Type} (a l ys:List α) (n j:Nat) (h:a.length=n):zaJ (a ++ l) (n + j) ys=a ++ zaJ l j ys:=by
 subst h
 unfold zaJ
 rw [List.take_append,List.drop_append,List.take_of_length_le (by omega),List.drop_eq_nil_of_le (by omega),show a.length + j - a.length=j by omega,show a.length + j + ys.length - a.length=j + ys.length by omega]
 simp
theorem zkV {α:Type} (a l ys:List α) (n:Nat) (h:a.length=n) (h2:l.length=ys.length):zaJ (a ++ l) n ys=a ++ ys:=by
 have:=ze8 a l ys n 0 h
 rw [Nat.add_zero] at this
 rw [this]
 unfold zaJ
 rw [List.take_zero,Nat.zero_add,← h2,List.drop_length]
 simp
theorem zcJ {α:Type} (a b:List α) (x:α):(x :: (a ++ b)).Perm (a ++ x :: b):=List.perm_middle.symm
theorem sp3 {α:Type} (d0:List α) (n:Nat) (a b c d e x:α) (h:d0.length=n * 5):List.take (n * 5 + 3) (d0 ++ [a,b,c,d,e]) ++ [x] ++ List.drop (n * 5 + 3 + 1) (d0 ++ [a,b,c,d,e])=d0 ++ [a,b,c,x,e]:=ze8 d0 [a,b,c,d,e] [x] (n * 5) 3 h
theorem sp2 {α:Type} (d0:List α) (n:Nat) (a b c d e x:α) (h:d0.length=n * 5):List.take (n * 5 + 2) (d0 ++ [a,b,c,d,e]) ++ [x] ++ List.drop (n * 5 + 2 + 1) (d0 ++ [a,b,c,d,e])=d0 ++ [a,b,x,d,e]:=ze8 d0 [a,b,c,d,e] [x] (n * 5) 2 h
theorem spE {α:Type} (l:List α) (n:Nat) (a b c d e f g i:α) (h:l.length=n * 4):List.take (n * 4) (l ++ [a,b,c,d]) ++ [e,f,g,i] ++ List.drop (n * 4 + 4) (l ++ [a,b,c,d])=l ++ [e,f,g,i]:=zkV l [a,b,c,d] [e,f,g,i] (n * 4) h rfl
theorem own_move {L0 Lk Lm:List (Nat × OB)} {a b q x:Nat × OB} {o:List OB} (h:zaH (x :: q :: a :: b :: (Lk ++ ([] ++ Lm) ++ L0)) o):zaH (a :: b :: (Lk ++ ([x] ++ Lm) ++ L0)) o:=by
 have h1:=h.sub (L':=x :: a :: b :: (Lk ++ ([] ++ Lm) ++ L0)) ((List.sublist_cons_self _ _).cons_cons x)
 refine h1.perm ?_
 have:=zcJ (a :: b :: Lk) (Lm ++ L0) x
 simpa using this
section
variable [Tabs Tryz.prog] {objs:List OB} {K:List OB → AV → Prop}
theorem add_k {M:List (Nat × OB)} {p:Nat} {σ:Ms} (hP:PrO M p σ objs) (v:JV) (hl:∀ f ∈ σ.stk,f.its.length ≤ 10000000) (hd:σ.stk.length ≤ 64) (hk:∀ o,PrO M p (zcU σ v) o → K o (.tup [])):zad Tryz.prog 63 [.p p 0,.agg (zaj v)] objs K:=by
 obtain ⟨c0,c1,c2,c3,hv⟩:∃ c0 c1 c2 c3,zaj v=[c0,c1,c2,c3]:=⟨_,_,_,_,zal v⟩
 obtain ⟨σst,stk,nodes,root⟩:=σ
 cases stk with
 | nil =>
  obtain ⟨X,r0,r1,r2,r3,L,hO,hX,hpl,hr⟩:=hP
  have hcp:zan [c0,c1,c2,c3]=true:=by rw [← hv]; exact zaR v
  have hO1:=hO.new (.box 26 (zaj v))
  refine zcy is_jsondoc_parser_add fun C _ => ?_
  rw [c_jsondoc_parser_add]
  refine zaa fun Y hY => ?_
  simp only [sxZ,z6,z7,z8,j4,j5,j6,j7,j8,j9,x0,x3,x4,x5,x6,x7,reduceCtorEq,↓reduceIte]
  generalize objs ++ [OB.box 26 (zaj v)]=o1 at hO1 ⊢
  have e0:=hO1.get (i:=objs.length) (x:=.box 26 (zaj v)) (by simp)
  have e1:=hO1.get (i:=p) (x:=prB σst X nodes r0 r1 r2 r3) (by simp)
  have hO2:=(hO1.sub (List.sublist_cons_self _ _)).set (A:=[]) (prB 6 X nodes c0 c1 c2 c3)
  rw [hv] at e0
  subst hY
  have hXn:X=.nil ∨ ∃ rr g cs L',X=.orow rr g ∧ L=(rr,.orow 90 5 g 0 cs) :: L':=by
   rcases hX with ⟨_,h,_⟩ | ⟨rr,g,cs,L',h1,_,h2⟩
   ·exact .inl h
   ·exact .inr ⟨rr,g,cs,L',h1,h2⟩
  have fin:PrO M p (zcU ⟨σst,[],nodes,root⟩ v) (o1.set p (prB 6 X nodes c0 c1 c2 c3)):=⟨X,c0,c1,c2,c3,L,hO2,hX,hcp,fun _ => hv.symm⟩
  have hfin:=hk _ fin
  unfold prB at e1 hfin
  have hlt:=hO1.lt (i:=p) (x:=prB σst X nodes r0 r1 r2 r3) (by simp)
  have lse:∀ x,(o1.set p x)[p]? = some x:=fun x => List.getElem?_set_self hlt
  rcases hXn with rfl | ⟨rr,g,cs,L',rfl,rfl⟩
  ·refine zaa fun Y hY => ?_
   simp only [sxZ,z6,z7,z8,j4,j5,j6,j7,j8,j9,x0,x3,x4,x5,x6,x7,reduceCtorEq,↓reduceIte,e0,e1,lse,List.set_set]
   exact hfin
  ·have e2:=hO1.get (i:=rr) (x:=.orow 90 5 g 0 cs) (by simp)
   refine zaa fun Y hY => ?_
   simp only [sxZ,z6,z7,z8,j4,j5,j6,j7,j8,j9,x0,x3,x4,x5,x6,x7,reduceCtorEq,↓reduceIte,e0,e1,e2,lse,List.set_set,Int.cast_ofNat_Int]
   exact hfin
 | cons f r =>
  obtain ⟨rr,g,r0,r1,r2,r3,kx,ix,mx,d0,L0,Lk,Li,Lm,hO,h1,h2,h3,h4,h5,h6⟩:=zhE hP rfl
  have hfl:=hl f (by simp)
  have hrl:r.length ≤ 63:=by simpa using hd
  have hO1:=hO.new (.box 26 (zaj v))
  refine zcy is_jsondoc_parser_add fun C _ => ?_
  rw [c_jsondoc_parser_add]
  refine zaa fun Y hY => ?_
  simp only [sxZ,z6,z7,z8,j4,j5,j6,j7,j8,j9,x0,x3,x4,x5,x6,x7,reduceCtorEq,↓reduceIte]
  generalize objs ++ [OB.box 26 (zaj v)]=o1 at hO1 ⊢
  have e0:=hO1.get (i:=objs.length) (x:=.box 26 (zaj v)) (by simp)
  have e1:=hO1.get (i:=p) (x:=prB σst (.orow rr g) nodes r0 r1 r2 r3) (by simp)
  have e2:=hO1.get (i:=rr) (x:=.orow 90 5 g (r.length + 1) (d0 ++ [.i .i64 (kdF f),.s [],kx,ix,mx])) (by simp)
  have hne:((r.length + 1:Nat):Int) ≠ 0:=by omega
  rw [hv] at e0
  subst hY
  refine zaa fun Y hY => ?_
  have e1':=e1
  unfold prB at e1'
  simp only [sxZ,z6,z7,z8,j4,j5,j6,j7,j8,j9,x0,x3,x4,x5,x6,x7,reduceCtorEq,↓reduceIte,e0,e1',e2,hne]
  subst hY
  refine zaa fun Y hY => ?_
  simp only [sxZ,z6,z7,z8,j4,j5,j6,j7,j8,j9,x0,x3,x4,x5,x6,x7,reduceCtorEq,↓reduceIte]
  refine zam (zlJ e1 e2 (by omega) ?_)
  simp only [sxZ,z6,z7,z8,j4,j5,j6,j7,j8,j9,x0,x3,x4,x5,x6,x7,reduceCtorEq,↓reduceIte]
  subst hY
  refine zaa fun Y hY => ?_
  have k3:=c5_at d0 [.i .i64 (kdF f),.s [],kx,ix,mx] r.length 3 h5
  rcases h2 with ⟨z1,z2,rfl,rfl⟩ | ⟨bi,gi,rfl,rfl⟩
  ·have f0:f.its=[]:=List.eq_nil_of_length_eq_zero z1
   have hlt:=hO1.lt (i:=rr) (x:=.orow 90 5 g (r.length + 1) (d0 ++ [.i .i64 (kdF f),.s [],kx,.nil,mx])) (by simp)
   have hne2:¬ o1.length=rr:=by omega
   have gx:∀ x,(o1 ++ [x])[rr]? = some (.orow 90 5 g (r.length + 1) (d0 ++ [.i .i64 (kdF f),.s [],kx,.nil,mx])):=fun x => by rw [List.getElem?_append_left hlt]; exact e2
   simp only [sxZ,z6,z7,z8,j4,j5,j6,j7,j8,j9,x0,x3,x4,x5,x6,x7,reduceCtorEq,↓reduceIte,e0,e2,Nat.add_zero,k3,gn1,sn1,gx,hne2]
   rw [sp3 _ _ _ _ _ _ _ _ h5]
   refine ⟨by decide,by omega,?_⟩
   have hN:=hO1.new (.orow 26 4 0 1 [c0,c1,c2,c3])
   have hR:=hN.set (A:=[(o1.length,.orow 26 4 0 1 [c0,c1,c2,c3]),(objs.length,.box 26 (zaj v)),(p,prB σst (.orow rr g) nodes r0 r1 r2 r3)]) (.orow 90 5 g (r.length + 1) (d0 ++ [.i .i64 (kdF f),.s [],kx,.orow o1.length 0,mx]))
   have hF:=hR.set (A:=[(o1.length,.orow 26 4 0 1 [c0,c1,c2,c3]),(objs.length,.box 26 (zaj v))]) (prB 5 (.orow rr g) nodes r0 r1 r2 r3)
   have e5:=hR.get (i:=p) (x:=prB σst (.orow rr g) nodes r0 r1 r2 r3) (by simp)
   have hS:SlO 26 4 (f.its ++ [v]).length (zac (f.its ++ [v])) (.orow o1.length 0) [(o1.length,.orow 26 4 0 1 [c0,c1,c2,c3])]:=.inr ⟨_,_,rfl,by rw [f0,List.nil_append,zaD,zaw,hv]; rfl⟩
   have hfin:=hk _ (zk7 (root:=root) (r:=r) (f:=⟨f.obj,f.ks,f.its ++ [v]⟩) (own_move hF) h1 hS h3 h4 h6 (by decide))
   unfold prB at e5 hfin
   generalize (o1 ++ [OB.orow 26 4 0 1 [c0,c1,c2,c3]]).set rr _=o2 at e5 hfin ⊢
   subst hY
   simp only [sxZ,z6,z7,z8,j4,j5,j6,j7,j8,j9,x0,x3,x4,x5,x6,x7,reduceCtorEq,↓reduceIte,e5]
   exact hfin
  ·have e4:=hO1.get (i:=bi) (x:=.orow 26 4 gi f.its.length (zac f.its)) (by simp)
   have hlt:=hO1.lt (i:=rr) (x:=.orow 90 5 g (r.length + 1) (d0 ++ [.i .i64 (kdF f),.s [],kx,.orow bi gi,mx])) (by simp)
   have hlt4:=hO1.lt (i:=bi) (x:=.orow 26 4 gi f.its.length (zac f.its)) (by simp)
   have hne2:¬ bi=rr:=by
    intro h
    have:=hO1.1
    simp only [List.map_cons,List.map_append,List.nodup_cons] at this
    exact this.2.2.1 (by simp [h])
   have hne3:¬ rr=bi:=fun h => hne2 h.symm
   have gs:∀ x,(o1.set bi x)[bi]? = some x:=fun x => List.getElem?_set_self hlt4
   have gx:∀ x,(o1.set bi x)[rr]? = some (.orow 90 5 g (r.length + 1) (d0 ++ [.i .i64 (kdF f),.s [],kx,.orow bi gi,mx])):=fun x => by rw [List.getElem?_set_ne hne2]; exact e2
   simp only [sxZ,z6,z7,z8,j4,j5,j6,j7,j8,j9,x0,x3,x4,x5,x6,x7,reduceCtorEq,↓reduceIte,e0,e2,e4,Nat.add_zero,k3,gs,gx,hne2,List.set_set]
   have hjl:=zax f.its
   rw [sp3 _ _ _ _ _ _ _ _ h5,spE _ _ _ _ _ _ _ _ _ _ hjl]
   refine ⟨⟨by omega,by omega⟩,⟨by omega,by omega⟩,by omega,by omega,?_⟩
   have hO1':zaH (((objs.length,.box 26 (zaj v)) :: (p,prB σst (.orow rr g) nodes r0 r1 r2 r3) :: (rr,.orow 90 5 g (r.length + 1) (d0 ++ [.i .i64 (kdF f),.s [],kx,.orow bi gi,mx])) :: Lk) ++ (bi,.orow 26 4 gi f.its.length (zac f.its)) :: (Lm ++ L0)) o1:=hO1.perm (List.Perm.of_eq (by simp))
   have hN:=hO1'.set (.orow 26 4 (gi + 1) (f.its.length + 1) (zac f.its ++ [c0,c1,c2,c3]))
   have hR:=hN.set (A:=[(objs.length,.box 26 (zaj v)),(p,prB σst (.orow rr g) nodes r0 r1 r2 r3)]) (.orow 90 5 g (r.length + 1) (d0 ++ [.i .i64 (kdF f),.s [],kx,.orow bi (gi + 1),mx]))
   have hF:=(hR.set (A:=[(objs.length,.box 26 (zaj v))]) (prB 5 (.orow rr g) nodes r0 r1 r2 r3)).sub (List.sublist_cons_self _ _)
   have e5:=hR.get (i:=p) (x:=prB σst (.orow rr g) nodes r0 r1 r2 r3) (by simp)
   have hS:SlO 26 4 (f.its ++ [v]).length (zac (f.its ++ [v])) (.orow bi (gi + 1)) [(bi,.orow 26 4 (gi + 1) (f.its.length + 1) (zac f.its ++ [c0,c1,c2,c3]))]:=.inr ⟨_,_,rfl,by rw [zdB,zaD,zaw,hv,List.length_append]; rfl⟩
   have hF':zaH ((p,prB 5 (.orow rr g) nodes r0 r1 r2 r3) :: (rr,.orow 90 5 g (r.length + 1) (d0 ++ [.i .i64 (kdF f),.s [],kx,.orow bi (gi + 1),mx])) :: (Lk ++ ([(bi,.orow 26 4 (gi + 1) (f.its.length + 1) (zac f.its ++ [c0,c1,c2,c3]))] ++ Lm) ++ L0)) _:=hF.perm (List.Perm.of_eq (by simp))
   have hfin:=hk _ (zk7 (root:=root) (r:=r) (f:=⟨f.obj,f.ks,f.its ++ [v]⟩) hF' h1 hS h3 h4 h6 (by decide))
   unfold prB at e5 hfin
   generalize (o1.set bi (OB.orow 26 4 (gi + 1) (f.its.length + 1) (zac f.its ++ [c0,c1,c2,c3]))).set rr _=o2 at e5 hfin ⊢
   subst hY
   simp only [sxZ,z6,z7,z8,j4,j5,j6,j7,j8,j9,x0,x3,x4,x5,x6,x7,reduceCtorEq,↓reduceIte,e5]
   exact hfin
end
end
section
attribute [local irreducible] run
theorem zaH.set0 {α:Type} {B:List (Nat × α)} {o:List α} {i:Nat} {x:α} (y:α) (h:zaH ((i,x) :: B) o):zaH ((i,y) :: B) (o.set i y):=zaH.set (A:=[]) y h
theorem zaH.set1 {α:Type} {a:Nat × α} {B:List (Nat × α)} {o:List α} {i:Nat} {x:α} (y:α) (h:zaH (a :: (i,x) :: B) o):zaH (a :: (i,y) :: B) (o.set i y):=zaH.set (A:=[a]) y h
theorem zaH.set2 {α:Type} {a b:Nat × α} {B:List (Nat × α)} {o:List α} {i:Nat} {x:α} (y:α) (h:zaH (a :: b :: (i,x) :: B) o):zaH (a :: b :: (i,y) :: B) (o.set i y):=zaH.set (A:=[a,b]) y h
theorem zaH.set3 {α:Type} {a b c:Nat × α} {B:List (Nat × α)} {o:List α} {i:Nat} {x:α} (y:α) (h:zaH (a :: b :: c :: (i,x) :: B) o):zaH (a :: b :: c :: (i,y) :: B) (o.set i y):=zaH.set (A:=[a,b,c]) y h
theorem zaH.set4 {α:Type} {a b c d:Nat × α} {B:List (Nat × α)} {o:List α} {i:Nat} {x:α} (y:α) (h:zaH (a :: b :: c :: d :: (i,x) :: B) o):zaH (a :: b :: c :: d :: (i,y) :: B) (o.set i y):=zaH.set (A:=[a,b,c,d]) y h
theorem own_key1 {α:Type} {n m q p r:Nat × α} {A B:List (Nat × α)} {o:List α} (h:zaH (n :: m :: q :: p :: r :: (A ++ B)) o):zaH (p :: r :: ([n] ++ (A ++ [m]) ++ B)) o:=by
 have h1:=h.sub (L':=n :: m :: p :: r :: (A ++ B)) (((List.sublist_cons_self _ _).cons_cons m).cons_cons n)
 have h2:=h1.perm ((zcJ (p :: r :: A) B m).cons n)
 have h3:=h2.perm (zcJ [p,r] (A ++ m :: B) n)
 simpa using h3
theorem own_key2 {α:Type} {n m q p r:Nat × α} {A B:List (Nat × α)} {o:List α} (h:zaH (m :: q :: p :: r :: n :: (A ++ B)) o):zaH (p :: r :: ([n] ++ (A ++ [m]) ++ B)) o:=by
 have h1:=h.sub (L':=m :: p :: r :: n :: (A ++ B)) ((List.sublist_cons_self _ _).cons_cons m)
 have h2:=h1.perm (zcJ (p :: r :: n :: A) B m)
 simpa using h2
theorem zaH.ne {α:Type} {a b:Nat × α} {A B C:List (Nat × α)} {o:List α} (h:zaH (A ++ a :: (B ++ b :: C)) o):a.1 ≠ b.1:=by
 have:=h.1
 simp only [List.map_append,List.map_cons] at this
 rw [List.nodup_append] at this
 obtain ⟨_,h2,_⟩:=this
 rw [List.nodup_cons] at h2
 intro e
 exact h2.1 (by rw [e]; simp)
theorem zhG {α:Type} {n c q p:Nat × α} {X:List (Nat × α)} {o:List α} (h:zaH (n :: c :: q :: p :: X) o):zaH (p :: n :: X) o :=
 (h.sub (L':=n :: p :: X) (((List.sublist_cons_self _ _).trans (List.sublist_cons_self _ _)).cons_cons n)).perm (List.Perm.swap _ _ _)
theorem c5_take {α:Type} (d0:List α) (n:Nat) (a b c d e:α) (h:d0.length=n * 5):List.take 4 (List.drop (n * 5) (d0 ++ [a,b,c,d,e]))=[a,b,c,d]:=by
 rw [List.drop_left' h]; rfl
theorem zlY (E sz:Nat):SlO E sz 0 [] .nil []:=.inl ⟨rfl,rfl,rfl,rfl⟩
theorem zmK {M:List (Nat × OB)} {p:Nat} {st:Int} {stk:List Fr} {nodes:Nat} {root:JV} {b:Bool} {o:List OB} {rr g:Nat} {r0 r1 r2 r3 mx:AV} {kk:Int} {cs:List AV} {L' Lm:List (Nat × OB)} {st':Int}
  (hO:zaH ((p,prB st' (.orow rr g) nodes r0 r1 r2 r3) :: (rr,.orow 90 5 g (stk.length + 1) (cs ++ [.i .i64 kk,.s [],.nil,.nil,mx])) :: (Lm ++ L')) o) (hkk:(if b=true then (7:Int) else 6)=kk)
  (h3:MpO ⟨b,[],[]⟩ mx Lm) (h4:StkO M stk cs L') (hpl:zan [r0,r1,r2,r3]=true) (he:st'=st) (h5:¬ (st=6 ∨ st=7)):PrO M p ⟨st,⟨b,[],[]⟩ :: stk,nodes,root⟩ o:=by
 subst he hkk
 refine zk7 (Lk:=[]) (Li:=[]) (Lm:=Lm) (L0:=L') (r:=stk) (f:=⟨b,[],[]⟩) hO (zlY _ _) ?_ h3 h4 hpl h5
 show SlO _ _ 0 (zac []) .nil []
 rw [zaw]
 exact zlY _ _
theorem znb {k:List UInt8}:∀ {l:List (List UInt8)},k ∈ l → zeO k (l.map fun k => (k,AV.b true))=some (.b true)
 | a :: l,h => by
  rw [List.map_cons]
  unfold zeO
  by_cases c:a=k
  ·simp [c]
  ·have h':k ∈ l:=(List.mem_cons.1 h).resolve_left (fun e => c e.symm)
   simp [c,znb h']
theorem zjY {k:List UInt8}:∀ {l:List (List UInt8)},¬ k ∈ l → zeO k (l.map fun k => (k,AV.b true))=none
 | [],h => rfl
 | a :: l,h => by
  rw [List.map_cons]
  unfold zeO
  simp only [List.mem_cons,not_or] at h
  have c:¬ a=k:=fun e => h.1 e.symm
  simp [c,zjY h.2]
theorem zjX {k:List UInt8}:∀ {l:List (List UInt8)},¬ k ∈ l → zfG k (.b true) (l.map fun k => (k,AV.b true))=(l ++ [k]).map fun k => (k,AV.b true)
 | [],h => rfl
 | a :: l,h => by
  rw [List.map_cons]
  unfold zfG
  simp only [List.mem_cons,not_or] at h
  have c:¬ a=k:=fun e => h.1 e.symm
  simp [c,zjX h.2]
def zcn (L:List (Nat × OB)):Prop:=∀ z ∈ L,∀ b g n xs,zhb b g n xs z.2=z.2
theorem zcu {A B:List (Nat × OB)} (h:zcn A) (k:zcn B):zcn (A ++ B):=fun z hz => (List.mem_append.1 hz).elim (h z) (k z)
theorem ze9 {E sz n:Nat} {xs:List AV} {X:AV} {L:List (Nat × OB)} (h:SlO E sz n xs X L):zcn L:=by
 rcases h with ⟨_,_,_,rfl⟩ | ⟨b,g,_,rfl⟩
 ·intro z hz; cases hz
 ·intro z hz b' g' n' xs'
  rw [List.mem_singleton] at hz; subst hz; rfl
theorem zfk {f:Fr} {X:AV} {L:List (Nat × OB)} (h:MpO f X L):zcn L:=by
 rcases h with ⟨_,_,rfl⟩ | ⟨_,b,_,rfl⟩
 ·intro z hz; cases hz
 ·intro z hz b' g' n' xs'
  rw [List.mem_singleton] at hz; subst hz; rfl
theorem ze5 {M:List (Nat × OB)} (hM:zcn M):∀ {S:List Fr} {cs:List AV} {L:List (Nat × OB)},StkO M S cs L → zcn L
 | [],cs,L,h => by rw [h.2]; exact hM
 | f :: r,cs,L,h => by
  obtain ⟨c0,c1,L0,L1,⟨_,_,_,_,_,_,_,h1,h2,h3,rfl⟩,h4,_,rfl⟩:=h
  exact zcu (zcu (ze9 h1) (zcu (ze9 h2) (zfk h3))) (ze5 hM h4)
theorem sub_i {b g n:Nat} {xs:List AV} (k:IntKind) (m:Int):zck b g n xs (.i k m)=.i k m:=rfl
theorem sub_s {b g n:Nat} {xs:List AV} (l:List UInt8):zck b g n xs (.s l)=.s l:=rfl
theorem sub_p {b g n:Nat} {xs:List AV} (q j:Nat):zck b g n xs (.p q j)=.p q j:=rfl
theorem sub_row {b g n:Nat} {xs ys:List AV} (m:Nat):zck b g n xs (.row m ys)=.row m ys:=rfl
theorem sub_self {b g n:Nat} {xs:List AV}:zck b g n xs (.orow b g)=.row n xs:=by simp [zck]
theorem sub_ne {b g n c h:Nat} {xs:List AV} (hc:¬ c=b):zck b g n xs (.orow c h)=.orow c h:=by simp [zck,hc]
theorem zlP {st:Int} {rr g' nodes b g n:Nat} {xs:List AV} {r0 r1 r2 r3:AV} (hne:¬ rr=b) (hpl:zan [r0,r1,r2,r3]=true):zhb b g n xs (prB st (.orow rr g') nodes r0 r1 r2 r3)=prB st (.orow rr g') nodes r0 r1 r2 r3:=by
 simp only [zan,Bool.and_eq_true] at hpl
 obtain ⟨p0,p1,p2,p3,_⟩:=hpl
 simp only [prB,zhb,List.map_cons,List.map_nil,zcZ p0,zcZ p1,zcZ p2,zcZ p3,sub_i,sub_ne hne]
section
variable {P:Program} [Tabs P] {f:FuncId} {o:List OB} {K:List OB → AV → Prop} {p rr g st' nodes E sz n E' g' n' sz':Nat} {st k:Int} {txt:List UInt8} {xs cs ys:List AV} {X Y r0 r1 r2 r3:AV} {Lx L:List (Nat × OB)}
theorem weak4 {a b x y:AV} (hx:∀ G I v,Den G I x v → Den G I y v) (hc:zad P f [.p p 0,.agg [a,b,y,X]] o K):zad P f [.p p 0,.agg [a,b,x,X]] o K:=by
 refine jweak (fun G I ys h => ?_) hc
 simp only [zag,Den] at h ⊢
 obtain ⟨y0,l0,rfl,h0,y1,l1,rfl,⟨zs,rfl,⟨z0,m0,rfl,q0,z1,m1,rfl,q1,z2,m2,rfl,q2,q3⟩,hz⟩,h2⟩:=h
 exact ⟨_,_,rfl,h0,_,_,rfl,⟨_,rfl,⟨_,_,rfl,q0,_,_,rfl,q1,_,_,rfl,hx _ _ _ q2,q3⟩,hz⟩,h2⟩
theorem weak4' {a b x y:AV} (hx:∀ G I v,Den G I x v → Den G I y v) (hc:zad P f [.p p 0,.agg [a,b,X,y]] o K):zad P f [.p p 0,.agg [a,b,X,x]] o K:=by
 refine jweak (fun G I ys h => ?_) hc
 simp only [zag,Den] at h ⊢
 obtain ⟨y0,l0,rfl,h0,y1,l1,rfl,⟨zs,rfl,⟨z0,m0,rfl,q0,z1,m1,rfl,q1,z2,m2,rfl,q2,z3,m3,rfl,q3,q4⟩,hz⟩,h2⟩:=h
 exact ⟨_,_,rfl,h0,_,_,rfl,⟨_,rfl,⟨_,_,rfl,q0,_,_,rfl,q1,_,_,rfl,q2,_,_,rfl,hx _ _ _ q3,q4⟩,hz⟩,h2⟩
theorem pub_keys (h:SlO E sz n xs X Lx) (hO:zaH ((p,prB st (.orow rr g) nodes r0 r1 r2 r3) :: (rr,.orow E' sz' g n' cs) :: (Lx ++ L)) o) (hL:zcn L) (hpl:zan [r0,r1,r2,r3]=true) 
  (hY2:∀ b,Lx.map (·.1)=[b] → ∀ g n xs,zck b g n xs Y=Y) (hk:∀ o',zaH ((p,prB st (.orow rr g) nodes r0 r1 r2 r3) :: (rr,.orow E' sz' g n' cs) :: L) o' → zad P f [.p p 0,.agg [.i .i64 k,.s txt,.row n xs,Y]] o' K) :
  zad P f [.p p 0,.agg [.i .i64 k,.s txt,X,Y]] o K:=by
 rcases h with ⟨rfl,rfl,rfl,rfl⟩ | ⟨b,gb,rfl,rfl⟩
 ·exact weak4 (fun G I v hv => zd2 hv) (hk _ hO)
 ·have hb:=hO.get (i:=b) (x:=.orow E sz gb n xs) (by simp)
  have hne:¬ rr=b:=hO.ne (A:=[_]) (B:=[]) (C:=L)
  refine zfB hb ?_
  have hp:zaH ((b,.orow E sz gb n xs) :: (p,prB st (.orow rr g) nodes r0 r1 r2 r3) :: (rr,.orow E' sz' g n' cs) :: L) o:=hO.perm (zcJ [_,_] L _).symm
  have e:=hk (pubO o b gb n xs) (hp.mapset (zhb b gb n xs) (fun z hz => by
   rcases List.mem_cons.1 hz with rfl | hz
   ·exact zlP hne hpl
   rcases List.mem_cons.1 hz with rfl | hz
   ·rfl
   ·exact hL z hz _ _ _ _))
  simp only [List.map_cons,List.map_nil,subD,sub_i,sub_s,sub_p,sub_self,hY2 b rfl]
  exact e
theorem zmJ {m:Nat} (h:SlO E sz n xs X Lx) (hO:zaH ((p,prB st (.orow rr g) nodes r0 r1 r2 r3) :: (rr,.orow E' sz' g n' cs) :: (Lx ++ L)) o) (hL:zcn L) (hpl:zan [r0,r1,r2,r3]=true)
  (hk:∀ o',zaH ((p,prB st (.orow rr g) nodes r0 r1 r2 r3) :: (rr,.orow E' sz' g n' cs) :: L) o' → zad P f [.p p 0,.agg [.i .i64 k,.s txt,.row m ys,.row n xs]] o' K) :
  zad P f [.p p 0,.agg [.i .i64 k,.s txt,.row m ys,X]] o K:=by
 rcases h with ⟨rfl,rfl,rfl,rfl⟩ | ⟨b,gb,rfl,rfl⟩
 ·exact weak4' (fun G I v hv => zd2 hv) (hk _ hO)
 ·have hb:=hO.get (i:=b) (x:=.orow E sz gb n xs) (by simp)
  have hne:¬ rr=b:=hO.ne (A:=[_]) (B:=[]) (C:=L)
  refine zfB hb ?_
  have hp:zaH ((b,.orow E sz gb n xs) :: (p,prB st (.orow rr g) nodes r0 r1 r2 r3) :: (rr,.orow E' sz' g n' cs) :: L) o:=hO.perm (zcJ [_,_] L _).symm
  have e:=hk (pubO o b gb n xs) (hp.mapset (zhb b gb n xs) (fun z hz => by
   rcases List.mem_cons.1 hz with rfl | hz
   ·exact zlP hne hpl
   rcases List.mem_cons.1 hz with rfl | hz
   ·rfl
   ·exact hL z hz _ _ _ _))
  simp only [List.map_cons,List.map_nil,subD,sub_i,sub_s,sub_p,sub_self,sub_row]
  exact e
end
section
variable [Tabs Tryz.prog] {objs:List OB} {K:List OB → AV → Prop}
theorem open_k {M:List (Nat × OB)} {p:Nat} {σ:Ms} (hP:PrO M p σ objs) (b:Bool) (hd:σ.stk.length ≤ 64) (hk:∀ o,PrO M p ⟨if b=true then 3 else 1,⟨b,[],[]⟩ :: σ.stk,σ.nodes,σ.root⟩ o → K o (.tup [])) :
  zad Tryz.prog 62 [.p p 0,.agg [.i .i64 (if b=true then 7 else 6),.s [],.nil,.nil]] objs K:=by
 obtain ⟨σst,stk,nodes,root⟩:=σ
 obtain ⟨X,r0,r1,r2,r3,L,hO,hX,hpl,hr⟩:=hP
 simp only at hO hX hd hk
 generalize hkk:(if b=true then (7:Int) else 6)=kk
 generalize hss:(if b=true then (3:Int) else 1)=ss at hk
 have hO1:=hO.new (.box 26 [.i .i64 kk,.s [],.nil,.nil])
 refine zcy is_jsondoc_parser_open fun C _ => ?_
 rw [c_jsondoc_parser_open]
 refine zaa fun Y hY => ?_
 simp only [sxZ,z6,z7,z8,j4,j5,j6,j7,j8,j9,x0,x3,x4,x5,x6,x7,reduceCtorEq,↓reduceIte]
 generalize objs ++ [OB.box 26 [.i .i64 kk,.s [],.nil,.nil]]=o1 at hO1 ⊢
 have e0:=hO1.get (i:=objs.length) (x:=.box 26 [.i .i64 kk,.s [],.nil,.nil]) (by simp)
 have hO2:=hO1.new (.box 90 [.i .i64 kk,.s [],.nil,.nil,.o (.map none)])
 subst hY
 refine zaa fun Y hY => ?_
 simp only [sxZ,z6,z7,z8,j4,j5,j6,j7,j8,j9,x0,x3,x4,x5,x6,x7,reduceCtorEq,↓reduceIte,e0,gn1,sn1]
 generalize o1 ++ [OB.box 90 [.i .i64 kk,.s [],.nil,.nil,.o (.map none)]]=o2 at hO2 ⊢
 have hO3:=hO2.set2 (prB 1 X nodes r0 r1 r2 r3)
 have e1:=hO2.get (i:=p) (x:=prB σst X nodes r0 r1 r2 r3) (by simp)
 unfold prB at e1
 subst hY
 refine zaa fun Y hY => ?_
 simp only [sxZ,z6,z7,z8,j4,j5,j6,j7,j8,j9,x0,x3,x4,x5,x6,x7,reduceCtorEq,↓reduceIte,e1]
 have fold1:OB.box 49 [.i .i64 1,X,.i .i64 (nodes:Int),r0,r1,r2,r3]=prB 1 X nodes r0 r1 r2 r3:=rfl
 rw [fold1]
 generalize o2.set p (prB 1 X nodes r0 r1 r2 r3)=o3 at hO3 ⊢
 subst hY
 refine zaa fun Y hY => ?_
 have last:∀ (o4:List OB) (mx:AV) (Lm:List (Nat × OB)) (tm:List AV),zaH ((o1.length,.box 90 [.i .i64 kk,.s [],.nil,.nil,mx]) :: (objs.length,.box 26 [.i .i64 kk,.s [],.nil,.nil]) :: (p,prB ss X nodes r0 r1 r2 r3) :: (Lm ++ L)) o4 → MpO ⟨b,[],[]⟩ mx Lm → tm.length=28 → tm[0]? = some (.p p 0) → tm[4]? = some (.p o1.length 0) → run Tryz.prog C [.code Y] o4 tm (endI [] K):=by
  intro o4 mx Lm tm h4 hM hlen t0 t4
  have hst:¬ (ss=6 ∨ ss=7):=by rw [← hss]; cases b <;> decide
  have f0:=h4.get (i:=o1.length) (x:=.box 90 [.i .i64 kk,.s [],.nil,.nil,mx]) (by simp)
  have f1:=h4.get (i:=p) (x:=prB ss X nodes r0 r1 r2 r3) (by simp)
  have flt:=h4.lt (i:=p) (x:=prB ss X nodes r0 r1 r2 r3) (by simp)
  unfold prB at f1
  subst hY
  rcases hX with ⟨rfl,rfl,rfl⟩ | ⟨rr,g,cs,L',rfl,hS,rfl⟩
  ·have fx:∀ x,(o4 ++ [x])[p]? = some (.box 49 [.i .i64 ss,.nil,.i .i64 (nodes:Int),r0,r1,r2,r3]):=fun x => by rw [List.getElem?_append_left flt]; exact f1
   simp only [sxZ,z6,z7,z8,j4,j5,j6,j7,j8,j9,x0,x3,x4,x5,x6,x7,reduceCtorEq,↓reduceIte,List.getElem?_set,hlen,t0,t4,f0,f1,fx]
   have hN:=(h4.new (.orow 90 5 0 1 [.i .i64 kk,.s [],.nil,.nil,mx])).set3 (prB ss (.orow o4.length 0) nodes r0 r1 r2 r3)
   exact hk _ (zmK (stk:=[]) (cs:=[]) (zhG hN) hkk hM ⟨rfl,rfl⟩ hpl rfl hst)
  ·have f2:=h4.get (i:=rr) (x:=.orow 90 5 g stk.length cs) (by simp)
   have hne2:¬ rr=p:=by
    intro h
    have:=h4.1
    simp only [List.map_cons,List.map_append,List.nodup_cons] at this
    exact this.2.2.1 (by simp [h])
   have fx:∀ x,(o4.set rr x)[p]? = some (.box 49 [.i .i64 ss,.orow rr g,.i .i64 (nodes:Int),r0,r1,r2,r3]):=fun x => by rw [List.getElem?_set_ne hne2]; exact f1
   simp only [sxZ,z6,z7,z8,j4,j5,j6,j7,j8,j9,x0,x3,x4,x5,x6,x7,reduceCtorEq,↓reduceIte,List.getElem?_set,hlen,t0,t4,f0,f1,f2,fx]
   refine ⟨⟨by omega,by omega⟩,?_⟩
   have hN:=((h4.perm (zcJ (_ :: _ :: _ :: Lm) L' _).symm).set0 (.orow 90 5 (g + 1) (stk.length + 1) (cs ++ [.i .i64 kk,.s [],.nil,.nil,mx]))).set3 (prB ss (.orow rr (g + 1)) nodes r0 r1 r2 r3)
   exact hk _ (zmK (zhG hN) hkk hM hS hpl rfl hst)
 have g0:=hO3.get (i:=objs.length) (x:=.box 26 [.i .i64 kk,.s [],.nil,.nil]) (by simp)
 have g1:=hO3.get (i:=p) (x:=prB 1 X nodes r0 r1 r2 r3) (by simp)
 have g2:=hO3.get (i:=o1.length) (x:=.box 90 [.i .i64 kk,.s [],.nil,.nil,.o (.map none)]) (by simp)
 cases b
 ·have k6:kk=6:=hkk.symm
  have s1:ss=1:=hss.symm
  have d7:¬ kk=7:=by rw [k6]; decide
  simp only [sxZ,z6,z7,z8,j4,j5,j6,j7,j8,j9,x0,x3,x4,x5,x6,x7,reduceCtorEq,↓reduceIte,g0,d7]
  exact last _ _ [] _ (by rw [s1]; exact hO3) (.inl ⟨rfl,rfl,rfl⟩) rfl rfl rfl
 ·have k7:kk=7:=hkk.symm
  have s3:ss=3:=hss.symm
  have glt:=hO3.lt (i:=o1.length) (x:=.box 90 [.i .i64 kk,.s [],.nil,.nil,.o (.map none)]) (by simp)
  have gx:∀ x,(o3 ++ [x])[o1.length]? = some (.box 90 [.i .i64 kk,.s [],.nil,.nil,.o (.map none)]):=fun x => by rw [List.getElem?_append_left glt]; exact g2
  have hM:=hO3.new (.mp [])
  have hC:=hM.set1 (.box 90 [.i .i64 kk,.s [],.nil,.nil,.m o3.length])
  have hPp:=hC.set3 (prB 3 X nodes r0 r1 r2 r3)
  have k1:=hC.get (i:=p) (x:=prB 1 X nodes r0 r1 r2 r3) (by simp)
  unfold prB at k1
  refine zaa fun Z hZ => ?_
  simp only [sxZ,z6,z7,z8,j4,j5,j6,j7,j8,j9,x0,x3,x4,x5,x6,x7,reduceCtorEq,↓reduceIte,g0,k7]
  subst hZ
  simp only [sxZ,z6,z7,z8,j4,j5,j6,j7,j8,j9,x0,x3,x4,x5,x6,x7,reduceCtorEq,↓reduceIte,gx]
  generalize (o3 ++ [OB.mp []]).set o1.length _=o5 at hC hPp k1 ⊢
  simp only [sxZ,z6,z7,z8,j4,j5,j6,j7,j8,j9,x0,x3,x4,x5,x6,x7,reduceCtorEq,↓reduceIte,k1]
  exact last _ _ [(o3.length,.mp [])] _ (by rw [s3]; exact hPp.perm (zcJ [_,_,_] L _)) (.inr ⟨rfl,_,rfl,rfl⟩) rfl rfl rfl
theorem zi5 {M:List (Nat × OB)} (hNB:zcn M) {p:Nat} {σ:Ms} {f:Fr} {r:List Fr} (hP:PrO M p σ objs) (hs:σ.stk=f :: r) (h67:¬ (σ.st=6 ∨ σ.st=7)) (hl:∀ f ∈ σ.stk,f.its.length ≤ 10000000) (hd:σ.stk.length ≤ 64) (hk:∀ o,PrO M p (zcA σ) o → K o (.tup [])) :
  zad Tryz.prog 37 [.p p 0] objs K:=by
 obtain ⟨σst,stk,nodes,root⟩:=σ
 simp only at hs
 subst hs
 obtain ⟨rr,g,r0,r1,r2,r3,kx,ix,mx,d0,L0,Lk,Li,Lm,hO,h1,h2,h3,h4,h5,hpl⟩:=zhE hP rfl
 have hrl:r.length ≤ 63:=by simpa using hd
 refine zcy is_jsondoc_parser_close fun C _ => ?_
 rw [c_jsondoc_parser_close]
 refine zaa fun Y hY => ?_
 have e1:=hO.get (i:=p) (x:=prB σst (.orow rr g) nodes r0 r1 r2 r3) (by simp)
 have e2:=hO.get (i:=rr) (x:=.orow 90 5 g (r.length + 1) (d0 ++ [.i .i64 (kdF f),.s [],kx,ix,mx])) (by simp)
 simp only [sxZ,z6,z7,z8,j4,j5,j6,j7,j8,j9,x0,x3,x4,x5,x6,x7,reduceCtorEq,↓reduceIte]
 refine zam (zlJ e1 e2 (by omega) ?_)
 simp only [sxZ,z6,z7,z8,j4,j5,j6,j7,j8,j9,x0,x3,x4,x5,x6,x7,reduceCtorEq,↓reduceIte,e2,Nat.add_zero,gn1,sn1,c5_take _ _ _ _ _ _ _ h5]
 refine ⟨by omega,?_⟩
 have hO1:=hO.new (.box 26 [.i .i64 (kdF f),.s [],kx,ix])
 generalize objs ++ [OB.box 26 [.i .i64 (kdF f),.s [],kx,ix]]=o1 at hO1 ⊢
 have g1:=hO1.get (i:=p) (x:=prB σst (.orow rr g) nodes r0 r1 r2 r3) (by simp)
 have g2:=hO1.get (i:=rr) (x:=.orow 90 5 g (r.length + 1) (d0 ++ [.i .i64 (kdF f),.s [],kx,ix,mx])) (by simp)
 have hne:¬ rr=p:=fun h => hO.ne (A:=[]) (B:=[]) h.symm
 have gx:∀ x,(o1.set rr x)[p]? = some (prB σst (.orow rr g) nodes r0 r1 r2 r3):=fun x => by rw [List.getElem?_set_ne hne]; exact g1
 have hO2:=(hO1.set2 (.orow 90 5 (g + 1) r.length d0)).set1 (prB σst (.orow rr (g + 1)) nodes r0 r1 r2 r3)
 unfold prB at g1 gx
 subst hY
 refine zaa fun Y hY => ?_
 simp only [sxZ,z6,z7,z8,j4,j5,j6,j7,j8,j9,x0,x3,x4,x5,x6,x7,reduceCtorEq,↓reduceIte,g1,g2,gx]
 rw [show ((r.length + 1:Nat):Int) - 1=(r.length:Int) by omega,Int.toNat_natCast,List.take_left' h5]
 refine ⟨⟨by omega,by omega⟩,⟨by omega,by omega⟩,?_⟩
 have fold1:OB.box 49 [.i .i64 σst,.orow rr (g + 1),.i .i64 (nodes:Int),r0,r1,r2,r3]=prB σst (.orow rr (g + 1)) nodes r0 r1 r2 r3:=rfl
 rw [fold1]
 generalize (o1.set rr (OB.orow 90 5 (g + 1) r.length d0)).set p (prB σst (.orow rr (g + 1)) nodes r0 r1 r2 r3)=o2 at hO2 ⊢
 have e0:=hO2.get (i:=objs.length) (x:=.box 26 [.i .i64 (kdF f),.s [],kx,ix]) (by simp)
 subst hY
 simp only [sxZ,z6,z7,z8,j4,j5,j6,j7,j8,j9,x0,x3,x4,x5,x6,x7,reduceCtorEq,↓reduceIte,e0]
 refine zam ?_
 have hO3:zaH ((p,prB σst (.orow rr (g + 1)) nodes r0 r1 r2 r3) :: (rr,.orow 90 5 (g + 1) r.length d0) :: (Lk ++ ((Li ++ Lm) ++ L0))) o2:=(hO2.sub (List.sublist_cons_self _ _)).perm (List.Perm.of_eq (by simp))
 refine pub_keys h1 hO3 (zcu (zcu (ze9 h2) (zfk h3)) (ze5 hNB h4)) hpl (fun b hb g n xs => ?_) fun o3 hO4 => ?_
 ·rcases h2 with ⟨_,_,rfl,_⟩ | ⟨bi,gi,rfl,rfl⟩
  ·rfl
  ·rcases h1 with ⟨_,_,_,rfl⟩ | ⟨bk,gk,_,rfl⟩
   ·cases hb
   ·simp only [List.map_cons,List.map_nil,List.cons.injEq,and_true] at hb
    subst hb
    exact sub_ne (fun h => hO3.ne (A:=[_,_]) (B:=[]) h.symm)
 have hO5:zaH ((p,prB σst (.orow rr (g + 1)) nodes r0 r1 r2 r3) :: (rr,.orow 90 5 (g + 1) r.length d0) :: (Li ++ (Lm ++ L0))) o3:=hO4.perm (List.Perm.of_eq (by simp))
 refine zmJ h2 hO5 (zcu (zfk h3) (ze5 hNB h4)) hpl fun o4 hO6 => ?_
 have hO7:zaH ((p,prB σst (.orow rr (g + 1)) nodes r0 r1 r2 r3) :: (rr,.orow 90 5 (g + 1) r.length d0) :: L0) o4:=hO6.sub (((List.sublist_append_right Lm L0).cons_cons _).cons_cons _)
 have hP':PrO M p ⟨σst,r,nodes,root⟩ o4:=⟨_,r0,r1,r2,r3,_,hO7,.inr ⟨rr,g + 1,d0,L0,rfl,h4,rfl⟩,hpl,fun h => absurd h h67⟩
 have ha:=add_k (K:=fun o x => PrO M p (zcA ⟨σst,f :: r,nodes,root⟩) o ∧ x=.tup []) hP' f.val (fun f' hf => hl f' (List.mem_cons_of_mem _ hf)) (by show r.length ≤ 64; omega) (fun o ho => ⟨ho,rfl⟩)
 rw [Fr.val,zaj] at ha
 refine ha.mono ?_
 rintro o x ⟨ho,rfl⟩
 simp only [sxZ,z6,z7,z8,j4,j5,j6,j7,j8,j9,x0,x3,x4,x5,x6,x7,reduceCtorEq,↓reduceIte]
 exact hk o ho
theorem zkP {M:List (Nat × OB)} {p:Nat} {σ:Ms} {f:Fr} {r:List Fr} (hP:PrO M p σ objs) (hs:σ.stk=f :: r) (hob:f.obj=true) (hl:f.ks.length ≤ 10000000) (hd:σ.stk.length ≤ 64) (t:Tk) (ht:t.2.1.length ≤ 140737488351232)
  (h0:(zil σ t).1=0 → ∀ o,PrO M p (zil σ t).2 o → K o (.i .i64 0)) (h1:¬ (zil σ t).1=0 → ∀ o σ',PrO M p σ' o → K o (.i .i64 (zil σ t).1)) :
  zad Tryz.prog 38 [.p p 0,zgW t] objs K:=by
 obtain ⟨σst,stk,nodes,root⟩:=σ
 simp only at hs
 subst hs
 obtain ⟨rr,g,r0,r1,r2,r3,kx,ix,mx,d0,L0,Lk,Li,Lm,hO,q1,q2,q3,q4,q5,hpl⟩:=zhE hP rfl
 have hrl:r.length ≤ 63:=by simpa using hd
 obtain ⟨_,_,_⟩ | ⟨_,bm,rfl,rfl⟩:=q3
 ·rename_i h _ _; rw [hob] at h; cases h
 have hO1:=hO.new (.box 51 (tkC t))
 have hPA:=pr_app hP [.box 51 (tkC t)]
 refine zcy is_jsondoc_parser_addKey fun C _ => ?_
 rw [c_jsondoc_parser_addKey]
 refine zaa fun Y hY => ?_
 simp only [zgW,sxZ,z6,z7,z8,j4,j5,j6,j7,j8,j9,x0,x3,x4,x5,x6,x7,reduceCtorEq,↓reduceIte]
 generalize objs ++ [OB.box 51 (tkC t)]=o1 at hO1 hPA ⊢
 have e0:=hO1.get (i:=objs.length) (x:=.box 51 (tkC t)) (by simp)
 have e1:=hO1.get (i:=p) (x:=prB σst (.orow rr g) nodes r0 r1 r2 r3) (by simp)
 have e2:=hO1.get (i:=rr) (x:=.orow 90 5 g (r.length + 1) (d0 ++ [.i .i64 (kdF f),.s [],kx,ix,.m bm])) (by simp)
 have e3:=hO1.get (i:=bm) (x:=.mp (f.ks.map fun k => (k,AV.b true))) (by simp)
 unfold tkC at e0
 unfold zil at h0 h1
 simp only at h0 h1
 subst hY
 by_cases c1:t.1=3
 rotate_left
 ·rw [if_pos c1] at h1
  simp only [sxZ,z6,z7,z8,j4,j5,j6,j7,j8,j9,x0,x3,x4,x5,x6,x7,reduceCtorEq,↓reduceIte,e0,c1]
  exact h1 (by simp) _ _ hPA
 rw [if_neg (fun h => h c1)] at h0 h1
 refine zaa fun Y hY => ?_
 simp only [sxZ,z6,z7,z8,j4,j5,j6,j7,j8,j9,x0,x3,x4,x5,x6,x7,reduceCtorEq,↓reduceIte,e0,c1]
 subst hY
 refine zaa fun Y hY => ?_
 simp only [sxZ,z6,z7,z8,j4,j5,j6,j7,j8,j9,x0,x3,x4,x5,x6,x7,reduceCtorEq,↓reduceIte]
 refine zam (zlJ e1 e2 (by omega) ?_)
 simp only [sxZ,z6,z7,z8,j4,j5,j6,j7,j8,j9,x0,x3,x4,x5,x6,x7,reduceCtorEq,↓reduceIte]
 subst hY
 refine zaa fun Y hY => ?_
 have k4:=c5_at d0 [.i .i64 (kdF f),.s [],kx,ix,.m bm] r.length 4 q5
 by_cases c2:t.2.1 ∈ f.ks
 ·rw [if_pos c2] at h1
  simp only [sxZ,z6,z7,z8,j4,j5,j6,j7,j8,j9,x0,x3,x4,x5,x6,x7,reduceCtorEq,↓reduceIte,e0,e2,e3,k4,znb c2]
  exact h1 (by simp) _ _ hPA
 rw [if_neg c2] at h0
 simp only [sxZ,z6,z7,z8,j4,j5,j6,j7,j8,j9,x0,x3,x4,x5,x6,x7,reduceCtorEq,↓reduceIte,e0,e2,e3,k4,zjY c2]
 have ltm:=hO1.lt (i:=bm) (x:=.mp (f.ks.map fun k => (k,AV.b true))) (by simp)
 subst hY
 refine zaa fun Y hY => ?_
 simp only [sxZ,z6,z7,z8,j4,j5,j6,j7,j8,j9,x0,x3,x4,x5,x6,x7,reduceCtorEq,↓reduceIte,e0,e2,e3,k4,zjX c2]
 have hO1':zaH ((bm,.mp (f.ks.map fun k => (k,AV.b true))) :: (objs.length,.box 51 (tkC t)) :: (p,prB σst (.orow rr g) nodes r0 r1 r2 r3) :: (rr,.orow 90 5 g (r.length + 1) (d0 ++ [.i .i64 (kdF f),.s [],kx,ix,.m bm])) :: (Lk ++ Li ++ L0)) o1 :=
  (hO1.perm (List.Perm.of_eq (by simp))).perm (zcJ (_ :: _ :: _ :: (Lk ++ Li)) L0 _).symm
 have hO2:=hO1'.set0 (.mp ((f.ks ++ [t.2.1]).map fun k => (k,AV.b true)))
 generalize o1.set bm (OB.mp ((f.ks ++ [t.2.1]).map fun k => (k,AV.b true)))=o2 at hO2 ⊢
 clear e0 e1 e2 e3
 have e0:=hO2.get (i:=objs.length) (x:=.box 51 (tkC t)) (by simp)
 have e2:=hO2.get (i:=rr) (x:=.orow 90 5 g (r.length + 1) (d0 ++ [.i .i64 (kdF f),.s [],kx,ix,.m bm])) (by simp)
 have k2:=c5_at d0 [.i .i64 (kdF f),.s [],kx,ix,.m bm] r.length 2 q5
 have ltr:=hO2.lt (i:=rr) (x:=.orow 90 5 g (r.length + 1) (d0 ++ [.i .i64 (kdF f),.s [],kx,ix,.m bm])) (by simp)
 unfold tkC at e0
 subst hY
 refine zaa fun Y hY => ?_
 rcases q1 with ⟨z1,z2,rfl,rfl⟩ | ⟨bk,gk,rfl,rfl⟩
 ·have f0:f.ks=[]:=List.eq_nil_of_length_eq_zero z1
  have gx:∀ x,(o2 ++ [x])[rr]? = some (.orow 90 5 g (r.length + 1) (d0 ++ [.i .i64 (kdF f),.s [],.nil,ix,.m bm])):=fun x => by rw [List.getElem?_append_left ltr]; exact e2
  simp only [sxZ,z6,z7,z8,j4,j5,j6,j7,j8,j9,x0,x3,x4,x5,x6,x7,reduceCtorEq,↓reduceIte,e0,e2,Nat.add_zero,k2,gx]
  rw [sp2 _ _ _ _ _ _ _ _ q5]
  refine ⟨by omega,?_⟩
  have hN:=(hO2.new (.orow 9 1 0 1 [.s t.2.1])).set4 (.orow 90 5 g (r.length + 1) (d0 ++ [.i .i64 (kdF f),.s [],.orow o2.length 0,ix,.m bm]))
  have hF:=hN.set3 (prB 4 (.orow rr g) nodes r0 r1 r2 r3)
  have e5:=hN.get (i:=p) (x:=prB σst (.orow rr g) nodes r0 r1 r2 r3) (by simp)
  have hS:SlO 9 1 (f.ks ++ [t.2.1]).length ((f.ks ++ [t.2.1]).map .s) (.orow o2.length 0) [(o2.length,.orow 9 1 0 1 [.s t.2.1])]:=.inr ⟨_,_,rfl,by rw [f0]; rfl⟩
  have hfin:=h0 rfl _ (zk7 (root:=root) (r:=r) (f:=⟨f.obj,f.ks ++ [t.2.1],f.its⟩) (own_key1 hF) hS q2 (.inr ⟨hob,bm,rfl,rfl⟩) q4 hpl (by decide))
  unfold prB at e5 hfin
  generalize (o2 ++ [OB.orow 9 1 0 1 [.s t.2.1]]).set rr _=o3 at e5 hfin ⊢
  subst hY
  simp only [sxZ,z6,z7,z8,j4,j5,j6,j7,j8,j9,x0,x3,x4,x5,x6,x7,reduceCtorEq,↓reduceIte,e5]
  exact hfin
 ·have e4:=hO2.get (i:=bk) (x:=.orow 9 1 gk f.ks.length (f.ks.map .s)) (by simp)
  have hne:¬ bk=rr:=fun h => hO2.ne (A:=[_,_,_]) (B:=[]) h.symm
  have gx:∀ x,(o2.set bk x)[rr]? = some (.orow 90 5 g (r.length + 1) (d0 ++ [.i .i64 (kdF f),.s [],.orow bk gk,ix,.m bm])):=fun x => by rw [List.getElem?_set_ne hne]; exact e2
  simp only [sxZ,z6,z7,z8,j4,j5,j6,j7,j8,j9,x0,x3,x4,x5,x6,x7,reduceCtorEq,↓reduceIte,e0,e2,e4,Nat.add_zero,k2,gx]
  rw [sp2 _ _ _ _ _ _ _ _ q5]
  refine ⟨⟨by omega,by omega⟩,by omega,?_⟩
  have hN:=(zaH.set4 (.orow 9 1 (gk + 1) (f.ks.length + 1) (f.ks.map .s ++ [.s t.2.1])) hO2).set3 (.orow 90 5 g (r.length + 1) (d0 ++ [.i .i64 (kdF f),.s [],.orow bk (gk + 1),ix,.m bm]))
  have hF:=hN.set2 (prB 4 (.orow rr g) nodes r0 r1 r2 r3)
  have e5:=hN.get (i:=p) (x:=prB σst (.orow rr g) nodes r0 r1 r2 r3) (by simp)
  have hS:SlO 9 1 (f.ks ++ [t.2.1]).length ((f.ks ++ [t.2.1]).map .s) (.orow bk (gk + 1)) [(bk,.orow 9 1 (gk + 1) (f.ks.length + 1) (f.ks.map .s ++ [.s t.2.1]))]:=.inr ⟨_,_,rfl,by rw [List.map_append,List.length_append]; rfl⟩
  have hfin:=h0 rfl _ (zk7 (root:=root) (r:=r) (f:=⟨f.obj,f.ks ++ [t.2.1],f.its⟩) (own_key2 hF) hS q2 (.inr ⟨hob,bm,rfl,rfl⟩) q4 hpl (by decide))
  unfold prB at e5 hfin
  generalize (o2.set bk (OB.orow 9 1 (gk + 1) (f.ks.length + 1) (f.ks.map .s ++ [.s t.2.1]))).set rr _=o3 at e5 hfin ⊢
  subst hY
  simp only [sxZ,z6,z7,z8,j4,j5,j6,j7,j8,j9,x0,x3,x4,x5,x6,x7,reduceCtorEq,↓reduceIte,e5]
  exact hfin
end
end
section
attribute [local irreducible] run
theorem pr_len {M:List (Nat × OB)} {stk:List Fr} {X:AV} {L:List (Nat × OB)} (hX:StX M stk X L):(X=.nil ∧ stk=[]) ∨ ∃ rr g cs,X=.orow rr g ∧ (rr,OB.orow 90 5 g stk.length cs) ∈ L:=by
 rcases hX with ⟨h1,h2,_⟩ | ⟨rr,g,cs,L',h1,_,h2⟩
 ·exact .inl ⟨h2,h1⟩
 ·exact .inr ⟨rr,g,cs,h1,by rw [h2]; simp⟩
theorem zfR {b g n:Nat} {xs:List AV}:∀ {l:List AV},zan l=true → l.map (zck b g n xs)=l
 | [],_ => rfl
 | x :: l,h => by
  simp only [zan,Bool.and_eq_true] at h
  rw [List.map_cons,zcZ h.1,zfR h.2]
theorem zbW {M:List (Nat × OB)} {i:Nat} {T:TypeId} {cs:List AV} (h:zan cs=true) (hM:zcn M):zcn ((i,.box T cs) :: M):=by
 intro z hz b g n xs
 rcases List.mem_cons.1 hz with rfl | hz
 ·simp only [zhb,zfR h]
 ·exact hM z hz b g n xs
def zcD (t:Tk):OB:=.box 51 (tkC t)
section
variable [Tabs Tryz.prog] [Pow Tryz.prog] {objs:List OB} {K:List OB → AV → Prop} {M:List (Nat × OB)}
omit [Pow Tryz.prog] in
theorem goOn_k (hNB:zcn M) {p:Nat} {σ:Ms} {f:Fr} {r:List Fr} (hP:PrO M p σ objs) (hs:σ.stk=f :: r) (h67:¬ (σ.st=6 ∨ σ.st=7)) (hl:∀ f ∈ σ.stk,f.its.length ≤ 10000000) (hd:σ.stk.length ≤ 64) (t:Tk)
  (h0:(onM σ t).1=0 → ∀ o,PrO M p (onM σ t).2 o → K o (.i .i64 0)) (h1:¬ (onM σ t).1=0 → ∀ o σ',PrO M p σ' o → K o (.i .i64 (onM σ t).1)) :
  zad Tryz.prog 40 [.p p 0,zgW t] objs K:=by
 have hrl:r.length ≤ 63:=by rw [hs] at hd; simpa using hd
 have hP1:=zhF hP (zcD t)
 have hq:∀ o,zad Tryz.prog 39 [.agg [.i .i64 t.1,.s t.2.1,.i .i64 t.2.2],.s [44]] o (fun o' r => o'=o ∧ r=.b (isP t 44)):=fun o => zd5 t 44 ⟨rfl,rfl⟩
 refine zcy is_jsondoc_parser_goOn fun C _ => ?_
 rw [c_jsondoc_parser_goOn]
 refine zaa fun Y hY => ?_
 simp only [zgW,sxZ,z6,z7,z8,j4,j5,j6,j7,j8,j9,x0,x3,x4,x5,x6,x7,reduceCtorEq,↓reduceIte]
 have fold0:OB.box 51 (tkC t)=zcD t:=rfl
 rw [fold0]
 generalize objs ++ [zcD t]=o1 at hP1 ⊢
 have e0:=zb2 hP1 (i:=objs.length) (x:=zcD t) (by simp)
 unfold zcD tkC at e0
 unfold onM at h0 h1
 rw [hs] at h0 h1
 simp only at h0 h1
 subst hY
 refine zaa fun Y hY => ?_
 simp only [sxZ,z6,z7,z8,j4,j5,j6,j7,j8,j9,x0,x3,x4,x5,x6,x7,reduceCtorEq,↓reduceIte,e0]
 refine zam (zfo hP1 hs (by omega) t fun o2 ho => ?_)
 have hNB':zcn ((objs.length,zcD t) :: M):=zbW rfl hNB
 cases hc:zdL σ t
 rotate_left
 ·rw [if_pos hc] at h0
  simp only [sxZ,z6,z7,z8,j4,j5,j6,j7,j8,j9,x0,x3,x4,x5,x6,x7,reduceCtorEq,↓reduceIte]
  refine zam (zi5 hNB' ho hs h67 hl hd fun o3 ho3 => ?_)
  simp only [sxZ,z6,z7,z8,j4,j5,j6,j7,j8,j9,x0,x3,x4,x5,x6,x7,reduceCtorEq,↓reduceIte]
  subst hY
  simp only [sxZ,z6,z7,z8,j4,j5,j6,j7,j8,j9,x0,x3,x4,x5,x6,x7,reduceCtorEq,↓reduceIte]
  exact h0 rfl _ (zau ho3)
 rw [if_neg (by rw [hc]; exact Bool.false_ne_true)] at h0 h1
 have e2:=zb2 ho (i:=objs.length) (x:=zcD t) (by simp)
 unfold zcD tkC at e2
 simp only [sxZ,z6,z7,z8,j4,j5,j6,j7,j8,j9,x0,x3,x4,x5,x6,x7,reduceCtorEq,↓reduceIte,e2]
 refine zam ((hq o2).mono ?_)
 rintro o3 x ⟨rfl,rfl⟩
 cases hp:isP t 44
 ·rw [if_pos hp] at h1
  simp only [sxZ,z6,z7,z8,j4,j5,j6,j7,j8,j9,x0,x3,x4,x5,x6,x7,reduceCtorEq,↓reduceIte]
  exact h1 (by simp) _ _ (zau ho)
 rw [if_neg (by rw [hp]; exact Bool.noConfusion)] at h0
 obtain ⟨rr,g,r0,r1,r2,r3,kx,ix,mx,d0,L0,Lk,Li,Lm,hO,q1,q2,q3,q4,q5,hpl⟩:=zhE ho hs
 have f1:=hO.get (i:=p) (x:=prB σ.st (.orow rr g) σ.nodes r0 r1 r2 r3) (by simp)
 have f2:=hO.get (i:=rr) (x:=.orow 90 5 g (r.length + 1) (d0 ++ [.i .i64 (kdF f),.s [],kx,ix,mx])) (by simp)
 have k0:=c5_at0 d0 [.i .i64 (kdF f),.s [],kx,ix,mx] r.length q5
 simp only [sxZ,z6,z7,z8,j4,j5,j6,j7,j8,j9,x0,x3,x4,x5,x6,x7,reduceCtorEq,↓reduceIte]
 refine zam (zlJ f1 f2 (by omega) ?_)
 have hfin:∀ s':Int,s'=(if f.obj=true then 2 else 0) → K (o3.set p (prB s' (.orow rr g) σ.nodes r0 r1 r2 r3)) (.i .i64 0):=by
  intro s' hs'
  refine h0 rfl _ (zau (z:=(objs.length,zcD t)) ?_)
  rw [← hs']
  exact zk7 (hO.set0 (prB s' (.orow rr g) σ.nodes r0 r1 r2 r3)) q1 q2 q3 q4 hpl (by rw [hs']; split <;> decide)
 have hkd:=show kdF f=if f.obj=true then 7 else 6 from rfl
 unfold prB at f1 hfin
 subst hY
 cases hb:f.obj
 ·have hk6:kdF f=6:=by rw [hkd,hb]; rfl
  rw [hk6] at f2 k0
  simp only [sxZ,z6,z7,z8,j4,j5,j6,j7,j8,j9,x0,x3,x4,x5,x6,x7,reduceCtorEq,↓reduceIte,f1,f2,Nat.add_zero,k0]
  exact hfin 0 (by rw [hb]; rfl)
 ·have hk7:kdF f=7:=by rw [hkd,hb]; rfl
  rw [hk7] at f2 k0
  simp only [sxZ,z6,z7,z8,j4,j5,j6,j7,j8,j9,x0,x3,x4,x5,x6,x7,reduceCtorEq,↓reduceIte,f1,f2,Nat.add_zero,k0]
  exact hfin 2 (by rw [hb]; rfl)
def zcB:SCode:=match c_jsondoc_parser_begin with
 | .seq _ (.seq _ (.seq _ (.seq _ r))) => r
 | _ => .skip
def zji (k:Int) (x:List UInt8):OB:=.box 26 [.i .i64 k,.s x,.nil,.nil]
omit [Pow Tryz.prog] in
theorem zbT (hNB:zcn M) {p q q':Nat} {σst:Int} {stk:List Fr} {nodes:Nat} {root:JV} {o:List OB} {tm:List AV} {k:Int} {x:List UInt8} {t:Tk} {C:Cx} [On Tryz.prog C] (hP:PrO ((q,zji k x) :: (q',zcD t) :: M) p ⟨σst,stk,nodes,root⟩ o)
  (h67:¬ (σst=6 ∨ σst=7)) (hl:∀ f ∈ stk,f.its.length ≤ 10000000) (hd:stk.length ≤ 64) (hn:nodes ≤ 20000) (hlen:tm.length=75) (t0:tm[0]? = some (.p p 0)) (t5:tm[5]? = some (.p q 0)) (c:Bool) (t6:tm[6]? = some (.b c))
  (hc:c=true → x=[] ∧ (k=6 ∨ k=7)) (hk:if 20000 ≤ nodes then ∀ o σ',PrO M p σ' o → K o (.i .i64 142) else if c=true then ∀ o,PrO M p (zbP ⟨σst,stk,nodes,root⟩ (decide (k=7))) o → K o (.i .i64 0) else ∀ o,PrO M p (zcU ⟨σst,stk,nodes + 1,root⟩ (.mk k x [] [])) o → K o (.i .i64 0)) :
  run Tryz.prog C [.code zcB] o tm (endI [.tmp 4] K):=by
 obtain ⟨X,r0,r1,r2,r3,L,hO,hX,hpl,hr⟩:=id hP
 simp only at hO hX hr
 have e1:=hO.get (i:=p) (x:=prB σst X nodes r0 r1 r2 r3) (by simp)
 unfold prB at e1
 have hb:zcB=zcB:=rfl
 conv at hb => rhs; simp only [zcB,c_jsondoc_parser_begin]
 rw [hb]
 clear hb
 refine zaa fun Y hY => ?_
 by_cases c1:20000 ≤ nodes
 ·rw [if_pos c1] at hk
  have c2:(20000:Int) ≤ (nodes:Int):=by omega
  simp only [sxZ,z6,z7,z8,j4,j5,j6,j7,j8,j9,x0,x3,x4,x5,x6,x7,reduceCtorEq,↓reduceIte,List.getElem?_set,hlen,t0,e1,c2]
  exact hk _ _ (zau (zau hP))
 rw [if_neg c1] at hk
 have c2:¬ (20000:Int) ≤ (nodes:Int):=by omega
 simp only [sxZ,z6,z7,z8,j4,j5,j6,j7,j8,j9,x0,x3,x4,x5,x6,x7,reduceCtorEq,↓reduceIte,List.getElem?_set,hlen,t0,e1,c2]
 subst hY
 refine zaa fun Y hY => ?_
 simp only [sxZ,z6,z7,z8,j4,j5,j6,j7,j8,j9,x0,x3,x4,x5,x6,x7,reduceCtorEq,↓reduceIte,List.getElem?_set,hlen,t0,e1]
 refine ⟨by omega,?_⟩
 have hO2:=hO.set0 (prB σst X (nodes + 1) r0 r1 r2 r3)
 have fold1:OB.box 49 [.i .i64 σst,X,.i .i64 ((nodes:Int) + 1),r0,r1,r2,r3]=prB σst X (nodes + 1) r0 r1 r2 r3:=rfl
 rw [fold1]
 have hP2:PrO ((q,zji k x) :: (q',zcD t) :: M) p ⟨σst,stk,nodes + 1,root⟩ (o.set p (prB σst X (nodes + 1) r0 r1 r2 r3)):=⟨X,r0,r1,r2,r3,L,hO2,hX,hpl,hr⟩
 generalize o.set p (prB σst X (nodes + 1) r0 r1 r2 r3)=o2 at hP2 ⊢
 have e2:=zb2 hP2 (i:=q) (x:=zji k x) (by simp)
 have hNB2:zcn ((q,zji k x) :: (q',zcD t) :: M):=zbW rfl (zbW rfl hNB)
 unfold zji at e2
 subst hY
 refine zaa fun Y hY => ?_
 cases c
 ·rw [if_neg Bool.false_ne_true] at hk
  simp only [sxZ,z6,z7,z8,j4,j5,j6,j7,j8,j9,x0,x3,x4,x5,x6,x7,reduceCtorEq,↓reduceIte,List.getElem?_set,hlen,t0,t5,t6,e2]
  refine zam ?_
  refine weak4 (fun G I v hv => zd2 hv) (weak4' (fun G I v hv => zd2 hv) ?_)
  have ha:=add_k (K:=fun o y => PrO ((q,zji k x) :: (q',zcD t) :: M) p (zcU ⟨σst,stk,nodes + 1,root⟩ (.mk k x [] [])) o ∧ y=.tup []) hP2 (.mk k x [] []) hl hd (fun o ho => ⟨ho,rfl⟩)
  rw [zaj,zaw] at ha
  refine ha.mono ?_
  rintro o3 y ⟨ho,rfl⟩
  simp only [sxZ,z6,z7,z8,j4,j5,j6,j7,j8,j9,x0,x3,x4,x5,x6,x7,reduceCtorEq,↓reduceIte,List.getElem?_set,hlen]
  subst hY
  simp only [sxZ,z6,z7,z8,j4,j5,j6,j7,j8,j9,x0,x3,x4,x5,x6,x7,reduceCtorEq,↓reduceIte,List.getElem?_set,hlen]
  exact hk _ (zau (zau ho))
 ·rw [if_pos rfl] at hk
  obtain ⟨rfl,hk67⟩:=hc rfl
  simp only [sxZ,z6,z7,z8,j4,j5,j6,j7,j8,j9,x0,x3,x4,x5,x6,x7,reduceCtorEq,↓reduceIte,List.getElem?_set,hlen,t0,t5,t6,e2]
  have ha:=open_k (K:=fun o y => PrO ((q,zji k []) :: (q',zcD t) :: M) p (zbP ⟨σst,stk,nodes,root⟩ (decide (k=7))) o ∧ y=.tup []) hP2 (decide (k=7)) hd (fun o ho => ⟨ho,rfl⟩)
  rw [show (if decide (k=7)=true then (7:Int) else 6)=k by rcases hk67 with rfl | rfl <;> rfl] at ha
  refine zam (ha.mono ?_)
  rintro o3 y ⟨ho,rfl⟩
  simp only [sxZ,z6,z7,z8,j4,j5,j6,j7,j8,j9,x0,x3,x4,x5,x6,x7,reduceCtorEq,↓reduceIte,List.getElem?_set,hlen]
  subst hY
  simp only [sxZ,z6,z7,z8,j4,j5,j6,j7,j8,j9,x0,x3,x4,x5,x6,x7,reduceCtorEq,↓reduceIte,List.getElem?_set,hlen]
  exact hk _ (zau (zau ho))
theorem zoL (hNB:zcn M) {p:Nat} {σ:Ms} (hP:PrO M p σ objs) (h67:¬ (σ.st=6 ∨ σ.st=7)) (hl:∀ f ∈ σ.stk,f.its.length ≤ 10000000) (hd:σ.stk.length ≤ 64) (hn:σ.nodes ≤ 20000) (t:Tk) (ht:t.2.1.length ≤ 140737488351232)
  (h0:(zaS σ t).1=0 → ∀ o,PrO M p (zaS σ t).2 o → K o (.i .i64 0)) (h1:¬ (zaS σ t).1=0 → ∀ o σ',PrO M p σ' o → K o (.i .i64 (zaS σ t).1)) :
  zad Tryz.prog 35 [.p p 0,zgW t] objs K:=by
 obtain ⟨σst,stk,nodes,root⟩:=σ
 have hP1:=zhF hP (zcD t)
 refine zcy is_jsondoc_parser_begin fun C _ => ?_
 rw [c_jsondoc_parser_begin]
 refine zaa fun Y hY => ?_
 simp only [zgW,sxZ,z6,z7,z8,j4,j5,j6,j7,j8,j9,x0,x3,x4,x5,x6,x7,reduceCtorEq,↓reduceIte]
 have fold0:OB.box 51 (tkC t)=zcD t:=rfl
 rw [fold0]
 generalize objs ++ [zcD t]=o1 at hP1 ⊢
 have e0:=zb2 hP1 (i:=objs.length) (x:=zcD t) (by simp)
 have hP2:=zhF hP1 (zji (vkE t) [])
 unfold zcD tkC at e0
 subst hY
 refine zaa fun Y hY => ?_
 simp only [sxZ,z6,z7,z8,j4,j5,j6,j7,j8,j9,x0,x3,x4,x5,x6,x7,reduceCtorEq,↓reduceIte,e0]
 refine zam (zir t ?_)
 simp only [sxZ,z6,z7,z8,j4,j5,j6,j7,j8,j9,x0,x3,x4,x5,x6,x7,reduceCtorEq,↓reduceIte,gn1,sn1]
 have fold1:OB.box 26 [.i .i64 (vkE t),.s [],.nil,.nil]=zji (vkE t) []:=rfl
 rw [fold1]
 generalize o1 ++ [zji (vkE t) []]=o2 at hP2 ⊢
 have e1:=zb2 hP2 (i:=o1.length) (x:=zji (vkE t) []) (by simp)
 have e2:=zb2 hP2 (i:=objs.length) (x:=zcD t) (by simp)
 unfold zji at e1
 unfold zcD tkC at e2
 subst hY
 refine zaa fun Y hY => ?_
 simp only at h67 hl hd hn
 obtain ⟨X,r0,r1,r2,r3,L,hO,hX,hpl,hr⟩:=id hP2
 have e3:=hO.get (i:=p) (x:=prB σst X nodes r0 r1 r2 r3) (by simp)
 unfold prB at e3
 simp only at hX
 have hXl:=pr_len hX
 have leafK:∀ (k:Int) (x:List UInt8),vkE t=k → ¬ k=0 → ¬ (k=6 ∨ k=7) → zgm t=(0,x) → if 20000 ≤ nodes then ∀ o σ',PrO M p σ' o → K o (.i .i64 142) else if false=true then ∀ o,PrO M p (zbP ⟨σst,stk,nodes,root⟩ (decide (k=7))) o → K o (.i .i64 0) else ∀ o,PrO M p (zcU ⟨σst,stk,nodes + 1,root⟩ (.mk k x [] [])) o → K o (.i .i64 0):=by
  intro k x hk hk0 hk67 hx
  unfold zaS at h0 h1
  rw [hk,if_neg hk0,if_neg hk67,hx] at h0 h1
  simp only [not_true_eq_false,if_false] at h0 h1
  split
  ·rename_i c
   rw [if_pos c] at h1
   exact h1 (by simp)
  ·rename_i c
   rw [if_neg c] at h0
   rw [if_neg Bool.false_ne_true]
   exact h0 rfl
 rcases vk_val t with hv | hv | hv | hv | hv | hv | hv | hv
 ·rw [hv] at e1
  have hb:zaS ⟨σst,stk,nodes,root⟩ t=(140,⟨σst,stk,nodes,root⟩):=by unfold zaS; rw [if_pos hv]
  rw [hb] at h1
  simp only [sxZ,z6,z7,z8,j4,j5,j6,j7,j8,j9,x0,x3,x4,x5,x6,x7,reduceCtorEq,↓reduceIte,e1]
  subst hY
  refine zaa fun Y hY => ?_
  simp only [sxZ,z6,z7,z8,j4,j5,j6,j7,j8,j9,x0,x3,x4,x5,x6,x7,reduceCtorEq,↓reduceIte,e1]
  exact h1 (by simp) _ _ (zau (zau hP2))
 ·rw [hv] at e1 hP2
  simp only [sxZ,z6,z7,z8,j4,j5,j6,j7,j8,j9,x0,x3,x4,x5,x6,x7,reduceCtorEq,↓reduceIte,e1]
  subst hY
  refine zaa fun Y hY => ?_
  simp only [sxZ,z6,z7,z8,j4,j5,j6,j7,j8,j9,x0,x3,x4,x5,x6,x7,reduceCtorEq,↓reduceIte,e1]
  obtain rfl:Y=zcB:=hY
  exact zbT hNB hP2 h67 hl hd hn rfl rfl rfl false rfl (fun h => by cases h) (leafK 1 [] hv (by decide) (by decide) (by unfold zgm; rw [hv]; rfl))
 ·rw [hv] at e1 hP2
  simp only [sxZ,z6,z7,z8,j4,j5,j6,j7,j8,j9,x0,x3,x4,x5,x6,x7,reduceCtorEq,↓reduceIte,e1]
  subst hY
  refine zaa fun Y hY => ?_
  simp only [sxZ,z6,z7,z8,j4,j5,j6,j7,j8,j9,x0,x3,x4,x5,x6,x7,reduceCtorEq,↓reduceIte,e1]
  obtain rfl:Y=zcB:=hY
  exact zbT hNB hP2 h67 hl hd hn rfl rfl rfl false rfl (fun h => by cases h) (leafK 2 [] hv (by decide) (by decide) (by unfold zgm; rw [hv]; rfl))
 ·rw [hv] at e1 hP2
  simp only [sxZ,z6,z7,z8,j4,j5,j6,j7,j8,j9,x0,x3,x4,x5,x6,x7,reduceCtorEq,↓reduceIte,e1]
  subst hY
  refine zaa fun Y hY => ?_
  simp only [sxZ,z6,z7,z8,j4,j5,j6,j7,j8,j9,x0,x3,x4,x5,x6,x7,reduceCtorEq,↓reduceIte,e1]
  obtain rfl:Y=zcB:=hY
  exact zbT hNB hP2 h67 hl hd hn rfl rfl rfl false rfl (fun h => by cases h) (leafK 3 [] hv (by decide) (by decide) (by unfold zgm; rw [hv]; rfl))
 ·rw [hv] at e1 hP2
  simp only [sxZ,z6,z7,z8,j4,j5,j6,j7,j8,j9,x0,x3,x4,x5,x6,x7,reduceCtorEq,↓reduceIte,e1]
  subst hY
  refine zaa fun Y hY => ?_
  simp only [sxZ,z6,z7,z8,j4,j5,j6,j7,j8,j9,x0,x3,x4,x5,x6,x7,reduceCtorEq,↓reduceIte,e1,e2]
  refine zam (number_e t.2.1 ht ?_)
  have hx:zgm t=zcL t.2.1:=by unfold zgm; rw [if_pos hv]
  by_cases c1:(zcL t.2.1).1=0
  ·simp only [sxZ,z6,z7,z8,j4,j5,j6,j7,j8,j9,x0,x3,x4,x5,x6,x7,reduceCtorEq,↓reduceIte,c1,e1]
   obtain rfl:Y=zcB:=hY
   exact zbT hNB (pr_set hP2 (zji 4 (zcL t.2.1).2)) h67 hl hd hn rfl rfl rfl false rfl (fun h => by cases h) (leafK 4 _ hv (by decide) (by decide) (by rw [hx]; exact Prod.ext c1 rfl))
  ·have hb:zaS ⟨σst,stk,nodes,root⟩ t=((zcL t.2.1).1,⟨σst,stk,nodes,root⟩):=by unfold zaS; rw [hv,if_neg (by decide),if_neg (by decide),hx,if_pos c1]
   rw [hb] at h1
   simp only [sxZ,z6,z7,z8,j4,j5,j6,j7,j8,j9,x0,x3,x4,x5,x6,x7,reduceCtorEq,↓reduceIte,c1]
   exact h1 c1 _ _ (zau (zau hP2))
 ·rw [hv] at e1 hP2
  simp only [sxZ,z6,z7,z8,j4,j5,j6,j7,j8,j9,x0,x3,x4,x5,x6,x7,reduceCtorEq,↓reduceIte,e1]
  subst hY
  refine zaa fun Y hY => ?_
  simp only [sxZ,z6,z7,z8,j4,j5,j6,j7,j8,j9,x0,x3,x4,x5,x6,x7,reduceCtorEq,↓reduceIte,e1,e2]
  obtain rfl:Y=zcB:=hY
  exact zbT hNB (pr_set hP2 (zji 5 t.2.1)) h67 hl hd hn rfl rfl rfl false rfl (fun h => by cases h) (leafK 5 _ hv (by decide) (by decide) (by unfold zgm; rw [hv]; rfl))
 ·rw [hv] at e1 hP2
  unfold zaS at h0 h1
  rw [hv,if_neg (by decide),if_pos (by decide)] at h0 h1
  simp only at h0 h1
  rcases hXl with ⟨rfl,rfl⟩ | ⟨rr,g,cs,rfl,hmem⟩
  ·simp only [sxZ,z6,z7,z8,j4,j5,j6,j7,j8,j9,x0,x3,x4,x5,x6,x7,reduceCtorEq,↓reduceIte,e1]
   subst hY
   refine zaa fun Y hY => ?_
   simp only [sxZ,z6,z7,z8,j4,j5,j6,j7,j8,j9,x0,x3,x4,x5,x6,x7,reduceCtorEq,↓reduceIte,e1,e3]
   obtain rfl:Y=zcB:=hY
   refine zbT hNB hP2 h67 hl hd hn rfl rfl rfl true rfl (fun h => ⟨rfl,by decide⟩) ?_
   rw [if_neg (by decide)] at h0 h1
   split
   ·rename_i c
    rw [if_pos c] at h1
    exact h1 (by simp)
   ·rename_i c
    rw [if_neg c] at h0
    rw [if_pos rfl]
    exact h0 rfl
  ·have e4:=hO.get (i:=rr) (x:=.orow 90 5 g stk.length cs) (by simp [hmem])
   simp only [sxZ,z6,z7,z8,j4,j5,j6,j7,j8,j9,x0,x3,x4,x5,x6,x7,reduceCtorEq,↓reduceIte,e1]
   subst hY
   refine zaa fun Y hY => ?_
   by_cases c1:64 ≤ stk.length
   ·rw [if_pos c1] at h1
    have c2:(64:Int) ≤ (stk.length:Int):=by omega
    simp only [sxZ,z6,z7,z8,j4,j5,j6,j7,j8,j9,x0,x3,x4,x5,x6,x7,reduceCtorEq,↓reduceIte,e1,e3,e4,c2]
    exact h1 (by simp) _ _ (zau (zau hP2))
   rw [if_neg c1] at h0 h1
   have c2:¬ (64:Int) ≤ (stk.length:Int):=by omega
   simp only [sxZ,z6,z7,z8,j4,j5,j6,j7,j8,j9,x0,x3,x4,x5,x6,x7,reduceCtorEq,↓reduceIte,e1,e3,e4,c2]
   obtain rfl:Y=zcB:=hY
   refine zbT hNB hP2 h67 hl hd hn rfl rfl rfl true rfl (fun h => ⟨rfl,by decide⟩) ?_
   split
   ·rename_i c
    rw [if_pos c] at h1
    exact h1 (by simp)
   ·rename_i c
    rw [if_neg c] at h0
    rw [if_pos rfl]
    exact h0 rfl
 ·rw [hv] at e1 hP2
  unfold zaS at h0 h1
  rw [hv,if_neg (by decide),if_pos (by decide)] at h0 h1
  simp only at h0 h1
  rcases hXl with ⟨rfl,rfl⟩ | ⟨rr,g,cs,rfl,hmem⟩
  ·simp only [sxZ,z6,z7,z8,j4,j5,j6,j7,j8,j9,x0,x3,x4,x5,x6,x7,reduceCtorEq,↓reduceIte,e1]
   subst hY
   refine zaa fun Y hY => ?_
   simp only [sxZ,z6,z7,z8,j4,j5,j6,j7,j8,j9,x0,x3,x4,x5,x6,x7,reduceCtorEq,↓reduceIte,e1,e3]
   obtain rfl:Y=zcB:=hY
   refine zbT hNB hP2 h67 hl hd hn rfl rfl rfl true rfl (fun h => ⟨rfl,by decide⟩) ?_
   rw [if_neg (by decide)] at h0 h1
   split
   ·rename_i c
    rw [if_pos c] at h1
    exact h1 (by simp)
   ·rename_i c
    rw [if_neg c] at h0
    rw [if_pos rfl]
    exact h0 rfl
  ·have e4:=hO.get (i:=rr) (x:=.orow 90 5 g stk.length cs) (by simp [hmem])
   simp only [sxZ,z6,z7,z8,j4,j5,j6,j7,j8,j9,x0,x3,x4,x5,x6,x7,reduceCtorEq,↓reduceIte,e1]
   subst hY
   refine zaa fun Y hY => ?_
   by_cases c1:64 ≤ stk.length
   ·rw [if_pos c1] at h1
    have c2:(64:Int) ≤ (stk.length:Int):=by omega
    simp only [sxZ,z6,z7,z8,j4,j5,j6,j7,j8,j9,x0,x3,x4,x5,x6,x7,reduceCtorEq,↓reduceIte,e1,e3,e4,c2]
    exact h1 (by simp) _ _ (zau (zau hP2))
   rw [if_neg c1] at h0 h1
   have c2:¬ (64:Int) ≤ (stk.length:Int):=by omega
   simp only [sxZ,z6,z7,z8,j4,j5,j6,j7,j8,j9,x0,x3,x4,x5,x6,x7,reduceCtorEq,↓reduceIte,e1,e3,e4,c2]
   obtain rfl:Y=zcB:=hY
   refine zbT hNB hP2 h67 hl hd hn rfl rfl rfl true rfl (fun h => ⟨rfl,by decide⟩) ?_
   split
   ·rename_i c
    rw [if_pos c] at h1
    exact h1 (by simp)
   ·rename_i c
    rw [if_neg c] at h0
    rw [if_pos rfl]
    exact h0 rfl
theorem take_k (hNB:zcn M) {p a:Nat} {σ:Ms} (hP:PrO M p σ objs) (hw:WfM σ a) (ha:a ≤ 10000000) (h7:¬ σ.st=7) (t:Tk) (ht:t.2.1.length ≤ 140737488351232)
  (h0:(zar σ t).1=0 → ∀ o,PrO M p (zar σ t).2 o → K o (.i .i64 0)) (h1:¬ (zar σ t).1=0 → ∀ o σ',PrO M p σ' o → K o (.i .i64 (zar σ t).1)) :
  zad Tryz.prog 22 [.p p 0,zgW t] objs K:=by
 have hl:∀ f ∈ σ.stk,f.its.length ≤ 10000000:=fun f hf => by have:=(hw.len f hf).2; omega
 have hlk:∀ f ∈ σ.stk,f.ks.length ≤ 10000000:=fun f hf => by have:=(hw.len f hf).1; omega
 have hd:=hw.deep
 have hn:=hw.few
 have hP1:=zhF hP (zcD t)
 have hNB':zcn ((objs.length,zcD t) :: M):=zbW rfl hNB
 have hq:∀ o,zad Tryz.prog 39 [.agg [.i .i64 t.1,.s t.2.1,.i .i64 t.2.2],.s [58]] o (fun o' r => o'=o ∧ r=.b (isP t 58)):=fun o => zd5 t 58 ⟨rfl,rfl⟩
 refine zcy is_jsondoc_parser_take fun C _ => ?_
 rw [c_jsondoc_parser_take]
 refine zaa fun Y hY => ?_
 simp only [zgW,sxZ,z6,z7,z8,j4,j5,j6,j7,j8,j9,x0,x3,x4,x5,x6,x7,reduceCtorEq,↓reduceIte]
 have fold0:OB.box 51 (tkC t)=zcD t:=rfl
 rw [fold0]
 generalize objs ++ [zcD t]=o1 at hP1 ⊢
 have e0:=zb2 hP1 (i:=objs.length) (x:=zcD t) (by simp)
 unfold zcD tkC at e0
 obtain ⟨X,r0,r1,r2,r3,L,hO,hX,hpl,hr⟩:=id hP1
 have e1:=hO.get (i:=p) (x:=prB σ.st X σ.nodes r0 r1 r2 r3) (by simp)
 unfold prB at e1
 unfold zar at h0 h1
 have setst:∀ s':Int,¬ (s'=6 ∨ s'=7) ∨ (s'=7 ∧ σ.st=6) → PrO M p ⟨s',σ.stk,σ.nodes,σ.root⟩ (o1.set p (.box 49 [.i .i64 s',X,.i .i64 (σ.nodes:Int),r0,r1,r2,r3])):=fun s' hs' =>
  zau (z:=(objs.length,zcD t)) ⟨X,r0,r1,r2,r3,L,hO.set0 (prB s' X σ.nodes r0 r1 r2 r3),hX,hpl,fun h => by
   rcases hs' with h' | ⟨_,h'⟩
   ·exact absurd h h'
   ·exact hr (.inl h')⟩
 subst hY
 refine zaa fun Y hY => ?_
 by_cases c0:σ.st=0
 ·rw [if_pos c0] at h0 h1
  simp only [sxZ,z6,z7,z8,j4,j5,j6,j7,j8,j9,x0,x3,x4,x5,x6,x7,reduceCtorEq,↓reduceIte,e0,e1,c0]
  refine zam (zoL hNB' hP1 (by omega) hl hd hn t ht (fun h o ho => ?_) (fun h o σ' ho => ?_))
  ·simp only [sxZ,z6,z7,z8,j4,j5,j6,j7,j8,j9,x0,x3,x4,x5,x6,x7,reduceCtorEq,↓reduceIte]
   exact h0 h _ (zau ho)
  ·simp only [sxZ,z6,z7,z8,j4,j5,j6,j7,j8,j9,x0,x3,x4,x5,x6,x7,reduceCtorEq,↓reduceIte]
   exact h1 h _ _ (zau ho)
 rw [if_neg c0] at h0 h1
 have key3:σ.st=1 ∨ σ.st=3 → ∃ f r,σ.stk=f :: r:=fun h => by
  have:=hw.top (by omega)
  cases hs:σ.stk with
  | nil => exact absurd hs this
  | cons f r => exact ⟨f,r,rfl⟩
 by_cases c1:σ.st=1
 ·rw [if_pos c1] at h0 h1
  obtain ⟨f,r,hs⟩:=key3 (.inl c1)
  have hrl:r.length ≤ 63:=by rw [hs] at hd; simpa using hd
  simp only [sxZ,z6,z7,z8,j4,j5,j6,j7,j8,j9,x0,x3,x4,x5,x6,x7,reduceCtorEq,↓reduceIte,e0,e1,c0,c1]
  refine zam (zfo hP1 hs (by omega) t fun o2 ho => ?_)
  cases hc:zdL σ t
  rotate_left
  ·rw [if_pos hc] at h0
   simp only [sxZ,z6,z7,z8,j4,j5,j6,j7,j8,j9,x0,x3,x4,x5,x6,x7,reduceCtorEq,↓reduceIte]
   refine zam (zi5 hNB' ho hs (by omega) hl hd fun o3 ho3 => ?_)
   simp only [sxZ,z6,z7,z8,j4,j5,j6,j7,j8,j9,x0,x3,x4,x5,x6,x7,reduceCtorEq,↓reduceIte]
   exact h0 rfl _ (zau ho3)
  rw [if_neg (by rw [hc]; exact Bool.false_ne_true)] at h0 h1
  have g0:=zb2 ho (i:=objs.length) (x:=zcD t) (by simp)
  unfold zcD tkC at g0
  obtain ⟨X',u0,u1,u2,u3,L',hO',_,_,_⟩:=id ho
  have g1:=hO'.get (i:=p) (x:=prB σ.st X' σ.nodes u0 u1 u2 u3) (by simp)
  unfold prB at g1
  simp only [sxZ,z6,z7,z8,j4,j5,j6,j7,j8,j9,x0,x3,x4,x5,x6,x7,reduceCtorEq,↓reduceIte,g0,g1,c1]
  refine zam (zoL hNB' ho (by omega) hl hd hn t ht (fun h o ho => ?_) (fun h o σ' ho => ?_))
  ·simp only [sxZ,z6,z7,z8,j4,j5,j6,j7,j8,j9,x0,x3,x4,x5,x6,x7,reduceCtorEq,↓reduceIte]
   exact h0 h _ (zau ho)
  ·simp only [sxZ,z6,z7,z8,j4,j5,j6,j7,j8,j9,x0,x3,x4,x5,x6,x7,reduceCtorEq,↓reduceIte]
   exact h1 h _ _ (zau ho)
 rw [if_neg c1] at h0 h1
 by_cases c3:σ.st=3
 ·rw [if_pos c3] at h0 h1
  obtain ⟨f,r,hs⟩:=key3 (.inr c3)
  have hrl:r.length ≤ 63:=by rw [hs] at hd; simpa using hd
  simp only [sxZ,z6,z7,z8,j4,j5,j6,j7,j8,j9,x0,x3,x4,x5,x6,x7,reduceCtorEq,↓reduceIte,e0,e1,c0,c1,c3]
  refine zam (zfo hP1 hs (by omega) t fun o2 ho => ?_)
  cases hc:zdL σ t
  rotate_left
  ·rw [if_pos hc] at h0
   simp only [sxZ,z6,z7,z8,j4,j5,j6,j7,j8,j9,x0,x3,x4,x5,x6,x7,reduceCtorEq,↓reduceIte]
   refine zam (zi5 hNB' ho hs (by omega) hl hd fun o3 ho3 => ?_)
   simp only [sxZ,z6,z7,z8,j4,j5,j6,j7,j8,j9,x0,x3,x4,x5,x6,x7,reduceCtorEq,↓reduceIte]
   exact h0 rfl _ (zau ho3)
  rw [if_neg (by rw [hc]; exact Bool.false_ne_true)] at h0 h1
  have g0:=zb2 ho (i:=objs.length) (x:=zcD t) (by simp)
  unfold zcD tkC at g0
  obtain ⟨X',u0,u1,u2,u3,L',hO',_,_,_⟩:=id ho
  have g1:=hO'.get (i:=p) (x:=prB σ.st X' σ.nodes u0 u1 u2 u3) (by simp)
  unfold prB at g1
  simp only [sxZ,z6,z7,z8,j4,j5,j6,j7,j8,j9,x0,x3,x4,x5,x6,x7,reduceCtorEq,↓reduceIte,g0,g1,c1,c3]
  refine zam (zkP ho hs (hw.obj (by omega) f r hs) (hlk f (by rw [hs]; simp)) hd t ht (fun h o ho => ?_) (fun h o σ' ho => ?_))
  ·simp only [sxZ,z6,z7,z8,j4,j5,j6,j7,j8,j9,x0,x3,x4,x5,x6,x7,reduceCtorEq,↓reduceIte]
   exact h0 h _ (zau ho)
  ·simp only [sxZ,z6,z7,z8,j4,j5,j6,j7,j8,j9,x0,x3,x4,x5,x6,x7,reduceCtorEq,↓reduceIte]
   exact h1 h _ _ (zau ho)
 rw [if_neg c3] at h0 h1
 by_cases c2:σ.st=2
 ·rw [if_pos c2] at h0 h1
  obtain ⟨f,r,hs⟩:∃ f r,σ.stk=f :: r:=by
   have:=hw.top (by omega)
   cases hs:σ.stk with
   | nil => exact absurd hs this
   | cons f r => exact ⟨f,r,rfl⟩
  simp only [sxZ,z6,z7,z8,j4,j5,j6,j7,j8,j9,x0,x3,x4,x5,x6,x7,reduceCtorEq,↓reduceIte,e0,e1,c2]
  refine zam (zkP hP1 hs (hw.obj (by omega) f r hs) (hlk f (by rw [hs]; simp)) hd t ht (fun h o ho => ?_) (fun h o σ' ho => ?_))
  ·simp only [sxZ,z6,z7,z8,j4,j5,j6,j7,j8,j9,x0,x3,x4,x5,x6,x7,reduceCtorEq,↓reduceIte]
   exact h0 h _ (zau ho)
  ·simp only [sxZ,z6,z7,z8,j4,j5,j6,j7,j8,j9,x0,x3,x4,x5,x6,x7,reduceCtorEq,↓reduceIte]
   exact h1 h _ _ (zau ho)
 rw [if_neg c2] at h0 h1
 by_cases c4:σ.st=4
 ·rw [if_pos c4] at h0 h1
  simp only [sxZ,z6,z7,z8,j4,j5,j6,j7,j8,j9,x0,x3,x4,x5,x6,x7,reduceCtorEq,↓reduceIte,e0,e1,c4]
  refine zam ((hq o1).mono ?_)
  rintro o3 x ⟨rfl,rfl⟩
  cases hp:isP t 58
  ·rw [if_neg (by rw [hp]; exact Bool.false_ne_true)] at h1
   simp only [sxZ,z6,z7,z8,j4,j5,j6,j7,j8,j9,x0,x3,x4,x5,x6,x7,reduceCtorEq,↓reduceIte]
   subst hY
   simp only [sxZ,z6,z7,z8,j4,j5,j6,j7,j8,j9,x0,x3,x4,x5,x6,x7,reduceCtorEq,↓reduceIte]
   exact h1 (by simp) _ _ (zau hP1)
  ·rw [if_pos hp] at h0
   simp only [sxZ,z6,z7,z8,j4,j5,j6,j7,j8,j9,x0,x3,x4,x5,x6,x7,reduceCtorEq,↓reduceIte,e1]
   exact h0 rfl _ (setst 0 (.inl (by decide)))
 rw [if_neg c4] at h0 h1
 by_cases c5:σ.st=5
 ·rw [if_pos c5] at h0 h1
  obtain ⟨f,r,hs⟩:∃ f r,σ.stk=f :: r:=by
   have:=hw.top (by omega)
   cases hs:σ.stk with
   | nil => exact absurd hs this
   | cons f r => exact ⟨f,r,rfl⟩
  simp only [sxZ,z6,z7,z8,j4,j5,j6,j7,j8,j9,x0,x3,x4,x5,x6,x7,reduceCtorEq,↓reduceIte,e0,e1,c5]
  refine zam (goOn_k hNB' hP1 hs (by omega) hl hd t (fun h o ho => ?_) (fun h o σ' ho => ?_))
  ·simp only [sxZ,z6,z7,z8,j4,j5,j6,j7,j8,j9,x0,x3,x4,x5,x6,x7,reduceCtorEq,↓reduceIte]
   exact h0 h _ (zau ho)
  ·simp only [sxZ,z6,z7,z8,j4,j5,j6,j7,j8,j9,x0,x3,x4,x5,x6,x7,reduceCtorEq,↓reduceIte]
   exact h1 h _ _ (zau ho)
 rw [if_neg c5] at h0 h1
 by_cases c6:σ.st=6
 ·rw [if_pos c6] at h0 h1
  by_cases c7:t.1=1
  ·rw [if_pos c7] at h0
   simp only [sxZ,z6,z7,z8,j4,j5,j6,j7,j8,j9,x0,x3,x4,x5,x6,x7,reduceCtorEq,↓reduceIte,e0,e1,c6,c7]
   exact h0 rfl _ (setst 7 (.inr ⟨rfl,c6⟩))
  ·rw [if_neg c7] at h1
   simp only [sxZ,z6,z7,z8,j4,j5,j6,j7,j8,j9,x0,x3,x4,x5,x6,x7,reduceCtorEq,↓reduceIte,e0,e1,c6,c7]
   subst hY
   simp only [sxZ,z6,z7,z8,j4,j5,j6,j7,j8,j9,x0,x3,x4,x5,x6,x7,reduceCtorEq,↓reduceIte]
   exact h1 (by simp) _ _ (zau hP1)
 rw [if_neg c6] at h1
 simp only [sxZ,z6,z7,z8,j4,j5,j6,j7,j8,j9,x0,x3,x4,x5,x6,x7,reduceCtorEq,↓reduceIte,e0,e1,c0,c1,c2,c3,c4,c5,c6]
 subst hY
 simp only [sxZ,z6,z7,z8,j4,j5,j6,j7,j8,j9,x0,x3,x4,x5,x6,x7,reduceCtorEq,↓reduceIte]
 exact h1 (by simp) _ _ (zau hP1)
end
end
section
attribute [local irreducible] run
theorem WfM.mono {σ:Ms} {a b:Nat} (h:WfM σ a) (hab:a ≤ b):WfM σ b:=⟨h.top,h.obj,fun f hf => by have:=h.len f hf; omega,h.deep,h.few⟩
theorem zfn {t:Tk} (h:t.1=1) (c:UInt8):isP t c=false:=by simp [isP,h]
theorem take_end {σ:Ms} {t:Tk} (h:t.1=1) (h0:(zar σ t).1=0):(zar σ t).2.st=7:=by
 have hv:vkE t=0:=by
  have h1:=zfn h 91
  have h2:=zfn h 123
  simp [vkE,h,h1,h2]
 have hb:(zaS σ t).1=140:=by unfold zaS; rw [if_pos hv]
 have hcl:zdL σ t=false:=by
  unfold zdL
  split
  ·rfl
  ·exact zfn h _
 have hky:¬ (zil σ t).1=0:=by
  unfold zil
  split
  ·simp
  ·rw [if_pos (by omega)]; simp
 have hon:¬ (onM σ t).1=0:=by
  unfold onM
  split
  ·simp
  ·rw [hcl,zfn h]; simp
 unfold zar at h0 ⊢
 rw [hcl,zfn h] at h0 ⊢
 simp only [Bool.false_eq_true,if_false] at h0 ⊢
 by_cases c0:σ.st=0
 ·rw [if_pos c0] at h0; rw [hb] at h0; cases h0
 rw [if_neg c0] at h0 ⊢
 by_cases c1:σ.st=1
 ·rw [if_pos c1] at h0; rw [hb] at h0; cases h0
 rw [if_neg c1] at h0 ⊢
 by_cases c3:σ.st=3
 ·rw [if_pos c3] at h0; exact absurd h0 hky
 rw [if_neg c3] at h0 ⊢
 by_cases c2:σ.st=2
 ·rw [if_pos c2] at h0; exact absurd h0 hky
 rw [if_neg c2] at h0 ⊢
 by_cases c4:σ.st=4
 ·rw [if_pos c4] at h0; cases h0
 rw [if_neg c4] at h0 ⊢
 by_cases c5:σ.st=5
 ·rw [if_pos c5] at h0; exact absurd h0 hon
 rw [if_neg c5] at h0 ⊢
 by_cases c6:σ.st=6
 ·rw [if_pos c6,if_pos h]
 ·rw [if_neg c6] at h0; cases h0
theorem jres {P:Program} [Tabs P] {f:FuncId} {args:List AV} {objs:List OB} {K:List OB → AV → Prop} (r':AV) (hc:zad P f args objs (fun o r => (∀ G I y,Den G I r y → Den G I r' y) ∧ K o r')):zad P f args objs K:=by
 intro C _ G I w hin hm ys hd
 refine (hc C G I w hin hm ys hd).mono ?_
 rintro e w' ⟨y,objs',r,G',I',he,⟨hr,hk⟩,h1,h2,h3,h4,hy⟩
 exact ⟨y,objs',r',G',I',he,hk,h1,h2,h3,h4,hr _ _ _ hy⟩
def zvC:List AV:=[.i .i64 0,.s [],.nil,.nil]
def zdY (R:JV × Int × Int):AV:=.tup [.agg (zaj R.1),.i .i64 R.2.1,.i .i64 R.2.2]
theorem den_zv {a e:Int} {G:Gh} {I:Imm} {y:Value} (h:Den G I (.tup [.agg zvC,.i .i64 a,.i .i64 e]) y):Den G I (zdY (jvZ,a,e)) y:=by
 unfold zdY jvZ
 rw [zaj,zaw]
 unfold zvC at h
 simp only [zag,Den] at h ⊢
 obtain ⟨ys,h1,y0,l0,rfl,⟨zs,rfl,⟨z0,m0,rfl,q0,z1,m1,rfl,q1,z2,m2,rfl,q2,z3,m3,rfl,q3,q4⟩,hz⟩,h2⟩:=h
 refine ⟨_,h1,_,_,rfl,⟨_,rfl,⟨_,_,rfl,q0,_,_,rfl,q1,_,_,rfl,?_,_,_,rfl,?_,q4⟩,hz⟩,h2⟩
 ·exact ⟨none,0,[],q2,⟨Nat.le_refl _,fun ad h => by cases h⟩,rfl,by simp,by simp⟩
 ·exact ⟨none,0,[],q3,⟨Nat.le_refl _,fun ad h => by cases h⟩,rfl,by simp,by simp⟩
section
variable [Tabs Tryz.prog] [Pow Tryz.prog] [Utf Tryz.prog] {objs:List OB} {K:List OB → AV → Prop}
theorem zeU (s:List UInt8) (hs:s.length ≤ 140737488351232) (hk:K objs (zdY (zbs s))):zad Tryz.prog 9 [.s s] objs K:=by
 refine jres (zdY (zbs s)) ?_
 refine zaX is_jsondoc_Parse rfl fun C _ => ?_
 have fin:∀ {o:List OB} {a e:Int},zbs s=(jvZ,a,e) → ((∀ G I y,Den G I (.tup [.agg zvC,.i .i64 a,.i .i64 e]) y → Den G I (zdY (zbs s)) y) ∧ K objs (zdY (zbs s))):=fun {o a e} h => ⟨fun G I y hy => by rw [h]; exact den_zv hy,hk⟩
 rw [c_jsondoc_Parse]
 refine zaa fun Y hY => ?_
 simp only [sxZ,z6,z7,z8,j4,j5,j6,j7,j8,j9,x0,x3,x4,x5,x6,x7,reduceCtorEq,↓reduceIte]
 subst hY
 refine zaa fun Y hY => ?_
 by_cases c1:(1048576:Int) < s.length
 ·simp only [sxZ,z6,z7,z8,j4,j5,j6,j7,j8,j9,x0,x3,x4,x5,x6,x7,reduceCtorEq,↓reduceIte,c1]
  exact fin (o:=[]) (by unfold zbs; rw [if_pos (by omega)])
 have hs':s.length ≤ 1048576:=by omega
 simp only [sxZ,z6,z7,z8,j4,j5,j6,j7,j8,j9,x0,x3,x4,x5,x6,x7,reduceCtorEq,↓reduceIte,c1]
 subst hY
 refine zaa fun Y hY => ?_
 simp only [sxZ,z6,z7,z8,j4,j5,j6,j7,j8,j9,x0,x3,x4,x5,x6,x7,reduceCtorEq,↓reduceIte]
 subst hY
 refine zaa fun Y hY => ?_
 simp only [sxZ,z6,z7,z8,j4,j5,j6,j7,j8,j9,x0,x3,x4,x5,x6,x7,reduceCtorEq,↓reduceIte]
 subst hY
 refine zaa fun Y hY => ?_
 simp only [sxZ,z6,z7,z8,j4,j5,j6,j7,j8,j9,x0,x3,x4,x5,x6,x7,reduceCtorEq,↓reduceIte]
 have hNB:zcn [(0,OB.box 26 zvC)]:=zbW rfl (fun z hz => by cases hz)
 have last:∀ (σ:Ms) (a:Nat) (o:List OB) (tm:List AV),PrO [(0,.box 26 zvC)] 1 σ o → σ.st=7 → MRes s 0 ms0 (σ.root,(a:Int),0) → tm.length=42 → tm[2]? = some (.p 0 0) → tm[5]? = some (.p 1 0) → tm[6]? = some (.i .i64 (a:Int)) →
   run Tryz.prog C [.code Y] o tm (endK [.celln 2 4,.tmp 3,.tmp 4] fun r => (∀ G I y,Den G I r y → Den G I (zdY (zbs s)) y) ∧ K objs (zdY (zbs s))):=by
  intro σ a o tm hP h7 hR hlen t2 t5 t6
  have e:=zeS hs' hR
  obtain ⟨X,r0,r1,r2,r3,L,hO,hX,hpl,hr⟩:=id hP
  have hroot:=hr (.inr h7)
  have g0:=zb2 hP (i:=0) (x:=.box 26 zvC) (by simp)
  have g1:=hO.get (i:=1) (x:=prB σ.st X σ.nodes r0 r1 r2 r3) (by simp)
  have hlt:=pr_lt hP (i:=0) (x:=.box 26 zvC) (by simp)
  have gs:∀ x,(o.set 0 x)[0]? = some x:=fun x => List.getElem?_set_self hlt
  unfold prB at g1
  unfold zvC at g0
  subst hY
  simp only [sxZ,z6,z7,z8,j4,j5,j6,j7,j8,j9,x0,x3,x4,x5,x6,x7,reduceCtorEq,↓reduceIte,List.getElem?_set,hlen,t2,t5,t6,g0,g1,gs]
  rw [zal] at hroot
  injection hroot with q0 hroot
  injection hroot with q1 hroot
  injection hroot with q2 hroot
  injection hroot with q3 _
  subst q0 q1 q2 q3
  simp only [pub,AV.plain,zaN,zcv,sxZ,z6,z7,z8,j4,j5,j6,j7,j8,j9,x0,x3,x4,x5,x6,x7,reduceCtorEq,↓reduceIte]
  refine ⟨fun G I y hy => ?_,hk⟩
  rw [← e,zdY,zal]
  exact hy
 refine zaE (fun n o tm => ∃ (σ:Ms) (a c:Nat),n=(if σ.st=7 then 0 else s.length - a + 1) ∧ PrO [(0,.box 26 zvC)] 1 σ o ∧ WfM σ c ∧ a ≤ s.length ∧ (σ.st=7 ∨ c ≤ a) ∧ (∀ R,MRes s a σ R → MRes s 0 ms0 R) ∧
   tm.length=42 ∧ tm[0]? = some (.s s) ∧ tm[2]? = some (.p 0 0) ∧ tm[5]? = some (.p 1 0) ∧ tm[6]? = some (.i .i64 (a:Int))) (s.length + 1) ⟨ms0,0,0,by rw [if_neg (by decide),Nat.sub_zero],?_,wf0 0,Nat.zero_le _,.inr (Nat.le_refl _),fun R h => h,rfl,rfl,rfl,rfl,rfl⟩ ?_
 ·exact ⟨.nil,.i .i64 0,.s [],.nil,.nil,[(0,.box 26 zvC)],⟨by simp,fun x hx => by
   simp only [List.mem_cons,List.not_mem_nil,or_false] at hx
   rcases hx with rfl | rfl <;> rfl⟩,.inl ⟨rfl,rfl,rfl⟩,rfl,fun h => by rcases h with h | h <;> cases h⟩
 rintro n o tm ⟨σ,a,c,rfl,hP,hw,hal,hca,hM,hlen,t0,t2,t5,t6⟩
 obtain ⟨X,r0,r1,r2,r3,L,hO,hX,hpl,hr⟩:=id hP
 have e1:=hO.get (i:=1) (x:=prB σ.st X σ.nodes r0 r1 r2 r3) (by simp)
 unfold prB at e1
 refine zaa fun Z hZ => ?_
 by_cases c7:σ.st=7
 ·simp only [sxZ,z6,z7,z8,j4,j5,j6,j7,j8,j9,x0,x3,x4,x5,x6,x7,reduceCtorEq,↓reduceIte,List.getElem?_set,hlen,t5,e1,c7]
  refine last σ a o _ hP c7 (hM _ (.fin c7)) ?_ ?_ ?_ ?_
  all_goals simp only [List.length_set,List.getElem?_set,hlen,t2,t5,t6,Nat.reduceEqDiff,if_false,reduceIte]
 simp only [sxZ,z6,z7,z8,j4,j5,j6,j7,j8,j9,x0,x3,x4,x5,x6,x7,reduceCtorEq,↓reduceIte,List.getElem?_set,hlen,t5,e1,c7]
 have hca:c ≤ a:=hca.resolve_left c7
 subst hZ
 have hN:=zjW (s:=s) (a:=(a:Int)) (by omega)
 rw [zaK]
 refine zaa fun Z hZ => ?_
 simp only [sxZ,z6,z7,z8,j4,j5,j6,j7,j8,j9,x0,x3,x4,x5,x6,x7,reduceCtorEq,↓reduceIte,List.getElem?_set,hlen,t0,t6]
 refine zam (zlM s a hs ?_)
 unfold zna
 have f1:∀ x y z,OB.box 51 [.i .i64 x,.s y,.i .i64 z]=zcD (x,y,z):=fun _ _ _ => rfl
 simp only [sxZ,z6,z7,z8,j4,j5,j6,j7,j8,j9,x0,x3,x4,x5,x6,x7,reduceCtorEq,↓reduceIte,List.getElem?_set,hlen,gn1,sn1]
 rw [f1]
 have hP1:=zhF hP (zcD (zaB s (a:Int)).1)
 have hR0:¬ (zaB s (a:Int)).2.2=0 → zbs s=(jvZ,(a:Int),(zaB s (a:Int)).2.2):=fun he => (zeS hs' (hM _ (.tok c7 he))).symm
 have hR1:(zaB s (a:Int)).2.2=0 → ¬ (zar σ (zaB s (a:Int)).1).1=0 → zbs s=(jvZ,(zaB s (a:Int)).1.2.2,(zar σ (zaB s (a:Int)).1).1):=fun he ht => (zeS hs' (hM _ (.bad c7 he ht))).symm
 have hR2:(zaB s (a:Int)).2.2=0 → (zar σ (zaB s (a:Int)).1).1=0 → ∀ R,MRes s (zaB s (a:Int)).2.1 (zar σ (zaB s (a:Int)).1).2 R → MRes s 0 ms0 R:=fun he ht R hR => hM _ (.step c7 he ht hR)
 have hend:=fun h1 h2 => take_end (σ:=σ) (t:=(zaB s (a:Int)).1) h1 h2
 generalize o ++ [zcD (zaB s (a:Int)).1]=o1 at hP1 ⊢
 generalize zaB s (a:Int)=N at hN hP1 hR0 hR1 hR2 hend ⊢
 obtain ⟨T,to,e⟩:=N
 simp only at hN hP1 hR0 hR1 hR2 hend ⊢
 subst hZ
 refine zaa fun Z hZ => ?_
 by_cases c2:e=0
 rotate_left
 ·have h2:=zb2 hP1 (i:=0) (x:=.box 26 zvC) (by simp)
  have hlt:=pr_lt hP1 (i:=0) (x:=.box 26 zvC) (by simp)
  have gs:∀ x,(o1.set 0 x)[0]? = some x:=fun x => List.getElem?_set_self hlt
  unfold zvC at h2
  simp only [sxZ,z6,z7,z8,j4,j5,j6,j7,j8,j9,x0,x3,x4,x5,x6,x7,reduceCtorEq,↓reduceIte,List.getElem?_set,hlen,t2,t6,c2,h2,gs]
  exact fin (o:=[]) (hR0 c2)
 subst c2
 obtain ⟨⟨n1,n2,n3,n4⟩,n5,n6,n7,n8,n9⟩:=hN rfl
 simp only [sxZ,z6,z7,z8,j4,j5,j6,j7,j8,j9,x0,x3,x4,x5,x6,x7,reduceCtorEq,↓reduceIte,List.getElem?_set,hlen]
 refine zbI (fun t => t.length=42 ∧ t[0]? = some (.s s) ∧ t[2]? = some (.p 0 0) ∧ t[5]? = some (.p 1 0) ∧ t[7]? = some (.p o.length 0) ∧ t[8]? = some (.i .i64 to)) ?_ ?_
 ·simp only [sxZ,z6,z7,z8,j4,j5,j6,j7,j8,j9,x0,x3,x4,x5,x6,x7,reduceCtorEq,↓reduceIte,List.length_set,List.getElem?_set,hlen,t0,t2,t5,and_self]
 clear t0 t2 t5 t6 hlen
 rintro tm ⟨hlen,t0,t2,t5,t7,t8⟩
 have h7:=zb2 hP1 (i:=o.length) (x:=zcD T) (by simp)
 have hNB1:zcn [(o.length,zcD T),(0,OB.box 26 zvC)]:=zbW rfl hNB
 unfold zcD tkC at h7
 subst hZ
 refine zaa fun Z hZ => ?_
 refine zaa fun Z2 hZ2 => ?_
 simp only [sxZ,z6,z7,z8,j4,j5,j6,j7,j8,j9,x0,x3,x4,x5,x6,x7,reduceCtorEq,↓reduceIte,List.getElem?_set,hlen,t5,t7,h7]
 refine zam (take_k hNB1 hP1 hw (by omega) c7 T (by omega) (fun he o2 ho => ?_) (fun he o2 σ' ho => ?_))
 ·simp only [sxZ,z6,z7,z8,j4,j5,j6,j7,j8,j9,x0,x3,x4,x5,x6,x7,reduceCtorEq,↓reduceIte,List.getElem?_set,hlen]
  subst hZ2
  simp only [sxZ,z6,z7,z8,j4,j5,j6,j7,j8,j9,x0,x3,x4,x5,x6,x7,reduceCtorEq,↓reduceIte,List.getElem?_set,hlen]
  subst hZ
  simp only [sxZ,z6,z7,z8,j4,j5,j6,j7,j8,j9,x0,x3,x4,x5,x6,x7,reduceCtorEq,↓reduceIte,List.getElem?_set,hlen,t8]
  obtain ⟨b,rfl⟩:=Int.eq_ofNat_of_zero_le (show 0 ≤ to by omega)
  have hw2:=wf_take hw he
  have hdec:(if (zar σ T).2.st=7 then 0 else s.length - b + 1) < s.length - a + 1 ∧ ((zar σ T).2.st=7 ∨ c + 1 ≤ b):=by
   by_cases hT:T.1=1
   ·have:=hend hT he
    rw [if_pos this]
    exact ⟨by omega,.inl this⟩
   ·have:=n3 hT
    constructor
    ·split <;> omega
    ·exact .inr (by omega)
  refine ⟨_,hdec.1,_,b,c + 1,rfl,zau ho,hw2,by omega,hdec.2,hR2 rfl he,?_⟩
  simp only [sxZ,z6,z7,z8,j4,j5,j6,j7,j8,j9,x0,x3,x4,x5,x6,x7,reduceCtorEq,↓reduceIte,List.length_set,List.getElem?_set,hlen,t0,t2,t5,and_self]
 ·have hx:=hR1 rfl he
  simp only [sxZ,z6,z7,z8,j4,j5,j6,j7,j8,j9,x0,x3,x4,x5,x6,x7,reduceCtorEq,↓reduceIte,List.getElem?_set,hlen]
  have g7:=zb2 ho (i:=o.length) (x:=zcD T) (by simp)
  have g0:=zb2 ho (i:=0) (x:=.box 26 zvC) (by simp)
  have hlt:=pr_lt ho (i:=0) (x:=.box 26 zvC) (by simp)
  have gs:∀ x,(o2.set 0 x)[0]? = some x:=fun x => List.getElem?_set_self hlt
  have hne:¬ o.length=0:=fun h => by
   obtain ⟨B,A,hB,_⟩:=zdX hP1
   exact hB.ne (A:=_ :: A) (B:=[]) h
  unfold zcD tkC at g7
  unfold zvC at g0
  subst hZ2
  simp only [sxZ,z6,z7,z8,j4,j5,j6,j7,j8,j9,x0,x3,x4,x5,x6,x7,reduceCtorEq,↓reduceIte,List.getElem?_set,hlen,he,t2,t7,g7,g0,gs,hne]
  exact fin (o:=[]) hx
end
end
end Go.Proofs.YthmdohgkmdkeeaaGreatDoor
namespace Go.Proofs.YthmdohgkmdkeeaaGreatDoor
open Go.RowKit Sx
section
attribute [local irreducible] run
section
variable [Tabs Tryz.prog] {objs:List OB} {K:List OB → AV → Prop} {L:List (Nat × OB)} {p:Nat} {s:List UInt8} {ρ:Rs}
end
end
end Go.Proofs.YthmdohgkmdkeeaaGreatDoor
namespace Go.Proofs.YthmdohgkmdkeeaaGreatDoor
open Go.RowKit Sx
section
attribute [local irreducible] run
def zvB:OB:=.box 26 [.i .i64 0,.s [],.nil,.nil]
def giv (n:Nat) (xs:List AV) (X:AV):Prop:=(n=0 ∧ xs=[] ∧ X=.nil) ∨ X=.row n xs
theorem zot {n:Nat} {xs:List AV} {X:AV} (h:giv n xs X) {G:Gh} {I:Imm} {y:Value} (hd:Den G I X y):Den G I (.row n xs) y:=by
 rcases h with ⟨rfl,rfl,rfl⟩ | rfl
 ·exact zd2 hd
 ·exact hd
section
variable {P:Program} [Tabs P] {f:FuncId} {args:List AV} {objs:List OB} {K:List OB → AV → Prop}
end
end
end Go.Proofs.YthmdohgkmdkeeaaGreatDoor
namespace Go.Proofs.YthmdohgkmdkeeaaGreatDoor
open Nat renaming reduceAdd → z6, reduceSub → z7, reduceLeDiff → z8, reduceLT → j4, reduceMul → j5, reduceEqDiff → j6
open Int renaming reduceToNat → j7, reduceAdd → j8, reduceSub → j9, reduceMul → x0, reduceNeg → x3, reduceLT → x4, reduceLE → x5, reduceEq → x6, reduceNe → x7
open Go.RowKit Sx
section
attribute [local irreducible] run
theorem zhO:∀ l:List JV,l.length ≤ JV.sizes l
 | [] => Nat.zero_le _
 | v :: l => by
  rw [JV.sizes,List.length_cons]
  have h1:=zhO l
  have h2:=size_eq v
  omega
section
variable [Tabs Tryz.prog]
theorem zhP (v:JV) (a:Int) (hv:JOk v) (ha:0 ≤ a) (ha2:a ≤ 1099511627776) {objs:List OB} {K:List OB → AV → Prop} (hk:∀ b,(b=true → JKp v ∧ (v.size:Int) ≤ a) → K objs (.b b)):zad Tryz.prog 12 [.agg (zaj v),.i .i64 a] objs K:=by
 refine zaX is_keep_Value (by simp only [zan,AV.plain,zaR,Bool.and_self]) fun C _ => ?_
 rw [c_keep_Value]
 refine zaa fun Y hY => ?_
 obtain ⟨q0,q1,q2,q3,hq⟩:∃ q0 q1 q2 q3,zaj v=[q0,q1,q2,q3]:=⟨_,_,_,_,zal v⟩
 have hs:=fun {objs:List OB} {K:List OB → AV → Prop} (h:∀ n:Int,-1 ≤ n → n ≤ 1099511627776 → (0 ≤ n → JKp v ∧ n + (v.size:Int)=a) → K objs (.i .i64 n)) => ziN (v.size + 1) v a 70 (Nat.lt_succ_self _) hv ha ha2 (by decide) (by decide) (objs:=objs) (K:=K) h
 rw [hq] at hs ⊢
 simp only [sxZ,z6,z7,z8,j4,j5,j6,j7,j8,j9,x0,x3,x4,x5,x6,x7,reduceCtorEq,↓reduceIte]
 subst hY
 refine zaa fun Y hY => ?_
 simp only [sxZ,z6,z7,z8,j4,j5,j6,j7,j8,j9,x0,x3,x4,x5,x6,x7,reduceCtorEq,↓reduceIte]
 refine zam (hs fun n h1 h2 h3 => ?_)
 simp only [sxZ,z6,z7,z8,j4,j5,j6,j7,j8,j9,x0,x3,x4,x5,x6,x7,reduceCtorEq,↓reduceIte]
 subst hY
 simp only [sxZ,z6,z7,z8,j4,j5,j6,j7,j8,j9,x0,x3,x4,x5,x6,x7,reduceCtorEq,↓reduceIte]
 exact hk _ fun h => by
  have h0:=of_decide_eq_true h
  have:=h3 h0
  exact ⟨this.1,by omega⟩
theorem long_k:∀ (m:Nat) (v:JV),v.size < m → JKp v → v.size ≤ 1000 → zdJ v=true → ∀ {objs:List OB} {K:List OB → AV → Prop},K objs (.b false) → zad Tryz.prog 52 [.agg (zaj v)] objs K:=by
 intro m
 induction m with
 | zero => intro v h; omega
 | succ m ih =>
  intro v hm hv hsz0 hsv objs K hk
  obtain ⟨l1,l2,l3,l4⟩:=hv.lens
  have hkl:v.keys.length ≤ 1000:=by
   have h1:=size_eq v
   have h2:=zhO v.items
   rcases zb9 hsv with ⟨_,h,_⟩ | ⟨_,h,_⟩ | ⟨_,h,_⟩ <;> omega
  have hsi:∀ (i:Nat) (h:i < v.items.length),zdJ v.items[i]=true:=fun i h => by
   rcases zb9 hsv with ⟨_,_,h0⟩ | ⟨_,_,h0⟩ | ⟨_,_,_,h0⟩
   ·omega
   ·exact zcG h0 h
   ·exact zcG h0 h
  refine zaX is_ref15_long (by simp only [zan,AV.plain,zaR,Bool.and_self]) fun C _ => ?_
  rw [c_ref15_long]
  have hjv:=zal v
  rw [hjv]
  refine zaa fun Z hZ => ?_
  simp only [sxZ,z6,z7,z8,j4,j5,j6,j7,j8,j9,x0,x3,x4,x5,x6,x7,reduceCtorEq,↓reduceIte]
  subst hZ
  refine zaa fun Z hZ => ?_
  simp only [sxZ,z6,z7,z8,j4,j5,j6,j7,j8,j9,x0,x3,x4,x5,x6,x7,reduceCtorEq,↓reduceIte]
  subst hZ
  refine zaa fun Z hZ => ?_
  refine zaa fun W hW => ?_
  simp only [sxZ,z6,z7,z8,j4,j5,j6,j7,j8,j9,x0,x3,x4,x5,x6,x7,reduceCtorEq,↓reduceIte]
  subst hW
  rw [zaK]
  refine zaE (fun n o tm => ∃ (i:Nat) (b:Int),i ≤ v.keys.length ∧ n=v.keys.length - i ∧ o=[OB.box 26 [.i .i64 v.kind,.s v.text,.row v.keys.length (v.keys.map .s),.row v.items.length (zac v.items)]] ∧ 0 ≤ b ∧ b ≤ 300 + 300 * (i:Int) ∧ tm.length=35 ∧ tm[1]? = some (.p 0 0) ∧ tm[3]? = some (.i .i64 b) ∧ tm[12]? = some (.row v.keys.length (v.keys.map .s)) ∧ tm[13]? = some (.i .i64 (v.keys.length:Int)) ∧ tm[14]? = some (.i .i64 (i:Int))) v.keys.length ⟨0,(v.text.length:Int),Nat.zero_le _,rfl,rfl,by omega,by omega,rfl,rfl,rfl,rfl,rfl,rfl⟩ ?_
  rintro n _ tm ⟨i,b,hi,rfl,rfl,hb,hb2,hlen,t1,t3,t12,t13,t14⟩
  refine zaa fun W hW => ?_
  by_cases hlt:(i:Int) < (v.keys.length:Int)
  ·have hi':i < v.keys.length:=by omega
   have kv:(v.keys.map AV.s)[i * 1]? = some (.s v.keys[i]):=by rw [Nat.mul_one,List.getElem?_map,List.getElem?_eq_getElem hi']; rfl
   have kl:=l4 _ (List.getElem_mem hi')
   generalize v.keys[i]=x at kv kl
   simp only [sxZ,z6,z7,z8,j4,j5,j6,j7,j8,j9,x0,x3,x4,x5,x6,x7,reduceCtorEq,↓reduceIte,List.getElem?_set,hlen,t12,t13,t14,hlt]
   subst hW
   refine zaa fun W hW => ?_
   simp only [sxZ,z6,z7,z8,j4,j5,j6,j7,j8,j9,x0,x3,x4,x5,x6,x7,reduceCtorEq,↓reduceIte,List.getElem?_set,hlen]
   subst hW
   refine zaa fun V hV => ?_
   rw [zaK]
   refine zaa fun W hW => ?_
   simp only [sxZ,z6,z7,z8,j4,j5,j6,j7,j8,j9,x0,x3,x4,x5,x6,x7,reduceCtorEq,↓reduceIte,List.getElem?_set,hlen,t12,t14,kv,List.length_map]
   refine ⟨⟨by omega,by omega,by omega⟩,?_⟩
   subst hW
   simp only [sxZ,z6,z7,z8,j4,j5,j6,j7,j8,j9,x0,x3,x4,x5,x6,x7,reduceCtorEq,↓reduceIte,List.getElem?_set,hlen,t3]
   refine ⟨⟨by omega,by omega⟩,?_⟩
   subst hV
   simp only [sxZ,z6,z7,z8,j4,j5,j6,j7,j8,j9,x0,x3,x4,x5,x6,x7,reduceCtorEq,↓reduceIte,List.getElem?_set,hlen,t1,t12,t13,t14]
   exact ⟨by omega,v.keys.length - (i + 1),by omega,i + 1,b + x.length,by omega,rfl,by omega,by omega,rfl,rfl⟩
  simp only [sxZ,z6,z7,z8,j4,j5,j6,j7,j8,j9,x0,x3,x4,x5,x6,x7,reduceCtorEq,↓reduceIte,List.getElem?_set,hlen,t12,t13,t14,hlt]
  subst hW
  simp only [sxZ,z6,z7,z8,j4,j5,j6,j7,j8,j9,x0,x3,x4,x5,x6,x7,reduceCtorEq,↓reduceIte,List.getElem?_set,hlen]
  have c9:¬ (1048576:Int) < b:=by omega
  subst hZ
  refine zbI (fun tm => tm.length=35 ∧ tm[1]? = some (.p 0 0) ∧ tm[3]? = some (.i .i64 b)) ?_ ?_
  ·simp only [List.length_set,List.getElem?_set,hlen,t1,t3,Nat.reduceEqDiff,if_false,reduceIte,and_self]
  clear hlen t1 t3 t12 t13 t14
  rintro tm ⟨hlen,t1,t3⟩
  refine zaa fun Z hZ => ?_
  simp only [sxZ,z6,z7,z8,j4,j5,j6,j7,j8,j9,x0,x3,x4,x5,x6,x7,reduceCtorEq,↓reduceIte,List.getElem?_set,hlen,t3,c9]
  subst hZ
  refine zaa fun Z hZ => ?_
  refine zaa fun W hW => ?_
  simp only [sxZ,z6,z7,z8,j4,j5,j6,j7,j8,j9,x0,x3,x4,x5,x6,x7,reduceCtorEq,↓reduceIte,List.getElem?_set,hlen,t1]
  subst hW
  rw [zaK]
  refine zaE (fun n o tm => ∃ (i:Nat),i ≤ v.items.length ∧ n=v.items.length - i ∧ tm.length=35 ∧ tm[26]? = some (.row v.items.length (zac v.items)) ∧ tm[27]? = some (.i .i64 (v.items.length:Int)) ∧ tm[28]? = some (.i .i64 (i:Int))) v.items.length ⟨0,Nat.zero_le _,rfl,?_⟩ ?_
  ·simp only [sxZ,z6,z7,z8,j4,j5,j6,j7,j8,j9,x0,x3,x4,x5,x6,x7,reduceCtorEq,↓reduceIte,List.length_set,List.getElem?_set,hlen,Int.cast_ofNat_Int,and_self]
  clear hlen t1 t3
  rintro n o tm ⟨i,hi,rfl,hlen,t26,t27,t28⟩
  refine zaa fun W hW => ?_
  by_cases hlt:(i:Int) < (v.items.length:Int)
  ·have hi':i < v.items.length:=by omega
   have hjc:=zd4 hi'
   have hjl:=zax v.items
   have hit:=hv.its hi'
   have hsz:=zbd hi'
   have hsx:=hsi i hi'
   generalize v.items[i]=x at hjc hit hsz hsx
   have hcall:=fun {objs:List OB} {K:List OB → AV → Prop} (h) => ih x (by omega) hit (by omega) hsx (objs:=objs) (K:=K) h
   have hjx:=zal x
   rw [hjx] at hjc hcall
   simp only [sxZ,z6,z7,z8,j4,j5,j6,j7,j8,j9,x0,x3,x4,x5,x6,x7,reduceCtorEq,↓reduceIte,List.getElem?_set,hlen,t26,t27,t28,hlt]
   subst hW
   refine zaa fun W hW => ?_
   simp only [sxZ,z6,z7,z8,j4,j5,j6,j7,j8,j9,x0,x3,x4,x5,x6,x7,reduceCtorEq,↓reduceIte,List.getElem?_set,hlen]
   subst hW
   refine zaa fun V hV => ?_
   rw [zaK]
   refine zaa fun W hW => ?_
   simp only [sxZ,z6,z7,z8,j4,j5,j6,j7,j8,j9,x0,x3,x4,x5,x6,x7,reduceCtorEq,↓reduceIte,List.getElem?_set,hlen,t26,t28,hjc]
   refine ⟨⟨by omega,by omega,by omega⟩,by omega,?_⟩
   simp only [sxZ,z6,z7,z8,j4,j5,j6,j7,j8,j9,x0,x3,x4,x5,x6,x7,reduceCtorEq,↓reduceIte,List.getElem?_set,hlen,gn1,sn1]
   subst hW
   refine zaa fun W hW => ?_
   simp only [sxZ,z6,z7,z8,j4,j5,j6,j7,j8,j9,x0,x3,x4,x5,x6,x7,reduceCtorEq,↓reduceIte,List.getElem?_set,hlen,gn1]
   refine zam (hcall ?_)
   simp only [sxZ,z6,z7,z8,j4,j5,j6,j7,j8,j9,x0,x3,x4,x5,x6,x7,reduceCtorEq,↓reduceIte,List.getElem?_set,hlen]
   subst hW
   simp only [sxZ,z6,z7,z8,j4,j5,j6,j7,j8,j9,x0,x3,x4,x5,x6,x7,reduceCtorEq,↓reduceIte,List.getElem?_set,hlen]
   subst hV
   simp only [sxZ,z6,z7,z8,j4,j5,j6,j7,j8,j9,x0,x3,x4,x5,x6,x7,reduceCtorEq,↓reduceIte,List.getElem?_set,hlen,t26,t27,t28]
   exact ⟨by omega,v.items.length - (i + 1),by omega,i + 1,by omega,rfl,rfl⟩
  simp only [sxZ,z6,z7,z8,j4,j5,j6,j7,j8,j9,x0,x3,x4,x5,x6,x7,reduceCtorEq,↓reduceIte,List.getElem?_set,hlen,t26,t27,t28,hlt]
  subst hW
  subst hZ
  simp only [sxZ,z6,z7,z8,j4,j5,j6,j7,j8,j9,x0,x3,x4,x5,x6,x7,reduceCtorEq,↓reduceIte,List.getElem?_set,hlen]
  exact hk
end
end
end Go.Proofs.YthmdohgkmdkeeaaGreatDoor
namespace Go.Proofs.YthmdohgkmdkeeaaGreatDoor
open Go.RowKit Sx
section
attribute [local irreducible] run
section
variable [Tabs Tryz.prog] {objs:List OB} {K:List OB → AV → Prop} {L:List (Nat × OB)}
end
end
end Go.Proofs.YthmdohgkmdkeeaaGreatDoor
namespace Go.Proofs.YthmdohgkmdkeeaaGreatDoor
open Go.RowKit Sx
section
attribute [local irreducible] run
section
variable [Tabs Tryz.prog] [Utf Tryz.prog] {objs:List OB} {K:List OB → AV → Prop} {L:List (Nat × OB)} {p:Nat} {s:List UInt8} {ρ:Rs}
end
end
end Go.Proofs.YthmdohgkmdkeeaaGreatDoor
namespace Go.Proofs.YthmdohgkmdkeeaaGreatDoor
open Go.RowKit Sx
section
attribute [local irreducible] run
def SlP (ks:List (List UInt8)) (its:List JV) (X:AV) (R1:List (Nat × OB)) (Y:AV) (R2:List (Nat × OB)):Prop :=
 (ks=[] ∧ its=[] ∧ X=.nil ∧ R1=[] ∧ Y=.nil ∧ R2=[]) ∨ ∃ b1 g1 b2 g2,X=.orow b1 g1 ∧ R1=[(b1,.orow 9 1 g1 ks.length (ks.map .s))] ∧ Y=.orow b2 g2 ∧ R2=[(b2,.orow 26 4 g2 its.length (zac its))]
theorem SlP.k {ks:List (List UInt8)} {its:List JV} {X Y:AV} {R1 R2:List (Nat × OB)} (h:SlP ks its X R1 Y R2):SlO 9 1 ks.length (ks.map .s) X R1:=by
 rcases h with ⟨rfl,rfl,rfl,rfl,rfl,rfl⟩ | ⟨b1,g1,b2,g2,rfl,rfl,rfl,rfl⟩
 ·exact .inl ⟨rfl,rfl,rfl,rfl⟩
 ·exact .inr ⟨_,_,rfl,rfl⟩
theorem SlP.i {ks:List (List UInt8)} {its:List JV} {X Y:AV} {R1 R2:List (Nat × OB)} (h:SlP ks its X R1 Y R2):SlO 26 4 its.length (zac its) Y R2:=by
 rcases h with ⟨rfl,rfl,rfl,rfl,rfl,rfl⟩ | ⟨b1,g1,b2,g2,rfl,rfl,rfl,rfl⟩
 ·exact .inl ⟨rfl,zaw,rfl,rfl⟩
 ·exact .inr ⟨_,_,rfl,rfl⟩
theorem SlP.flat {ks:List (List UInt8)} {its:List JV} {X Y:AV} {R1 R2:List (Nat × OB)} (h:SlP ks its X R1 Y R2):X.flat=true ∧ Y.flat=true:=by
 rcases h with ⟨rfl,rfl,rfl,rfl,rfl,rfl⟩ | ⟨b1,g1,b2,g2,rfl,rfl,rfl,rfl⟩ <;> exact ⟨rfl,rfl⟩
section
variable [Tabs Tryz.prog] [Utf Tryz.prog] {objs:List OB} {K:List OB → AV → Prop} {L:List (Nat × OB)} {p:Nat} {s:List UInt8} {ρ:Rs}
end
end
end Go.Proofs.YthmdohgkmdkeeaaGreatDoor
namespace Go.Proofs.YthmdohgkmdkeeaaGreatDoor
open Nat renaming reduceAdd → z6, reduceSub → z7, reduceLeDiff → z8, reduceLT → j4, reduceMul → j5, reduceEqDiff → j6
open Int renaming reduceToNat → j7, reduceAdd → j8, reduceSub → j9, reduceMul → x0, reduceNeg → x3, reduceLT → x4, reduceLE → x5, reduceEq → x6, reduceNe → x7
open Go.RowKit Sx
section
attribute [local irreducible] run
mutual
/-- with its keys in order -/
def zbe:JV → JV
 | .mk k t ks its => if k=6 then .mk k t [] (zcR its) else .mk k t (zeg ks.length ks) ((zeg ks.length ks).map fun key => ((zcR its)[zb7 key ks]?).getD jvZ)
def zcR:List JV → List JV
 | [] => []
 | v :: l => zbe v :: zcR l
end
theorem zmX (v:JV):zbe v=if v.kind=6 then .mk v.kind v.text [] (zcR v.items) else .mk v.kind v.text (zeg v.keys.length v.keys) ((zeg v.keys.length v.keys).map fun key => ((zcR v.items)[zb7 key v.keys]?).getD jvZ):=by cases v; rw [zbe]; rfl
theorem zcK:∀ l:List JV,(zcR l).length=l.length
 | [] => by rw [zcR]
 | v :: l => by rw [zcR,List.length_cons,zcK l,List.length_cons]
theorem zeT:∀ {l:List JV} {i:Nat} (hi:i < l.length),(zcR l)[i]? = some (zbe l[i])
 | a :: l,0,hi => by rw [zcR]; rfl
 | a :: l,i + 1,hi => by rw [zcR]; simpa using zeT (l:=l) (i:=i) (by simpa using hi)
def bvB (v:JV):OB:=.box 26 [.i .i64 v.kind,.s v.text,.row v.keys.length (v.keys.map .s),.row v.items.length (zac v.items)]
def oB (v:JV) (X Y:AV):OB:=.box 26 [.i .i64 v.kind,.s v.text,X,Y]
section
variable [Tabs Tryz.prog]
theorem order_k:∀ (m:Nat) (v:JV),v.size < m → zdJ v=true → JOk v → JBd v → ∀ {objs:List OB} {K:List OB → AV → Prop},K objs (.agg (zaj (zbe v))) → zad Tryz.prog 54 [.agg (zaj v)] objs K:=by
 intro m
 induction m with
 | zero => intro v h; omega
 | succ m ih =>
  intro v hm hsv hv hbd objs K hk
  obtain ⟨l1,l2⟩:=hbd.lens
  have kvd:=zb9 hsv
  refine jres (.agg (zaj (zbe v))) ?_
  refine zaX is_ref15_order (by simp only [zan,AV.plain,zaR,Bool.and_self]) fun C _ => ?_
  have cv:∀ {ks:List (List UInt8)} {its:List JV} {X' Y':AV},zbe v=.mk v.kind v.text ks its → giv ks.length (ks.map .s) X' → giv its.length (zac its) Y' → ∀ G I y,Den G I (.agg [.i .i64 v.kind,.s v.text,X',Y']) y → Den G I (.agg (zaj (zbe v))) y:=by
   intro ks its X' Y' he h1 h2 G I y hy
   rw [he,zaj]
   simp only [zag,Den] at hy ⊢
   obtain ⟨zs,rfl,⟨z0,m0,rfl,q0,z1,m1,rfl,q1,z2,m2,rfl,q2,z3,m3,rfl,q3,q4⟩,hz⟩:=hy
   exact ⟨_,rfl,⟨_,_,rfl,q0,_,_,rfl,q1,_,_,rfl,zot h1 q2,_,_,rfl,zot h2 q3,q4⟩,hz⟩
  rw [c_ref15_order]
  have hjv:=zal v
  rw [hjv]
  refine zaa fun Z hZ => ?_
  simp only [sxZ,z6,z7,z8,j4,j5,j6,j7,j8,j9,x0,x3,x4,x5,x6,x7,reduceCtorEq,↓reduceIte]
  subst hZ
  refine zaa fun Z hZ => ?_
  simp only [sxZ,z6,z7,z8,j4,j5,j6,j7,j8,j9,x0,x3,x4,x5,x6,x7,reduceCtorEq,↓reduceIte]
  have hO:zaH ((0,bvB v) :: (1,zvB) :: (2,oB v .nil .nil) :: ([] ++ ([] ++ []))) [bvB v,zvB,oB v .nil .nil]:=⟨by simp,fun x hx => by
   simp only [List.mem_cons,List.not_mem_nil,or_false,List.nil_append] at hx
   rcases hx with rfl | rfl | rfl <;> rfl⟩
  have f0:[OB.box 26 [.i .i64 v.kind,.s v.text,.row v.keys.length (v.keys.map .s),.row v.items.length (zac v.items)],OB.box 26 [.i .i64 0,.s [],.nil,.nil],OB.box 26 [.i .i64 v.kind,.s v.text,.nil,.nil]]=[bvB v,zvB,oB v .nil .nil]:=rfl
  rw [f0]
  generalize [bvB v,zvB,oB v .nil .nil]=o at hO ⊢
  have st:∀ (o:List OB) (X Y:AV) (R1 R2:List (Nat × OB)),zaH ((0,bvB v) :: (1,zvB) :: (2,oB v X Y) :: (R1 ++ (R2 ++ []))) o → o[0]? = some (.box 26 [.i .i64 v.kind,.s v.text,.row v.keys.length (v.keys.map .s),.row v.items.length (zac v.items)]) ∧ o[1]? = some (.box 26 [.i .i64 0,.s [],.nil,.nil]) ∧ o[2]? = some (.box 26 [.i .i64 v.kind,.s v.text,X,Y]) ∧ (∀ x,(o.set 1 x)[1]? = some x) :=
   fun o X Y R1 R2 h => ⟨h.get (by simp [bvB]),h.get (by simp [zvB]),h.get (by simp [oB]),fun x => List.getElem?_set_self (h.lt (i:=1) (x:=zvB) (by simp))⟩
  obtain ⟨e0,e1,e2,s1⟩:=st _ _ _ _ _ hO
  subst hZ
  refine zbI (fun tm => tm.length=63 ∧ tm[1]? = some (.p 0 0) ∧ tm[2]? = some (.p 1 0) ∧ tm[3]? = some (.p 2 0)) ?_ ?_
  ·exact ⟨rfl,rfl,rfl,rfl⟩
  rintro tm ⟨hlen,t1,t2,t3⟩
  refine zaa fun Z hZ => ?_
  by_cases c6:v.kind=6
  ·have hsi:zdg v.items=true:=by
    rcases kvd with ⟨h0,_⟩ | ⟨_,_,h⟩ | ⟨h0,_⟩
    ·omega
    ·exact h
    ·omega
   have hoj:zbe v=.mk v.kind v.text [] (zcR v.items):=by rw [zmX,if_pos c6]
   rw [c6] at e0
   simp only [sxZ,z6,z7,z8,j4,j5,j6,j7,j8,j9,x0,x3,x4,x5,x6,x7,reduceCtorEq,↓reduceIte,List.getElem?_set,hlen,t1,e0,c6]
   refine zaE (fun n o tm => ∃ (i:Nat) (acc:List JV) (Y:AV) (R2:List (Nat × OB)),i ≤ v.items.length ∧ n=v.items.length - i ∧ acc=(zcR v.items).take i ∧ acc.length=i ∧ SlO 26 4 acc.length (zac acc) Y R2 ∧ zaH ((0,bvB v) :: (1,zvB) :: (2,oB v .nil Y) :: ([] ++ (R2 ++ []))) o ∧ tm.length=63 ∧ tm[1]? = some (.p 0 0) ∧ tm[2]? = some (.p 1 0) ∧ tm[3]? = some (.p 2 0) ∧ tm[19]? = some (.row v.items.length (zac v.items)) ∧ tm[20]? = some (.i .i64 (v.items.length:Int)) ∧ tm[21]? = some (.i .i64 (i:Int))) v.items.length ⟨0,[],.nil,[],Nat.zero_le _,rfl,rfl,rfl,.inl ⟨rfl,zaw,rfl,rfl⟩,hO,?_⟩ ?_
   ·simp only [sxZ,z6,z7,z8,j4,j5,j6,j7,j8,j9,x0,x3,x4,x5,x6,x7,reduceCtorEq,↓reduceIte,List.length_set,List.getElem?_set,hlen,t1,t2,t3,Int.cast_ofNat_Int,and_self]
   clear hlen t1 t2 t3 hO e0 e1 e2 s1
   rintro n o tm ⟨i,acc,Y,R2,hi,rfl,ha,hal,hS,hO,hlen,t1,t2,t3,t19,t20,t21⟩
   obtain ⟨e0,e1,e2,s1⟩:=st _ _ _ _ _ hO
   refine zaa fun W hW => ?_
   by_cases hlt:(i:Int) < (v.items.length:Int)
   ·have hi':i < v.items.length:=by omega
    have hjc:=zd4 hi'
    have hjl:=zax v.items
    have hsz:=zbd hi'
    have hoi:=zeT hi'
    have hcall:=fun {objs:List OB} {K:List OB → AV → Prop} (h:K objs (.agg (zaj (zbe v.items[i])))) => ih v.items[i] (by omega) (zcG hsi hi') (hv.its hi') (hbd.its hi') (objs:=objs) (K:=K) h
    have hacc:acc ++ [zbe v.items[i]]=(zcR v.items).take (i + 1):=by
     rw [ha]
     have h1:i < (zcR v.items).length:=by rw [zcK]; exact hi'
     rw [List.take_add_one,hoi]; rfl
    generalize v.items[i]=x at hjc hcall hacc
    generalize zbe x=y at hcall hacc
    have hjx:=zal x
    obtain ⟨c0,c1,c2,c3,hcv⟩:∃ c0 c1 c2 c3,zaj y=[c0,c1,c2,c3]:=⟨_,_,_,_,zal y⟩
    rw [hjx] at hjc hcall
    rw [hcv] at hcall
    simp only [sxZ,z6,z7,z8,j4,j5,j6,j7,j8,j9,x0,x3,x4,x5,x6,x7,reduceCtorEq,↓reduceIte,List.getElem?_set,hlen,t19,t20,t21,hlt]
    subst hW
    refine zaa fun W hW => ?_
    simp only [sxZ,z6,z7,z8,j4,j5,j6,j7,j8,j9,x0,x3,x4,x5,x6,x7,reduceCtorEq,↓reduceIte,List.getElem?_set,hlen]
    subst hW
    refine zaa fun V hV => ?_
    rw [zaK]
    refine zaa fun W hW => ?_
    simp only [sxZ,z6,z7,z8,j4,j5,j6,j7,j8,j9,x0,x3,x4,x5,x6,x7,reduceCtorEq,↓reduceIte,List.getElem?_set,hlen,t19,t21,hjc]
    refine ⟨⟨by omega,by omega,by omega⟩,by omega,?_⟩
    simp only [sxZ,z6,z7,z8,j4,j5,j6,j7,j8,j9,x0,x3,x4,x5,x6,x7,reduceCtorEq,↓reduceIte,List.getElem?_set,hlen,gn1,sn1]
    have hO2:=hO.new (.box 26 [.i .i64 x.kind,.s x.text,.row x.keys.length (x.keys.map .s),.row x.items.length (zac x.items)])
    have ei:=hO2.get (i:=o.length) (x:=.box 26 [.i .i64 x.kind,.s x.text,.row x.keys.length (x.keys.map .s),.row x.items.length (zac x.items)]) (by simp)
    have hO3:zaH ((0,bvB v) :: (1,zvB) :: (2,oB v .nil Y) :: ([] ++ (R2 ++ []))) (o ++ [.box 26 [.i .i64 x.kind,.s x.text,.row x.keys.length (x.keys.map .s),.row x.items.length (zac x.items)]]):=hO2.sub (List.sublist_cons_self _ _)
    clear hO hO2 e0 e1 e2 s1
    generalize o.length=qi at ei ⊢
    generalize o ++ [OB.box 26 [.i .i64 x.kind,.s x.text,.row x.keys.length (x.keys.map .s),.row x.items.length (zac x.items)]]=o at ei hO3 ⊢
    obtain ⟨e0,e1,e2,s1⟩:=st _ _ _ _ _ hO3
    subst hW
    refine zaG (fun o tm => ∃ Y' R2',SlO 26 4 (acc ++ [y]).length (zac (acc ++ [y])) Y' R2' ∧ zaH ((0,bvB v) :: (1,zvB) :: (2,oB v .nil Y') :: ([] ++ (R2' ++ []))) o ∧ tm.length=63 ∧ tm[1]? = some (.p 0 0) ∧ tm[2]? = some (.p 1 0) ∧ tm[3]? = some (.p 2 0) ∧ tm[19]? = some (.row v.items.length (zac v.items)) ∧ tm[20]? = some (.i .i64 (v.items.length:Int)) ∧ tm[21]? = some (.i .i64 (i:Int))) ?_ ?_
    ·simp only [sxZ,z6,z7,z8,j4,j5,j6,j7,j8,j9,x0,x3,x4,x5,x6,x7,reduceCtorEq,↓reduceIte,List.getElem?_set,hlen,t3,e2,ei]
     refine zd1 (hcall ⟨rfl,rfl⟩) ?_
     rcases hS with ⟨z1,z2,rfl,rfl⟩ | ⟨b,g,rfl,rfl⟩
     ·have a0:acc=[]:=List.eq_nil_of_length_eq_zero z1
      have hlt0:=(List.getElem?_eq_some_iff.1 e2).1
      have hne:¬ o.length=2:=by omega
      have gx:∀ z,(o ++ [z])[2]? = some (.box 26 [.i .i64 v.kind,.s v.text,.nil,.nil]):=fun z => by rw [List.getElem?_append_left hlt0]; exact e2
      simp only [sxZ,z6,z7,z8,j4,j5,j6,j7,j8,j9,x0,x3,x4,x5,x6,x7,reduceCtorEq,↓reduceIte,List.getElem?_set,hlen,t3,gn1,sn1,gx,hne,zab,List.length_set,t1,t2,t19,t20,t21,and_self,and_true]
      have hN:=hO3.new (.orow 26 4 0 1 [c0,c1,c2,c3])
      have hR:=hN.set (A:=[(o.length,OB.orow 26 4 0 1 [c0,c1,c2,c3]),(0,bvB v),(1,zvB)]) (oB v .nil (.orow o.length 0))
      refine ⟨_,[(o.length,OB.orow 26 4 0 1 [c0,c1,c2,c3])],.inr ⟨_,_,rfl,by rw [a0,List.nil_append,zaD,zaw,hcv]; rfl⟩,hR.perm ?_⟩
      exact List.perm_append_comm (l₁:=[(o.length,OB.orow 26 4 0 1 [c0,c1,c2,c3])]) (l₂:=[(0,bvB v),(1,zvB),(2,oB v .nil (.orow o.length 0))])
     ·have hl2:acc.length ≤ 1099511627776:=by omega
      have e5:=hO3.get (i:=b) (x:=.orow 26 4 g acc.length (zac acc)) (by simp)
      have hlt4:=(List.getElem?_eq_some_iff.1 e5).1
      have hne:¬ b=2:=by
       intro h
       have:=hO3.1
       simp only [List.map_cons,List.map_append,List.nodup_cons] at this
       exact this.2.2.1 (by simp [h])
      have gs:∀ z,(o.set b z)[b]? = some z:=fun z => List.getElem?_set_self hlt4
      have gx:∀ z,(o.set b z)[2]? = some (.box 26 [.i .i64 v.kind,.s v.text,.nil,.orow b g]):=fun z => by rw [List.getElem?_set_ne hne]; exact e2
      have hjl:=zax acc
      simp only [sxZ,z6,z7,z8,j4,j5,j6,j7,j8,j9,x0,x3,x4,x5,x6,x7,reduceCtorEq,↓reduceIte,List.getElem?_set,hlen,t3,e5,gs,gx,hne,zab,List.length_set,t1,t2,t19,t20,t21,and_self,and_true]
      refine ⟨⟨by omega,by omega⟩,?_⟩
      have hN:=hO3.set (A:=[(0,bvB v),(1,zvB),(2,oB v .nil (.orow b g))]) (.orow 26 4 (g + 1) (acc.length + 1) (zac acc ++ [c0,c1,c2,c3]))
      have hR:=hN.set (A:=[(0,bvB v),(1,zvB)]) (oB v .nil (.orow b (g + 1)))
      exact ⟨_,[(b,.orow 26 4 (g + 1) (acc.length + 1) (zac acc ++ [c0,c1,c2,c3]))],.inr ⟨_,_,rfl,by rw [zdB,zaD,zaw,hcv]; rfl⟩,hR⟩
    ·clear hlen t1 t2 t3 t19 t20 t21 e0 e1 e2 s1 ei hO3 hS
     rintro o5 tm ⟨Y',R2',hS,hO5,hlen,t1,t2,t3,t19,t20,t21⟩
     subst hV
     simp only [sxZ,z6,z7,z8,j4,j5,j6,j7,j8,j9,x0,x3,x4,x5,x6,x7,reduceCtorEq,↓reduceIte,List.getElem?_set,hlen,t1,t2,t3,t19,t20,t21]
     exact ⟨by omega,v.items.length - (i + 1),by omega,i + 1,acc ++ [y],Y',R2',by omega,rfl,hacc,by rw [List.length_append,hal]; rfl,hS,by simpa using hO5,rfl⟩
   have hn:i=v.items.length:=by omega
   rw [hn,List.take_of_length_le (by rw [zcK]; omega)] at ha
   simp only [sxZ,z6,z7,z8,j4,j5,j6,j7,j8,j9,x0,x3,x4,x5,x6,x7,reduceCtorEq,↓reduceIte,List.getElem?_set,hlen,t19,t20,t21,hlt]
   subst hW
   rw [← ha] at hoj
   rcases hS with ⟨z1,z2,rfl,rfl⟩ | ⟨b,g,rfl,rfl⟩
   ·simp only [sxZ,z6,z7,z8,j4,j5,j6,j7,j8,j9,x0,x3,x4,x5,x6,x7,reduceCtorEq,↓reduceIte,List.getElem?_set,hlen,t2,t3,e1,e2,s1]
    exact ⟨cv hoj (.inl ⟨rfl,rfl,rfl⟩) (.inl ⟨z1,z2,rfl⟩),hk⟩
   ·have hO2:=zaH.set (A:=[(0,bvB v)]) (OB.box 26 [.i .i64 v.kind,.s v.text,.nil,.orow b g]) hO
    have eb:=hO2.get (i:=b) (x:=.orow 26 4 g acc.length (zac acc)) (by simp)
    simp only [sxZ,z6,z7,z8,j4,j5,j6,j7,j8,j9,x0,x3,x4,x5,x6,x7,reduceCtorEq,↓reduceIte,List.getElem?_set,hlen,t2,t3,e1,e2,s1,eb,ziE]
    exact ⟨cv hoj (.inl ⟨rfl,rfl,rfl⟩) (.inr rfl),hk⟩
  have hlk:v.keys.length=v.items.length ∧ v.keys.Nodup:=by
   rcases kvd with ⟨_,h1,h2⟩ | ⟨h0,_⟩ | ⟨_,h1,h2,_⟩
   ·have:v.keys=[]:=List.eq_nil_of_length_eq_zero h1
    exact ⟨by omega,by rw [this]; exact List.nodup_nil⟩
   ·exact absurd h0 c6
   ·exact ⟨h1,h2⟩
  have hoj:zbe v=.mk v.kind v.text (zeg v.keys.length v.keys) ((zeg v.keys.length v.keys).map fun key => ((zcR v.items)[zb7 key v.keys]?).getD jvZ):=by rw [zmX,if_neg c6]
  have hperm:=zbb v.keys.length v.keys
  have hSl:=hperm.length_eq
  have hgv:=fun (key:List UInt8) {objs:List OB} {K:List OB → AV → Prop} (h) => zk3 v key hv (objs:=objs) (K:=K) h
  rw [hjv] at hgv
  simp only [sxZ,z6,z7,z8,j4,j5,j6,j7,j8,j9,x0,x3,x4,x5,x6,x7,reduceCtorEq,↓reduceIte,List.getElem?_set,hlen,t1,e0,c6]
  subst hZ
  refine zaa fun Z hZ => ?_
  refine zaa fun W hW => ?_
  simp only [sxZ,z6,z7,z8,j4,j5,j6,j7,j8,j9,x0,x3,x4,x5,x6,x7,reduceCtorEq,↓reduceIte,List.getElem?_set,hlen,t1,e0]
  refine zam (zjp v.keys.length v.keys (Nat.le_refl _) l1 ?_)
  generalize zeg v.keys.length v.keys=S at hoj hperm hSl ⊢
  simp only [sxZ,z6,z7,z8,j4,j5,j6,j7,j8,j9,x0,x3,x4,x5,x6,x7,reduceCtorEq,↓reduceIte,List.getElem?_set,hlen]
  subst hW
  rw [zaK]
  refine zaE (fun n o tm => ∃ (i:Nat) (ks:List (List UInt8)) (its:List JV) (X:AV) (R1:List (Nat × OB)) (Y:AV) (R2:List (Nat × OB)),i ≤ S.length ∧ n=S.length - i ∧ ks=S.take i ∧ its=(S.map fun key => ((zcR v.items)[zb7 key v.keys]?).getD jvZ).take i ∧ ks.length=i ∧ its.length=i ∧ SlP ks its X R1 Y R2 ∧ zaH ((0,bvB v) :: (1,zvB) :: (2,oB v X Y) :: (R1 ++ (R2 ++ []))) o ∧ tm.length=63 ∧ tm[1]? = some (.p 0 0) ∧ tm[2]? = some (.p 1 0) ∧ tm[3]? = some (.p 2 0) ∧ tm[36]? = some (.row S.length (S.map .s)) ∧ tm[37]? = some (.i .i64 (S.length:Int)) ∧ tm[38]? = some (.i .i64 (i:Int))) S.length ⟨0,[],[],.nil,[],.nil,[],Nat.zero_le _,rfl,rfl,rfl,rfl,rfl,.inl ⟨rfl,rfl,rfl,rfl,rfl,rfl⟩,hO,?_⟩ ?_
  ·simp only [sxZ,z6,z7,z8,j4,j5,j6,j7,j8,j9,x0,x3,x4,x5,x6,x7,reduceCtorEq,↓reduceIte,List.length_set,List.getElem?_set,hlen,t1,t2,t3,Int.cast_ofNat_Int,and_self]
  clear hlen t1 t2 t3 hO e0 e1 e2 s1
  rintro n o tm ⟨i,ks,its,X,R1,Y,R2,hi,rfl,hks,hits,hkl,hil,hS,hO,hlen,t1,t2,t3,t36,t37,t38⟩
  obtain ⟨e0,e1,e2,s1⟩:=st _ _ _ _ _ hO
  refine zaa fun W hW => ?_
  by_cases hlt:(i:Int) < (S.length:Int)
  ·have hi':i < S.length:=by omega
   have kv:(S.map AV.s)[i * 1]? = some (.s S[i]):=by rw [Nat.mul_one,List.getElem?_map,List.getElem?_eq_getElem hi']; rfl
   have hmem:S[i] ∈ v.keys:=hperm.mem_iff.1 (List.getElem_mem hi')
   have hks2:ks ++ [S[i]]=S.take (i + 1):=by rw [hks,List.take_add_one,List.getElem?_eq_getElem hi']; rfl
   have hits2:its ++ [((zcR v.items)[zb7 S[i] v.keys]?).getD jvZ]=(S.map fun key => ((zcR v.items)[zb7 key v.keys]?).getD jvZ).take (i + 1):=by
    rw [hits,List.take_add_one,List.getElem?_map,List.getElem?_eq_getElem hi']; rfl
   generalize S[i]=key at kv hmem hks2 hits2
   obtain ⟨j,hj⟩:=List.mem_iff_getElem?.1 hmem
   obtain ⟨hj1,hj2⟩:=List.getElem?_eq_some_iff.1 hj
   have k7:v.kind=7 ∧ zdg v.items=true:=by
    rcases kvd with ⟨_,h1,h2⟩ | ⟨h0,_⟩ | ⟨h,_,_,h2⟩
    ·omega
    ·exact absurd h0 c6
    ·exact ⟨h,h2⟩
   have hj3:j < v.items.length:=by omega
   have hgo:=ziW k7.1 hlk.1 hlk.2 hj1
   have hidx:=zcw hlk.2 hj1
   rw [hj2] at hgo hidx
   have hgv:=@hgv key
   rw [hgo] at hgv
   rw [hidx,zeT hj3,Option.getD_some] at hits2
   have hsz:=zbd hj3
   have hcall:=fun {objs:List OB} {K:List OB → AV → Prop} (h:K objs (.agg (zaj (zbe v.items[j])))) => ih v.items[j] (by omega) (zcG k7.2 hj3) (hv.its hj3) (hbd.its hj3) (objs:=objs) (K:=K) h
   generalize v.items[j]=x at hgv hcall hits2
   generalize zbe x=y at hcall hits2
   have hjx:=zal x
   obtain ⟨c0,c1,c2,c3,hcv⟩:∃ c0 c1 c2 c3,zaj y=[c0,c1,c2,c3]:=⟨_,_,_,_,zal y⟩
   unfold zhX at hgv
   simp only at hgv
   rw [hjx] at hgv hcall
   rw [hcv] at hcall
   simp only [sxZ,z6,z7,z8,j4,j5,j6,j7,j8,j9,x0,x3,x4,x5,x6,x7,reduceCtorEq,↓reduceIte,List.getElem?_set,hlen,t36,t37,t38,hlt]
   subst hW
   refine zaa fun W hW => ?_
   simp only [sxZ,z6,z7,z8,j4,j5,j6,j7,j8,j9,x0,x3,x4,x5,x6,x7,reduceCtorEq,↓reduceIte,List.getElem?_set,hlen]
   subst hW
   refine zaa fun V hV => ?_
   rw [zaK]
   refine zaa fun W hW => ?_
   simp only [sxZ,z6,z7,z8,j4,j5,j6,j7,j8,j9,x0,x3,x4,x5,x6,x7,reduceCtorEq,↓reduceIte,List.getElem?_set,hlen,t36,t38,kv,List.length_map]
   refine ⟨⟨by omega,by omega,by omega⟩,?_⟩
   subst hW
   refine zaa fun W hW => ?_
   simp only [sxZ,z6,z7,z8,j4,j5,j6,j7,j8,j9,x0,x3,x4,x5,x6,x7,reduceCtorEq,↓reduceIte,List.getElem?_set,hlen,t1,e0]
   refine zam (hgv ?_)
   simp only [sxZ,z6,z7,z8,j4,j5,j6,j7,j8,j9,x0,x3,x4,x5,x6,x7,reduceCtorEq,↓reduceIte,List.getElem?_set,hlen,gn1,sn1]
   have hO2:=hO.new (.box 26 [.i .i64 x.kind,.s x.text,.row x.keys.length (x.keys.map .s),.row x.items.length (zac x.items)])
   clear hO e0 e1 e2 s1
   generalize o.length=qi at hO2 ⊢
   generalize o ++ [OB.box 26 [.i .i64 x.kind,.s x.text,.row x.keys.length (x.keys.map .s),.row x.items.length (zac x.items)]]=o8 at hO2 ⊢
   have hO8p:zaH ((0,bvB v) :: (1,zvB) :: (2,oB v X Y) :: (R1 ++ (R2 ++ []))) o8:=hO2.sub (List.sublist_cons_self _ _)
   have ei:=hO2.get (i:=qi) (x:=.box 26 [.i .i64 x.kind,.s x.text,.row x.keys.length (x.keys.map .s),.row x.items.length (zac x.items)]) (by simp)
   obtain ⟨e0,e1,e3,s1⟩:=st _ _ _ _ _ hO8p
   subst hW
   refine zaG (fun o tm => ∃ X' R1' Y' R2',SlP (ks ++ [key]) (its ++ [y]) X' R1' Y' R2' ∧ zaH ((0,bvB v) :: (1,zvB) :: (2,oB v X' Y') :: (R1' ++ (R2' ++ []))) o ∧ tm.length=63 ∧ tm[1]? = some (.p 0 0) ∧ tm[2]? = some (.p 1 0) ∧ tm[3]? = some (.p 2 0) ∧ tm[36]? = some (.row S.length (S.map .s)) ∧ tm[37]? = some (.i .i64 (S.length:Int)) ∧ tm[38]? = some (.i .i64 (i:Int))) ?_ ?_
   ·rcases hS with ⟨z1,z2,rfl,rfl,rfl,rfl⟩ | ⟨b1,g1,b2,g2,rfl,rfl,rfl,rfl⟩
    ·have hlq:=(List.getElem?_eq_some_iff.1 e3).1
     have hli:=(List.getElem?_eq_some_iff.1 ei).1
     have n1:¬ 2=o8.length:=by omega
     have n2:¬ qi=o8.length:=by omega
     have h1:∀ x,(o8 ++ [x])[2]? = some (.box 26 [.i .i64 v.kind,.s v.text,.nil,.nil]):=fun x => by rw [List.getElem?_append_left hlq]; exact e3
     have h2:∀ z,(o8 ++ [z])[qi]? = some (.box 26 [.i .i64 x.kind,.s x.text,.row x.keys.length (x.keys.map .s),.row x.items.length (zac x.items)]):=fun z => by rw [List.getElem?_append_left hli]; exact ei
     have h3:∀ x y,(o8 ++ [x] ++ [y])[2]? = some (.box 26 [.i .i64 v.kind,.s v.text,.nil,.nil]):=fun x y => by rw [List.getElem?_append_left (by simp; omega)]; exact h1 x
     have h4:∀ x y z,((o8 ++ [x] ++ [y]).set 2 z)[2]? = some z:=fun x y z => List.getElem?_set_self (by simp; omega)
     subst z1 z2
     simp only [sxZ,z6,z7,z8,j4,j5,j6,j7,j8,j9,x0,x3,x4,x5,x6,x7,reduceCtorEq,↓reduceIte,List.getElem?_set,hlen,t3,e3,ei,gn1,sn1,h1,h2,h3,h4,n1,n2]
     refine zd1 (hcall ⟨rfl,rfl⟩) ?_
     simp only [sxZ,z6,z7,z8,j4,j5,j6,j7,j8,j9,x0,x3,x4,x5,x6,x7,reduceCtorEq,↓reduceIte,List.getElem?_set,hlen,t3,e3,ei,gn1,sn1,h1,h2,h3,h4,n1,n2,zab,List.length_set,List.set_set,t1,t2,t36,t37,t38,and_self,and_true,not_false_eq_true,true_and]
     have hN:=(hO8p.new (.orow 9 1 0 1 [AV.s key])).new (.orow 26 4 0 1 [c0,c1,c2,c3])
     have elen:(o8 ++ [OB.orow 9 1 0 1 [AV.s key]]).length=o8.length + 1:=by simp
     rw [elen] at hN
     have hR:=hN.set (A:=[(o8.length + 1,OB.orow 26 4 0 1 [c0,c1,c2,c3]),(o8.length,OB.orow 9 1 0 1 [AV.s key]),(0,bvB v),(1,zvB)]) (oB v (.orow o8.length 0) (.orow (o8.length + 1) 0))
     refine ⟨_,[(o8.length,OB.orow 9 1 0 1 [AV.s key])],_,[(o8.length + 1,OB.orow 26 4 0 1 [c0,c1,c2,c3])],.inr ⟨_,_,_,_,rfl,rfl,rfl,by rw [zaD,zaw,hcv]; rfl⟩,hR.perm ?_⟩
     refine (List.perm_append_comm (l₁:=[(o8.length + 1,OB.orow 26 4 0 1 [c0,c1,c2,c3]),(o8.length,OB.orow 9 1 0 1 [AV.s key])]) (l₂:=[(0,bvB v),(1,zvB),(2,oB v (.orow o8.length 0) (.orow (o8.length + 1) 0))])).trans ?_
     exact List.Perm.cons _ (List.Perm.cons _ (List.Perm.cons _ (List.Perm.swap _ _ _)))
    ·have eb1:=hO8p.get (i:=b1) (x:=.orow 9 1 g1 ks.length (ks.map .s)) (by simp)
     have eb2:=hO8p.get (i:=b2) (x:=.orow 26 4 g2 its.length (zac its)) (by simp)
     have hlq:=(List.getElem?_eq_some_iff.1 e3).1
     have hl1:=(List.getElem?_eq_some_iff.1 eb1).1
     have hl2:=(List.getElem?_eq_some_iff.1 eb2).1
     have hnd8:=hO2.1
     simp only [List.map_cons,List.map_append,List.map_nil,List.nodup_cons,List.cons_append,List.nil_append,List.mem_cons,List.mem_append,List.not_mem_nil,or_false,not_or] at hnd8
     have n1:¬ 2=b1:=hnd8.2.2.2.1.1
     have n2:¬ qi=b1:=hnd8.1.2.2.2.1
     have n3:¬ b1=b2:=hnd8.2.2.2.2.1
     have n4:¬ 2=b2:=hnd8.2.2.2.1.2
     have n1':¬ b1=2:=fun h => n1 h.symm
     have n2':¬ b1=qi:=fun h => n2 h.symm
     have n4':¬ b2=2:=fun h => n4 h.symm
     have h0:∀ x,(o8.set b1 x)[b1]? = some x:=fun x => List.getElem?_set_self hl1
     have h1:∀ x,(o8.set b1 x)[2]? = some (.box 26 [.i .i64 v.kind,.s v.text,.orow b1 g1,.orow b2 g2]):=fun x => by rw [List.getElem?_set_ne n1']; exact e3
     have h2:∀ z,(o8.set b1 z)[qi]? = some (.box 26 [.i .i64 x.kind,.s x.text,.row x.keys.length (x.keys.map .s),.row x.items.length (zac x.items)]):=fun z => by rw [List.getElem?_set_ne n2']; exact ei
     have h5:∀ x,(o8.set b1 x)[b2]? = some (.orow 26 4 g2 its.length (zac its)):=fun x => by rw [List.getElem?_set_ne n3]; exact eb2
     have h3:∀ x y,((o8.set b1 x).set b2 y)[2]? = some (.box 26 [.i .i64 v.kind,.s v.text,.orow b1 g1,.orow b2 g2]):=fun x y => by rw [List.getElem?_set_ne n4']; exact h1 x
     have h4:∀ x y z,(((o8.set b1 x).set b2 y).set 2 z)[2]? = some z:=fun x y z => List.getElem?_set_self (by simp; omega)
     have hjl:=zax its
     simp only [sxZ,z6,z7,z8,j4,j5,j6,j7,j8,j9,x0,x3,x4,x5,x6,x7,reduceCtorEq,↓reduceIte,List.getElem?_set,hlen,t3,e3,ei,eb1,h0,h1,h2,h3,h4,h5,n1,n2]
     refine ⟨⟨by omega,by omega⟩,?_⟩
     refine zd1 (hcall ⟨rfl,rfl⟩) ?_
     simp only [sxZ,z6,z7,z8,j4,j5,j6,j7,j8,j9,x0,x3,x4,x5,x6,x7,reduceCtorEq,↓reduceIte,List.getElem?_set,hlen,t3,e3,ei,eb1,h0,h1,h2,h3,h4,h5,n1,n2,zab,List.length_set,List.set_set,t1,t2,t36,t37,t38,and_self,and_true,not_false_eq_true,true_and]
     refine ⟨⟨by omega,by omega⟩,?_⟩
     have hN:=hO8p.set (A:=[(0,bvB v),(1,zvB),(2,oB v (.orow b1 g1) (.orow b2 g2))]) (.orow 9 1 (g1 + 1) (ks.length + 1) (ks.map AV.s ++ [AV.s key]))
     have hN:=hN.set (A:=[(0,bvB v),(1,zvB),(2,oB v (.orow b1 g1) (.orow b2 g2)),(b1,OB.orow 9 1 (g1 + 1) (ks.length + 1) (ks.map AV.s ++ [AV.s key]))]) (.orow 26 4 (g2 + 1) (its.length + 1) (zac its ++ [c0,c1,c2,c3]))
     have hR:=hN.set (A:=[(0,bvB v),(1,zvB)]) (oB v (.orow b1 (g1 + 1)) (.orow b2 (g2 + 1)))
     exact ⟨_,[(b1,OB.orow 9 1 (g1 + 1) (ks.length + 1) (ks.map AV.s ++ [AV.s key]))],_,[(b2,OB.orow 26 4 (g2 + 1) (its.length + 1) (zac its ++ [c0,c1,c2,c3]))],.inr ⟨_,_,_,_,rfl,by rw [List.map_append,List.length_append]; rfl,rfl,by rw [zdB,zaD,zaw,hcv,List.length_append]; rfl⟩,hR⟩
   ·clear hlen t1 t2 t3 t36 t37 t38 e0 e1 e3 s1 ei hO2 hO8p hS
    rintro o5 tm ⟨X',R1',Y',R2',hS,hO5,hlen,t1,t2,t3,t36,t37,t38⟩
    subst hV
    simp only [sxZ,z6,z7,z8,j4,j5,j6,j7,j8,j9,x0,x3,x4,x5,x6,x7,reduceCtorEq,↓reduceIte,List.getElem?_set,hlen,t1,t2,t3,t36,t37,t38]
    exact ⟨by omega,S.length - (i + 1),by omega,i + 1,ks ++ [key],its ++ [y],X',R1',Y',R2',by omega,rfl,hks2,hits2,by rw [List.length_append,hkl]; rfl,by rw [List.length_append,hil]; rfl,hS,by simpa using hO5,rfl⟩
  have hn:i=S.length:=by omega
  rw [hn,List.take_of_length_le (Nat.le_refl _)] at hks
  rw [hn,List.take_of_length_le (by simp)] at hits
  rw [← hits] at hoj
  rw [← hks] at hoj
  simp only [sxZ,z6,z7,z8,j4,j5,j6,j7,j8,j9,x0,x3,x4,x5,x6,x7,reduceCtorEq,↓reduceIte,List.getElem?_set,hlen,t36,t37,t38,hlt]
  subst hW
  subst hZ
  rcases hS with ⟨z1,z2,rfl,rfl,rfl,rfl⟩ | ⟨b1,g1,b2,g2,rfl,rfl,rfl,rfl⟩
  ·simp only [sxZ,z6,z7,z8,j4,j5,j6,j7,j8,j9,x0,x3,x4,x5,x6,x7,reduceCtorEq,↓reduceIte,List.getElem?_set,hlen,t2,t3,e1,e2,s1]
   exact ⟨cv hoj (.inl ⟨by rw [z1]; rfl,by rw [z1]; rfl,rfl⟩) (.inl ⟨by rw [z2]; rfl,by rw [z2,zaw],rfl⟩),hk⟩
  ·have hO2:=zaH.set (A:=[(0,bvB v)]) (OB.box 26 [.i .i64 v.kind,.s v.text,.orow b1 g1,.orow b2 g2]) hO
   have eb1:=hO2.get (i:=b1) (x:=.orow 9 1 g1 ks.length (ks.map .s)) (by simp)
   have eb2:=hO2.get (i:=b2) (x:=.orow 26 4 g2 its.length (zac its)) (by simp)
   simp only [sxZ,z6,z7,z8,j4,j5,j6,j7,j8,j9,x0,x3,x4,x5,x6,x7,reduceCtorEq,↓reduceIte,List.getElem?_set,hlen,t2,t3,e1,e2,s1,eb1,eb2,ziE,zfi]
   exact ⟨cv hoj (.inr rfl) (.inr rfl),hk⟩
end
end
end Go.Proofs.YthmdohgkmdkeeaaGreatDoor
namespace Go.Proofs.YthmdohgkmdkeeaaGreatDoor
open Go.RowKit Sx
theorem tnews1 (W:World) (a:Value):∀ j u,[a][j]? = some u → (W.alloc (.cells #[a] 5)).cell? ((⟨W.heap.size,0,none⟩:Addr).add j)=some u:=by
 intro j u hj
 rw [zav,World.cell?_alloc_at _ _ _ _ rfl]
 simpa using hj
theorem tnews2 (W:World) (a b:Value):∀ j u,[a,b][j]? = some u → (W.alloc (.cells #[a,b] 5)).cell? ((⟨W.heap.size,0,none⟩:Addr).add j)=some u:=by
 intro j u hj
 rw [zav,World.cell?_alloc_at _ _ _ _ rfl]
 simpa using hj
theorem tnews6 (W:World) (a b c d e f:Value):∀ j u,[a,b,c,d,e,f][j]? = some u → (W.alloc (.cells #[a,b,c,d,e,f] 5)).cell? ((⟨W.heap.size,0,none⟩:Addr).add j)=some u:=by
 intro j u hj
 rw [zav,World.cell?_alloc_at _ _ _ _ rfl]
 simpa using hj
theorem zlh (c:UInt8) (i j:Nat) (hi:i=c.toNat / 16) (hj:j=c.toNat % 16) (h1:i < ByteArray.size { data:=#[48,49,50,51,52,53,54,55,56,57,97,98,99,100,101,102] }) (h2:j < ByteArray.size { data:=#[48,49,50,51,52,53,54,55,56,57,97,98,99,100,101,102] }) :
  bv [92,117,48,48,zdM (c.toNat / 16),zdM (c.toNat % 16)]=[.int .u8 92,.int .u8 117,.int .u8 48,.int .u8 48,.int .u8 (({ data:=#[48,49,50,51,52,53,54,55,56,57,97,98,99,100,101,102] }:ByteArray)[i]).toNat,.int .u8 (({ data:=#[48,49,50,51,52,53,54,55,56,57,97,98,99,100,101,102] }:ByteArray)[j]).toNat]:=by
 have key:∀ (k:Nat) (h:k < ByteArray.size { data:=#[48,49,50,51,52,53,54,55,56,57,97,98,99,100,101,102] }),(({ data:=#[48,49,50,51,52,53,54,55,56,57,97,98,99,100,101,102] }:ByteArray)[k])=zdM k:=by
  intro k h
  have h3:k < 16:=h
  have h4:=hexS_at ⟨k,h3⟩
  have h':k < [(48:UInt8),49,50,51,52,53,54,55,56,57,97,98,99,100,101,102].length:=h
  rw [← h4,List.getD_eq_getElem?_getD,List.getElem?_eq_getElem h']
  rfl
 rw [key i h1,key j h2,hi,hj]
 rfl
theorem brow_lit (w:World) (B:Nat) (hB:B ≤ w.heap.size):zdo (w.alloc (.cells #[.int .u8 34] 5)) B (.slice (some ⟨w.heap.size,0,none⟩) 1 1) [34]:=by
 refine ⟨by simp [bv],.inr ⟨w.heap.size,1,#[.int .u8 34],by simp,hB,heap_alloc_new w _,by simp,by simp [maxLen],by simp,?_⟩⟩
 simp [bv]
theorem zmF (s:ByteArray) (k:Nat) (h:k < s.size):quoP s.data.toList (k + 1)=quoP s.data.toList k ++ zbw s[k]:=by
 rw [← zmG s.data.toList k (by rw [zah]; exact h),at_list s k h]
set_option maxRecDepth 1000000 in
set_option maxHeartbeats 4000000 in
theorem zk0 (s:ByteArray) (w:World) (hs:s.size ≤ 140737488351232) :
  Calls Tryz.prog 77 #[.string s] w fun e w' => e=.returned (resV (zdK s.data.toList)) ∧ Qb w w':=by
 have hmx:=zbC
 by_cases c0:(1048576:Int) < s.size
 ·have hE:zdK s.data.toList=(5,[]):=by unfold zdK; rw [if_pos (by rw [zah]; omega)]
  rw [hE]
  go_enter Tryz.func77,Tryz.ntmps77
  go_wp2_with fail
  go_ret2
  exact ⟨rfl,Qb.refl _⟩
 rcases hv:za2 s.data.toList with _ | _
 ·have hE:zdK s.data.toList=(7,[]):=by unfold zdK; rw [if_neg (by rw [zah]; omega),if_pos hv]
  rw [hE]
  go_enter Tryz.func77,Tryz.ntmps77
  go_wp2_with fail
  refine (zen s _ hs).mono ?_
  rintro e w1 ⟨rfl,hq1⟩
  rw [hv]
  go_wp2_with fail
  go_ret2
  exact ⟨rfl,hq1⟩
 ·have hE:zdK s.data.toList=(0,zdU s.data.toList):=by unfold zdK; rw [if_neg (by rw [zah]; omega),if_neg (by rw [hv]; simp)]
  have HE:=Lib.hid hE
  clear hE
  go_enter Tryz.func77,Tryz.ntmps77
  go_wp2_with fail
  refine (zen s _ hs).mono ?_
  rintro e w1 ⟨rfl,hq1⟩
  rw [hv]
  go_wp2_with fail
  have hB1:w.heap.size ≤ w1.heap.size:=hq1.size
  go_loopw [4,5,6] (fun v i _ wr => ∃ k:Nat,∃ l,k ≤ s.size ∧ i=.int .i64 k ∧ zdo wr w.heap.size v l ∧ l.length ≤ 6 * k + 1 ∧ Hid (l=quoP s.data.toList k) ∧ Qb w wr) (fun _ i _ _ => s.size - (intOf i).toNat)
  case atStart => exact ⟨0,[34],Nat.zero_le _,rfl,brow_lit _ _ hB1,Nat.le_refl _,Lib.hid rfl,hq1.alloc _⟩
  case round =>
   obtain ⟨k,l,hk,rfl,hrow,hlen,HL,hq⟩:=hrel
   have hB:w.heap.size ≤ wr.heap.size:=hq.size
   by_cases hlt:k < s.size
   ·have HS:=Lib.hid (zmF s k hlt)
    generalize hc:s[k]=c at *
    by_cases n34:c=34
    ·have d34:(((c.toNat:Nat):Int) == 34)=true:=by rw [n34]; rfl
     have HQ:Hid (zbw c=[92,c]):=Lib.hid (by rw [n34]; rfl)
     clear n34
     go_wp2_with (at_builtin; refine za6 rfl (.tmp 34) (.tmp 36) rfl w.heap.size _ l [92,c] rfl (hrow.alloc _) _ _ _ rfl rfl (tnews2 _ _ _) (by simp; omega) (by simp; omega) ?_; intro v1 w1 hr1 hb1)
     go_roundw
     case rel => exact ⟨k + 1,_,by omega,by go_num,hr1,by simp; omega,Lib.hid (by rw [HS.out,HL.out,HQ.out]),Below.trans (hq.alloc _) hb1⟩
     case measure => simp [intOf]; omega
    by_cases n92:c=92
    ·have d92:(((c.toNat:Nat):Int) == 92)=true:=by rw [n92]; rfl
     have d34:(((c.toNat:Nat):Int) == 34)=false:=by rw [n92]; rfl
     have HQ:Hid (zbw c=[92,c]):=Lib.hid (by rw [n92]; rfl)
     clear n92
     go_wp2_with (at_builtin; refine za6 rfl (.tmp 34) (.tmp 36) rfl w.heap.size _ l [92,c] rfl (hrow.alloc _) _ _ _ rfl rfl (tnews2 _ _ _) (by simp; omega) (by simp; omega) ?_; intro v1 w1 hr1 hb1)
     go_roundw
     case rel => exact ⟨k + 1,_,by omega,by go_num,hr1,by simp; omega,Lib.hid (by rw [HS.out,HL.out,HQ.out]),Below.trans (hq.alloc _) hb1⟩
     case measure => simp [intOf]; omega
    by_cases n8:c=8
    ·have d8:(((c.toNat:Nat):Int) == 8)=true:=by rw [n8]; rfl
     have d34:(((c.toNat:Nat):Int) == 34)=false:=by rw [n8]; rfl
     have d92:(((c.toNat:Nat):Int) == 92)=false:=by rw [n8]; rfl
     have HQ:Hid (zbw c=[92,98]):=Lib.hid (by rw [n8]; rfl)
     clear n8
     go_wp2_with (at_builtin; refine zaU rfl (.tmp 41) (.const (.string ⟨#[92,98]⟩)) rfl w.heap.size _ l rfl hrow _ rfl (by show l.length + 2 ≤ _; omega) (by omega) ?_; intro v1 w1 hr1 hb1)
     go_roundw
     case rel => exact ⟨k + 1,_,by omega,by go_num,hr1,by simp; omega,Lib.hid (by rw [HS.out,HL.out,HQ.out]),Below.trans hq hb1⟩
     case measure => simp [intOf]; omega
    by_cases n12:c=12
    ·have d12:(((c.toNat:Nat):Int) == 12)=true:=by rw [n12]; rfl
     have d34:(((c.toNat:Nat):Int) == 34)=false:=by rw [n12]; rfl
     have d92:(((c.toNat:Nat):Int) == 92)=false:=by rw [n12]; rfl
     have d8:(((c.toNat:Nat):Int) == 8)=false:=by rw [n12]; rfl
     have HQ:Hid (zbw c=[92,102]):=Lib.hid (by rw [n12]; rfl)
     clear n12
     go_wp2_with (at_builtin; refine zaU rfl (.tmp 46) (.const (.string ⟨#[92,102]⟩)) rfl w.heap.size _ l rfl hrow _ rfl (by show l.length + 2 ≤ _; omega) (by omega) ?_; intro v1 w1 hr1 hb1)
     go_roundw
     case rel => exact ⟨k + 1,_,by omega,by go_num,hr1,by simp; omega,Lib.hid (by rw [HS.out,HL.out,HQ.out]),Below.trans hq hb1⟩
     case measure => simp [intOf]; omega
    by_cases n10:c=10
    ·have d10:(((c.toNat:Nat):Int) == 10)=true:=by rw [n10]; rfl
     have d34:(((c.toNat:Nat):Int) == 34)=false:=by rw [n10]; rfl
     have d92:(((c.toNat:Nat):Int) == 92)=false:=by rw [n10]; rfl
     have d8:(((c.toNat:Nat):Int) == 8)=false:=by rw [n10]; rfl
     have d12:(((c.toNat:Nat):Int) == 12)=false:=by rw [n10]; rfl
     have HQ:Hid (zbw c=[92,110]):=Lib.hid (by rw [n10]; rfl)
     clear n10
     go_wp2_with (at_builtin; refine zaU rfl (.tmp 51) (.const (.string ⟨#[92,110]⟩)) rfl w.heap.size _ l rfl hrow _ rfl (by show l.length + 2 ≤ _; omega) (by omega) ?_; intro v1 w1 hr1 hb1)
     go_roundw
     case rel => exact ⟨k + 1,_,by omega,by go_num,hr1,by simp; omega,Lib.hid (by rw [HS.out,HL.out,HQ.out]),Below.trans hq hb1⟩
     case measure => simp [intOf]; omega
    by_cases n13:c=13
    ·have d13:(((c.toNat:Nat):Int) == 13)=true:=by rw [n13]; rfl
     have d34:(((c.toNat:Nat):Int) == 34)=false:=by rw [n13]; rfl
     have d92:(((c.toNat:Nat):Int) == 92)=false:=by rw [n13]; rfl
     have d8:(((c.toNat:Nat):Int) == 8)=false:=by rw [n13]; rfl
     have d12:(((c.toNat:Nat):Int) == 12)=false:=by rw [n13]; rfl
     have d10:(((c.toNat:Nat):Int) == 10)=false:=by rw [n13]; rfl
     have HQ:Hid (zbw c=[92,114]):=Lib.hid (by rw [n13]; rfl)
     clear n13
     go_wp2_with (at_builtin; refine zaU rfl (.tmp 56) (.const (.string ⟨#[92,114]⟩)) rfl w.heap.size _ l rfl hrow _ rfl (by show l.length + 2 ≤ _; omega) (by omega) ?_; intro v1 w1 hr1 hb1)
     go_roundw
     case rel => exact ⟨k + 1,_,by omega,by go_num,hr1,by simp; omega,Lib.hid (by rw [HS.out,HL.out,HQ.out]),Below.trans hq hb1⟩
     case measure => simp [intOf]; omega
    by_cases n9:c=9
    ·have d9:(((c.toNat:Nat):Int) == 9)=true:=by rw [n9]; rfl
     have d34:(((c.toNat:Nat):Int) == 34)=false:=by rw [n9]; rfl
     have d92:(((c.toNat:Nat):Int) == 92)=false:=by rw [n9]; rfl
     have d8:(((c.toNat:Nat):Int) == 8)=false:=by rw [n9]; rfl
     have d12:(((c.toNat:Nat):Int) == 12)=false:=by rw [n9]; rfl
     have d10:(((c.toNat:Nat):Int) == 10)=false:=by rw [n9]; rfl
     have d13:(((c.toNat:Nat):Int) == 13)=false:=by rw [n9]; rfl
     have HQ:Hid (zbw c=[92,116]):=Lib.hid (by rw [n9]; rfl)
     clear n9
     go_wp2_with (at_builtin; refine zaU rfl (.tmp 61) (.const (.string ⟨#[92,116]⟩)) rfl w.heap.size _ l rfl hrow _ rfl (by show l.length + 2 ≤ _; omega) (by omega) ?_; intro v1 w1 hr1 hb1)
     go_roundw
     case rel => exact ⟨k + 1,_,by omega,by go_num,hr1,by simp; omega,Lib.hid (by rw [HS.out,HL.out,HQ.out]),Below.trans hq hb1⟩
     case measure => simp [intOf]; omega
    have hq0:zbw c=if c.toNat < 32 then [92,117,48,48,zdM (c.toNat / 16),zdM (c.toNat % 16)] else [c]:=quoB_hex n34 n92 n8 n12 n10 n13 n9
    have d34:(((c.toNat:Nat):Int) == 34)=false:=by rw [beq_eq_false_iff_ne]; intro h; exact n34 ((zbN (by decide)).1 h)
    have d92:(((c.toNat:Nat):Int) == 92)=false:=by rw [beq_eq_false_iff_ne]; intro h; exact n92 ((zbN (by decide)).1 h)
    have d8:(((c.toNat:Nat):Int) == 8)=false:=by rw [beq_eq_false_iff_ne]; intro h; exact n8 ((zbN (by decide)).1 h)
    have d12:(((c.toNat:Nat):Int) == 12)=false:=by rw [beq_eq_false_iff_ne]; intro h; exact n12 ((zbN (by decide)).1 h)
    have d10:(((c.toNat:Nat):Int) == 10)=false:=by rw [beq_eq_false_iff_ne]; intro h; exact n10 ((zbN (by decide)).1 h)
    have d13:(((c.toNat:Nat):Int) == 13)=false:=by rw [beq_eq_false_iff_ne]; intro h; exact n13 ((zbN (by decide)).1 h)
    have d9:(((c.toNat:Nat):Int) == 9)=false:=by rw [beq_eq_false_iff_ne]; intro h; exact n9 ((zbN (by decide)).1 h)
    clear n34 n92 n8 n12 n10 n13 n9
    by_cases c8:((c.toNat:Nat):Int) < 32
    ·rw [if_pos (by omega)] at hq0
     have HQ:=Lib.hid hq0
     clear hq0
     have a1:(0:Int) ≤ (c.toNat:Int) / 16:=by omega
     have a2:(c.toNat:Int) / 16 < 16:=by omega
     have b1:(0:Int) ≤ (c.toNat:Int) % 16:=by omega
     have b2:(c.toNat:Int) % 16 < 16:=by omega
     have e1:IntKind.u8.wrap ((c.toNat:Int) / 16)=(c.toNat:Int) / 16:=by
      have:=c.toNat_lt
      simp [IntKind.wrap,IntKind.bits,IntKind.signed]; omega
     have e2:IntKind.u8.wrap ((c.toNat:Int) % 16)=(c.toNat:Int) % 16:=by
      have:=c.toNat_lt
      simp [IntKind.wrap,IntKind.bits,IntKind.signed]; omega
     have e3:((c.toNat:Nat):Int).tmod 16=(c.toNat:Int) % 16:=Int.tmod_eq_emod_of_nonneg (by omega)
     have hcells:=Lib.hid (zlh c ((c.toNat:Int) / 16).toNat ((c.toNat:Int) % 16).toNat (by omega) (by omega) (by show _ < 16; omega) (by show _ < 16; omega))
     go_wp2_with fail
     go_region_law (first | (refine ze6 rfl (.tmp 66) (.tmp 73) rfl w.heap.size _ l [92,117,48,48,zdM (c.toNat / 16),zdM (c.toNat % 16)] rfl (zdo.drew (hrow.alloc _)) _ _ _ rfl rfl (by rw [hcells.out]; exact tnews6 _ _ _ _ _ _ _) (by simp; omega) (by simp; omega) ?_; intro v1 w1 hr1 hb1) | fail)
     all_goals have hb2:=Below.trans ((hq.alloc _).drew) hb1
     all_goals (try go_wp2_with fail)
     all_goals
      go_roundw
      case rel => exact ⟨k + 1,_,by omega,by go_num,hr1,by simp; omega,Lib.hid (by rw [HS.out,HL.out,HQ.out]),hb2⟩
      case measure => simp [intOf]; omega
    ·rw [if_neg (by omega)] at hq0
     have HQ:=Lib.hid hq0
     clear hq0
     go_wp2_with (at_builtin; refine za6 rfl (.tmp 23) (.tmp 25) rfl w.heap.size _ l [c] rfl (hrow.alloc _) _ _ _ rfl rfl (tnews1 _ _) (by simp; omega) (by simp; omega) ?_; intro v1 w1 hr1 hb1)
     go_roundw
     case rel => exact ⟨k + 1,_,by omega,by go_num,hr1,by simp; omega,Lib.hid (by rw [HS.out,HL.out,HQ.out]),Below.trans (hq.alloc _) hb1⟩
     case measure => simp [intOf]; omega
   ·have hke:k=s.size:=by omega
    have HZ:Hid (l ++ [34]=zdU s.data.toList):=Lib.hid (by
     have h:=quoP_end s.data.toList
     rw [zah] at h
     rw [HL.out,hke]
     unfold quoP zdU
     rw [← zah,List.take_length]; rfl)
    go_wp2_with (at_builtin; refine za6 rfl (.tmp 75) (.tmp 76) rfl w.heap.size _ l [34] rfl (hrow.alloc _) _ _ _ rfl rfl (tnews1 _ _) (by simp; omega) (by simp; omega) ?_; intro v1 w1 hr1 hb1; have hst:=row_str hr1)
    go_ret2
    exact ⟨by rw [HE.out,← HZ.out]; rfl,Below.trans (hq.alloc _) hb1⟩
end Go.Proofs.YthmdohgkmdkeeaaGreatDoor
namespace Go.Proofs.YthmdohgkmdkeeaaGreatDoor
open Nat renaming reduceAdd → z6, reduceSub → z7, reduceLeDiff → z8, reduceLT → j4, reduceMul → j5, reduceEqDiff → j6
open Int renaming reduceToNat → j7, reduceAdd → j8, reduceSub → j9, reduceMul → x0, reduceNeg → x3, reduceLT → x4, reduceLE → x5, reduceEq → x6, reduceNe → x7
open Go.RowKit Sx
section
attribute [local irreducible] run
def zfM:List UInt8:=[110,117,108,108]
mutual
/-- the text of a value -/
def wrJ:JV → List UInt8
 | .mk k t ks its => if k=1 then zfM else if k=2 then zcS else if k=3 then zeJ else if k=4 then t else if k=5 then (zdK t).2 else if k=7 then 123 :: (wrI true true ks its ++ [125]) else 91 :: (wrI false true ks its ++ [93])
/-- .. of its members: objects', the first one -/
def wrI:Bool → Bool → List (List UInt8) → List JV → List UInt8
 | _,_,_,[] => []
 | o,f,ks,v :: l => (if f=true then [] else [44]) ++ ((if o=true then (zdK (ks.head?.getD [])).2 ++ [58] else []) ++ (wrJ v ++ wrI o false ks.tail l))
end
theorem wrJ_eq (v:JV):wrJ v=if v.kind=1 then zfM else if v.kind=2 then zcS else if v.kind=3 then zeJ else if v.kind=4 then v.text else if v.kind=5 then (zdK v.text).2 else if v.kind=7 then 123 :: (wrI true true v.keys v.items ++ [125]) else 91 :: (wrI false true v.keys v.items ++ [93]):=by cases v; rw [wrJ]; rfl
theorem zjJ (s:List UInt8):(zdK s).2.length ≤ 6 * s.length + 2:=by
 unfold zdK
 split
 ·exact Nat.zero_le _
 split
 ·exact Nat.zero_le _
 ·show (zdU s).length ≤ _
  unfold zdU
  have:=quoL_len s
  rw [List.length_cons,List.length_append,List.length_cons,List.length_nil]; omega
mutual
theorem zio:∀ v:JV,JKp v → (wrJ v).length + 1804 ≤ 4000 * v.size
 | .mk k t ks its,h => by
  obtain ⟨l1,l2,l3,l4⟩:=h.lens
  have hs:=size_eq (.mk k t ks its)
  have hi:∀ o f,(wrI o f ks its).length ≤ 4000 * JV.sizes its:=fun o f => zly its (by rw [JKp] at h; exact h.2.2.2.2) o f ks l4
  have hq:=zjJ t
  have h1:=hi true true
  have h2:=hi false true
  simp only [JV.items,JV.text,JV.keys] at hs l3 l4
  rw [wrJ]
  split
  ·show 4 + 1804 ≤ _; omega
  split
  ·show 5 + 1804 ≤ _; omega
  split
  ·show 4 + 1804 ≤ _; omega
  split
  ·omega
  split
  ·omega
  split
  ·simp only [List.length_cons,List.length_append,List.length_nil]; omega
  ·simp only [List.length_cons,List.length_append,List.length_nil]; omega
theorem zly:∀ (l:List JV),zeI l → ∀ (o f:Bool) (ks:List (List UInt8)),(∀ k ∈ ks,k.length ≤ 300) → (wrI o f ks l).length ≤ 4000 * JV.sizes l
 | [],_,o,f,ks,_ => by rw [wrI]; exact Nat.zero_le _
 | v :: l,h,o,f,ks,hk => by
  rw [zeI] at h
  have h1:=zio v h.1
  have h2:=zly l h.2 o false ks.tail (fun k hk' => hk k (List.mem_of_mem_tail hk'))
  have h3:(zdK (ks.head?.getD [])).2.length ≤ 1802:=by
   have:=zjJ (ks.head?.getD [])
   cases ks with
   | nil => simp at this ⊢; omega
   | cons a ks =>
    have:=hk a (by simp)
    simp at *
    omega
  rw [wrI,JV.sizes]
  have h4:(if f=true then ([]:List UInt8) else [44]).length ≤ 1:=by cases f <;> simp
  have h5:(if o=true then (zdK (ks.head?.getD [])).2 ++ [58] else []).length ≤ 1803:=by cases o <;> simp <;> omega
  simp only [List.length_append]
  omega
end
mutual
/-- objects have as many keys as items, wherever -/
def WfW:JV → Prop
 | .mk k t ks its => (k=7 → ks.length=its.length) ∧ zoX its
def zoX:List JV → Prop
 | [] => True
 | v :: l => WfW v ∧ zoX l
end
theorem zlD:∀ {l:List JV} (h:zoX l) {i:Nat} (hi:i < l.length),WfW l[i]
 | a :: l,h,0,hi => by rw [zoX] at h; exact h.1
 | a :: l,h,i + 1,hi => by rw [zoX] at h; exact zlD h.2 (by simpa using hi)
theorem WfW.its {v:JV} (h:WfW v) {i:Nat} (hi:i < v.items.length):WfW v.items[i]:=by
 cases v with
 | mk k t ks its => rw [WfW] at h; exact zlD h.2 hi
theorem WfW.len {v:JV} (h:WfW v):v.kind=7 → v.keys.length=v.items.length:=by
 cases v with
 | mk k t ks its => rw [WfW] at h; exact h.1
theorem wrI_drop (o:Bool):∀ (ks:List (List UInt8)) (l:List JV) (f:Bool) {i:Nat} (hi:i < l.length),(o=true → i < ks.length) →
  wrI o f (ks.drop i) (l.drop i)=(if f=true then [] else [44]) ++ ((if o=true then (zdK (ks[i]?.getD [])).2 ++ [58] else []) ++ (wrJ l[i] ++ wrI o false (ks.drop (i + 1)) (l.drop (i + 1)))):=by
 intro ks l f i hi hk
 rw [zcM hi,wrI,List.tail_drop]
 congr 2
 cases o with
 | false => rfl
 | true =>
  have h1:=hk rfl
  rw [List.head?_drop]
section
variable {P:Program} [Tabs P] {C:Cx}
theorem zdj {E sz by' n m:Nat} {xs ys:List AV} {X:AV} {R A B:List (Nat × OB)} {o:List OB} {d:Option Nat} {r:List SO} {k:List IT} {tm:List AV} {F:zaI}
  (hS:SlO E sz n xs X R) (hO:zaH (A ++ (R ++ B)) o) (c:ys.length=m * sz ∧ (n + m) * by' ≤ 140737488355328 ∧ n + m ≤ 140737488355328)
  (next:∀ X' R' o',SlO E sz (n + m) (xs ++ ys) X' R' → zaH (A ++ (R' ++ B)) o' → run P C (.ops r :: k) o' (zap tm d X') F):kAp2 P C X E sz by' m ys d r k o tm F:=by
 rcases hS with ⟨rfl,rfl,rfl,rfl⟩ | ⟨b,g,rfl,rfl⟩
 ·rw [znN]
  rw [Nat.zero_add] at c
  refine ⟨c,next _ [(o.length,.orow E sz 0 m ys)] _ (.inr ⟨_,_,rfl,by rw [Nat.zero_add]; rfl⟩) ?_⟩
  exact (hO.new _).perm (List.perm_middle.symm)
 ·rw [znM,hO.get (i:=b) (x:=.orow E sz g n xs) (by simp),znL]
  exact ⟨c,next _ [(b,.orow E sz (g + 1) (n + m) (xs ++ ys))] _ (.inr ⟨_,_,rfl,rfl⟩) (hO.set _)⟩
theorem znD {E n:Nat} {xs:List AV} {l:List UInt8} {X:AV} {R A B:List (Nat × OB)} {o:List OB} {d:Option Nat} {r:List SO} {k:List IT} {tm:List AV} {F:zaI}
  (hS:SlO E 1 n xs X R) (hO:zaH (A ++ (R ++ B)) o) (c:n + l.length ≤ 140737488355328)
  (next:∀ X' R' o',SlO E 1 (n + l.length) (xs ++ byA l) X' R' → zaH (A ++ (R' ++ B)) o' → run P C (.ops r :: k) o' (zap tm d X') F):kAs P C X (.s l) E d r k o tm F:=by
 rcases hS with ⟨rfl,rfl,rfl,rfl⟩ | ⟨b,g,rfl,rfl⟩
 ·rw [kAs_n]
  rw [Nat.zero_add] at c
  refine ⟨c,next _ [(o.length,.orow E 1 0 l.length (byA l))] _ (.inr ⟨_,_,rfl,by rw [Nat.zero_add]; rfl⟩) ?_⟩
  exact (hO.new _).perm (List.perm_middle.symm)
 ·rw [kAs_o,hO.get (i:=b) (x:=.orow E 1 g n xs) (by simp),znE]
  exact ⟨c,next _ [(b,.orow E 1 (g + 1) (n + l.length) (xs ++ byA l))] _ (.inr ⟨_,_,rfl,rfl⟩) (hO.set _)⟩
theorem zc1 {E n:Nat} {a b:List UInt8} {X:AV} {R:List (Nat × OB)} (h:SlO E 1 (a.length + n) (byA a ++ byA b) X R) (hn:b.length=n):SlO E 1 (a ++ b).length (byA (a ++ b)) X R:=by
 rw [List.length_append,zll,hn]; exact h
end
section
variable [Tabs Tryz.prog]
theorem zho (s:List UInt8) (hs:s.length ≤ 140737488351232) {objs:List OB} {K:List OB → AV → Prop} (hk:K objs (.tup [.s (zdK s).2,.i .i64 (zdK s).1])):zad Tryz.prog 77 [.s s] objs K :=
 conv (vs:=[.string (S s)]) rfl rfl (fun w => zk0 (S s) w (by rw [zcj]; exact hs)) hk
theorem write_k:∀ (m:Nat) (v:JV),v.size < m → v.size ≤ 100000 → JKp v → WfW v → ∀ {objs:List OB} {K:List OB → AV → Prop},K objs (.s (wrJ v)) → zad Tryz.prog 53 [.agg (zaj v)] objs K:=by
 intro m
 induction m with
 | zero => intro v h; omega
 | succ m ih =>
  intro v hm hsz hv hw objs K hk
  obtain ⟨l1,l2,l3,l4⟩:=hv.lens
  have hwl:=zio v hv
  refine zaX is_ref15_write (by simp only [zan,AV.plain,zaR,Bool.and_self]) fun C _ => ?_
  rw [c_ref15_write]
  have hjv:=zal v
  rw [hjv]
  refine zaa fun Z hZ => ?_
  simp only [sxZ,z6,z7,z8,j4,j5,j6,j7,j8,j9,x0,x3,x4,x5,x6,x7,reduceCtorEq,↓reduceIte]
  rw [wrJ_eq] at hk hwl
  subst hZ
  refine zaa fun Z hZ => ?_
  refine zaa fun W hW => ?_
  simp only [sxZ,z6,z7,z8,j4,j5,j6,j7,j8,j9,x0,x3,x4,x5,x6,x7,reduceCtorEq,↓reduceIte]
  subst hW
  rw [zaK]
  by_cases a1:v.kind=1
  ·rw [if_pos a1] at hk
   simp only [sxZ,z6,z7,z8,j4,j5,j6,j7,j8,j9,x0,x3,x4,x5,x6,x7,reduceCtorEq,↓reduceIte,a1]
   exact hk
  rw [if_neg a1] at hk hwl
  by_cases a2:v.kind=2
  ·rw [if_pos a2] at hk
   simp only [sxZ,z6,z7,z8,j4,j5,j6,j7,j8,j9,x0,x3,x4,x5,x6,x7,reduceCtorEq,↓reduceIte,a2]
   exact hk
  rw [if_neg a2] at hk hwl
  by_cases a3:v.kind=3
  ·rw [if_pos a3] at hk
   simp only [sxZ,z6,z7,z8,j4,j5,j6,j7,j8,j9,x0,x3,x4,x5,x6,x7,reduceCtorEq,↓reduceIte,a3]
   exact hk
  rw [if_neg a3] at hk hwl
  by_cases a4:v.kind=4
  ·rw [if_pos a4] at hk
   simp only [sxZ,z6,z7,z8,j4,j5,j6,j7,j8,j9,x0,x3,x4,x5,x6,x7,reduceCtorEq,↓reduceIte,a4]
   exact hk
  rw [if_neg a4] at hk hwl
  by_cases a5:v.kind=5
  ·rw [if_pos a5] at hk
   simp only [sxZ,z6,z7,z8,j4,j5,j6,j7,j8,j9,x0,x3,x4,x5,x6,x7,reduceCtorEq,↓reduceIte,a5]
   refine zam (zho v.text (by omega) ?_)
   simp only [sxZ,z6,z7,z8,j4,j5,j6,j7,j8,j9,x0,x3,x4,x5,x6,x7,reduceCtorEq,↓reduceIte]
   exact hk
  rw [if_neg a5] at hk hwl
  simp only [sxZ,z6,z7,z8,j4,j5,j6,j7,j8,j9,x0,x3,x4,x5,x6,x7,reduceCtorEq,↓reduceIte,a1,a2,a3,a4,a5]
  have f0:[OB.box 26 [.i .i64 v.kind,.s v.text,.row v.keys.length (v.keys.map .s),.row v.items.length (zac v.items)]]=[bvB v]:=rfl
  rw [f0]
  have hO:zaH [(0,bvB v)] [bvB v]:=⟨by simp,fun x hx => by
   simp only [List.mem_cons,List.not_mem_nil,or_false] at hx
   rcases hx with rfl <;> rfl⟩
  subst hZ
  refine zbI (fun tm => tm.length=77 ∧ tm[1]? = some (.p 0 0)) ?_ ?_
  ·exact ⟨rfl,rfl⟩
  rintro tm ⟨hlen,t1⟩
  refine zaa fun Z hZ => ?_
  simp only [sxZ,z6,z7,z8,j4,j5,j6,j7,j8,j9,x0,x3,x4,x5,x6,x7,reduceCtorEq,↓reduceIte,List.getElem?_set,hlen]
  subst hZ
  refine zaa fun Z hZ => ?_
  refine zaa fun W hW => ?_
  have eb2:[bvB v][0]? = some (OB.box 26 [.i .i64 v.kind,.s v.text,.row v.keys.length (v.keys.map .s),.row v.items.length (zac v.items)]):=rfl
  generalize [bvB v]=o at hO eb2 ⊢
  simp only [sxZ,z6,z7,z8,j4,j5,j6,j7,j8,j9,x0,x3,x4,x5,x6,x7,reduceCtorEq,↓reduceIte,List.getElem?_set,hlen,t1,eb2]
  subst hW
  rw [zaK]
  obtain ⟨o7,ho7⟩:∃ o7,o7=decide (v.kind=7):=⟨_,rfl⟩
  have hbody:(wrI o7 true v.keys v.items).length + 2 + 1804 ≤ 4000 * v.size:=by
   by_cases a7:v.kind=7
   ·rw [if_pos a7,List.length_cons,List.length_append,List.length_cons,List.length_nil] at hwl
    rw [ho7,decide_eq_true a7]; omega
   ·rw [if_neg a7,List.length_cons,List.length_append,List.length_cons,List.length_nil] at hwl
    rw [ho7,decide_eq_false a7]; omega
  refine zaE (fun n o tm => ∃ (i:Nat) (txt:List UInt8) (X:AV) (R:List (Nat × OB)),i ≤ v.items.length ∧ n=v.items.length - i ∧ wrI o7 true v.keys v.items=txt ++ wrI o7 (decide (i=0)) (v.keys.drop i) (v.items.drop i) ∧ SlO 5 1 txt.length (byA txt) X R ∧ zaH ((0,bvB v) :: (R ++ [])) o ∧ tm.length=77 ∧ tm[1]? = some (.p 0 0) ∧ tm[5]? = some X ∧ tm[32]? = some (.row v.items.length (zac v.items)) ∧ tm[33]? = some (.i .i64 (v.items.length:Int)) ∧ tm[34]? = some (.i .i64 (i:Int))) v.items.length ⟨0,[],.nil,[],Nat.zero_le _,rfl,rfl,.inl ⟨rfl,rfl,rfl,rfl⟩,hO,?_⟩ ?_
  ·simp only [sxZ,z6,z7,z8,j4,j5,j6,j7,j8,j9,x0,x3,x4,x5,x6,x7,reduceCtorEq,↓reduceIte,List.length_set,List.getElem?_set,hlen,t1,Int.cast_ofNat_Int,and_self]
  clear hlen t1 hO eb2
  rintro n o tm ⟨i,txt,X,R,hi,rfl,htx,hS,hO,hlen,t1,t5,t32,t33,t34⟩
  refine zaa fun W hW => ?_
  by_cases hlt:(i:Int) < (v.items.length:Int)
  ·have hi':i < v.items.length:=by omega
   have hki:v.kind=7 → i < v.keys.length:=fun h => by have:=hw.len h; omega
   have hjc:=zd4 hi'
   have hjl:=zax v.items
   have hsx:=zbd hi'
   have hcall:=fun {objs:List OB} {K:List OB → AV → Prop} (h:K objs (.s (wrJ v.items[i]))) => ih v.items[i] (by omega) (by omega) (hv.its hi') (hw.its hi') (objs:=objs) (K:=K) h
   rw [wrI_drop o7 v.keys v.items _ hi' (fun h => hki (by rw [ho7] at h; exact of_decide_eq_true h))] at htx
   generalize v.items[i]=x at hjc hcall htx
   generalize wrJ x=wx at hcall htx
   have hjx:=zal x
   rw [hjx] at hjc hcall
   simp only [sxZ,z6,z7,z8,j4,j5,j6,j7,j8,j9,x0,x3,x4,x5,x6,x7,reduceCtorEq,↓reduceIte,List.getElem?_set,hlen,t32,t33,t34,hlt]
   subst hW
   refine zaa fun W hW => ?_
   simp only [sxZ,z6,z7,z8,j4,j5,j6,j7,j8,j9,x0,x3,x4,x5,x6,x7,reduceCtorEq,↓reduceIte,List.getElem?_set,hlen]
   subst hW
   refine zaa fun V hV => ?_
   rw [zaK]
   refine zaa fun W hW => ?_
   simp only [sxZ,z6,z7,z8,j4,j5,j6,j7,j8,j9,x0,x3,x4,x5,x6,x7,reduceCtorEq,↓reduceIte,List.getElem?_set,hlen,t32,t34,hjc]
   refine ⟨⟨by omega,by omega,by omega⟩,by omega,?_⟩
   simp only [sxZ,z6,z7,z8,j4,j5,j6,j7,j8,j9,x0,x3,x4,x5,x6,x7,reduceCtorEq,↓reduceIte,List.getElem?_set,hlen,gn1,sn1]
   have hO2:=hO.new (.box 26 [.i .i64 x.kind,.s x.text,.row x.keys.length (x.keys.map .s),.row x.items.length (zac x.items)])
   have hO2:zaH ((0,bvB v) :: (o.length,OB.box 26 [.i .i64 x.kind,.s x.text,.row x.keys.length (x.keys.map .s),.row x.items.length (zac x.items)]) :: (R ++ [])) (o ++ [.box 26 [.i .i64 x.kind,.s x.text,.row x.keys.length (x.keys.map .s),.row x.items.length (zac x.items)]]):=hO2.perm (List.Perm.swap _ _ _)
   clear hO
   generalize o.length=q at hO2 ⊢
   generalize o ++ [OB.box 26 [.i .i64 x.kind,.s x.text,.row x.keys.length (x.keys.map .s),.row x.items.length (zac x.items)]]=o at hO2 ⊢
   refine zbI (fun tm => tm.length=77 ∧ tm[1]? = some (.p 0 0) ∧ tm[5]? = some X ∧ tm[6]? = some (.i .i64 (i:Int)) ∧ tm[7]? = some (.p q 0) ∧ tm[32]? = some (.row v.items.length (zac v.items)) ∧ tm[33]? = some (.i .i64 (v.items.length:Int)) ∧ tm[34]? = some (.i .i64 (i:Int))) ?_ ?_
   ·simp only [sxZ,z6,z7,z8,j4,j5,j6,j7,j8,j9,x0,x3,x4,x5,x6,x7,reduceCtorEq,↓reduceIte,List.length_set,List.getElem?_set,hlen,t1,t5,t32,t33,t34,and_self]
   clear hlen t1 t5 t32 t33 t34
   rintro tm ⟨hlen,t1,t5,t6,t7,t32,t33,t34⟩
   subst hW
   refine zaa fun W hW => ?_
   have htl:=congrArg List.length htx
   simp only [List.length_append] at htl
   refine zaG (fun o tm => ∃ X R,SlO 5 1 (txt ++ (if decide (i=0)=true then [] else [44])).length (byA (txt ++ (if decide (i=0)=true then [] else [44]))) X R ∧ zaH ((0,bvB v) :: (q,OB.box 26 [.i .i64 x.kind,.s x.text,.row x.keys.length (x.keys.map .s),.row x.items.length (zac x.items)]) :: (R ++ [])) o ∧ tm.length=77 ∧ tm[1]? = some (.p 0 0) ∧ tm[5]? = some X ∧ tm[6]? = some (.i .i64 (i:Int)) ∧ tm[7]? = some (.p q 0) ∧ tm[32]? = some (.row v.items.length (zac v.items)) ∧ tm[33]? = some (.i .i64 (v.items.length:Int)) ∧ tm[34]? = some (.i .i64 (i:Int))) ?_ ?_
   ·cases i with
    | zero =>
     have z:¬ (0:Int) < ((0:Nat):Int):=by decide
     simp only [sxZ,z6,z7,z8,j4,j5,j6,j7,j8,j9,x0,x3,x4,x5,x6,x7,reduceCtorEq,↓reduceIte,List.getElem?_set,hlen,t6,z,zab,List.length_set,t1,t5,t7,t32,t33,t34,and_self,decide_true,if_true,List.append_nil]
     exact ⟨X,R,hS,by simpa using hO2,rfl⟩
    | succ i =>
     have z:(0:Int) < ((i + 1:Nat):Int):=by omega
     have z2:¬ (i + 1=0):=by omega
     simp only [sxZ,z6,z7,z8,j4,j5,j6,j7,j8,j9,x0,x3,x4,x5,x6,x7,reduceCtorEq,↓reduceIte,List.getElem?_set,hlen,t6,z,z2,zab,List.length_set,t1,t5,t7,t32,t33,t34,and_self,decide_false,Bool.false_eq_true,if_false]
     refine zdj (A:=[(0,bvB v),(q,OB.box 26 [.i .i64 x.kind,.s x.text,.row x.keys.length (x.keys.map .s),.row x.items.length (zac x.items)])]) (B:=[]) hS hO2 ⟨rfl,by omega,by omega⟩ ?_
     intro X' R' o' hS' hO'
     simp only [sxZ,z6,z7,z8,j4,j5,j6,j7,j8,j9,x0,x3,x4,x5,x6,x7,reduceCtorEq,↓reduceIte,List.getElem?_set,hlen,zab,List.length_set,t1,t5,t6,t7,t32,t33,t34,and_self]
     exact ⟨X',R',by simpa only [List.length_append,List.length_cons,List.length_nil,Nat.zero_add] using (zc1 hS' (b:=[44]) rfl),by simpa using hO',rfl⟩
   clear hlen t1 t5 t6 t7 t32 t33 t34 hO2 hS
   rintro o tm ⟨X,R,hS,hO2,hlen,t1,t5,t6,t7,t32,t33,t34⟩
   generalize (if decide (i=0)=true then ([]:List UInt8) else [44])=cm at htx htl hS
   have hcm:cm.length ≤ (txt ++ cm).length:=by rw [List.length_append]; omega
   rw [← List.append_assoc] at htx
   have hcl:(txt ++ cm).length=txt.length + cm.length:=List.length_append
   generalize txt ++ cm=txt at htx hS hcl
   subst hW
   refine zaa fun W hW => ?_
   refine zaG (fun o tm => ∃ X R,SlO 5 1 (txt ++ (if o7=true then (zdK (v.keys[i]?.getD [])).2 ++ [58] else [])).length (byA (txt ++ (if o7=true then (zdK (v.keys[i]?.getD [])).2 ++ [58] else []))) X R ∧ zaH ((0,bvB v) :: (q,OB.box 26 [.i .i64 x.kind,.s x.text,.row x.keys.length (x.keys.map .s),.row x.items.length (zac x.items)]) :: (R ++ [])) o ∧ tm.length=77 ∧ tm[1]? = some (.p 0 0) ∧ tm[5]? = some X ∧ tm[6]? = some (.i .i64 (i:Int)) ∧ tm[7]? = some (.p q 0) ∧ tm[32]? = some (.row v.items.length (zac v.items)) ∧ tm[33]? = some (.i .i64 (v.items.length:Int)) ∧ tm[34]? = some (.i .i64 (i:Int))) ?_ ?_
   ·have e0:=hO2.get (i:=0) (x:=bvB v) (by simp)
    have e0:o[0]? = some (OB.box 26 [.i .i64 v.kind,.s v.text,.row v.keys.length (v.keys.map .s),.row v.items.length (zac v.items)]):=e0
    by_cases a7:v.kind=7
    ·have hik:=hki a7
     have ho:o7=true:=by rw [ho7]; exact decide_eq_true a7
     have kv:(v.keys.map AV.s)[i * 1]? = some (.s v.keys[i]):=by rw [Nat.mul_one,List.getElem?_map,List.getElem?_eq_getElem hik]; rfl
     have hkl:=l4 _ (List.getElem_mem hik)
     have hke:v.keys[i]?.getD []=v.keys[i]:=by rw [List.getElem?_eq_getElem hik]; rfl
     have hb2:=hbody
     rw [ho] at hb2
     rw [ho,if_pos rfl,hke] at htl
     rw [ho,if_pos rfl,hke]
     generalize v.keys[i]=key at kv hkl htl
     rw [List.length_append,List.length_cons,List.length_nil] at htl
     simp only [sxZ,z6,z7,z8,j4,j5,j6,j7,j8,j9,x0,x3,x4,x5,x6,x7,reduceCtorEq,↓reduceIte,List.getElem?_set,hlen,t1,t6,e0,a7,kv]
     have hml:(v.keys.map AV.s).length=v.keys.length:=List.length_map _
     refine ⟨⟨by omega,by omega,by omega⟩,?_⟩
     refine zam (zho key (by omega) ?_)
     simp only [sxZ,z6,z7,z8,j4,j5,j6,j7,j8,j9,x0,x3,x4,x5,x6,x7,reduceCtorEq,↓reduceIte,List.getElem?_set,hlen,t5]
     refine znD (A:=[(0,bvB v),(q,OB.box 26 [.i .i64 x.kind,.s x.text,.row x.keys.length (x.keys.map .s),.row x.items.length (zac x.items)])]) (B:=[]) hS hO2 (by omega) ?_
     intro X' R' o' hS' hO'
     simp only [sxZ,z6,z7,z8,j4,j5,j6,j7,j8,j9,x0,x3,x4,x5,x6,x7,reduceCtorEq,↓reduceIte,List.getElem?_set,hlen]
     refine zdj (A:=[(0,bvB v),(q,OB.box 26 [.i .i64 x.kind,.s x.text,.row x.keys.length (x.keys.map .s),.row x.items.length (zac x.items)])]) (B:=[]) (zc1 hS' rfl) hO' ⟨rfl,by rw [List.length_append]; omega,by rw [List.length_append]; omega⟩ ?_
     intro X2 R2 o2 hS2 hO2
     simp only [sxZ,z6,z7,z8,j4,j5,j6,j7,j8,j9,x0,x3,x4,x5,x6,x7,reduceCtorEq,↓reduceIte,List.getElem?_set,hlen,zab,List.length_set,t1,t5,t6,t7,t32,t33,t34,and_self]
     rw [← List.append_assoc]
     exact ⟨X2,R2,by simpa only [List.length_append,List.length_cons,List.length_nil,Nat.zero_add,Nat.add_assoc] using (zc1 hS2 (b:=[58]) rfl),by simpa using hO2,rfl⟩
    ·have ho:o7=false:=by rw [ho7]; exact decide_eq_false a7
     rw [ho,if_neg (by decide),List.append_nil]
     simp only [sxZ,z6,z7,z8,j4,j5,j6,j7,j8,j9,x0,x3,x4,x5,x6,x7,reduceCtorEq,↓reduceIte,List.getElem?_set,hlen,zab,List.length_set,t1,t5,t6,t7,t32,t33,t34,e0,a7,and_self]
     exact ⟨X,R,hS,by simpa using hO2,rfl⟩
   clear hlen t1 t5 t6 t7 t32 t33 t34 hO2 hS
   rintro o tm ⟨X,R,hS,hO2,hlen,t1,t5,t6,t7,t32,t33,t34⟩
   generalize (if o7=true then (zdK (v.keys[i]?.getD [])).2 ++ [58] else [])=kk at htx htl hS
   rw [← List.append_assoc] at htx
   have hkl:(txt ++ kk).length=txt.length + kk.length:=List.length_append
   generalize txt ++ kk=txt at htx hS hkl
   have eq:=hO2.get (i:=q) (x:=OB.box 26 [.i .i64 x.kind,.s x.text,.row x.keys.length (x.keys.map .s),.row x.items.length (zac x.items)]) (by simp)
   subst hW
   simp only [sxZ,z6,z7,z8,j4,j5,j6,j7,j8,j9,x0,x3,x4,x5,x6,x7,reduceCtorEq,↓reduceIte,List.getElem?_set,hlen,t5,t7,eq]
   refine zam (hcall ?_)
   simp only [sxZ,z6,z7,z8,j4,j5,j6,j7,j8,j9,x0,x3,x4,x5,x6,x7,reduceCtorEq,↓reduceIte,List.getElem?_set,hlen]
   refine znD (A:=[(0,bvB v),(q,OB.box 26 [.i .i64 x.kind,.s x.text,.row x.keys.length (x.keys.map .s),.row x.items.length (zac x.items)])]) (B:=[]) hS hO2 (by omega) ?_
   intro X' R' o' hS' hO'
   have hO3:zaH ((0,bvB v) :: (R' ++ [])) o':=hO'.sub (List.Sublist.cons_cons _ (List.sublist_cons_self _ _))
   subst hV
   simp only [sxZ,z6,z7,z8,j4,j5,j6,j7,j8,j9,x0,x3,x4,x5,x6,x7,reduceCtorEq,↓reduceIte,List.getElem?_set,hlen,List.length_set,t1,t32,t33,t34]
   refine ⟨by omega,v.items.length - (i + 1),by omega,i + 1,txt ++ wx,X',R',by omega,rfl,?_,zc1 hS' rfl,by simpa using hO3,rfl,rfl⟩
   rw [htx,List.append_assoc,decide_eq_false (by omega)]
  simp only [sxZ,z6,z7,z8,j4,j5,j6,j7,j8,j9,x0,x3,x4,x5,x6,x7,reduceCtorEq,↓reduceIte,List.getElem?_set,hlen,t32,t33,t34,hlt]
  subst hW
  have hn:i=v.items.length:=by omega
  rw [List.drop_of_length_le (l:=v.items) (by omega),wrI,List.append_nil] at htx
  have e0:o[0]? = some (OB.box 26 [.i .i64 v.kind,.s v.text,.row v.keys.length (v.keys.map .s),.row v.items.length (zac v.items)]):=hO.get (i:=0) (x:=bvB v) (by simp)
  have fin:∀ {Y:AV},Y=.s (if v.kind=7 then 123 :: (txt ++ [125]) else 91 :: (txt ++ [93])) → K objs Y:=by
   rintro Y rfl
   by_cases a7:v.kind=7
   ·rw [if_pos a7] at hk ⊢
    rw [show o7=true by rw [ho7]; exact decide_eq_true a7] at htx
    rw [← htx]; exact hk
   ·rw [if_neg a7] at hk ⊢
    rw [show o7=false by rw [ho7]; exact decide_eq_false a7] at htx
    rw [← htx]; exact hk
  have htl:=congrArg List.length htx
  subst hZ
  rcases hS with ⟨z1,z2,rfl,rfl⟩ | ⟨b,g,rfl,rfl⟩
  ·have hz:=List.eq_nil_of_length_eq_zero z1
   by_cases a7:v.kind=7
   ·simp only [sxZ,z6,z7,z8,j4,j5,j6,j7,j8,j9,x0,x3,x4,x5,x6,x7,reduceCtorEq,↓reduceIte,List.getElem?_set,hlen,t1,t5,e0,a7]
    exact fin (by rw [if_pos a7,hz]; rfl)
   ·simp only [sxZ,z6,z7,z8,j4,j5,j6,j7,j8,j9,x0,x3,x4,x5,x6,x7,reduceCtorEq,↓reduceIte,List.getElem?_set,hlen,t1,t5,e0,a7]
    exact fin (by rw [if_neg a7,hz]; rfl)
  ·have eb:=hO.get (i:=b) (x:=.orow 5 1 g txt.length (byA txt)) (by simp)
   by_cases a7:v.kind=7
   ·simp only [sxZ,z6,z7,z8,j4,j5,j6,j7,j8,j9,x0,x3,x4,x5,x6,x7,reduceCtorEq,↓reduceIte,List.getElem?_set,hlen,t1,t5,e0,a7,eb]
    refine znB _ _ _ _ ?_
    simp only [sxZ,z6,z7,z8,j4,j5,j6,j7,j8,j9,x0,x3,x4,x5,x6,x7,reduceCtorEq,↓reduceIte,List.getElem?_set,hlen]
    refine ⟨by omega,by omega,?_⟩
    exact fin (by rw [if_pos a7])
   ·simp only [sxZ,z6,z7,z8,j4,j5,j6,j7,j8,j9,x0,x3,x4,x5,x6,x7,reduceCtorEq,↓reduceIte,List.getElem?_set,hlen,t1,t5,e0,a7,eb]
    refine znB _ _ _ _ ?_
    simp only [sxZ,z6,z7,z8,j4,j5,j6,j7,j8,j9,x0,x3,x4,x5,x6,x7,reduceCtorEq,↓reduceIte,List.getElem?_set,hlen]
    refine ⟨by omega,by omega,?_⟩
    exact fin (by rw [if_neg a7])
end
end
end Go.Proofs.YthmdohgkmdkeeaaGreatDoor
