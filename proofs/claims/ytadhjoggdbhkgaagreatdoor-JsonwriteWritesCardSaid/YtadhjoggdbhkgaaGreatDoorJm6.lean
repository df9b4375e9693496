/- The texts that the proofs of these statements reach, in their order, as few files. -/
import Derived.Test.YtadhjoggdbhkgaaGreatDoorJm5
set_option linter.unusedVariables false
set_option linter.unusedSimpArgs false
set_option maxRecDepth 100000
namespace Go.Proofs.YtadhjoggdbhkgaaGreatDoor
open Nat renaming reduceAdd → z6, reduceSub → z7, reduceLeDiff → z8, reduceLT → j4, reduceMul → j5, reduceEqDiff → j6
open Int renaming reduceToNat → j7, reduceAdd → j8, reduceSub → j9, reduceMul → x4, reduceNeg → x5, reduceLT → x6, reduceLE → x7, reduceEq → x8, reduceNe → x9
open Go.RowKit Sx
section
attribute [local irreducible] run
mutual
def rvJ:RV → JV
 | .mk k t ks its => .mk k t ks (zlB its)
def zlB:List RV → List JV
 | [] => []
 | v :: l => rvJ v :: zlB l
end
theorem zfX:∀ l:List RV,(zlB l).length=l.length
 | [] => by rw [zlB]; rfl
 | v :: l => by rw [zlB,List.length_cons,zfX l,List.length_cons]
mutual
theorem zi8:∀ r:RV,zdy r=zaj (rvJ r)
 | .mk k t ks its => by rw [zdy,rvJ,zaj,zg1 its,zfX]
theorem zg1:∀ l:List RV,zcO l=zac (zlB l)
 | [] => by rw [zcO,zlB,zac]
 | v :: l => by rw [zcO,zlB,zac,zi8 v,zg1 l]
end
mutual
def JOk:JV → Prop
 | .mk k t ks its => (Lit.int .i64 k).wf=true ∧ t.length ≤ 140737488351232 ∧ ks.length ≤ 140737488351232 ∧ (∀ k ∈ ks,k.length ≤ 140737488351232) ∧ its.length ≤ 140737488351232 ∧ zhN its
def zhN:List JV → Prop
 | [] => True
 | v :: l => JOk v ∧ zhN l
end
mutual
theorem rv_ok:∀ r:RV,RVok r → JOk (rvJ r)
 | .mk k t ks its,h => by
  rw [RVok] at h
  rw [rvJ,JOk]
  exact ⟨h.1,h.2.1,h.2.2.1,h.2.2.2.1,by rw [zfX]; exact h.2.2.2.2.1,rvs_ok its h.2.2.2.2.2⟩
theorem rvs_ok:∀ l:List RV,ziG l → zhN (zlB l)
 | [],_ => by rw [zlB,zhN]; trivial
 | v :: l,h => by
  rw [ziG] at h
  rw [zlB,zhN]
  exact ⟨rv_ok v h.1,rvs_ok l h.2⟩
end
theorem znj:∀ {l:List JV} (h:zhN l) {i:Nat} (hi:i < l.length),JOk l[i]
 | a :: l,h,0,hi => by rw [zhN] at h; exact h.1
 | a :: l,h,i + 1,hi => by rw [zhN] at h; exact znj h.2 (by simpa using hi)
theorem JOk.its {v:JV} (h:JOk v) {i:Nat} (hi:i < v.items.length):JOk v.items[i]:=by
 cases v with
 | mk k t ks its => rw [JOk] at h; exact znj h.2.2.2.2.2 hi
theorem JOk.lens {v:JV} (h:JOk v):v.keys.length ≤ 140737488351232 ∧ v.items.length ≤ 140737488351232 ∧ v.text.length ≤ 140737488351232 ∧ ∀ k ∈ v.keys,k.length ≤ 140737488351232:=by
 cases v with
 | mk k t ks its => rw [JOk] at h; exact ⟨h.2.2.1,h.2.2.2.2.1,h.2.1,h.2.2.2.1⟩
mutual
/-- not too many keys and items, wherever -/
def JBd:JV → Prop
 | .mk k t ks its => ks.length ≤ 1099511627780 ∧ its.length ≤ 1099511627776 ∧ zgw its
def zgw:List JV → Prop
 | [] => True
 | v :: l => JBd v ∧ zgw l
end
theorem zno:∀ {l:List JV},(∀ (i:Nat) (h:i < l.length),JBd l[i]) → zgw l
 | [],_ => by rw [zgw]; trivial
 | v :: l,h => by
  rw [zgw]
  exact ⟨h 0 (by simp),zno fun i hi => by have:=h (i + 1) (by simpa using hi); simpa only [List.getElem_cons_succ] using this⟩
theorem znp:∀ {l:List JV} (h:zgw l) {i:Nat} (hi:i < l.length),JBd l[i]
 | a :: l,h,0,hi => by rw [zgw] at h; exact h.1
 | a :: l,h,i + 1,hi => by rw [zgw] at h; exact znp h.2 (by simpa using hi)
theorem JBd.lens {v:JV} (h:JBd v):v.keys.length ≤ 1099511627780 ∧ v.items.length ≤ 1099511627776:=by
 cases v; rw [JBd] at h; exact ⟨h.1,h.2.1⟩
theorem JBd.its {v:JV} (h:JBd v) {i:Nat} (hi:i < v.items.length):JBd v.items[i]:=by
 cases v with
 | mk k t ks its => rw [JBd] at h; exact znp h.2.2 hi
theorem JBd.of {v:JV} (h1:v.keys.length ≤ 1099511627780) (h2:v.items.length ≤ 1099511627776) (h3:∀ (i:Nat) (h:i < v.items.length),JBd v.items[i]):JBd v:=by
 cases v; rw [JBd]; exact ⟨h1,h2,zno h3⟩
theorem zcA (v w:JV):zdk v w=(decide (v.kind=w.kind) && (decide (v.text=w.text) && (decide (v.keys=w.keys) && zbF v.items w.items))):=by
 cases v; cases w; rw [zdk]; rfl
theorem zfl:∀ {l m:List JV},l.length ≠ m.length → zbF l m=false
 | [],[],h => absurd rfl h
 | [],_ :: _,_ => by rw [zbF]; all_goals simp
 | _ :: _,[],_ => by rw [zbF]; all_goals simp
 | v :: l,w :: m,h => by rw [zbF,zfl (l:=l) (m:=m) (by simpa using h)]; simp
theorem zgQ:∀ {l m:List JV} {i:Nat} (h1:i < l.length) (h2:i < m.length),zdk l[i] m[i]=false → zbF l m=false
 | v :: l,w :: m,0,_,_,h => by rw [zbF]; simp only [List.getElem_cons_zero] at h; rw [h]; rfl
 | v :: l,w :: m,i + 1,h1,h2,h => by
  rw [zbF,zgQ (l:=l) (m:=m) (i:=i) (by simpa using h1) (by simpa using h2) (by simpa using h)]; simp
theorem zfk:∀ {l m:List JV},l.length=m.length → (∀ (i:Nat) (h1:i < l.length) (h2:i < m.length),zdk l[i] m[i]=true) → zbF l m=true
 | [],[],_,_ => by rw [zbF]
 | [],_ :: _,h,_ => by simp at h
 | _ :: _,[],h,_ => by simp at h
 | v :: l,w :: m,h,k => by
  rw [zbF,zfk (l:=l) (m:=m) (by simpa using h) (fun i h1 h2 => by have:=k (i + 1) (by simpa using h1) (by simpa using h2); simp only [List.getElem_cons_succ] at this; exact this)]
  have:=k 0 (by simp) (by simp)
  simp only [List.getElem_cons_zero] at this
  rw [this]; rfl
theorem size_eq (v:JV):v.size=JV.sizes v.items + 1:=by cases v; rw [JV.size]; rfl
theorem zfj:∀ {l:List JV} {i:Nat} (hi:i < l.length),JV.sizes (l.take (i + 1))=JV.sizes (l.take i) + l[i].size
 | a :: l,0,hi => by rw [List.take_succ_cons,List.take_zero,List.take_zero,JV.sizes,JV.sizes,JV.sizes]; simp
 | a :: l,i + 1,hi => by
  rw [List.take_succ_cons,List.take_succ_cons,JV.sizes,JV.sizes,zfj (l:=l) (i:=i) (by simpa using hi)]
  simp only [List.getElem_cons_succ]
  omega
mutual
/-- short texts, not too many keys and items, wherever -/
def JKp:JV → Prop
 | .mk k t ks its => ks.length ≤ 1099511627780 ∧ its.length ≤ 1099511627776 ∧ t.length ≤ 300 ∧ (∀ k ∈ ks,k.length ≤ 300) ∧ zdN its
def zdN:List JV → Prop
 | [] => True
 | v :: l => JKp v ∧ zdN l
end
theorem znl:∀ {l:List JV},(∀ (i:Nat) (h:i < l.length),JKp l[i]) → zdN l
 | [],_ => by rw [zdN]; trivial
 | v :: l,h => by
  rw [zdN]
  exact ⟨h 0 (by simp),znl fun i hi => by have:=h (i + 1) (by simpa using hi); simpa only [List.getElem_cons_succ] using this⟩
theorem znm:∀ {l:List JV} (h:zdN l) {i:Nat} (hi:i < l.length),JKp l[i]
 | a :: l,h,0,hi => by rw [zdN] at h; exact h.1
 | a :: l,h,i + 1,hi => by rw [zdN] at h; exact znm h.2 (by simpa using hi)
theorem JKp.lens {v:JV} (h:JKp v):v.keys.length ≤ 1099511627780 ∧ v.items.length ≤ 1099511627776 ∧ v.text.length ≤ 300 ∧ ∀ k ∈ v.keys,k.length ≤ 300:=by
 cases v; rw [JKp] at h; exact ⟨h.1,h.2.1,h.2.2.1,h.2.2.2.1⟩
theorem JKp.its {v:JV} (h:JKp v) {i:Nat} (hi:i < v.items.length):JKp v.items[i]:=by
 cases v with
 | mk k t ks its => rw [JKp] at h; exact znm h.2.2.2.2 hi
theorem JKp.of {v:JV} (h1:v.keys.length ≤ 1099511627780) (h2:v.items.length ≤ 1099511627776) (h3:v.text.length ≤ 300) (h4:∀ k ∈ v.keys,k.length ≤ 300) (h5:∀ (i:Nat) (h:i < v.items.length),JKp v.items[i]):JKp v:=by
 cases v; rw [JKp]; exact ⟨h1,h2,h3,h4,znl h5⟩
mutual
theorem JKp.bd:∀ {v:JV},JKp v → JBd v
 | .mk k t ks its,h => by rw [JKp] at h; rw [JBd]; exact ⟨h.1,h.2.1,zdN.bd h.2.2.2.2⟩
theorem zdN.bd:∀ {l:List JV},zdN l → zgw l
 | [],_ => by rw [zgw]; trivial
 | v :: l,h => by rw [zdN] at h; rw [zgw]; exact ⟨JKp.bd h.1,zdN.bd h.2⟩
end
mutual
/-- no slice too long, wherever -/
def JLn:JV → Prop
 | .mk k t ks its => ks.length ≤ 140737488351232 ∧ its.length ≤ 140737488351232 ∧ zou its
def zou:List JV → Prop
 | [] => True
 | v :: l => JLn v ∧ zou l
end
mutual
theorem JOk.ln:∀ {v:JV},JOk v → JLn v
 | .mk k t ks its,h => by rw [JOk] at h; rw [JLn]; exact ⟨h.2.2.1,h.2.2.2.2.1,zhN.ln h.2.2.2.2.2⟩
theorem zhN.ln:∀ {l:List JV},zhN l → zou l
 | [],_ => by rw [zou]; trivial
 | v :: l,h => by rw [zhN] at h; rw [zou]; exact ⟨JOk.ln h.1,zhN.ln h.2⟩
end
mutual
theorem JBd.ln:∀ {v:JV},JBd v → JLn v
 | .mk k t ks its,h => by rw [JBd] at h; rw [JLn]; exact ⟨by omega,by omega,zgw.ln h.2.2⟩
theorem zgw.ln:∀ {l:List JV},zgw l → zou l
 | [],_ => by rw [zou]; trivial
 | v :: l,h => by rw [zgw] at h; rw [zou]; exact ⟨JBd.ln h.1,zgw.ln h.2⟩
end
theorem znk:∀ {l:List JV} (h:zou l) {i:Nat} (hi:i < l.length),JLn l[i]
 | a :: l,h,0,hi => by rw [zou] at h; exact h.1
 | a :: l,h,i + 1,hi => by rw [zou] at h; exact znk h.2 (by simpa using hi)
theorem JLn.its {v:JV} (h:JLn v) {i:Nat} (hi:i < v.items.length):JLn v.items[i]:=by
 cases v with
 | mk k t ks its => rw [JLn] at h; exact znk h.2.2 hi
theorem JLn.lens {v:JV} (h:JLn v):v.keys.length ≤ 140737488351232 ∧ v.items.length ≤ 140737488351232:=by
 cases v with
 | mk k t ks its => rw [JLn] at h; exact ⟨h.1,h.2.1⟩
section
variable [Tabs Tryz.prog]
theorem zii:∀ (m:Nat) (v:JV) (a d:Int),v.size < m → JOk v → 0 ≤ a → a ≤ 1099511627776 → 0 ≤ d → d ≤ 1099511627776 → ∀ {objs:List OB} {K:List OB → AV → Prop},(∀ n:Int,-1 ≤ n → n ≤ 1099511627776 → (0 ≤ n → JKp v ∧ n + (v.size:Int)=a) → K objs (.i .i64 n)) → zae Tryz.prog 19 [.agg (zaj v),.i .i64 a,.i .i64 d] objs K:=by
 intro m
 induction m with
 | zero => intro v a d h; omega
 | succ m ih =>
  intro v a d hm hv ha ha2 hd hd2 objs K hk
  obtain ⟨l1,l2,l3,l4⟩:=hv.lens
  refine zaV is_keep_size (by simp only [zaq,AV.plain,zaJ,Bool.and_self]) fun C _ => ?_
  rw [c_keep_size]
  refine zaa fun Y hY => ?_
  simp only [sxZ,z6,z7,z8,j4,j5,j6,j7,j8,j9,x4,x5,x6,x7,x8,x9,reduceCtorEq,↓reduceIte]
  have e0:OB.box 25 (zaj v)=OB.box 25 [.i .i64 v.kind,.s v.text,.row v.keys.length (v.keys.map .s),.row v.items.length (zac v.items)]:=by rw [zaf]
  rw [e0]
  subst hY
  refine zaa fun Y hY => ?_
  have bad:∀ (o:List OB) (tm:List AV),True:=fun _ _ => trivial
  by_cases c1:a ≤ 0
  ·simp only [sxZ,z6,z7,z8,j4,j5,j6,j7,j8,j9,x4,x5,x6,x7,x8,x9,reduceCtorEq,↓reduceIte,c1,decide_true]
   exact hk _ (by decide) (by decide) (fun h => absurd h (by decide))
  by_cases c2:d ≤ 0
  ·simp only [sxZ,z6,z7,z8,j4,j5,j6,j7,j8,j9,x4,x5,x6,x7,x8,x9,reduceCtorEq,↓reduceIte,c1,c2,decide_true]
   exact hk _ (by decide) (by decide) (fun h => absurd h (by decide))
  by_cases c3:(300:Int) < v.text.length
  ·simp only [sxZ,z6,z7,z8,j4,j5,j6,j7,j8,j9,x4,x5,x6,x7,x8,x9,reduceCtorEq,↓reduceIte,c1,c2,c3,decide_true]
   exact hk _ (by decide) (by decide) (fun h => absurd h (by decide))
  by_cases c4:(v.items.length:Int) + 4 < v.keys.length
  ·simp only [sxZ,z6,z7,z8,j4,j5,j6,j7,j8,j9,x4,x5,x6,x7,x8,x9,reduceCtorEq,↓reduceIte,c1,c2,c3,c4,decide_true]
   refine ⟨by omega,?_⟩
   exact hk _ (by decide) (by decide) (fun h => absurd h (by decide))
  by_cases c5:a < (v.items.length:Int)
  ·simp only [sxZ,z6,z7,z8,j4,j5,j6,j7,j8,j9,x4,x5,x6,x7,x8,x9,reduceCtorEq,↓reduceIte,c1,c2,c3,c4,c5,decide_true]
   refine ⟨by omega,?_⟩
   exact hk _ (by decide) (by decide) (fun h => absurd h (by decide))
  simp only [sxZ,z6,z7,z8,j4,j5,j6,j7,j8,j9,x4,x5,x6,x7,x8,x9,reduceCtorEq,↓reduceIte,c1,c2,c3,c4,c5,decide_true]
  refine ⟨by omega,?_⟩
  rw [← e0]
  generalize hB:OB.box 25 (zaj v)=B
  subst hY
  refine zaa fun Y hY => ?_
  simp only [sxZ,z6,z7,z8,j4,j5,j6,j7,j8,j9,x4,x5,x6,x7,x8,x9,reduceCtorEq,↓reduceIte]
  refine ⟨by omega,?_⟩
  subst hY
  refine zaa fun Y hY => ?_
  rw [← hB,e0]
  simp only [sxZ,z6,z7,z8,j4,j5,j6,j7,j8,j9,x4,x5,x6,x7,x8,x9,reduceCtorEq,↓reduceIte]
  refine zaA (fun n o tm => ∃ i:Nat,i ≤ v.keys.length ∧ n=v.keys.length - i ∧ o=[OB.box 25 (zaj v)] ∧ (∀ j x,j < i → v.keys[j]? = some x → x.length ≤ 300) ∧ tm.length=69 ∧ tm[1]? = some (.i .i64 (a - 1)) ∧ tm[2]? = some (.i .i64 d) ∧ tm[3]? = some (.p 0 0) ∧ tm[43]? = some (.row v.keys.length (v.keys.map .s)) ∧ tm[44]? = some (.i .i64 (v.keys.length:Int)) ∧ tm[45]? = some (.i .i64 (i:Int))) v.keys.length ⟨0,Nat.zero_le _,rfl,by rw [e0],(fun j x h => by omega),rfl,rfl,rfl,rfl,rfl,rfl,rfl⟩ ?_
  rintro n _ tm ⟨i,hi,rfl,rfl,hks,hlen,t1,t2,t3,t43,t44,t45⟩
  refine zaa fun Z hZ => ?_
  by_cases hlt:(i:Int) < (v.keys.length:Int)
  ·have hi':i < v.keys.length:=by omega
   have hkk:(v.keys.map AV.s)[i * 1]? = some (.s v.keys[i]):=by rw [Nat.mul_one,List.getElem?_map,List.getElem?_eq_getElem hi']; rfl
   have hk4:=l4 _ (List.getElem_mem hi')
   have hk5:v.keys[i]? = some v.keys[i]:=List.getElem?_eq_getElem hi'
   generalize v.keys[i]=key at hkk hk4 hk5
   simp only [sxZ,z6,z7,z8,j4,j5,j6,j7,j8,j9,x4,x5,x6,x7,x8,x9,reduceCtorEq,↓reduceIte,List.getElem?_set,hlen,t1,t2,t3,t43,t44,t45,hlt]
   subst hZ
   simp only [sxZ,z6,z7,z8,j4,j5,j6,j7,j8,j9,x4,x5,x6,x7,x8,x9,reduceCtorEq,↓reduceIte,List.getElem?_set,hlen,t1,t2,t3,t43,t44,t45,hlt,List.length_map,hkk]
   refine ⟨by omega,?_⟩
   by_cases c6:(300:Int) < key.length
   ·simp only [sxZ,z6,z7,z8,j4,j5,j6,j7,j8,j9,x4,x5,x6,x7,x8,x9,reduceCtorEq,↓reduceIte,List.getElem?_set,hlen,t1,t2,t3,t43,t44,t45,c6]
    exact hk _ (by decide) (by decide) (fun h => absurd h (by decide))
   simp only [sxZ,z6,z7,z8,j4,j5,j6,j7,j8,j9,x4,x5,x6,x7,x8,x9,reduceCtorEq,↓reduceIte,List.getElem?_set,hlen,t1,t2,t3,t43,t44,t45,c6]
   refine ⟨by omega,v.keys.length - (i + 1),by omega,i + 1,by omega,rfl,fun j x hj hx => ?_,rfl⟩
   by_cases e:j=i
   ·subst e
    rw [hk5] at hx; injection hx with hx; rw [← hx]; omega
   ·exact hks j x (by omega) hx
  have hn:i=v.keys.length:=by omega
  have hks2:∀ k ∈ v.keys,k.length ≤ 300:=fun k hk => by
   obtain ⟨j,hj⟩:=List.mem_iff_getElem?.1 hk
   exact hks j k (by have:=(List.getElem?_eq_some_iff.1 hj).1; omega) hj
  simp only [sxZ,z6,z7,z8,j4,j5,j6,j7,j8,j9,x4,x5,x6,x7,x8,x9,reduceCtorEq,↓reduceIte,List.getElem?_set,hlen,t1,t2,t3,t43,t44,t45,hlt]
  subst hZ
  simp only [sxZ,z6,z7,z8,j4,j5,j6,j7,j8,j9,x4,x5,x6,x7,x8,x9,reduceCtorEq,↓reduceIte,List.getElem?_set,hlen,t1,t2,t3,t43,t44,t45,hlt]
  refine za1 (fun t => t.length=69 ∧ t[1]? = some (.i .i64 (a - 1)) ∧ t[2]? = some (.i .i64 d) ∧ t[3]? = some (.p 0 0)) ?_ ?_
  ·simp only [sxZ,z6,z7,z8,j4,j5,j6,j7,j8,j9,x4,x5,x6,x7,x8,x9,reduceCtorEq,↓reduceIte,List.length_set,List.getElem?_set,hlen,t1,t2,t3,and_self]
  clear hlen t1 t2 t3 t43 t44 t45 hlt
  rintro tm ⟨hlen,t1,t2,t3⟩
  subst hY
  refine zaa fun Y hY => ?_
  rw [e0]
  simp only [sxZ,z6,z7,z8,j4,j5,j6,j7,j8,j9,x4,x5,x6,x7,x8,x9,reduceCtorEq,↓reduceIte,List.getElem?_set,hlen,t1,t2,t3]
  rw [← e0]
  refine zaA (fun n o tm => ∃ (i:Nat) (b:Int),i ≤ v.items.length ∧ n=v.items.length - i ∧ o[0]? = some (OB.box 25 (zaj v)) ∧ 0 ≤ b ∧ b ≤ 1099511627776 ∧ (∀ (j:Nat) (h:j < v.items.length),j < i → JKp v.items[j]) ∧ b + (JV.sizes (v.items.take i):Int)=a - 1 ∧ tm.length=69 ∧ tm[1]? = some (.i .i64 b) ∧ tm[2]? = some (.i .i64 d) ∧ tm[3]? = some (.p 0 0) ∧ tm[54]? = some (.row v.items.length (zac v.items)) ∧ tm[55]? = some (.i .i64 (v.items.length:Int)) ∧ tm[56]? = some (.i .i64 (i:Int))) v.items.length ⟨0,a - 1,Nat.zero_le _,rfl,rfl,by omega,by omega,(fun j _ h => by omega),by rw [List.take_zero,JV.sizes]; omega,?_⟩ ?_
  ·simp only [sxZ,z6,z7,z8,j4,j5,j6,j7,j8,j9,x4,x5,x6,x7,x8,x9,reduceCtorEq,↓reduceIte,List.length_set,List.getElem?_set,hlen,t1,t2,t3,Int.cast_ofNat_Int,and_self]
  clear hlen t1 t2 t3
  rintro n o tm ⟨i,b,hi,rfl,ho,hb,hb2,hall,hsum,hlen,t1,t2,t3,t54,t55,t56⟩
  refine zaa fun Z hZ => ?_
  by_cases hlt:(i:Int) < (v.items.length:Int)
  ·have hi':i < v.items.length:=by omega
   have hjc:=zdF hi'
   have hjl:=zax v.items
   have hit:=hv.its hi'
   have hsz:=zaT hi'
   have hsum2:=zfj hi'
   have hall2:JKp v.items[i] → ∀ (j:Nat) (h:j < v.items.length),j < i + 1 → JKp v.items[j]:=by
    intro hs j h1 hj
    by_cases e:j=i
    ·subst e; exact hs
    ·exact hall j h1 (by omega)
   generalize v.items[i]=x at hjc hit hsz hall2 hsum2
   have hcall:=fun {objs:List OB} {K:List OB → AV → Prop} (h) => ih x b (d - 1) (by omega) hit hb hb2 (by omega) (by omega) (objs:=objs) (K:=K) h
   obtain ⟨q0,q1,q2,q3,hq⟩:∃ q0 q1 q2 q3,zaj x=[q0,q1,q2,q3]:=⟨_,_,_,_,zaf x⟩
   have hcp:zaq [q0,q1,q2,q3]=true:=by rw [← hq]; exact zaJ x
   rw [hq] at hjc hcall
   have h0:∀ z,(o ++ [z])[0]? = some (OB.box 25 (zaj v)):=fun z => by rw [List.getElem?_append_left (List.getElem?_eq_some_iff.1 ho).1]; exact ho
   simp only [sxZ,z6,z7,z8,j4,j5,j6,j7,j8,j9,x4,x5,x6,x7,x8,x9,reduceCtorEq,↓reduceIte,List.getElem?_set,hlen,t1,t2,t3,t54,t55,t56,hlt]
   subst hZ
   refine zaa fun Z hZ => ?_
   simp only [sxZ,z6,z7,z8,j4,j5,j6,j7,j8,j9,x4,x5,x6,x7,x8,x9,reduceCtorEq,↓reduceIte,List.getElem?_set,hlen]
   subst hZ
   refine zaa fun W hW => ?_
   rw [zaB]
   refine zaa fun Z hZ => ?_
   simp only [sxZ,z6,z7,z8,j4,j5,j6,j7,j8,j9,x4,x5,x6,x7,x8,x9,reduceCtorEq,↓reduceIte,List.getElem?_set,hlen,t1,t2,t3,t54,t55,t56,hlt,hjc]
   refine ⟨by omega,by omega,?_⟩
   simp only [sxZ,z6,z7,z8,j4,j5,j6,j7,j8,j9,x4,x5,x6,x7,x8,x9,reduceCtorEq,↓reduceIte,List.getElem?_set,hlen,gn1,sn1]
   have h1:=h0 (OB.box 25 [q0,q1,q2,q3])
   have h2:(o ++ [OB.box 25 [q0,q1,q2,q3]])[o.length]? = some (OB.box 25 [q0,q1,q2,q3]):=gn1 _ _
   generalize o ++ [OB.box 25 [q0,q1,q2,q3]]=o1 at h1 h2 ⊢
   subst hZ
   refine zaa fun Z hZ => ?_
   simp only [sxZ,z6,z7,z8,j4,j5,j6,j7,j8,j9,x4,x5,x6,x7,x8,x9,reduceCtorEq,↓reduceIte,List.getElem?_set,hlen,t1,t2,h2]
   refine ⟨by omega,?_⟩
   refine zak (hcall fun n hn1 hn2 hn3 => ?_)
   simp only [sxZ,z6,z7,z8,j4,j5,j6,j7,j8,j9,x4,x5,x6,x7,x8,x9,reduceCtorEq,↓reduceIte,List.getElem?_set,hlen]
   subst hZ
   by_cases c7:n < 0
   ·simp only [sxZ,z6,z7,z8,j4,j5,j6,j7,j8,j9,x4,x5,x6,x7,x8,x9,reduceCtorEq,↓reduceIte,List.getElem?_set,hlen,c7]
    exact hk _ (by decide) (by decide) (fun h => absurd h (by decide))
   simp only [sxZ,z6,z7,z8,j4,j5,j6,j7,j8,j9,x4,x5,x6,x7,x8,x9,reduceCtorEq,↓reduceIte,List.getElem?_set,hlen,c7]
   subst hW
   simp only [sxZ,z6,z7,z8,j4,j5,j6,j7,j8,j9,x4,x5,x6,x7,x8,x9,reduceCtorEq,↓reduceIte,List.getElem?_set,hlen,t1,t2,t3,t54,t55,t56]
   exact ⟨by omega,v.items.length - (i + 1),by omega,i + 1,n,by omega,rfl,h1,by omega,hn2,hall2 (hn3 (by omega)).1,(by have:=(hn3 (by omega)).2; omega),rfl,rfl⟩
  simp only [sxZ,z6,z7,z8,j4,j5,j6,j7,j8,j9,x4,x5,x6,x7,x8,x9,reduceCtorEq,↓reduceIte,List.getElem?_set,hlen,t1,t2,t3,t54,t55,t56,hlt]
  subst hZ
  subst hY
  simp only [sxZ,z6,z7,z8,j4,j5,j6,j7,j8,j9,x4,x5,x6,x7,x8,x9,reduceCtorEq,↓reduceIte,List.getElem?_set,hlen,t1,t2,t3,t54,t55,t56,hlt]
  exact hk _ (by omega) hb2 (fun _ => ⟨JKp.of (by omega) (by omega) (by omega) hks2 fun j h => hall j h (by omega),by rw [size_eq]; rw [List.take_of_length_le (by omega)] at hsum; omega⟩)
theorem same14_l:∀ (m:Nat) (v w:JV),v.size < m → JLn v → ∀ {objs:List OB} {K:List OB → AV → Prop},K objs (.b (zdk v w)) → zae Tryz.prog 14 [.agg (zaj v),.agg (zaj w)] objs K:=by
 intro m
 induction m with
 | zero => intro v w h; omega
 | succ m ih =>
  intro v w hm hv objs K hk
  obtain ⟨l1,l2⟩:=hv.lens
  refine zaV is_ref14_Same (by simp only [zaq,AV.plain,zaJ,Bool.and_self]) fun C _ => ?_
  rw [c_ref14_Same]
  refine zaa fun Y hY => ?_
  simp only [sxZ,z6,z7,z8,j4,j5,j6,j7,j8,j9,x4,x5,x6,x7,x8,x9,reduceCtorEq,↓reduceIte]
  have e0:OB.box 25 (zaj v)=OB.box 25 [.i .i64 v.kind,.s v.text,.row v.keys.length (v.keys.map .s),.row v.items.length (zac v.items)]:=by rw [zaf]
  have e1:OB.box 25 (zaj w)=OB.box 25 [.i .i64 w.kind,.s w.text,.row w.keys.length (w.keys.map .s),.row w.items.length (zac w.items)]:=by rw [zaf]
  rw [e0,e1]
  subst hY
  refine zaa fun Y hY => ?_
  have no:zdk v w=false → K objs (.b false):=fun h => by rw [h] at hk; exact hk
  by_cases c1:v.kind=w.kind
  rotate_left
  ·simp only [sxZ,z6,z7,z8,j4,j5,j6,j7,j8,j9,x4,x5,x6,x7,x8,x9,reduceCtorEq,↓reduceIte,c1,decide_false,Bool.not_false]
   exact no (by rw [zcA,decide_eq_false c1]; rfl)
  by_cases c2:v.text=w.text
  rotate_left
  ·simp only [sxZ,z6,z7,z8,j4,j5,j6,j7,j8,j9,x4,x5,x6,x7,x8,x9,reduceCtorEq,↓reduceIte,c1,c2,decide_false,decide_true,Bool.not_false,Bool.not_true]
   exact no (by rw [zcA,decide_eq_false c2]; simp)
  by_cases c3:v.items.length=w.items.length
  rotate_left
  ·have c3':¬ (v.items.length:Int)=w.items.length:=by omega
   simp only [sxZ,z6,z7,z8,j4,j5,j6,j7,j8,j9,x4,x5,x6,x7,x8,x9,reduceCtorEq,↓reduceIte,c1,c2,c3',decide_false,decide_true,Bool.not_false,Bool.not_true]
   exact no (by rw [zcA,zfl c3]; simp)
  by_cases c4:v.keys.length=w.keys.length
  rotate_left
  ·have c4':¬ (v.keys.length:Int)=w.keys.length:=by omega
   simp only [sxZ,z6,z7,z8,j4,j5,j6,j7,j8,j9,x4,x5,x6,x7,x8,x9,reduceCtorEq,↓reduceIte,c1,c2,c3,c4',decide_false,decide_true,Bool.not_false,Bool.not_true]
   exact no (by rw [zcA,decide_eq_false (p:=v.keys=w.keys) (fun h => c4 (by rw [h]))]; simp)
  simp only [sxZ,z6,z7,z8,j4,j5,j6,j7,j8,j9,x4,x5,x6,x7,x8,x9,reduceCtorEq,↓reduceIte,c1,c2,c3,c4,decide_false,decide_true,Bool.not_false,Bool.not_true]
  subst hY
  refine zaa fun Y hY => ?_
  simp only [sxZ,z6,z7,z8,j4,j5,j6,j7,j8,j9,x4,x5,x6,x7,x8,x9,reduceCtorEq,↓reduceIte]
  have q1:v.items.length=w.items.length:=c3
  have q2:v.keys.length=w.keys.length:=c4
  refine zaA (fun n o tm => ∃ i:Nat,i ≤ w.items.length ∧ n=w.items.length - i ∧ o=[OB.box 25 [.i .i64 w.kind,.s w.text,.row w.keys.length (v.keys.map .s),.row w.items.length (zac v.items)],OB.box 25 [.i .i64 w.kind,.s w.text,.row w.keys.length (w.keys.map .s),.row w.items.length (zac w.items)]] ∧ (∀ (j:Nat) (h1:j < v.items.length) (h2:j < w.items.length),j < i → zdk v.items[j] w.items[j]=true) ∧ tm.length=74 ∧ tm[2]? = some (.p 0 0) ∧ tm[3]? = some (.p 1 0) ∧ tm[38]? = some (.row w.items.length (zac v.items)) ∧ tm[39]? = some (.i .i64 (w.items.length:Int)) ∧ tm[40]? = some (.i .i64 (i:Int))) w.items.length ⟨0,Nat.zero_le _,rfl,rfl,fun j _ _ h => by omega,rfl,rfl,rfl,rfl,rfl,rfl⟩ ?_
  rintro n _ tm ⟨i,hi,rfl,rfl,hall,hlen,t2,t3,t38,t39,t40⟩
  refine zaa fun Z hZ => ?_
  by_cases hlt:(i:Int) < (w.items.length:Int)
  ·have hw':i < w.items.length:=by omega
   have hv':i < v.items.length:=by omega
   have jv:=zdF hv'
   have jw:=zdF hw'
   have jvl:=zax v.items
   have jwl:=zax w.items
   have hit:=hv.its hv'
   have hsz:=zaT hv'
   have hcall:=fun {objs:List OB} {K:List OB → AV → Prop} (h:K objs (.b (zdk v.items[i] w.items[i]))) => ih v.items[i] w.items[i] (by omega) hit (objs:=objs) (K:=K) h
   simp only [sxZ,z6,z7,z8,j4,j5,j6,j7,j8,j9,x4,x5,x6,x7,x8,x9,reduceCtorEq,↓reduceIte,List.getElem?_set,hlen,t2,t3,t38,t39,t40,hlt]
   subst hZ
   refine zaa fun Z hZ => ?_
   simp only [sxZ,z6,z7,z8,j4,j5,j6,j7,j8,j9,x4,x5,x6,x7,x8,x9,reduceCtorEq,↓reduceIte,List.getElem?_set,hlen]
   subst hZ
   refine zaa fun W hW => ?_
   rw [zaB]
   refine zaa fun Z hZ => ?_
   simp only [sxZ,z6,z7,z8,j4,j5,j6,j7,j8,j9,x4,x5,x6,x7,x8,x9,reduceCtorEq,↓reduceIte,List.getElem?_set,hlen,t40]
   subst hZ
   refine zaa fun Z hZ => ?_
   simp only [sxZ,z6,z7,z8,j4,j5,j6,j7,j8,j9,x4,x5,x6,x7,x8,x9,reduceCtorEq,↓reduceIte,List.getElem?_set,hlen,t2,t3,jv,jw]
   refine ⟨⟨by omega,by omega,by omega⟩,by omega,⟨by omega,by omega,by omega⟩,by omega,?_⟩
   refine zco (hcall ⟨rfl,rfl⟩) ?_
   have hno:=zgQ hv' hw'
   have hall2:zdk v.items[i] w.items[i]=true → ∀ (j:Nat) (h1:j < v.items.length) (h2:j < w.items.length),j < i + 1 → zdk v.items[j] w.items[j]=true:=by
    intro hs j h1 h2 hj
    by_cases e:j=i
    ·subst e; exact hs
    ·exact hall j h1 h2 (by omega)
   generalize zdk v.items[i] w.items[i]=sm at hno hall2
   simp only [sxZ,z6,z7,z8,j4,j5,j6,j7,j8,j9,x4,x5,x6,x7,x8,x9,reduceCtorEq,↓reduceIte,List.getElem?_set,hlen,t2,t3]
   subst hZ
   cases sm with
   | false =>
    simp only [sxZ,z6,z7,z8,j4,j5,j6,j7,j8,j9,x4,x5,x6,x7,x8,x9,reduceCtorEq,↓reduceIte,List.getElem?_set,hlen,Bool.not_false,Bool.not_true]
    exact no (by rw [zcA,hno rfl]; simp)
   | true =>
    simp only [sxZ,z6,z7,z8,j4,j5,j6,j7,j8,j9,x4,x5,x6,x7,x8,x9,reduceCtorEq,↓reduceIte,List.getElem?_set,hlen,Bool.not_false,Bool.not_true]
    subst hW
    simp only [sxZ,z6,z7,z8,j4,j5,j6,j7,j8,j9,x4,x5,x6,x7,x8,x9,reduceCtorEq,↓reduceIte,List.getElem?_set,hlen,t2,t3,t38,t39,t40]
    exact ⟨by omega,w.items.length - (i + 1),by omega,i + 1,by omega,rfl,hall2 rfl,rfl⟩
  simp only [sxZ,z6,z7,z8,j4,j5,j6,j7,j8,j9,x4,x5,x6,x7,x8,x9,reduceCtorEq,↓reduceIte,List.getElem?_set,hlen,t2,t3,t38,t39,t40,hlt]
  subst hZ
  simp only [sxZ,z6,z7,z8,j4,j5,j6,j7,j8,j9,x4,x5,x6,x7,x8,x9,reduceCtorEq,↓reduceIte,List.getElem?_set,hlen,t2,t3,t38,t39,t40,hlt]
  refine za1 (fun t => t.length=74 ∧ t[2]? = some (.p 0 0) ∧ t[3]? = some (.p 1 0)) ?_ ?_
  ·simp only [sxZ,z6,z7,z8,j4,j5,j6,j7,j8,j9,x4,x5,x6,x7,x8,x9,reduceCtorEq,↓reduceIte,List.length_set,List.getElem?_set,hlen,t2,t3,and_self]
  have hyes:zbF v.items w.items=true:=zfk c3 fun j h1 h2 => hall j h1 h2 (by omega)
  clear hlen t2 t3 t38 t39 t40 hlt
  rintro tm ⟨hlen,t2,t3⟩
  subst hY
  refine zaa fun Y hY => ?_
  simp only [sxZ,z6,z7,z8,j4,j5,j6,j7,j8,j9,x4,x5,x6,x7,x8,x9,reduceCtorEq,↓reduceIte,List.getElem?_set,hlen,t2,t3]
  refine zaA (fun n o tm => ∃ i:Nat,i ≤ w.keys.length ∧ n=w.keys.length - i ∧ o=[OB.box 25 [.i .i64 w.kind,.s w.text,.row w.keys.length (v.keys.map .s),.row w.items.length (zac v.items)],OB.box 25 [.i .i64 w.kind,.s w.text,.row w.keys.length (w.keys.map .s),.row w.items.length (zac w.items)]] ∧ (∀ j:Nat,j < i → v.keys[j]? = w.keys[j]?) ∧ tm.length=74 ∧ tm[2]? = some (.p 0 0) ∧ tm[3]? = some (.p 1 0) ∧ tm[58]? = some (.i .i64 (w.keys.length:Int)) ∧ tm[59]? = some (.i .i64 (i:Int))) w.keys.length ⟨0,Nat.zero_le _,rfl,rfl,fun j h => by omega,?_⟩ ?_
  ·simp only [sxZ,z6,z7,z8,j4,j5,j6,j7,j8,j9,x4,x5,x6,x7,x8,x9,reduceCtorEq,↓reduceIte,List.length_set,List.getElem?_set,hlen,t2,t3,Int.cast_ofNat_Int,and_self]
  clear hlen t2 t3 hall hi i
  rintro n _ tm ⟨i,hi,rfl,rfl,hall,hlen,t2,t3,t58,t59⟩
  refine zaa fun Z hZ => ?_
  by_cases hlt:(i:Int) < (w.keys.length:Int)
  ·have hw':i < w.keys.length:=by omega
   have hv':i < v.keys.length:=by omega
   have kv:(v.keys.map AV.s)[i * 1]? = some (.s v.keys[i]):=by rw [Nat.mul_one,List.getElem?_map,List.getElem?_eq_getElem hv']; rfl
   have kw:(w.keys.map AV.s)[i * 1]? = some (.s w.keys[i]):=by rw [Nat.mul_one,List.getElem?_map,List.getElem?_eq_getElem hw']; rfl
   have hne:¬ v.keys[i]=w.keys[i] → ¬ v.keys=w.keys:=fun h e => h (by simp only [e])
   have hall2:v.keys[i]=w.keys[i] → ∀ j:Nat,j < i + 1 → v.keys[j]? = w.keys[j]?:=by
    intro hs j hj
    by_cases e:j=i
    ·subst e; rw [List.getElem?_eq_getElem hv',List.getElem?_eq_getElem hw',hs]
    ·exact hall j (by omega)
   generalize v.keys[i]=x at kv hne hall2
   generalize w.keys[i]=y at kw hne hall2
   simp only [sxZ,z6,z7,z8,j4,j5,j6,j7,j8,j9,x4,x5,x6,x7,x8,x9,reduceCtorEq,↓reduceIte,List.getElem?_set,hlen,t2,t3,t58,t59,hlt]
   subst hZ
   refine zaa fun Z hZ => ?_
   simp only [sxZ,z6,z7,z8,j4,j5,j6,j7,j8,j9,x4,x5,x6,x7,x8,x9,reduceCtorEq,↓reduceIte,List.getElem?_set,hlen]
   subst hZ
   refine zaa fun W hW => ?_
   rw [zaB]
   refine zaa fun Z hZ => ?_
   simp only [sxZ,z6,z7,z8,j4,j5,j6,j7,j8,j9,x4,x5,x6,x7,x8,x9,reduceCtorEq,↓reduceIte,List.getElem?_set,hlen,t59]
   subst hZ
   refine zaa fun Z hZ => ?_
   simp only [sxZ,z6,z7,z8,j4,j5,j6,j7,j8,j9,x4,x5,x6,x7,x8,x9,reduceCtorEq,↓reduceIte,List.getElem?_set,hlen,t2,t3,kv,kw,List.length_map]
   refine ⟨⟨by omega,by omega,by omega⟩,⟨by omega,by omega,by omega⟩,?_⟩
   subst hZ
   by_cases c5:x=y
   rotate_left
   ·simp only [sxZ,z6,z7,z8,j4,j5,j6,j7,j8,j9,x4,x5,x6,x7,x8,x9,reduceCtorEq,↓reduceIte,List.getElem?_set,hlen,c5,decide_false,decide_true,Bool.not_false,Bool.not_true]
    exact no (by rw [zcA,decide_eq_false (hne c5)]; simp)
   ·simp only [sxZ,z6,z7,z8,j4,j5,j6,j7,j8,j9,x4,x5,x6,x7,x8,x9,reduceCtorEq,↓reduceIte,List.getElem?_set,hlen,c5,decide_false,decide_true,Bool.not_false,Bool.not_true]
    subst hW
    simp only [sxZ,z6,z7,z8,j4,j5,j6,j7,j8,j9,x4,x5,x6,x7,x8,x9,reduceCtorEq,↓reduceIte,List.getElem?_set,hlen,t2,t3,t58,t59]
    exact ⟨by omega,w.keys.length - (i + 1),by omega,i + 1,by omega,rfl,hall2 c5,rfl⟩
  simp only [sxZ,z6,z7,z8,j4,j5,j6,j7,j8,j9,x4,x5,x6,x7,x8,x9,reduceCtorEq,↓reduceIte,List.getElem?_set,hlen,t2,t3,t58,t59,hlt]
  subst hZ
  subst hY
  simp only [sxZ,z6,z7,z8,j4,j5,j6,j7,j8,j9,x4,x5,x6,x7,x8,x9,reduceCtorEq,↓reduceIte,List.getElem?_set,hlen,t2,t3,t58,t59,hlt]
  have hkeys:v.keys=w.keys:=List.ext_getElem? fun j => by
   by_cases h:j < i
   ·exact hall j h
   ·rw [List.getElem?_eq_none (by omega),List.getElem?_eq_none (by omega)]
  have:zdk v w=true:=by rw [zcA,hyes,decide_eq_true c1,decide_eq_true c2,decide_eq_true hkeys]; rfl
  rw [← this]
  exact hk
end
end
section
attribute [local irreducible] run
def zd4 (key:List UInt8):List (List UInt8) → Nat
 | [] => 0
 | k :: l => if k=key then 0 else zd4 key l + 1
theorem zir {key:List UInt8}:∀ {l:List (List UInt8)},zd4 key l < l.length → l[zd4 key l]? = some key
 | [],h => by simp [zd4] at h
 | k :: l,h => by
  unfold zd4 at h ⊢
  by_cases c:k=key
  ·rw [if_pos c,c]; rfl
  ·rw [if_neg c] at h ⊢
   simpa using zir (l:=l) (by simpa using h)
theorem znu {key:List UInt8}:∀ {l:List (List UInt8)} {i:Nat},l[i]? = some key → zd4 key l ≤ i
 | [],i,h => by simp at h
 | k :: l,0,h => by
  simp only [List.getElem?_cons_zero,Option.some.injEq] at h
  unfold zd4; rw [if_pos h]; omega
 | k :: l,i + 1,h => by
  unfold zd4
  split
  ·omega
  ·have:=znu (l:=l) (i:=i) (by simpa using h)
   omega
def zfA (v:JV) (key:List UInt8):JV × Bool :=
 if v.kind=7 ∧ zd4 key v.keys < v.keys.length then (match v.items[zd4 key v.keys]? with | some x => (x,true) | none => (jvZ,false)) else (jvZ,false)
def zhp (R:JV × Bool):AV:=.tup [.agg (zaj R.1),.b R.2]
theorem znw {v:JV} {key:List UInt8} (h:¬ v.kind=7):zfA v key=(jvZ,false):=by unfold zfA; rw [if_neg (fun k => h k.1)]
theorem getJ_at {v:JV} {key:List UInt8} {i:Nat} (h:v.kind=7) (hk:v.keys[i]? = some key) (hi:i < v.items.length) (hall:∀ j,j < i → v.keys[j]? ≠ some key ∨ v.items.length ≤ j):zfA v key=(v.items[i],true):=by
 have hl:=(List.getElem?_eq_some_iff.1 hk).1
 have h1:=znu hk
 have h2:zd4 key v.keys=i:=by
  rcases Nat.lt_or_ge (zd4 key v.keys) i with h3 | h3
  ·have h4:=zir (l:=v.keys) (key:=key) (by omega)
   rcases hall _ h3 with h5 | h5
   ·exact absurd h4 h5
   ·omega
  ·omega
 unfold zfA
 rw [if_pos ⟨h,by omega⟩,h2,List.getElem?_eq_getElem hi]
theorem getJ_no {v:JV} {key:List UInt8} (hall:∀ j,j < v.keys.length → v.keys[j]? ≠ some key ∨ v.items.length ≤ j):zfA v key=(jvZ,false):=by
 unfold zfA
 split
 ·rename_i h
  have h4:=zir h.2
  rcases hall _ h.2 with h5 | h5
  ·exact absurd h4 h5
  ·rw [List.getElem?_eq_none h5]
 ·rfl
theorem den_zv2 {b:Bool} {G:Gh} {I:Imm} {y:Value} (h:Den G I (.tup [.agg [.i .i64 0,.s [],.nil,.nil],.b b]) y):Den G I (zhp (jvZ,b)) y:=by
 unfold zhp jvZ
 rw [zaj,zas]
 simp only [zah,Den] at h ⊢
 obtain ⟨ys,h1,y0,l0,rfl,⟨zs,rfl,⟨z0,m0,rfl,q0,z1,m1,rfl,q1,z2,m2,rfl,q2,z3,m3,rfl,q3,q4⟩,hz⟩,h2⟩:=h
 refine ⟨_,h1,_,_,rfl,⟨_,rfl,⟨_,_,rfl,q0,_,_,rfl,q1,_,_,rfl,?_,_,_,rfl,?_,q4⟩,hz⟩,h2⟩
 ·exact ⟨none,0,[],q2,⟨Nat.le_refl _,fun ad h => by cases h⟩,rfl,by simp,by simp⟩
 ·exact ⟨none,0,[],q3,⟨Nat.le_refl _,fun ad h => by cases h⟩,rfl,by simp,by simp⟩
theorem jres2 {P:Program} [Tabs P] {f:FuncId} {args:List AV} {objs:List OB} {K:List OB → AV → Prop} (r':AV) (hc:zae P f args objs (fun o r => (∀ G I y,Den G I r y → Den G I r' y) ∧ K o r')):zae P f args objs K:=by
 intro C _ G I w hin hm ys hd
 refine (hc C G I w hin hm ys hd).mono ?_
 rintro e w' ⟨y,objs',r,G',I',he,⟨hr,hk⟩,h1,h2,h3,h4,hy⟩
 exact ⟨y,objs',r',G',I',he,hk,h1,h2,h3,h4,hr _ _ _ hy⟩
section
variable [Tabs Tryz.prog] {objs:List OB} {K:List OB → AV → Prop}
theorem zkx (v:JV) (key:List UInt8) (hv:JOk v) (hk:K objs (zhp (zfA v key))):zae Tryz.prog 31 [.agg (zaj v),.s key] objs K:=by
 obtain ⟨l1,l2,l3,l4⟩:=hv.lens
 refine jres2 (zhp (zfA v key)) ?_
 refine zaV is_ref14_Get (by simp only [zaq,AV.plain,zaJ,Bool.and_self]) fun C _ => ?_
 have fin:∀ {o:List OB},zfA v key=(jvZ,false) → ((∀ G I y,Den G I (.tup [.agg [.i .i64 0,.s [],.nil,.nil],.b false]) y → Den G I (zhp (zfA v key)) y) ∧ K objs (zhp (zfA v key))):=fun {o} h => ⟨fun G I y hy => by rw [h]; exact den_zv2 hy,hk⟩
 rw [c_ref14_Get]
 refine zaa fun Y hY => ?_
 simp only [sxZ,z6,z7,z8,j4,j5,j6,j7,j8,j9,x4,x5,x6,x7,x8,x9,reduceCtorEq,↓reduceIte]
 have e0:OB.box 25 (zaj v)=OB.box 25 [.i .i64 v.kind,.s v.text,.row v.keys.length (v.keys.map .s),.row v.items.length (zac v.items)]:=by rw [zaf]
 rw [e0]
 subst hY
 refine zaa fun Y hY => ?_
 by_cases c1:v.kind=7
 rotate_left
 ·simp only [sxZ,z6,z7,z8,j4,j5,j6,j7,j8,j9,x4,x5,x6,x7,x8,x9,reduceCtorEq,↓reduceIte,c1,decide_false,Bool.not_false]
  exact fin (o:=[]) (znw c1)
 simp only [sxZ,z6,z7,z8,j4,j5,j6,j7,j8,j9,x4,x5,x6,x7,x8,x9,reduceCtorEq,↓reduceIte,c1,decide_true,Bool.not_true]
 subst hY
 refine zaa fun Y hY => ?_
 simp only [sxZ,z6,z7,z8,j4,j5,j6,j7,j8,j9,x4,x5,x6,x7,x8,x9,reduceCtorEq,↓reduceIte]
 refine zaA (fun n o tm => ∃ i:Nat,i ≤ v.keys.length ∧ n=v.keys.length - i ∧ o=[OB.box 25 [.i .i64 7,.s v.text,.row v.keys.length (v.keys.map .s),.row v.items.length (zac v.items)],OB.box 25 [.i .i64 0,.s [],.nil,.nil]] ∧ (∀ j,j < i → v.keys[j]? ≠ some key ∨ v.items.length ≤ j) ∧ tm.length=38 ∧ tm[1]? = some (.s key) ∧ tm[2]? = some (.p 0 0) ∧ tm[4]? = some (.p 1 0) ∧ tm[13]? = some (.i .i64 (v.keys.length:Int)) ∧ tm[14]? = some (.i .i64 (i:Int))) v.keys.length ⟨0,Nat.zero_le _,rfl,rfl,fun j h => by omega,rfl,rfl,rfl,rfl,rfl,rfl⟩ ?_
 rintro n _ tm ⟨i,hi,rfl,rfl,hall,hlen,t1,t2,t4,t13,t14⟩
 refine zaa fun Z hZ => ?_
 by_cases hlt:(i:Int) < (v.keys.length:Int)
 ·have hi':i < v.keys.length:=by omega
  have kv:(v.keys.map AV.s)[i * 1]? = some (.s v.keys[i]):=by rw [Nat.mul_one,List.getElem?_map,List.getElem?_eq_getElem hi']; rfl
  have kv2:v.keys[i]? = some v.keys[i]:=List.getElem?_eq_getElem hi'
  generalize v.keys[i]=x at kv kv2
  simp only [sxZ,z6,z7,z8,j4,j5,j6,j7,j8,j9,x4,x5,x6,x7,x8,x9,reduceCtorEq,↓reduceIte,List.getElem?_set,hlen,t1,t2,t4,t13,t14,hlt]
  subst hZ
  refine zaa fun Z hZ => ?_
  simp only [sxZ,z6,z7,z8,j4,j5,j6,j7,j8,j9,x4,x5,x6,x7,x8,x9,reduceCtorEq,↓reduceIte,List.getElem?_set,hlen]
  subst hZ
  refine zaa fun W hW => ?_
  rw [zaB]
  refine zaa fun Z hZ => ?_
  simp only [sxZ,z6,z7,z8,j4,j5,j6,j7,j8,j9,x4,x5,x6,x7,x8,x9,reduceCtorEq,↓reduceIte,List.getElem?_set,hlen,t14]
  subst hZ
  refine zaa fun Z hZ => ?_
  have next:(x=key → v.items.length ≤ i) → ∀ j,j < i + 1 → v.keys[j]? ≠ some key ∨ v.items.length ≤ j:=by
   intro h j hj
   by_cases e:j=i
   ·subst e
    by_cases ex:x=key
    ·exact .inr (h ex)
    ·left; rw [kv2]; intro h; injection h with h; exact ex h
   ·exact hall j (by omega)
  by_cases c2:x=key
  ·by_cases c3:(i:Int) < v.items.length
   ·have hi2:i < v.items.length:=by omega
    have hg:=getJ_at c1 (by rw [kv2,c2]) hi2 hall
    have jv:=zdF hi2
    have jvl:=zax v.items
    have hq:=zaf v.items[i]
    rw [hq] at jv
    simp only [sxZ,z6,z7,z8,j4,j5,j6,j7,j8,j9,x4,x5,x6,x7,x8,x9,reduceCtorEq,↓reduceIte,List.getElem?_set,hlen,t1,t2,kv,List.length_map,c2,c3,decide_true]
    refine ⟨by omega,?_⟩
    subst hZ
    simp only [sxZ,z6,z7,z8,j4,j5,j6,j7,j8,j9,x4,x5,x6,x7,x8,x9,reduceCtorEq,↓reduceIte,List.getElem?_set,hlen,t1,t2,t4,jv]
    refine ⟨by omega,by omega,?_⟩
    simp only [pub,AV.plain,zaP,zbX,sxZ,z6,z7,z8,j4,j5,j6,j7,j8,j9,x4,x5,x6,x7,x8,x9,reduceCtorEq,↓reduceIte]
    refine ⟨fun G I y hy => ?_,hk⟩
    rw [hg,zhp,hq]
    exact hy
   ·simp only [sxZ,z6,z7,z8,j4,j5,j6,j7,j8,j9,x4,x5,x6,x7,x8,x9,reduceCtorEq,↓reduceIte,List.getElem?_set,hlen,t1,t2,kv,List.length_map,c2,c3,decide_true,decide_false]
    refine ⟨by omega,?_⟩
    subst hZ
    simp only [sxZ,z6,z7,z8,j4,j5,j6,j7,j8,j9,x4,x5,x6,x7,x8,x9,reduceCtorEq,↓reduceIte,List.getElem?_set,hlen,t1,t2,t4]
    subst hW
    simp only [sxZ,z6,z7,z8,j4,j5,j6,j7,j8,j9,x4,x5,x6,x7,x8,x9,reduceCtorEq,↓reduceIte,List.getElem?_set,hlen,t1,t2,t4,t13,t14]
    exact ⟨by omega,v.keys.length - (i + 1),by omega,i + 1,by omega,rfl,next (fun _ => by omega),rfl⟩
  ·simp only [sxZ,z6,z7,z8,j4,j5,j6,j7,j8,j9,x4,x5,x6,x7,x8,x9,reduceCtorEq,↓reduceIte,List.getElem?_set,hlen,t1,t2,kv,List.length_map,c2,decide_false]
   refine ⟨by omega,?_⟩
   subst hZ
   simp only [sxZ,z6,z7,z8,j4,j5,j6,j7,j8,j9,x4,x5,x6,x7,x8,x9,reduceCtorEq,↓reduceIte,List.getElem?_set,hlen,t1,t2,t4]
   subst hW
   simp only [sxZ,z6,z7,z8,j4,j5,j6,j7,j8,j9,x4,x5,x6,x7,x8,x9,reduceCtorEq,↓reduceIte,List.getElem?_set,hlen,t1,t2,t4,t13,t14]
   exact ⟨by omega,v.keys.length - (i + 1),by omega,i + 1,by omega,rfl,next (fun h => absurd h c2),rfl⟩
 simp only [sxZ,z6,z7,z8,j4,j5,j6,j7,j8,j9,x4,x5,x6,x7,x8,x9,reduceCtorEq,↓reduceIte,List.getElem?_set,hlen,t1,t2,t4,t13,t14,hlt]
 subst hZ
 subst hY
 simp only [sxZ,z6,z7,z8,j4,j5,j6,j7,j8,j9,x4,x5,x6,x7,x8,x9,reduceCtorEq,↓reduceIte,List.getElem?_set,hlen,t1,t2,t4,t13,t14,hlt]
 exact fin (o:=[]) (getJ_no fun j hj => hall j (by omega))
end
end
end Go.Proofs.YtadhjoggdbhkgaaGreatDoor
namespace Go.Proofs.YtadhjoggdbhkgaaGreatDoor
open Go.RowKit Sx
section
attribute [local irreducible] run
theorem zcR:∀ (ks:List (List UInt8)) (o:List OB) (d:Nat),zfs o (d + 1) (ks.map AV.s)=some (ks.map AV.s)
 | [],o,d => by simp only [List.map_nil,zfs]
 | k :: ks,o,d => by simp only [List.map_cons,zfs,pub,AV.plain,if_true,zcR ks o d]
theorem zeU:∀ (l:List JV) (o:List OB) (d:Nat),zfs o (d + 1) (zac l)=some (zac l)
 | [],o,d => by rw [zas]; simp only [zfs]
 | v :: l,o,d => by
  rw [zaw,zaf]
  simp only [List.cons_append,List.nil_append,zfs,pub,AV.plain,zaP,zbX,if_true,zeU l o d]
section
variable [Tabs Tryz.prog] {objs:List OB} {K:List OB → AV → Prop}
end
end
end Go.Proofs.YtadhjoggdbhkgaaGreatDoor
namespace Go.Proofs.YtadhjoggdbhkgaaGreatDoor
open Go.RowKit Sx
section
attribute [local irreducible] run
structure WfM (σ:Ms) (a:Nat):Prop where
 top:(σ.st=1 ∨ σ.st=2 ∨ σ.st=3 ∨ σ.st=4 ∨ σ.st=5) → σ.stk ≠ []
 obj:(σ.st=2 ∨ σ.st=3 ∨ σ.st=4) → ∀ f r,σ.stk=f :: r → f.obj=true
 len:∀ f ∈ σ.stk,f.ks.length ≤ a ∧ f.its.length ≤ a
 deep:σ.stk.length ≤ 64
 few:σ.nodes ≤ 20000
end
end Go.Proofs.YtadhjoggdbhkgaaGreatDoor
namespace Go.Proofs.YtadhjoggdbhkgaaGreatDoor
open Go.RowKit Sx
section
attribute [local irreducible] run
def tkC (t:Tk):List AV:=[.i .i64 t.1,.s t.2.1,.i .i64 t.2.2]
def zgH (t:Tk):AV:=.agg (tkC t)
def SlO (E sz n:Nat) (xs:List AV) (X:AV) (L:List (Nat × OB)):Prop :=
 (n=0 ∧ xs=[] ∧ X=.nil ∧ L=[]) ∨ ∃ b g,X=.orow b g ∧ L=[(b,.orow E sz g n xs)]
section
variable [Tabs Tryz.prog] {objs:List OB} {K:List OB → AV → Prop}
end
end
end Go.Proofs.YtadhjoggdbhkgaaGreatDoor
namespace Go.Proofs.YtadhjoggdbhkgaaGreatDoor
open Nat renaming reduceAdd → z6, reduceSub → z7, reduceLeDiff → z8, reduceLT → j4, reduceMul → j5, reduceEqDiff → j6
open Int renaming reduceToNat → j7, reduceAdd → j8, reduceSub → j9, reduceMul → x4, reduceNeg → x5, reduceLT → x6, reduceLE → x7, reduceEq → x8, reduceNe → x9
open Go.RowKit Sx
section
attribute [local irreducible] run
def leS (a b:List UInt8):Bool:=zbe a b || a == b
theorem zbA:∀ (a b c:List UInt8),zbe a b=true → zbe b c=true → zbe a c=true
 | _,[],_,h,_ => by simp [zbe,Op.bytesLess] at h
 | [],_ :: _,[],_,h => by simp [zbe,Op.bytesLess] at h
 | _ :: _,_ :: _,[],_,h => by simp [zbe,Op.bytesLess] at h
 | [],_ :: _,_ :: _,_,_ => by simp [zbe,Op.bytesLess]
 | a :: x,b :: y,c :: z,h,k => by
  simp only [zbe,Op.bytesLess,Bool.or_eq_true,Bool.and_eq_true,decide_eq_true_eq,beq_iff_eq] at h k ⊢
  rcases h with h | ⟨rfl,h⟩
  ·rcases k with k | ⟨rfl,k⟩
   ·exact .inl (UInt8.lt_trans h k)
   ·exact .inl h
  ·rcases k with k | ⟨rfl,k⟩
   ·exact .inl k
   ·exact .inr ⟨rfl,zbA x y z h k⟩
theorem zdi:∀ (a b:List UInt8),zbe a b=true ∨ a=b ∨ zbe b a=true
 | [],[] => .inr (.inl rfl)
 | [],_ :: _ => .inl rfl
 | _ :: _,[] => .inr (.inr rfl)
 | a :: x,b :: y => by
  simp only [zbe,Op.bytesLess,Bool.or_eq_true,Bool.and_eq_true,decide_eq_true_eq,beq_iff_eq]
  by_cases h1:a < b
  ·exact .inl (.inl h1)
  by_cases h2:b < a
  ·exact .inr (.inr (.inl h2))
  have e:a=b:=UInt8.le_antisymm (UInt8.not_lt.1 h2) (UInt8.not_lt.1 h1)
  subst e
  rcases zdi x y with h | h | h
  ·exact .inl (.inr ⟨rfl,h⟩)
  ·exact .inr (.inl (by rw [h]))
  ·exact .inr (.inr (.inr ⟨rfl,h⟩))
theorem za4:∀ a:List UInt8,zbe a a=false
 | [] => rfl
 | a :: x => by
  have h0:¬ a < a:=UInt8.lt_irrefl a
  have h:=za4 x
  unfold zbe at h
  simp [zbe,Op.bytesLess,h0,h]
theorem zhe (a b c:List UInt8) (h:leS a b=true) (k:leS b c=true):leS a c=true:=by
 unfold leS at *
 rw [Bool.or_eq_true,beq_iff_eq] at *
 rcases h with h | rfl
 ·rcases k with k | rfl
  ·exact .inl (zbA _ _ _ h k)
  ·exact .inl h
 ·exact k
theorem zmM (a b:List UInt8):(leS a b || leS b a)=true:=by
 unfold leS
 rcases zdi a b with h | rfl | h
 ·rw [h]; rfl
 ·simp
 ·rw [h]; simp
theorem zjo (a b:List UInt8) (h:leS a b=true) (k:leS b a=true):a=b:=by
 unfold leS at *
 rw [Bool.or_eq_true,beq_iff_eq] at *
 rcases h with h | h
 ·rcases k with k | k
  ·have:=zbA _ _ _ h k
   rw [za4] at this; cases this
  ·exact k.symm
 ·exact h
def zb4:Nat → List (List UInt8) → List (List UInt8)
 | 0,l => l
 | f + 1,l => if l.length < 2 then l else List.merge (zb4 f (l.take (l.length / 2))) (zb4 f (l.drop (l.length / 2))) leS
theorem zaY:∀ (f:Nat) (l:List (List UInt8)),(zb4 f l).Perm l
 | 0,l => List.Perm.refl _
 | f + 1,l => by
  rw [zb4]
  split
  ·exact List.Perm.refl _
  ·refine (List.merge_perm_append _).trans ?_
   refine ((zaY f _).append (zaY f _)).trans ?_
   rw [List.take_append_drop]
theorem zcz:∀ (f:Nat) (l:List (List UInt8)),l.length ≤ f → (zb4 f l).Pairwise (fun a b => leS a b=true)
 | 0,l,h => by
  have:l=[]:=List.eq_nil_of_length_eq_zero (by omega)
  subst this
  exact List.Pairwise.nil
 | f + 1,l,h => by
  rw [zb4]
  split
  ·rename_i h2
   match l,h2 with
   | [],_ => exact List.Pairwise.nil
   | [a],_ => exact List.pairwise_singleton _ _
   | a :: b :: l,h2 => simp at h2; omega
  ·exact List.pairwise_merge zhe zmM _ _ (zcz f _ (by rw [List.length_take]; omega)) (zcz f _ (by rw [List.length_drop]; omega))
section
variable [Tabs Tryz.prog]
theorem ziS:∀ (f:Nat) (l:List (List UInt8)),l.length ≤ f → l.length ≤ 1099511627780 → ∀ {objs:List OB} {K:List OB → AV → Prop},K objs (.row (zb4 f l).length ((zb4 f l).map .s)) → zae Tryz.prog 39 [.row l.length (l.map .s)] objs K:=by
 intro f
 induction f with
 | zero =>
  intro l hl hb objs K hk
  have e:l=[]:=List.eq_nil_of_length_eq_zero (by omega)
  subst e
  refine zaV is_ref15_sorted rfl fun C _ => ?_
  rw [c_ref15_sorted]
  have z:((0:Nat):Int) < 2:=by decide
  simp only [sxZ,z6,z7,z8,j4,j5,j6,j7,j8,j9,x4,x5,x6,x7,x8,x9,reduceCtorEq,↓reduceIte,List.length_nil,List.map_nil,z]
  exact hk
 | succ f ih =>
  intro l hl hb objs K hk
  refine zaV is_ref15_sorted (by simp only [zaq,AV.plain,zaP,Bool.and_self]) fun C _ => ?_
  rw [c_ref15_sorted]
  refine zaa fun Z hZ => ?_
  simp only [sxZ,z6,z7,z8,j4,j5,j6,j7,j8,j9,x4,x5,x6,x7,x8,x9,reduceCtorEq,↓reduceIte]
  subst hZ
  refine zaa fun Z hZ => ?_
  rw [zb4] at hk
  by_cases c2:l.length < 2
  ·rw [if_pos c2] at hk
   have c2':(l.length:Int) < 2:=by omega
   simp only [sxZ,z6,z7,z8,j4,j5,j6,j7,j8,j9,x4,x5,x6,x7,x8,x9,reduceCtorEq,↓reduceIte,c2',zaP]
   exact hk
  rw [if_neg c2] at hk
  have c2':¬ (l.length:Int) < 2:=by omega
  simp only [sxZ,z6,z7,z8,j4,j5,j6,j7,j8,j9,x4,x5,x6,x7,x8,x9,reduceCtorEq,↓reduceIte,c2']
  subst hZ
  refine zaa fun Z hZ => ?_
  have hq:((l.length:Int)).tdiv 2=((l.length / 2:Nat):Int):=(Int.ofNat_tdiv l.length 2).symm
  generalize hh:l.length / 2=h at hk hq
  have ihx:=fun (l':List (List UInt8)) (n:Nat) (xs:List AV) (hn:n=l'.length) (hx:xs=l'.map .s) (h1:l'.length ≤ f) (h2:l'.length ≤ 1099511627780) {objs:List OB} {K:List OB → AV → Prop} (hk:K objs (.row (zb4 f l').length ((zb4 f l').map .s))) => (by subst hn hx; exact ih l' h1 h2 hk:zae Tryz.prog 39 [.row n xs] objs K)
  have hla:(l.take h).length=h:=by rw [List.length_take]; omega
  have hlb:(l.drop h).length=l.length - h:=List.length_drop
  have ha:List.take (h * 1) (l.map AV.s)=(l.take h).map .s:=by rw [Nat.mul_one,List.map_take]
  have hb2:List.drop (h * 1) (List.take (l.length * 1) (l.map AV.s))=(l.drop h).map .s:=by
   rw [Nat.mul_one,Nat.mul_one,List.take_of_length_le (by simp),List.map_drop]
  simp only [sxZ,z6,z7,z8,j4,j5,j6,j7,j8,j9,x4,x5,x6,x7,x8,x9,reduceCtorEq,↓reduceIte,hq,Int.toNat_natCast]
  refine ⟨⟨by omega,by omega⟩,⟨by omega,by omega⟩,?_⟩
  refine zmO (ihx (l.take h) h _ hla.symm ha (by omega) (by omega) rfl) (by rw [ha]; simp only [zaq,AV.plain,zaP,Bool.and_self]) (by simp only [AV.plain,zaP]) ?_
  simp only [sxZ,z6,z7,z8,j4,j5,j6,j7,j8,j9,x4,x5,x6,x7,x8,x9,reduceCtorEq,↓reduceIte,hq,Int.toNat_natCast]
  refine ⟨⟨by omega,by omega⟩,⟨by omega,by omega⟩,?_⟩
  refine zmO (ihx (l.drop h) _ _ hlb.symm hb2 (by omega) (by omega) rfl) (by rw [hb2]; simp only [zaq,AV.plain,zaP,Bool.and_self]) (by simp only [AV.plain,zaP]) ?_
  have hra:0 < (zb4 f (l.take h)).length:=by rw [(zaY f _).length_eq]; omega
  have hrb:0 < (zb4 f (l.drop h)).length:=by rw [(zaY f _).length_eq]; omega
  have hls:(zb4 f (l.take h)).length + (zb4 f (l.drop h)).length=l.length:=by rw [(zaY f _).length_eq,(zaY f _).length_eq]; omega
  generalize zb4 f (l.take h)=ra at hk hra hls ⊢
  generalize zb4 f (l.drop h)=rb at hk hrb hls ⊢
  simp only [sxZ,z6,z7,z8,j4,j5,j6,j7,j8,j9,x4,x5,x6,x7,x8,x9,reduceCtorEq,↓reduceIte]
  subst hZ
  refine zaa fun Z hZ => ?_
  simp only [sxZ,z6,z7,z8,j4,j5,j6,j7,j8,j9,x4,x5,x6,x7,x8,x9,reduceCtorEq,↓reduceIte]
  subst hZ
  refine zaa fun Z hZ => ?_
  rw [zaB]
  refine zaA (fun n o tm => ∃ (acc a b:List (List UInt8)) (X:AV),n=a.length + b.length ∧ List.merge ra rb leS=acc ++ List.merge a b leS ∧ acc.length + a.length + b.length=l.length ∧ (acc=[] → a=ra ∧ b=rb) ∧ ((acc=[] ∧ o=[] ∧ X=.nil) ∨ ∃ g,o=[.orow 9 1 g acc.length (acc.map .s)] ∧ X=.orow 0 g) ∧
   tm.length=58 ∧ tm[3]? = some (.row a.length (a.map .s)) ∧ tm[4]? = some (.row b.length (b.map .s)) ∧ tm[5]? = some X) (ra.length + rb.length) ⟨[],ra,rb,.nil,rfl,rfl,by rw [List.length_nil]; omega,fun _ => ⟨rfl,rfl⟩,.inl ⟨rfl,rfl,rfl⟩,rfl,rfl,rfl,rfl⟩ ?_
  rintro n o tm ⟨acc,a,b,X,rfl,hm,hlen2,hin,hX,hlen,t3,t4,t5⟩
  have last:∀ (tm:List AV),(a=[] ∨ b=[]) → tm.length=58 → tm[3]? = some (.row a.length (a.map .s)) → tm[4]? = some (.row b.length (b.map .s)) → tm[5]? = some X → run Tryz.prog C [.code Z] o tm (endK [.tmp 2] fun r => K objs r):=by
   intro tm hab hlen t3 t4 t5
   have hmab:List.merge a b leS=a ++ b:=by
    rcases hab with rfl | rfl
    ·rw [List.nil_merge]; rfl
    ·rw [List.merge_right,List.append_nil]
   rcases hX with ⟨h1,_,_⟩ | ⟨g,rfl,rfl⟩
   ·obtain ⟨rfl,rfl⟩:=hin h1
    rcases hab with rfl | rfl
    ·simp at hra
    ·simp at hrb
   subst hZ
   simp only [sxZ,z6,z7,z8,j4,j5,j6,j7,j8,j9,x4,x5,x6,x7,x8,x9,reduceCtorEq,↓reduceIte,List.getElem?_set,hlen,t3,t4,t5]
   refine ⟨⟨by simp,by omega,by omega⟩,⟨by simp,by omega,by omega⟩,?_⟩
   rw [← List.map_append,← List.map_append,zcR]
   rw [hm,hmab,← List.append_assoc,List.length_append,List.length_append] at hk
   exact hk
  refine zaa fun W hW => ?_
  cases a with
  | nil =>
   have z:¬ (0:Int) < ((0:Nat):Int):=by decide
   simp only [sxZ,z6,z7,z8,j4,j5,j6,j7,j8,j9,x4,x5,x6,x7,x8,x9,reduceCtorEq,↓reduceIte,List.getElem?_set,hlen,t3,List.length_nil,z]
   refine last _ (.inl rfl) ?_ ?_ ?_ ?_
   all_goals simp only [List.length_set,List.getElem?_set,hlen,t3,t4,t5,Nat.reduceEqDiff,if_false,reduceIte]
  | cons x a =>
  cases b with
  | nil =>
   have z:¬ (0:Int) < ((0:Nat):Int):=by decide
   have z2:(0:Int) < ((a.length + 1:Nat):Int):=by omega
   simp only [sxZ,z6,z7,z8,j4,j5,j6,j7,j8,j9,x4,x5,x6,x7,x8,x9,reduceCtorEq,↓reduceIte,List.getElem?_set,hlen,t3,t4,List.length_nil,List.length_cons,z,z2]
   refine last _ (.inr rfl) ?_ ?_ ?_ ?_
   all_goals simp only [List.length_set,List.getElem?_set,hlen,t3,t4,t5,Nat.reduceEqDiff,if_false,reduceIte]
  | cons y b =>
  have z1:(0:Int) < ((b.length + 1:Nat):Int):=by omega
  have z2:(0:Int) < ((a.length + 1:Nat):Int):=by omega
  simp only [sxZ,z6,z7,z8,j4,j5,j6,j7,j8,j9,x4,x5,x6,x7,x8,x9,reduceCtorEq,↓reduceIte,List.getElem?_set,hlen,t3,t4,List.length_cons,z1,z2]
  subst hW
  rw [zaB]
  refine zaa fun W hW => ?_
  simp only [sxZ,z6,z7,z8,j4,j5,j6,j7,j8,j9,x4,x5,x6,x7,x8,x9,reduceCtorEq,↓reduceIte,List.getElem?_set,hlen,t3,t4,List.map_cons,List.length_cons]
  refine ⟨⟨by omega,by simp⟩,⟨by omega,by simp⟩,?_⟩
  have hxa:List.drop 1 (List.take ((a.length + 1) * 1) (AV.s x :: a.map AV.s))=a.map .s:=by
   rw [Nat.mul_one,List.take_of_length_le (by simp)]; rfl
  have hxb:List.drop 1 (List.take ((b.length + 1) * 1) (AV.s y :: b.map AV.s))=b.map .s:=by
   rw [Nat.mul_one,List.take_of_length_le (by simp)]; rfl
  have hla1:a.length + 1 - 1=a.length:=rfl
  have hlb1:b.length + 1 - 1=b.length:=rfl
  simp only [List.length_cons] at hlen2
  subst hW
  cases hle:(zbe x y || x == y) with
  | true =>
   have hm2:List.merge ra rb leS=(acc ++ [x]) ++ List.merge a (y :: b) leS:=by
    rw [hm,List.cons_merge_cons,if_pos (show leS x y=true from hle),List.append_assoc]; rfl
   rcases hX with ⟨h1,rfl,rfl⟩ | ⟨g,rfl,rfl⟩
   ·simp only [sxZ,z6,z7,z8,j4,j5,j6,j7,j8,j9,x4,x5,x6,x7,x8,x9,reduceCtorEq,↓reduceIte,List.getElem?_set,hlen,t3,t5,hle,List.map_cons,List.length_cons]
    refine ⟨⟨by omega,by simp⟩,by omega,_,?_,acc ++ [x],a,y :: b,_,rfl,hm2,by simp only [List.length_append,List.length_cons,List.length_nil] at hlen2 ⊢; omega,fun h => by simp at h,.inr ⟨_,by rw [h1]; rfl,rfl⟩,by rw [hxa]; rfl,t4,rfl⟩
    ·show _ < _; simp only [List.length_cons]; omega
   ·simp only [sxZ,z6,z7,z8,j4,j5,j6,j7,j8,j9,x4,x5,x6,x7,x8,x9,reduceCtorEq,↓reduceIte,List.getElem?_set,hlen,t3,t5,hle,List.map_cons,List.length_cons]
    refine ⟨⟨by omega,by simp⟩,⟨by omega,by omega⟩,by omega,_,?_,acc ++ [x],a,y :: b,_,rfl,hm2,by simp only [List.length_append,List.length_cons,List.length_nil] at hlen2 ⊢; omega,fun h => by simp at h,.inr ⟨_,by rw [List.map_append,List.length_append]; rfl,rfl⟩,by rw [hxa]; rfl,t4,rfl⟩
    ·show _ < _; simp only [List.length_cons]; omega
  | false =>
   have hm2:List.merge ra rb leS=(acc ++ [y]) ++ List.merge (x :: a) b leS:=by
    rw [hm,List.cons_merge_cons,if_neg (show ¬ leS x y=true from by unfold leS; rw [hle]; exact Bool.false_ne_true),List.append_assoc]; rfl
   rcases hX with ⟨h1,rfl,rfl⟩ | ⟨g,rfl,rfl⟩
   ·simp only [sxZ,z6,z7,z8,j4,j5,j6,j7,j8,j9,x4,x5,x6,x7,x8,x9,reduceCtorEq,↓reduceIte,List.getElem?_set,hlen,t4,t5,hle,List.map_cons,List.length_cons]
    refine ⟨⟨by omega,by simp⟩,by omega,_,?_,acc ++ [y],x :: a,b,_,rfl,hm2,by simp only [List.length_append,List.length_cons,List.length_nil] at hlen2 ⊢; omega,fun h => by simp at h,.inr ⟨_,by rw [h1]; rfl,rfl⟩,t3,by rw [hxb]; rfl,rfl⟩
    ·show _ < _; simp only [List.length_cons]; omega
   ·simp only [sxZ,z6,z7,z8,j4,j5,j6,j7,j8,j9,x4,x5,x6,x7,x8,x9,reduceCtorEq,↓reduceIte,List.getElem?_set,hlen,t4,t5,hle,List.map_cons,List.length_cons]
    refine ⟨⟨by omega,by simp⟩,⟨by omega,by omega⟩,by omega,_,?_,acc ++ [y],x :: a,b,_,rfl,hm2,by simp only [List.length_append,List.length_cons,List.length_nil] at hlen2 ⊢; omega,fun h => by simp at h,.inr ⟨_,by rw [List.map_append,List.length_append]; rfl,rfl⟩,t3,by rw [hxb]; rfl,rfl⟩
    ·show _ < _; simp only [List.length_cons]; omega
end
end
section
attribute [local irreducible] run
def zbZ (ks:List (List UInt8)):Bool:=decide ks.Nodup && ks.all zaF
theorem zec:∀ {s:List (List UInt8)},s.Pairwise (fun a b => leS a b=true) → (∀ j a b,s[j]? = some a → s[j + 1]? = some b → a ≠ b) → s.Nodup
 | [],_,_ => List.nodup_nil
 | a :: s,h,k => by
  rw [List.pairwise_cons] at h
  rw [List.nodup_cons]
  refine ⟨fun hm => ?_,zec h.2 fun j x y hx hy => k (j + 1) x y (by simpa using hx) (by simpa using hy)⟩
  cases s with
  | nil => cases hm
  | cons b s =>
   have hab:=k 0 a b rfl rfl
   rcases List.mem_cons.1 hm with e | hm
   ·exact hab e
   ·have h1:=h.1 b (by simp)
    have h2:=(List.pairwise_cons.1 h.2).1 a hm
    exact hab (zjo _ _ h1 h2)
section
variable [Tabs Tryz.prog] {objs:List OB} {K:List OB → AV → Prop}
theorem zix (l:List (List UInt8)) (hb:l.length ≤ 1099511627780) (ht:∀ k ∈ l,k.length ≤ 140737488351232) (hk:K objs (.b (zbZ l))):zae Tryz.prog 47 [.row l.length (l.map .s)] objs K:=by
 refine zaV is_ref15_different (by simp only [zaq,AV.plain,zaP,Bool.and_self]) fun C _ => ?_
 rw [c_ref15_different]
 refine zaa fun Z hZ => ?_
 simp only [sxZ,z6,z7,z8,j4,j5,j6,j7,j8,j9,x4,x5,x6,x7,x8,x9,reduceCtorEq,↓reduceIte]
 subst hZ
 refine zaa fun Z hZ => ?_
 simp only [sxZ,z6,z7,z8,j4,j5,j6,j7,j8,j9,x4,x5,x6,x7,x8,x9,reduceCtorEq,↓reduceIte]
 refine zak (ziS l.length l (Nat.le_refl _) hb ?_)
 have hp:=zaY l.length l
 have hso:=zcz l.length l (Nat.le_refl _)
 generalize zb4 l.length l=s at hp hso ⊢
 have hsl:=hp.length_eq
 have hst:∀ k ∈ s,k.length ≤ 140737488351232:=fun k hk => ht k (hp.mem_iff.1 hk)
 have no:(∃ k ∈ s,zaF k=false) ∨ ¬ s.Nodup → zbZ l=false:=by
  intro h
  unfold zbZ
  rcases h with ⟨k,h1,h2⟩ | h
  ·have:l.all zaF=false:=by
    rw [List.all_eq_false]
    exact ⟨k,hp.mem_iff.1 h1,by rw [h2]; exact Bool.false_ne_true⟩
   rw [this,Bool.and_false]
  ·have:¬ l.Nodup:=fun hn => h (hp.nodup_iff.2 hn)
   rw [decide_eq_false this]; rfl
 simp only [sxZ,z6,z7,z8,j4,j5,j6,j7,j8,j9,x4,x5,x6,x7,x8,x9,reduceCtorEq,↓reduceIte]
 subst hZ
 refine zaa fun Z hZ => ?_
 simp only [sxZ,z6,z7,z8,j4,j5,j6,j7,j8,j9,x4,x5,x6,x7,x8,x9,reduceCtorEq,↓reduceIte]
 refine zaA (fun n o tm => ∃ i:Nat,i ≤ s.length ∧ n=s.length - i ∧ o=[] ∧ (∀ j a,j < i → s[j]? = some a → zaF a=true) ∧ (∀ j a b,j + 1 < i → s[j]? = some a → s[j + 1]? = some b → a ≠ b) ∧ tm.length=32 ∧ tm[3]? = some (.row s.length (s.map .s)) ∧ tm[8]? = some (.row s.length (s.map .s)) ∧ tm[9]? = some (.i .i64 (s.length:Int)) ∧ tm[10]? = some (.i .i64 (i:Int))) s.length ⟨0,Nat.zero_le _,rfl,rfl,fun j a h => by omega,fun j a b h => by omega,rfl,rfl,rfl,rfl,rfl⟩ ?_
 rintro n _ tm ⟨i,hi,rfl,rfl,hv,hd,hlen,t3,t8,t9,t10⟩
 refine zaa fun W hW => ?_
 by_cases hlt:(i:Int) < (s.length:Int)
 ·have hi':i < s.length:=by omega
  have kv:(s.map AV.s)[i * 1]? = some (.s s[i]):=by rw [Nat.mul_one,List.getElem?_map,List.getElem?_eq_getElem hi']; rfl
  have kv2:s[i]? = some s[i]:=List.getElem?_eq_getElem hi'
  have kv3:s[i] ∈ s:=List.getElem_mem hi'
  generalize s[i]=x at kv kv2 kv3
  simp only [sxZ,z6,z7,z8,j4,j5,j6,j7,j8,j9,x4,x5,x6,x7,x8,x9,reduceCtorEq,↓reduceIte,List.getElem?_set,hlen,t3,t8,t9,t10,hlt]
  subst hW
  refine zaa fun W hW => ?_
  simp only [sxZ,z6,z7,z8,j4,j5,j6,j7,j8,j9,x4,x5,x6,x7,x8,x9,reduceCtorEq,↓reduceIte,List.getElem?_set,hlen]
  subst hW
  refine zaa fun V hV => ?_
  rw [zaB]
  refine zaa fun W hW => ?_
  simp only [sxZ,z6,z7,z8,j4,j5,j6,j7,j8,j9,x4,x5,x6,x7,x8,x9,reduceCtorEq,↓reduceIte,List.getElem?_set,hlen,t8,t10,kv,List.length_map]
  refine ⟨⟨by omega,by omega⟩,?_⟩
  subst hW
  refine zaa fun W hW => ?_
  simp only [sxZ,z6,z7,z8,j4,j5,j6,j7,j8,j9,x4,x5,x6,x7,x8,x9,reduceCtorEq,↓reduceIte,List.getElem?_set,hlen]
  refine zak (zgS x (hst x kv3) ?_)
  cases hvx:zaF x with
  | false =>
   simp only [sxZ,z6,z7,z8,j4,j5,j6,j7,j8,j9,x4,x5,x6,x7,x8,x9,reduceCtorEq,↓reduceIte,List.getElem?_set,hlen,Bool.not_false]
   subst hW
   simp only [sxZ,z6,z7,z8,j4,j5,j6,j7,j8,j9,x4,x5,x6,x7,x8,x9,reduceCtorEq,↓reduceIte,List.getElem?_set,hlen]
   rw [no (.inl ⟨x,kv3,hvx⟩)] at hk
   exact hk
  | true =>
   have hv':∀ j a,j < i + 1 → s[j]? = some a → zaF a=true:=by
    intro j a hj ha
    by_cases e:j=i
    ·subst e
     rw [kv2] at ha; injection ha with ha; rw [← ha]; exact hvx
    ·exact hv j a (by omega) ha
   cases i with
   | zero =>
    have z:¬ (0:Int) < ((0:Nat):Int):=by decide
    simp only [sxZ,z6,z7,z8,j4,j5,j6,j7,j8,j9,x4,x5,x6,x7,x8,x9,reduceCtorEq,↓reduceIte,List.getElem?_set,hlen,Bool.not_true,z]
    subst hW
    simp only [sxZ,z6,z7,z8,j4,j5,j6,j7,j8,j9,x4,x5,x6,x7,x8,x9,reduceCtorEq,↓reduceIte,List.getElem?_set,hlen]
    subst hV
    simp only [sxZ,z6,z7,z8,j4,j5,j6,j7,j8,j9,x4,x5,x6,x7,x8,x9,reduceCtorEq,↓reduceIte,List.getElem?_set,hlen,t3,t8,t9,t10]
    exact ⟨by omega,s.length - 1,by omega,1,by omega,rfl,hv',fun j a b h => by omega,rfl⟩
   | succ i =>
    have z:(0:Int) < ((i + 1:Nat):Int):=by omega
    have z3:(((i + 1:Nat):Int) - 1)=(i:Int):=by omega
    have hj':i < s.length:=by omega
    have jv:(s.map AV.s)[i * 1]? = some (.s s[i]):=by rw [Nat.mul_one,List.getElem?_map,List.getElem?_eq_getElem hj']; rfl
    have jv2:s[i]? = some s[i]:=List.getElem?_eq_getElem hj'
    generalize s[i]=y at jv jv2
    by_cases ce:y=x
    ·simp only [sxZ,z6,z7,z8,j4,j5,j6,j7,j8,j9,x4,x5,x6,x7,x8,x9,reduceCtorEq,↓reduceIte,List.getElem?_set,hlen,Bool.not_true,z,z3,t3,Int.toNat_natCast,jv,List.length_map,ce,decide_true]
     refine ⟨⟨by omega,by omega⟩,⟨by omega,by omega,by omega⟩,?_⟩
     subst hW
     simp only [sxZ,z6,z7,z8,j4,j5,j6,j7,j8,j9,x4,x5,x6,x7,x8,x9,reduceCtorEq,↓reduceIte,List.getElem?_set,hlen]
     have hnn:¬ s.Nodup:=fun h => by
      have h1:=(List.getElem?_eq_some_iff.1 jv2).2
      have h2:=(List.getElem?_eq_some_iff.1 kv2).2
      exact List.pairwise_iff_getElem.1 h i (i + 1) hj' hi' (by omega) (by rw [h1,h2,ce])
     rw [no (.inr hnn)] at hk
     exact hk
    ·simp only [sxZ,z6,z7,z8,j4,j5,j6,j7,j8,j9,x4,x5,x6,x7,x8,x9,reduceCtorEq,↓reduceIte,List.getElem?_set,hlen,Bool.not_true,z,z3,t3,Int.toNat_natCast,jv,List.length_map,ce,decide_false]
     refine ⟨⟨by omega,by omega⟩,⟨by omega,by omega,by omega⟩,?_⟩
     subst hW
     simp only [sxZ,z6,z7,z8,j4,j5,j6,j7,j8,j9,x4,x5,x6,x7,x8,x9,reduceCtorEq,↓reduceIte,List.getElem?_set,hlen]
     subst hV
     simp only [sxZ,z6,z7,z8,j4,j5,j6,j7,j8,j9,x4,x5,x6,x7,x8,x9,reduceCtorEq,↓reduceIte,List.getElem?_set,hlen,t3,t8,t9,t10]
     refine ⟨by omega,s.length - (i + 1 + 1),by omega,i + 1 + 1,by omega,rfl,hv',fun j a b hj ha hb => ?_,rfl⟩
     by_cases e:j=i
     ·subst e
      rw [jv2] at ha; injection ha with ha
      rw [kv2] at hb; injection hb with hb
      rw [← ha,← hb]; exact ce
     ·exact hd j a b (by omega) ha hb
 simp only [sxZ,z6,z7,z8,j4,j5,j6,j7,j8,j9,x4,x5,x6,x7,x8,x9,reduceCtorEq,↓reduceIte,List.getElem?_set,hlen,t3,t8,t9,t10,hlt]
 subst hW
 subst hZ
 simp only [sxZ,z6,z7,z8,j4,j5,j6,j7,j8,j9,x4,x5,x6,x7,x8,x9,reduceCtorEq,↓reduceIte,List.getElem?_set,hlen]
 have hyes:zbZ l=true:=by
  unfold zbZ
  have h1:s.Nodup:=zec hso fun j a b ha hb => hd j a b (by have:=(List.getElem?_eq_some_iff.1 hb).1; omega) ha hb
  have h2:l.all zaF=true:=by
   rw [List.all_eq_true]
   intro k hk
   obtain ⟨j,hj⟩:=List.mem_iff_getElem?.1 (hp.mem_iff.2 hk)
   exact hv j k (by have:=(List.getElem?_eq_some_iff.1 hj).1; omega) hj
  rw [h2,decide_eq_true (hp.nodup_iff.1 h1)]; rfl
 rw [hyes] at hk
 exact hk
end
end
section
attribute [local irreducible] run
mutual
/-- how many values there are within depth d; 0 if too deep -/
def zbr:JV → Int → Int
 | .mk k t ks its,d => if 64 < (if k=6 ∨ k=7 then d + 1 else d) then 0 else zbB its (if k=6 ∨ k=7 then d + 1 else d) 1
def zbB:List JV → Int → Int → Int
 | [],_,n => n
 | v :: l,d,n => if zbr v d=0 then 0 else if 20000 < n + zbr v d then 20001 else zbB l d (n + zbr v d)
end
mutual
theorem zgd:∀ (v:JV) (d:Int),0 ≤ zbr v d ∧ zbr v d ≤ 20001
 | .mk k t ks its,d => by
  rw [zbr]
  generalize (if k=6 ∨ k=7 then d + 1 else d)=e
  by_cases h:64 < e
  ·rw [if_pos h]; omega
  ·rw [if_neg h]; exact zjG its e 1 (by decide) (by decide)
theorem zjG:∀ (l:List JV) (d n:Int),0 ≤ n → n ≤ 20000 → 0 ≤ zbB l d n ∧ zbB l d n ≤ 20001
 | [],d,n,h1,h2 => by rw [zbB]; omega
 | v :: l,d,n,h1,h2 => by
  rw [zbB]
  have h:=zgd v d
  split
  ·omega
  split
  ·omega
  ·exact zjG l d _ (by omega) (by omega)
end
theorem jcntE_eq (v:JV) (d:Int):zbr v d=if 64 < (if v.kind=6 ∨ v.kind=7 then d + 1 else d) then 0 else zbB v.items (if v.kind=6 ∨ v.kind=7 then d + 1 else d) 1:=by cases v; rw [zbr]; rfl
theorem zgb {α:Type} {l:List α} {i:Nat} (hi:i < l.length):l.drop i=l[i] :: l.drop (i + 1):=List.drop_eq_getElem_cons hi
section
variable [Tabs Tryz.prog]
theorem count_k:∀ (m:Nat) (v:JV) (d:Int),v.size < m → JLn v → 0 ≤ d → d ≤ 64 → ∀ {objs:List OB} {K:List OB → AV → Prop},K objs (.i .i64 (zbr v d)) → zae Tryz.prog 26 [.agg (zaj v),.i .i64 d] objs K:=by
 intro m
 induction m with
 | zero => intro v d h; omega
 | succ m ih =>
  intro v d hm hv hd hd2 objs K hk
  obtain ⟨l1,l2⟩:=hv.lens
  refine zaV is_ref15_count (by simp only [zaq,AV.plain,zaJ,Bool.and_self]) fun C _ => ?_
  rw [c_ref15_count]
  refine zaa fun Z hZ => ?_
  simp only [sxZ,z6,z7,z8,j4,j5,j6,j7,j8,j9,x4,x5,x6,x7,x8,x9,reduceCtorEq,↓reduceIte]
  have e0:OB.box 25 (zaj v)=OB.box 25 [.i .i64 v.kind,.s v.text,.row v.keys.length (v.keys.map .s),.row v.items.length (zac v.items)]:=by rw [zaf]
  rw [e0]
  rw [jcntE_eq] at hk
  subst hZ
  refine zaa fun Z hZ => ?_
  simp only [sxZ,z6,z7,z8,j4,j5,j6,j7,j8,j9,x4,x5,x6,x7,x8,x9,reduceCtorEq,↓reduceIte]
  subst hZ
  refine zaa fun Z hZ => ?_
  generalize hin:(if v.kind=6 ∨ v.kind=7 then d + 1 else d)=inn at hk
  have hinb:0 ≤ inn ∧ inn ≤ 65:=by rw [← hin]; split <;> omega
  refine zav (fun o tm => o=[OB.box 25 [.i .i64 v.kind,.s v.text,.row v.keys.length (v.keys.map .s),.row v.items.length (zac v.items)]] ∧ tm.length=42 ∧ tm[2]? = some (.p 0 0) ∧ tm[5]? = some (.i .i64 inn)) ?_ ?_
  ·by_cases c6:v.kind=6
   ·rw [if_pos (.inl c6)] at hin
    subst hin
    simp only [sxZ,z6,z7,z8,j4,j5,j6,j7,j8,j9,x4,x5,x6,x7,x8,x9,reduceCtorEq,↓reduceIte,c6,zab,and_self,and_true]
    omega
   by_cases c7:v.kind=7
   ·rw [if_pos (.inr c7)] at hin
    subst hin
    simp only [sxZ,z6,z7,z8,j4,j5,j6,j7,j8,j9,x4,x5,x6,x7,x8,x9,reduceCtorEq,↓reduceIte,c6,c7,zab,and_self,and_true]
    omega
   ·rw [if_neg (by omega)] at hin
    subst hin
    simp only [sxZ,z6,z7,z8,j4,j5,j6,j7,j8,j9,x4,x5,x6,x7,x8,x9,reduceCtorEq,↓reduceIte,c6,c7,zab,and_self,and_true]
  rintro _ tm ⟨rfl,hlen,t2,t5⟩
  subst hZ
  refine zaa fun Z hZ => ?_
  by_cases c64:64 < inn
  ·rw [if_pos c64] at hk
   simp only [sxZ,z6,z7,z8,j4,j5,j6,j7,j8,j9,x4,x5,x6,x7,x8,x9,reduceCtorEq,↓reduceIte,List.getElem?_set,hlen,t5,c64]
   exact hk
  rw [if_neg c64] at hk
  simp only [sxZ,z6,z7,z8,j4,j5,j6,j7,j8,j9,x4,x5,x6,x7,x8,x9,reduceCtorEq,↓reduceIte,List.getElem?_set,hlen,t5,c64]
  subst hZ
  refine zaa fun Z hZ => ?_
  simp only [sxZ,z6,z7,z8,j4,j5,j6,j7,j8,j9,x4,x5,x6,x7,x8,x9,reduceCtorEq,↓reduceIte,List.getElem?_set,hlen]
  subst hZ
  refine zaa fun Z hZ => ?_
  simp only [sxZ,z6,z7,z8,j4,j5,j6,j7,j8,j9,x4,x5,x6,x7,x8,x9,reduceCtorEq,↓reduceIte,List.getElem?_set,hlen,t2,t5]
  refine zaA (fun n o tm => ∃ (i:Nat) (b:Int),i ≤ v.items.length ∧ n=v.items.length - i ∧ 1 ≤ b ∧ b ≤ 20000 ∧ zbB v.items inn 1=zbB (v.items.drop i) inn b ∧ tm.length=42 ∧ tm[5]? = some (.i .i64 inn) ∧ tm[6]? = some (.i .i64 b) ∧ tm[24]? = some (.row v.items.length (zac v.items)) ∧ tm[25]? = some (.i .i64 (v.items.length:Int)) ∧ tm[26]? = some (.i .i64 (i:Int))) v.items.length ⟨0,1,Nat.zero_le _,rfl,by decide,by decide,rfl,?_⟩ ?_
  ·simp only [sxZ,z6,z7,z8,j4,j5,j6,j7,j8,j9,x4,x5,x6,x7,x8,x9,reduceCtorEq,↓reduceIte,List.length_set,List.getElem?_set,hlen,t2,t5,Int.cast_ofNat_Int,and_self]
  clear hlen t2 t5
  rintro n o tm ⟨i,b,hi,rfl,hb,hb2,hc,hlen,t5,t6,t24,t25,t26⟩
  refine zaa fun W hW => ?_
  by_cases hlt:(i:Int) < (v.items.length:Int)
  ·have hi':i < v.items.length:=by omega
   have hjc:=zdF hi'
   have hjl:=zax v.items
   have hit:=hv.its hi'
   have hsz:=zaT hi'
   rw [zgb hi',zbB] at hc
   generalize v.items[i]=x at hjc hit hsz hc
   have hbd:=zgd x inn
   have hcall:=fun {objs:List OB} {K:List OB → AV → Prop} (h) => ih x inn (by omega) hit (by omega) (by omega) (objs:=objs) (K:=K) h
   generalize zbr x inn=cx at hcall hbd hc
   obtain ⟨q0,q1,q2,q3,hq⟩:∃ q0 q1 q2 q3,zaj x=[q0,q1,q2,q3]:=⟨_,_,_,_,zaf x⟩
   rw [hq] at hjc hcall
   simp only [sxZ,z6,z7,z8,j4,j5,j6,j7,j8,j9,x4,x5,x6,x7,x8,x9,reduceCtorEq,↓reduceIte,List.getElem?_set,hlen,t24,t25,t26,hlt]
   subst hW
   refine zaa fun W hW => ?_
   simp only [sxZ,z6,z7,z8,j4,j5,j6,j7,j8,j9,x4,x5,x6,x7,x8,x9,reduceCtorEq,↓reduceIte,List.getElem?_set,hlen]
   subst hW
   refine zaa fun V hV => ?_
   rw [zaB]
   refine zaa fun W hW => ?_
   simp only [sxZ,z6,z7,z8,j4,j5,j6,j7,j8,j9,x4,x5,x6,x7,x8,x9,reduceCtorEq,↓reduceIte,List.getElem?_set,hlen,t24,t26,hjc]
   refine ⟨⟨by omega,by omega,by omega⟩,by omega,?_⟩
   simp only [sxZ,z6,z7,z8,j4,j5,j6,j7,j8,j9,x4,x5,x6,x7,x8,x9,reduceCtorEq,↓reduceIte,List.getElem?_set,hlen,gn1,sn1]
   subst hW
   refine zaa fun W hW => ?_
   simp only [sxZ,z6,z7,z8,j4,j5,j6,j7,j8,j9,x4,x5,x6,x7,x8,x9,reduceCtorEq,↓reduceIte,List.getElem?_set,hlen,t5,gn1]
   refine zak (hcall ?_)
   simp only [sxZ,z6,z7,z8,j4,j5,j6,j7,j8,j9,x4,x5,x6,x7,x8,x9,reduceCtorEq,↓reduceIte,List.getElem?_set,hlen]
   subst hW
   refine zaa fun W hW => ?_
   by_cases c0:cx=0
   ·rw [if_pos c0] at hc
    simp only [sxZ,z6,z7,z8,j4,j5,j6,j7,j8,j9,x4,x5,x6,x7,x8,x9,reduceCtorEq,↓reduceIte,List.getElem?_set,hlen,c0]
    rw [hc] at hk
    exact hk
   rw [if_neg c0] at hc
   simp only [sxZ,z6,z7,z8,j4,j5,j6,j7,j8,j9,x4,x5,x6,x7,x8,x9,reduceCtorEq,↓reduceIte,List.getElem?_set,hlen,c0]
   subst hW
   refine zaa fun W hW => ?_
   simp only [sxZ,z6,z7,z8,j4,j5,j6,j7,j8,j9,x4,x5,x6,x7,x8,x9,reduceCtorEq,↓reduceIte,List.getElem?_set,hlen,t6]
   refine ⟨⟨by omega,by omega⟩,?_⟩
   subst hW
   by_cases c9:20000 < b + cx
   ·rw [if_pos c9] at hc
    simp only [sxZ,z6,z7,z8,j4,j5,j6,j7,j8,j9,x4,x5,x6,x7,x8,x9,reduceCtorEq,↓reduceIte,List.getElem?_set,hlen,c9]
    rw [hc] at hk
    exact hk
   rw [if_neg c9] at hc
   simp only [sxZ,z6,z7,z8,j4,j5,j6,j7,j8,j9,x4,x5,x6,x7,x8,x9,reduceCtorEq,↓reduceIte,List.getElem?_set,hlen,c9]
   subst hV
   simp only [sxZ,z6,z7,z8,j4,j5,j6,j7,j8,j9,x4,x5,x6,x7,x8,x9,reduceCtorEq,↓reduceIte,List.getElem?_set,hlen,t5,t24,t25,t26]
   exact ⟨by omega,v.items.length - (i + 1),by omega,i + 1,b + cx,by omega,rfl,by omega,by omega,hc,rfl,rfl⟩
  simp only [sxZ,z6,z7,z8,j4,j5,j6,j7,j8,j9,x4,x5,x6,x7,x8,x9,reduceCtorEq,↓reduceIte,List.getElem?_set,hlen,t24,t25,t26,hlt]
  subst hW
  subst hZ
  simp only [sxZ,z6,z7,z8,j4,j5,j6,j7,j8,j9,x4,x5,x6,x7,x8,x9,reduceCtorEq,↓reduceIte,List.getElem?_set,hlen,t6]
  rw [hc,List.drop_eq_nil_of_le (by omega),zbB] at hk
  exact hk
end
end
section
attribute [local irreducible] run
mutual
/-- does it have the right fields? -/
def zdd:JV → Bool
 | .mk k t ks its =>
  if k=1 ∨ k=3 ∨ k=2 then decide (t=[]) && (decide (ks.length=0) && decide (its.length=0))
  else if k=4 then decide ((zbv t).1=0) && (decide ((zbv t).2=t) && (decide (ks.length=0) && decide (its.length=0)))
  else if k=5 then zaF t && (decide (ks.length=0) && decide (its.length=0))
  else if k=6 then decide (t=[]) && (decide (ks.length=0) && zcI its)
  else if k=7 then decide (t=[]) && (decide (ks.length=its.length) && (zbZ ks && zcI its))
  else false
def zcI:List JV → Bool
 | [] => true
 | v :: l => zdd v && zcI l
end
theorem zly (v:JV):zdd v =
  if v.kind=1 ∨ v.kind=3 ∨ v.kind=2 then decide (v.text=[]) && (decide (v.keys.length=0) && decide (v.items.length=0))
  else if v.kind=4 then decide ((zbv v.text).1=0) && (decide ((zbv v.text).2=v.text) && (decide (v.keys.length=0) && decide (v.items.length=0)))
  else if v.kind=5 then zaF v.text && (decide (v.keys.length=0) && decide (v.items.length=0))
  else if v.kind=6 then decide (v.text=[]) && (decide (v.keys.length=0) && zcI v.items)
  else if v.kind=7 then decide (v.text=[]) && (decide (v.keys.length=v.items.length) && (zbZ v.keys && zcI v.items))
  else false:=by cases v; rw [zdd]; rfl
def zdg (v:JV):Bool:=decide (0 < zbr v 0 ∧ zbr v 0 ≤ 20000) && zdd v
section
variable [Tabs Tryz.prog]
theorem shape_k:∀ (m:Nat) (v:JV),v.size < m → JKp v → ∀ {objs:List OB} {K:List OB → AV → Prop},K objs (.b (zdd v)) → zae Tryz.prog 27 [.agg (zaj v)] objs K:=by
 intro m
 induction m with
 | zero => intro v h; omega
 | succ m ih =>
  intro v hm hv objs K hk
  obtain ⟨l1,l2,l3,l4⟩:=hv.lens
  refine zaV is_ref15_shape (by simp only [zaq,AV.plain,zaJ,Bool.and_self]) fun C _ => ?_
  rw [c_ref15_shape]
  refine zaa fun Z hZ => ?_
  simp only [sxZ,z6,z7,z8,j4,j5,j6,j7,j8,j9,x4,x5,x6,x7,x8,x9,reduceCtorEq,↓reduceIte]
  have e0:OB.box 25 (zaj v)=OB.box 25 [.i .i64 v.kind,.s v.text,.row v.keys.length (v.keys.map .s),.row v.items.length (zac v.items)]:=by rw [zaf]
  rw [e0]
  rw [zly] at hk
  have z0:∀ n:Nat,decide ((n:Int)=0)=decide (n=0):=fun n => decide_eq_decide.2 (by omega)
  subst hZ
  refine zaa fun Z hZ => ?_
  refine zaa fun W hW => ?_
  simp only [sxZ,z6,z7,z8,j4,j5,j6,j7,j8,j9,x4,x5,x6,x7,x8,x9,reduceCtorEq,↓reduceIte]
  subst hW
  rw [zaB]
  have loop:∀ (tm:List AV),tm.length=115 → tm[1]? = some (.p 0 0) → K objs (.b (zcI v.items)) → run Tryz.prog C [.code Z] [OB.box 25 [.i .i64 v.kind,.s v.text,.row v.keys.length (v.keys.map .s),.row v.items.length (zac v.items)]] tm (endK [.tmp 2] fun r => K objs r):=by
   intro tm hlen t1 hk
   have z115:=hlen
   subst hZ
   refine zaa fun Z hZ => ?_
   refine zaa fun W hW => ?_
   simp only [sxZ,z6,z7,z8,j4,j5,j6,j7,j8,j9,x4,x5,x6,x7,x8,x9,reduceCtorEq,↓reduceIte,List.getElem?_set,hlen,t1]
   subst hW
   rw [zaB]
   refine zaA (fun n o tm => ∃ i:Nat,i ≤ v.items.length ∧ n=v.items.length - i ∧ zcI v.items=zcI (v.items.drop i) ∧ tm.length=115 ∧ tm[105]? = some (.row v.items.length (zac v.items)) ∧ tm[106]? = some (.i .i64 (v.items.length:Int)) ∧ tm[107]? = some (.i .i64 (i:Int))) v.items.length ⟨0,Nat.zero_le _,rfl,rfl,?_⟩ ?_
   ·simp only [sxZ,z6,z7,z8,j4,j5,j6,j7,j8,j9,x4,x5,x6,x7,x8,x9,reduceCtorEq,↓reduceIte,List.length_set,List.getElem?_set,hlen,t1,Int.cast_ofNat_Int,and_self]
   clear hlen t1 z115
   rintro n o tm ⟨i,hi,rfl,hc,hlen,t105,t106,t107⟩
   refine zaa fun W hW => ?_
   by_cases hlt:(i:Int) < (v.items.length:Int)
   ·have hi':i < v.items.length:=by omega
    have hjc:=zdF hi'
    have hjl:=zax v.items
    have hit:=hv.its hi'
    have hsz:=zaT hi'
    rw [zgb hi',zcI] at hc
    generalize v.items[i]=x at hjc hit hsz hc
    have hcall:=fun {objs:List OB} {K:List OB → AV → Prop} (h) => ih x (by omega) hit (objs:=objs) (K:=K) h
    generalize zdd x=sx at hcall hc
    obtain ⟨q0,q1,q2,q3,hq⟩:∃ q0 q1 q2 q3,zaj x=[q0,q1,q2,q3]:=⟨_,_,_,_,zaf x⟩
    rw [hq] at hjc hcall
    simp only [sxZ,z6,z7,z8,j4,j5,j6,j7,j8,j9,x4,x5,x6,x7,x8,x9,reduceCtorEq,↓reduceIte,List.getElem?_set,hlen,t105,t106,t107,hlt]
    subst hW
    refine zaa fun W hW => ?_
    simp only [sxZ,z6,z7,z8,j4,j5,j6,j7,j8,j9,x4,x5,x6,x7,x8,x9,reduceCtorEq,↓reduceIte,List.getElem?_set,hlen]
    subst hW
    refine zaa fun V hV => ?_
    rw [zaB]
    refine zaa fun W hW => ?_
    simp only [sxZ,z6,z7,z8,j4,j5,j6,j7,j8,j9,x4,x5,x6,x7,x8,x9,reduceCtorEq,↓reduceIte,List.getElem?_set,hlen,t105,t107,hjc]
    refine ⟨⟨by omega,by omega,by omega⟩,by omega,?_⟩
    simp only [sxZ,z6,z7,z8,j4,j5,j6,j7,j8,j9,x4,x5,x6,x7,x8,x9,reduceCtorEq,↓reduceIte,List.getElem?_set,hlen,gn1,sn1]
    subst hW
    refine zaa fun W hW => ?_
    simp only [sxZ,z6,z7,z8,j4,j5,j6,j7,j8,j9,x4,x5,x6,x7,x8,x9,reduceCtorEq,↓reduceIte,List.getElem?_set,hlen,gn1]
    refine zak (hcall ?_)
    cases sx with
    | false =>
     simp only [sxZ,z6,z7,z8,j4,j5,j6,j7,j8,j9,x4,x5,x6,x7,x8,x9,reduceCtorEq,↓reduceIte,List.getElem?_set,hlen,Bool.not_false]
     subst hW
     simp only [sxZ,z6,z7,z8,j4,j5,j6,j7,j8,j9,x4,x5,x6,x7,x8,x9,reduceCtorEq,↓reduceIte,List.getElem?_set,hlen]
     rw [hc] at hk
     exact hk
    | true =>
     simp only [sxZ,z6,z7,z8,j4,j5,j6,j7,j8,j9,x4,x5,x6,x7,x8,x9,reduceCtorEq,↓reduceIte,List.getElem?_set,hlen,Bool.not_true]
     subst hW
     simp only [sxZ,z6,z7,z8,j4,j5,j6,j7,j8,j9,x4,x5,x6,x7,x8,x9,reduceCtorEq,↓reduceIte,List.getElem?_set,hlen]
     subst hV
     simp only [sxZ,z6,z7,z8,j4,j5,j6,j7,j8,j9,x4,x5,x6,x7,x8,x9,reduceCtorEq,↓reduceIte,List.getElem?_set,hlen,t105,t106,t107]
     exact ⟨by omega,v.items.length - (i + 1),by omega,i + 1,by omega,rfl,hc,rfl⟩
   simp only [sxZ,z6,z7,z8,j4,j5,j6,j7,j8,j9,x4,x5,x6,x7,x8,x9,reduceCtorEq,↓reduceIte,List.getElem?_set,hlen,t105,t106,t107,hlt]
   subst hW
   subst hZ
   simp only [sxZ,z6,z7,z8,j4,j5,j6,j7,j8,j9,x4,x5,x6,x7,x8,x9,reduceCtorEq,↓reduceIte,List.getElem?_set,hlen]
   rw [hc,List.drop_eq_nil_of_le (by omega),zcI] at hk
   exact hk
  by_cases a1:v.kind=1 ∨ v.kind=3 ∨ v.kind=2
  ·rw [if_pos a1] at hk
   rw [← z0,← z0] at hk
   by_cases b1:v.text=[]
   ·by_cases b2:(v.keys.length:Int)=0
    ·simp only [b1,b2,decide_true,Bool.true_and] at hk
     rcases a1 with a1 | a1 | a1
     all_goals
      simp only [sxZ,z6,z7,z8,j4,j5,j6,j7,j8,j9,x4,x5,x6,x7,x8,x9,reduceCtorEq,↓reduceIte,a1,b1,b2]
      exact hk
    ·simp only [b1,b2,decide_true,decide_false,Bool.true_and,Bool.false_and] at hk
     rcases a1 with a1 | a1 | a1
     all_goals
      simp only [sxZ,z6,z7,z8,j4,j5,j6,j7,j8,j9,x4,x5,x6,x7,x8,x9,reduceCtorEq,↓reduceIte,a1,b1,b2]
      exact hk
   ·simp only [b1,decide_false,Bool.false_and] at hk
    rcases a1 with a1 | a1 | a1
    all_goals
     simp only [sxZ,z6,z7,z8,j4,j5,j6,j7,j8,j9,x4,x5,x6,x7,x8,x9,reduceCtorEq,↓reduceIte,a1,b1]
     exact hk
  rw [if_neg a1] at hk
  have n1:¬ v.kind=1:=fun h => a1 (.inl h)
  have n3:¬ v.kind=3:=fun h => a1 (.inr (.inl h))
  have n2:¬ v.kind=2:=fun h => a1 (.inr (.inr h))
  by_cases a4:v.kind=4
  ·rw [if_pos a4] at hk
   rw [← z0,← z0] at hk
   simp only [sxZ,z6,z7,z8,j4,j5,j6,j7,j8,j9,x4,x5,x6,x7,x8,x9,reduceCtorEq,↓reduceIte,a4]
   refine zak (zgV v.text (by omega) ?_)
   by_cases b1:(zbv v.text).1=0
   ·by_cases b2:(zbv v.text).2=v.text
    ·by_cases b3:(v.keys.length:Int)=0
     ·simp only [b1,b2,b3,decide_true,Bool.true_and] at hk
      simp only [sxZ,z6,z7,z8,j4,j5,j6,j7,j8,j9,x4,x5,x6,x7,x8,x9,reduceCtorEq,↓reduceIte,b1,b2,b3]
      exact hk
     ·simp only [b1,b2,b3,decide_true,decide_false,Bool.true_and,Bool.false_and] at hk
      simp only [sxZ,z6,z7,z8,j4,j5,j6,j7,j8,j9,x4,x5,x6,x7,x8,x9,reduceCtorEq,↓reduceIte,b1,b2,b3]
      exact hk
    ·simp only [b1,b2,decide_true,decide_false,Bool.true_and,Bool.false_and] at hk
     simp only [sxZ,z6,z7,z8,j4,j5,j6,j7,j8,j9,x4,x5,x6,x7,x8,x9,reduceCtorEq,↓reduceIte,b1,b2]
     exact hk
   ·simp only [b1,decide_false,Bool.false_and] at hk
    simp only [sxZ,z6,z7,z8,j4,j5,j6,j7,j8,j9,x4,x5,x6,x7,x8,x9,reduceCtorEq,↓reduceIte,b1]
    exact hk
  rw [if_neg a4] at hk
  by_cases a5:v.kind=5
  ·rw [if_pos a5] at hk
   rw [← z0,← z0] at hk
   simp only [sxZ,z6,z7,z8,j4,j5,j6,j7,j8,j9,x4,x5,x6,x7,x8,x9,reduceCtorEq,↓reduceIte,a5]
   refine zak (zgS v.text (by omega) ?_)
   cases b1:zaF v.text with
   | false =>
    rw [b1] at hk
    simp only [sxZ,z6,z7,z8,j4,j5,j6,j7,j8,j9,x4,x5,x6,x7,x8,x9,reduceCtorEq,↓reduceIte]
    exact hk
   | true =>
    rw [b1] at hk
    by_cases b3:(v.keys.length:Int)=0
    ·simp only [b3,decide_true,Bool.true_and] at hk
     simp only [sxZ,z6,z7,z8,j4,j5,j6,j7,j8,j9,x4,x5,x6,x7,x8,x9,reduceCtorEq,↓reduceIte,b3]
     exact hk
    ·simp only [b3,decide_false,Bool.true_and,Bool.false_and] at hk
     simp only [sxZ,z6,z7,z8,j4,j5,j6,j7,j8,j9,x4,x5,x6,x7,x8,x9,reduceCtorEq,↓reduceIte,b3]
     exact hk
  rw [if_neg a5] at hk
  by_cases a6:v.kind=6
  ·rw [if_pos a6] at hk
   rw [← z0] at hk
   by_cases b1:v.text=[]
   ·by_cases b2:(v.keys.length:Int)=0
    ·simp only [b1,b2,decide_true,Bool.true_and] at hk
     simp only [a6,b1] at loop
     simp only [sxZ,z6,z7,z8,j4,j5,j6,j7,j8,j9,x4,x5,x6,x7,x8,x9,reduceCtorEq,↓reduceIte,a6,b1,b2]
     exact loop _ rfl rfl hk
    ·simp only [b1,b2,decide_true,decide_false,Bool.true_and,Bool.false_and] at hk
     simp only [sxZ,z6,z7,z8,j4,j5,j6,j7,j8,j9,x4,x5,x6,x7,x8,x9,reduceCtorEq,↓reduceIte,a6,b1,b2]
     exact hk
   ·simp only [b1,decide_false,Bool.false_and] at hk
    simp only [sxZ,z6,z7,z8,j4,j5,j6,j7,j8,j9,x4,x5,x6,x7,x8,x9,reduceCtorEq,↓reduceIte,a6,b1]
    exact hk
  rw [if_neg a6] at hk
  by_cases a7:v.kind=7
  ·rw [if_pos a7] at hk
   have z1:decide ((v.keys.length:Int)=v.items.length)=decide (v.keys.length=v.items.length):=decide_eq_decide.2 (by omega)
   rw [← z1] at hk
   by_cases b1:v.text=[]
   ·by_cases b2:(v.keys.length:Int)=v.items.length
    ·simp only [b1,b2,decide_true,Bool.true_and] at hk
     simp only [a7,b1] at loop
     simp only [sxZ,z6,z7,z8,j4,j5,j6,j7,j8,j9,x4,x5,x6,x7,x8,x9,reduceCtorEq,↓reduceIte,a7,b1,b2]
     refine zak (zix v.keys (by omega) (fun k hk => by have:=l4 k hk; omega) ?_)
     cases b3:zbZ v.keys with
     | false =>
      rw [b3] at hk
      simp only [sxZ,z6,z7,z8,j4,j5,j6,j7,j8,j9,x4,x5,x6,x7,x8,x9,reduceCtorEq,↓reduceIte,Bool.not_false]
      exact hk
     | true =>
      rw [b3] at hk
      simp only [sxZ,z6,z7,z8,j4,j5,j6,j7,j8,j9,x4,x5,x6,x7,x8,x9,reduceCtorEq,↓reduceIte,Bool.not_true]
      exact loop _ rfl rfl hk
    ·simp only [b1,b2,decide_true,decide_false,Bool.true_and,Bool.false_and] at hk
     simp only [sxZ,z6,z7,z8,j4,j5,j6,j7,j8,j9,x4,x5,x6,x7,x8,x9,reduceCtorEq,↓reduceIte,a7,b1,b2]
     exact hk
   ·simp only [b1,decide_false,Bool.false_and] at hk
    simp only [sxZ,z6,z7,z8,j4,j5,j6,j7,j8,j9,x4,x5,x6,x7,x8,x9,reduceCtorEq,↓reduceIte,a7,b1]
    exact hk
  rw [if_neg a7] at hk
  simp only [sxZ,z6,z7,z8,j4,j5,j6,j7,j8,j9,x4,x5,x6,x7,x8,x9,reduceCtorEq,↓reduceIte,n1,n2,n3,a4,a5,a6,a7]
  exact hk
theorem zez (v:JV) (hv:JKp v) {objs:List OB} {K:List OB → AV → Prop} (hk:K objs (.b (zdg v))):zae Tryz.prog 13 [.agg (zaj v)] objs K:=by
 refine zaV is_ref15_Valid (by simp only [zaq,AV.plain,zaJ,Bool.and_self]) fun C _ => ?_
 rw [c_ref15_Valid]
 have hc:=fun {objs:List OB} {K:List OB → AV → Prop} (h) => count_k (v.size + 1) v 0 (Nat.lt_succ_self _) hv.bd.ln (by decide) (by decide) (objs:=objs) (K:=K) h
 have hs:=fun {objs:List OB} {K:List OB → AV → Prop} (h) => shape_k (v.size + 1) v (Nat.lt_succ_self _) hv (objs:=objs) (K:=K) h
 unfold zdg at hk
 generalize zbr v 0=c at hc hk
 generalize zdd v=b at hs hk
 obtain ⟨q0,q1,q2,q3,hq⟩:∃ q0 q1 q2 q3,zaj v=[q0,q1,q2,q3]:=⟨_,_,_,_,zaf v⟩
 rw [hq] at hc hs ⊢
 refine zaa fun Z hZ => ?_
 simp only [sxZ,z6,z7,z8,j4,j5,j6,j7,j8,j9,x4,x5,x6,x7,x8,x9,reduceCtorEq,↓reduceIte]
 subst hZ
 refine zaa fun Z hZ => ?_
 simp only [sxZ,z6,z7,z8,j4,j5,j6,j7,j8,j9,x4,x5,x6,x7,x8,x9,reduceCtorEq,↓reduceIte]
 refine zak (hc ?_)
 simp only [sxZ,z6,z7,z8,j4,j5,j6,j7,j8,j9,x4,x5,x6,x7,x8,x9,reduceCtorEq,↓reduceIte]
 subst hZ
 by_cases c1:0 < c
 ·by_cases c2:c ≤ 20000
  ·simp only [sxZ,z6,z7,z8,j4,j5,j6,j7,j8,j9,x4,x5,x6,x7,x8,x9,reduceCtorEq,↓reduceIte,c1,c2]
   refine zak (hs ?_)
   simp only [sxZ,z6,z7,z8,j4,j5,j6,j7,j8,j9,x4,x5,x6,x7,x8,x9,reduceCtorEq,↓reduceIte]
   simp only [c1,c2,and_self,decide_true,Bool.true_and] at hk
   exact hk
  ·simp only [sxZ,z6,z7,z8,j4,j5,j6,j7,j8,j9,x4,x5,x6,x7,x8,x9,reduceCtorEq,↓reduceIte,c1,c2]
   simp only [c2,and_false,decide_false,Bool.false_and] at hk
   exact hk
 ·simp only [sxZ,z6,z7,z8,j4,j5,j6,j7,j8,j9,x4,x5,x6,x7,x8,x9,reduceCtorEq,↓reduceIte,c1]
  simp only [c1,false_and,decide_false,Bool.false_and] at hk
  exact hk
end
end
end Go.Proofs.YtadhjoggdbhkgaaGreatDoor
namespace Go.Proofs.YtadhjoggdbhkgaaGreatDoor
open Go.RowKit Sx
section
attribute [local irreducible] run
mutual
/-- equal, the order of keys aside -/
def jeqJ:JV → JV → Bool
 | .mk k t ks its,w => decide (k=w.kind) && (if k=1 ∨ k=2 ∨ k=3 then true else if k=4 ∨ k=5 then decide (t=w.text) else if k=6 then jeqL its w.items else if k=7 then decide (ks.length=w.keys.length) && zk0 ks its w else false)
def jeqL:List JV → List JV → Bool
 | [],m => m.isEmpty
 | v :: l,m => match m with
  | [] => false
  | w :: m => jeqJ v w && jeqL l m
def zk0:List (List UInt8) → List JV → JV → Bool
 | ks,[],w => true
 | ks,v :: l,w => match ks with
  | [] => true
  | k :: ks => (zfA w k).2 && (jeqJ v (zfA w k).1 && zk0 ks l w)
end
theorem zip (v w:JV):jeqJ v w=(decide (v.kind=w.kind) && (if v.kind=1 ∨ v.kind=2 ∨ v.kind=3 then true else if v.kind=4 ∨ v.kind=5 then decide (v.text=w.text) else if v.kind=6 then jeqL v.items w.items else if v.kind=7 then decide (v.keys.length=w.keys.length) && zk0 v.keys v.items w else false)):=by cases v; rw [jeqJ]; rfl
theorem zdR:∀ {l:List JV} (h:zcI l=true) {i:Nat} (hi:i < l.length),zdd l[i]=true
 | a :: l,h,0,hi => by rw [zcI,Bool.and_eq_true] at h; exact h.1
 | a :: l,h,i + 1,hi => by rw [zcI,Bool.and_eq_true] at h; exact zdR h.2 (by simpa using hi)
theorem zc4 {v:JV} (h:zdd v=true):((v.kind=1 ∨ v.kind=2 ∨ v.kind=3 ∨ v.kind=4 ∨ v.kind=5) ∧ v.keys.length=0 ∧ v.items.length=0) ∨ (v.kind=6 ∧ v.keys.length=0 ∧ zcI v.items=true) ∨ (v.kind=7 ∧ v.keys.length=v.items.length ∧ v.keys.Nodup ∧ zcI v.items=true):=by
 rw [zly] at h
 by_cases a1:v.kind=1 ∨ v.kind=3 ∨ v.kind=2
 ·rw [if_pos a1] at h
  simp only [Bool.and_eq_true,decide_eq_true_eq] at h
  exact .inl ⟨by omega,h.2.1,h.2.2⟩
 rw [if_neg a1] at h
 by_cases a4:v.kind=4
 ·rw [if_pos a4] at h
  simp only [Bool.and_eq_true,decide_eq_true_eq] at h
  exact .inl ⟨by omega,h.2.2.1,h.2.2.2⟩
 rw [if_neg a4] at h
 by_cases a5:v.kind=5
 ·rw [if_pos a5] at h
  simp only [Bool.and_eq_true,decide_eq_true_eq] at h
  exact .inl ⟨by omega,h.2.1,h.2.2⟩
 rw [if_neg a5] at h
 by_cases a6:v.kind=6
 ·rw [if_pos a6] at h
  simp only [Bool.and_eq_true,decide_eq_true_eq] at h
  exact .inr (.inl ⟨a6,h.2.1,h.2.2⟩)
 rw [if_neg a6] at h
 by_cases a7:v.kind=7
 ·rw [if_pos a7] at h
  unfold zbZ at h
  simp only [Bool.and_eq_true,decide_eq_true_eq] at h
  exact .inr (.inr ⟨a7,h.2.1,h.2.2.1.1,h.2.2.2⟩)
 rw [if_neg a7] at h
 cases h
theorem zcp:∀ {l:List (List UInt8)} (h:l.Nodup) {i:Nat} (hi:i < l.length),zd4 l[i] l=i
 | a :: l,h,0,hi => by
  simp only [List.getElem_cons_zero]
  unfold zd4; rw [if_pos rfl]
 | a :: l,h,i + 1,hi => by
  rw [List.nodup_cons] at h
  have hi':i < l.length:=by simpa using hi
  have hne:¬ a=l[i]:=fun e => h.1 (by rw [e]; exact List.getElem_mem _)
  unfold zd4
  simp only [List.getElem_cons_succ]
  rw [if_neg hne,zcp h.2 hi']
theorem ziu {v:JV} (h7:v.kind=7) (hl:v.keys.length=v.items.length) (hn:v.keys.Nodup) {i:Nat} (hi:i < v.keys.length):zfA v v.keys[i]=(v.items[i]'(by omega),true):=by
 unfold zfA
 rw [zcp hn hi,if_pos ⟨h7,hi⟩,List.getElem?_eq_getElem (by omega)]
mutual
theorem zeX:∀ v:JV,zdd v=true → jeqJ v v=true
 | .mk k t ks its,h => by
  have hk:=zc4 h
  have h1:=fun (hs:zcI its=true) => zhk its hs
  have h2:=fun (hs:zcI its=true) (w:JV) (ks':List (List UInt8)) (hw:∀ i (h1:i < ks'.length) (h2:i < its.length),zfA w ks'[i]=(its[i],true)) => zhj its hs w ks' hw
  rw [zip]
  simp only [JV.kind,JV.text,JV.keys,JV.items] at hk ⊢
  simp only [decide_true,Bool.true_and]
  rcases hk with ⟨h0,_⟩ | ⟨h0,_,hs⟩ | ⟨h0,hl,hn,hs⟩
  ·by_cases a:k=1 ∨ k=2 ∨ k=3
   ·rw [if_pos a]
   ·rw [if_neg a,if_pos (by omega)]
  ·rw [if_neg (by omega),if_neg (by omega),if_pos h0]
   exact h1 hs
  ·rw [if_neg (by omega),if_neg (by omega),if_neg (by omega),if_pos h0]
   exact h2 hs _ ks fun i q1 q2 => ziu (v:=.mk k t ks its) h0 hl hn q1
theorem zhk:∀ l:List JV,zcI l=true → jeqL l l=true
 | [],_ => by rw [jeqL]; rfl
 | v :: l,h => by
  rw [zcI,Bool.and_eq_true] at h
  rw [jeqL,zeX v h.1,zhk l h.2]; rfl
theorem zhj:∀ (l:List JV),zcI l=true → ∀ (w:JV) (ks:List (List UInt8)),(∀ i (h1:i < ks.length) (h2:i < l.length),zfA w ks[i]=(l[i],true)) → zk0 ks l w=true
 | [],_,w,ks,_ => by rw [zk0]
 | v :: l,h,w,[],_ => by rw [zk0]
 | v :: l,h,w,k :: ks,hw => by
  rw [zcI,Bool.and_eq_true] at h
  have h0:=hw 0 (by simp) (by simp)
  simp only [List.getElem_cons_zero] at h0
  rw [zk0]
  simp only [h0]
  rw [zeX v h.1,zhj l h.2 w ks fun i h1 h2 => by
   have:=hw (i + 1) (by simpa using h1) (by simpa using h2)
   simpa only [List.getElem_cons_succ] using this]
  rfl
end
theorem zhb (k k':List UInt8) (v:AV):∀ es:List (List UInt8 × AV),zgz k' (zgy k v es)=if k=k' then some v else zgz k' es
 | [] => by simp only [zgy,zgz]
 | e :: r => by
  have ih:=zhb k k' v r
  simp only [zgy]
  split
  ·rename_i h
   simp only [zgz]
   by_cases c:k=k'
   ·rw [if_pos c,if_pos c]
   ·rw [if_neg c,if_neg c,if_neg (fun h2 => c (h ▸ h2))]
  ·rename_i h
   simp only [zgz]
   by_cases c:e.1=k'
   ·rw [if_pos c,if_pos c,if_neg (fun h2 => h (c.trans h2.symm))]
   ·rw [if_neg c,if_neg c,ih]
section
variable [Tabs Tryz.prog] {objs:List OB} {K:List OB → AV → Prop} {L:List (Nat × OB)}
end
end
end Go.Proofs.YtadhjoggdbhkgaaGreatDoor
namespace Go.Proofs.YtadhjoggdbhkgaaGreatDoor
open Go.RowKit Sx
section
attribute [local irreducible] run
structure GB (s:List UInt8) (ρ:Rs):Prop where
 p0:0 ≤ ρ.pos
 p1:ρ.pos ≤ s.length
 n0:ρ.fail=0 → (ρ.nodes:Int) ≤ ρ.pos
 n1:(ρ.nodes:Int) ≤ s.length + 1
def GT (ρ:Rs) (t:Tk):Prop:=ρ.fail=0 → t.1=1 ∨ (ρ.nodes:Int) + 1 ≤ ρ.pos
theorem zdo {s:List UInt8} {ρ:Rs} (h:GB s ρ) (a e:Int) (he:¬ e=0):GB s (zaO ρ a e):=by
 unfold zaO
 split
 ·exact ⟨h.p0,h.p1,fun h' => absurd h' he,h.n1⟩
 ·exact h
theorem za8 {s:List UInt8} {ρ:Rs} (h:GB s ρ):GB s (zan s ρ).2 ∧ GT (zan s ρ).2 (zan s ρ).1:=by
 unfold zan
 by_cases c1:ρ.fail=0
 ·rw [if_neg (fun h => h c1)]
  by_cases c2:(zbf s ρ.pos).2.2=0
  ·rw [if_neg (fun h => h c2)]
   obtain ⟨n1,n2,n3,n4⟩:=next_lt h.p0 c2
   have hn:=h.n0 c1
   refine ⟨⟨by have:=h.p0; show 0 ≤ (zbf s ρ.pos).2.1; omega,n2,fun _ => by show (ρ.nodes:Int) ≤ (zbf s ρ.pos).2.1; omega,h.n1⟩,fun _ => ?_⟩
   by_cases c3:(zbf s ρ.pos).1.1=1
   ·exact .inl c3
   ·have:=n3 c3
    exact .inr (by show (ρ.nodes:Int) + 1 ≤ (zbf s ρ.pos).2.1; omega)
  ·rw [if_pos c2]
   refine ⟨zdo h _ _ c2,fun hf => ?_⟩
   exfalso
   unfold zaO at hf
   rw [if_pos c1] at hf
   exact c2 hf
 ·rw [if_pos c1]
  exact ⟨h,fun hf => absurd hf c1⟩
theorem zd5 {s:List UInt8} {ρ:Rs} (h:GB s ρ) (t:Tk) (c:UInt8):GB s (zaU ρ t c):=by
 unfold zaU
 split
 ·exact zdo h _ _ (by decide)
 ·exact h
theorem gb_key {s:List UInt8} {ρ:Rs} (h:GB s ρ) (t:Tk) (ks:List (List UInt8)):GB s (zl1 ρ t ks):=by
 unfold zl1
 have h1:GB s (if ¬ t.1=3 then zaO ρ t.2.2 140 else ρ):=by
  split
  ·exact zdo h _ _ (by decide)
  ·exact h
 dsimp only
 split
 ·exact zdo h1 _ _ (by decide)
 ·exact h1
def GV (s:List UInt8) (val:Rs → Tk → JV × Rs):Prop:=∀ ρ t,GB s ρ → GT ρ t → GB s (val ρ t).2
theorem znz {s:List UInt8} {val:Rs → Tk → JV × Rs} (hv:GV s val):∀ (n:Nat) (ρ:Rs) (t:Tk) (acc:List JV),GB s ρ → GT ρ t → GB s (zdn s val n ρ t acc).2
 | 0,ρ,t,acc,h,_ => h
 | n + 1,ρ,t,acc,h,ht => by
  rw [zdn]
  split
  ·exact h
  dsimp only
  have h1:=hv ρ t h ht
  generalize val ρ t=a at h1 ⊢
  have h2:=(za8 h1).1
  generalize zan s a.2=b at h2 ⊢
  split
  ·exact h2
  ·obtain ⟨h3,h4⟩:=za8 (zd5 h2 b.1 44)
   exact znz hv n _ _ _ h3 h4
theorem zny {s:List UInt8} {val:Rs → Tk → JV × Rs} (hv:GV s val):∀ (n:Nat) (ρ:Rs) (t:Tk) (ks:List (List UInt8)) (its:List JV),GB s ρ → GB s (zcM s val n ρ t ks its).2
 | 0,ρ,t,ks,its,h => h
 | n + 1,ρ,t,ks,its,h => by
  rw [zcM]
  split
  ·exact h
  dsimp only
  have h1:=(za8 (gb_key h t ks)).1
  generalize zan s (zl1 ρ t ks)=a at h1 ⊢
  obtain ⟨h2,h2'⟩:=za8 (zd5 h1 a.1 58)
  generalize zan s (zaU a.2 a.1 58)=b at h2 h2' ⊢
  have h3:=hv _ _ h2 h2'
  generalize val b.2 b.1=v at h3 ⊢
  have h4:=(za8 h3).1
  generalize zan s v.2=c at h4 ⊢
  split
  ·exact h4
  ·have h5:=(za8 (zd5 h4 c.1 44)).1
   exact zny hv n _ _ _ _ h5
theorem zjK {s:List UInt8} {ρ:Rs} {t:Tk} (h:GB s ρ) (ht:GT ρ t) (h1:¬ t.1=1) (hf:ρ.fail=0):GB s (zbu ρ t):=by
 have hn:=(ht hf).resolve_left h1
 have hp1:=h.p1
 unfold zbu
 dsimp only
 have h2:∃ fa wa,(if t.1=4 ∧ ¬ (zbv t.2.1).1=0 then zaO ρ t.2.2 (zbv t.2.1).1 else ρ)=⟨ρ.pos,ρ.nodes,fa,wa⟩:=by
  split
  ·unfold zaO; rw [if_pos hf]; exact ⟨_,_,rfl⟩
  ·exact ⟨_,_,rfl⟩
 obtain ⟨fa,wa,h2⟩:=h2
 rw [h2]
 have h3:∀ f w,GB s ⟨ρ.pos,ρ.nodes + 1,f,w⟩:=fun f w => ⟨h.p0,h.p1,fun _ => by show ((ρ.nodes + 1:Nat):Int) ≤ ρ.pos; omega,by show ((ρ.nodes + 1:Nat):Int) ≤ _; omega⟩
 split
 ·exact zdo (h3 _ _) _ _ (by decide)
 ·exact h3 _ _
theorem gb_arr {s:List UInt8} {val:Rs → Tk → JV × Rs} (hv:GV s val) {ρ:Rs} (h:GB s ρ):GB s (zf2 s val ρ).2:=by
 unfold zf2
 dsimp only
 obtain ⟨h1,h2⟩:=za8 h
 split
 ·exact h1
 ·exact znz hv _ _ _ _ h1 h2
theorem gb_obj {s:List UInt8} {val:Rs → Tk → JV × Rs} (hv:GV s val) {ρ:Rs} (h:GB s ρ):GB s (zgx s val ρ).2:=by
 unfold zgx
 dsimp only
 have h1:=(za8 h).1
 split
 ·exact h1
 ·exact zny hv _ _ _ _ _ h1
theorem vk_end {t:Tk} (h:¬ vkE t=0):¬ t.1=1:=by
 intro h1
 apply h
 have e1:∀ c,isP t c=false:=fun c => by simp [isP,h1]
 simp [vkE,h1,e1]
theorem zes (s:List UInt8):∀ (f:Nat) (d:Nat),GV s (fun ρ t => zaz s f ρ t d)
 | 0,d => fun ρ t h _ => h
 | f + 1,d => fun ρ t h ht => by
  dsimp only
  rw [zaz]
  by_cases c0:ρ.fail=0
  ·rw [if_neg (fun h => h c0)]
   split
   ·exact zdo h _ _ (by decide)
   rename_i c1
   have hc:=zjK h ht (vk_end c1) c0
   split
   ·exact zdo h _ _ (by decide)
   split
   ·exact hc
   split
   ·exact gb_arr (zes s f (d + 1)) hc
   split
   ·exact gb_obj (zes s f (d + 1)) hc
   split
   ·exact hc
   ·exact hc
  ·rw [if_pos c0]; exact h
end
end Go.Proofs.YtadhjoggdbhkgaaGreatDoor
namespace Go.Proofs.YtadhjoggdbhkgaaGreatDoor
open Go.RowKit Sx
section
attribute [local irreducible] run
theorem zdl (ρ:Rs) (a e:Int):(zaO ρ a e).nodes=ρ.nodes:=by unfold zaO; split <;> rfl
theorem za0 (s:List UInt8) (ρ:Rs):(zan s ρ).2.nodes=ρ.nodes:=by
 unfold zan
 split
 ·rfl
 split
 ·exact zdl _ _ _
 ·rfl
theorem zdS (ρ:Rs) (t:Tk) (c:UInt8):(zaU ρ t c).nodes=ρ.nodes:=by
 unfold zaU
 split
 ·exact zdl _ _ _
 ·rfl
theorem rkey_n (ρ:Rs) (t:Tk) (ks:List (List UInt8)):(zl1 ρ t ks).nodes=ρ.nodes:=by
 unfold zl1
 dsimp only
 split <;> split <;> simp only [zdl]
theorem rcount_n (ρ:Rs) (t:Tk):(zbu ρ t).nodes=ρ.nodes + 1:=by
 unfold zbu
 dsimp only
 generalize hx:(if t.1=4 ∧ ¬ (zbv t.2.1).1=0 then zaO ρ t.2.2 (zbv t.2.1).1 else ρ)=x
 have h:x.nodes=ρ.nodes:=by
  rw [← hx]
  split
  ·exact zdl _ _ _
  ·rfl
 by_cases c:20000 < x.nodes + 1
 ·rw [if_pos c,zdl]; show x.nodes + 1=_; omega
 ·rw [if_neg c]; show x.nodes + 1=_; omega
def MonV (val:Rs → Tk → JV × Rs):Prop:=∀ ρ t,ρ.nodes ≤ (val ρ t).2.nodes
theorem zma {s:List UInt8} {val:Rs → Tk → JV × Rs} (hv:MonV val):∀ (n:Nat) (ρ:Rs) (t:Tk) (acc:List JV),ρ.nodes ≤ (zdn s val n ρ t acc).2.nodes
 | 0,ρ,t,acc => Nat.le_refl _
 | n + 1,ρ,t,acc => by
  rw [zdn]
  split
  ·exact Nat.le_refl _
  dsimp only
  have h1:=hv ρ t
  generalize val ρ t=a at h1 ⊢
  split
  ·rw [za0]; exact h1
  ·have h2:=zma (s:=s) hv n (zan s (zaU (zan s a.2).2 (zan s a.2).1 44)).2 (zan s (zaU (zan s a.2).2 (zan s a.2).1 44)).1 (acc ++ [a.1])
   rw [za0,zdS,za0] at h2
   omega
theorem zlH {s:List UInt8} {val:Rs → Tk → JV × Rs} (hv:MonV val):∀ (n:Nat) (ρ:Rs) (t:Tk) (ks:List (List UInt8)) (its:List JV),ρ.nodes ≤ (zcM s val n ρ t ks its).2.nodes
 | 0,ρ,t,ks,its => Nat.le_refl _
 | n + 1,ρ,t,ks,its => by
  rw [zcM]
  split
  ·exact Nat.le_refl _
  dsimp only
  have e1:=za0 s (zl1 ρ t ks)
  rw [rkey_n] at e1
  generalize zan s (zl1 ρ t ks)=a at e1 ⊢
  have e2:=za0 s (zaU a.2 a.1 58)
  rw [zdS] at e2
  generalize zan s (zaU a.2 a.1 58)=b at e2 ⊢
  have h1:=hv b.2 b.1
  generalize val b.2 b.1=v at h1 ⊢
  have e3:=za0 s v.2
  generalize zan s v.2=c at e3 ⊢
  split
  ·show _ ≤ c.2.nodes; omega
  ·have e4:=za0 s (zaU c.2 c.1 44)
   rw [zdS] at e4
   generalize zan s (zaU c.2 c.1 44)=d at e4 ⊢
   have h2:=zlH (s:=s) hv n d.2 d.1 (ks ++ [t.2.1]) (its ++ [v.1])
   omega
theorem zfW (s:List UInt8):∀ (f d:Nat),MonV (fun ρ t => zaz s f ρ t d) ∧ ∀ ρ t,0 < f → (zaz s f ρ t d).2.fail=0 → ρ.nodes + 1 ≤ (zaz s f ρ t d).2.nodes
 | 0,d => ⟨fun ρ t => Nat.le_refl _,fun ρ t h => absurd h (Nat.lt_irrefl 0)⟩
 | f + 1,d => by
  have hm:=(zfW s f (d + 1)).1
  have key:∀ ρ t,((zaz s (f + 1) ρ t d).2.nodes=ρ.nodes ∧ ¬ (zaz s (f + 1) ρ t d).2.fail=0) ∨ ρ.nodes + 1 ≤ (zaz s (f + 1) ρ t d).2.nodes:=by
   intro ρ t
   rw [zaz]
   by_cases c0:ρ.fail=0
   rotate_left
   ·rw [if_pos c0]; exact .inl ⟨rfl,c0⟩
   rw [if_neg (fun h => h c0)]
   have hst:∀ a e:Int,¬ e=0 → (zaO ρ a e).nodes=ρ.nodes ∧ ¬ (zaO ρ a e).fail=0:=fun a e he => ⟨zdl _ _ _,by unfold zaO; rw [if_pos c0]; exact he⟩
   split
   ·exact .inl (hst _ _ (by decide))
   split
   ·exact .inl (hst _ _ (by decide))
   have hc:=rcount_n ρ t
   split
   ·right; show _ ≤ (zbu ρ t).nodes; omega
   split
   ·right
    unfold zf2
    dsimp only
    split
    ·rw [za0]; omega
    ·have h:=zma (s:=s) hm (s.length + 2) (zan s (zbu ρ t)).2 (zan s (zbu ρ t)).1 []
     rw [za0] at h
     show _ ≤ (zdn s _ _ _ _ []).2.nodes
     omega
   split
   ·right
    unfold zgx
    dsimp only
    split
    ·rw [za0]; omega
    ·have h:=zlH (s:=s) hm (s.length + 2) (zan s (zbu ρ t)).2 (zan s (zbu ρ t)).1 [] []
     rw [za0] at h
     show _ ≤ (zcM s _ _ _ _ [] []).2.nodes
     omega
   split
   ·right; show _ ≤ (zbu ρ t).nodes; omega
   ·right; show _ ≤ (zbu ρ t).nodes; omega
  refine ⟨fun ρ t => ?_,fun ρ t _ hf => ?_⟩
  ·rcases key ρ t with h | h
   ·exact Nat.le_of_eq h.1.symm
   ·show ρ.nodes ≤ (zaz s (f + 1) ρ t d).2.nodes; omega
  ·rcases key ρ t with h | h
   ·exact absurd hf h.2
   ·exact h
end
end Go.Proofs.YtadhjoggdbhkgaaGreatDoor
namespace Go.Proofs.YtadhjoggdbhkgaaGreatDoor
open Go.RowKit Sx
section
attribute [local irreducible] run
section
variable [Tabs Tryz.prog] {objs:List OB} {K:List OB → AV → Prop}
end
end
end Go.Proofs.YtadhjoggdbhkgaaGreatDoor
namespace Go.Proofs.YtadhjoggdbhkgaaGreatDoor
open Go.RowKit Sx
section
attribute [local irreducible] run
theorem zau.set0 {α:Type} {B:List (Nat × α)} {o:List α} {i:Nat} {x:α} (y:α) (h:zau ((i,x) :: B) o):zau ((i,y) :: B) (o.set i y):=zau.set (A:=[]) y h
theorem zau.set1 {α:Type} {a:Nat × α} {B:List (Nat × α)} {o:List α} {i:Nat} {x:α} (y:α) (h:zau (a :: (i,x) :: B) o):zau (a :: (i,y) :: B) (o.set i y):=zau.set (A:=[a]) y h
theorem zau.set2 {α:Type} {a b:Nat × α} {B:List (Nat × α)} {o:List α} {i:Nat} {x:α} (y:α) (h:zau (a :: b :: (i,x) :: B) o):zau (a :: b :: (i,y) :: B) (o.set i y):=zau.set (A:=[a,b]) y h
theorem zau.ne {α:Type} {a b:Nat × α} {A B C:List (Nat × α)} {o:List α} (h:zau (A ++ a :: (B ++ b :: C)) o):a.1 ≠ b.1:=by
 have:=h.1
 simp only [List.map_append,List.map_cons] at this
 rw [List.nodup_append] at this
 obtain ⟨_,h2,_⟩:=this
 rw [List.nodup_cons] at h2
 intro e
 exact h2.1 (by rw [e]; simp)
theorem sub_self {b g n:Nat} {xs:List AV}:zcy b g n xs (.orow b g)=.row n xs:=by simp [zcy]
section
variable {P:Program} [Tabs P] {f:FuncId} {o:List OB} {K:List OB → AV → Prop} {p rr g st' nodes E sz n E' g' n' sz':Nat} {st k:Int} {txt:List UInt8} {xs cs ys:List AV} {X Y r0 r1 r2 r3:AV} {Lx L:List (Nat × OB)}
end
section
variable [Tabs Tryz.prog] {objs:List OB} {K:List OB → AV → Prop}
end
end
end Go.Proofs.YtadhjoggdbhkgaaGreatDoor
namespace Go.Proofs.YtadhjoggdbhkgaaGreatDoor
open Go.RowKit Sx
section
attribute [local irreducible] run
def zaN (t:Tk):OB:=.box 54 (tkC t)
section
variable [Tabs Tryz.prog] [Pow Tryz.prog] {objs:List OB} {K:List OB → AV → Prop} {M:List (Nat × OB)}
omit [Pow Tryz.prog] in
end
end
end Go.Proofs.YtadhjoggdbhkgaaGreatDoor
namespace Go.Proofs.YtadhjoggdbhkgaaGreatDoor
open Go.RowKit Sx
section
attribute [local irreducible] run
theorem WfM.mono {σ:Ms} {a b:Nat} (h:WfM σ a) (hab:a ≤ b):WfM σ b:=⟨h.top,h.obj,fun f hf => by have:=h.len f hf; omega,h.deep,h.few⟩
theorem jres {P:Program} [Tabs P] {f:FuncId} {args:List AV} {objs:List OB} {K:List OB → AV → Prop} (r':AV) (hc:zae P f args objs (fun o r => (∀ G I y,Den G I r y → Den G I r' y) ∧ K o r')):zae P f args objs K:=by
 intro C _ G I w hin hm ys hd
 refine (hc C G I w hin hm ys hd).mono ?_
 rintro e w' ⟨y,objs',r,G',I',he,⟨hr,hk⟩,h1,h2,h3,h4,hy⟩
 exact ⟨y,objs',r',G',I',he,hk,h1,h2,h3,h4,hr _ _ _ hy⟩
def zvC:List AV:=[.i .i64 0,.s [],.nil,.nil]
def zg7 (R:JV × Int × Int):AV:=.tup [.agg (zaj R.1),.i .i64 R.2.1,.i .i64 R.2.2]
theorem den_zv {a e:Int} {G:Gh} {I:Imm} {y:Value} (h:Den G I (.tup [.agg zvC,.i .i64 a,.i .i64 e]) y):Den G I (zg7 (jvZ,a,e)) y:=by
 unfold zg7 jvZ
 rw [zaj,zas]
 unfold zvC at h
 simp only [zah,Den] at h ⊢
 obtain ⟨ys,h1,y0,l0,rfl,⟨zs,rfl,⟨z0,m0,rfl,q0,z1,m1,rfl,q1,z2,m2,rfl,q2,z3,m3,rfl,q3,q4⟩,hz⟩,h2⟩:=h
 refine ⟨_,h1,_,_,rfl,⟨_,rfl,⟨_,_,rfl,q0,_,_,rfl,q1,_,_,rfl,?_,_,_,rfl,?_,q4⟩,hz⟩,h2⟩
 ·exact ⟨none,0,[],q2,⟨Nat.le_refl _,fun ad h => by cases h⟩,rfl,by simp,by simp⟩
 ·exact ⟨none,0,[],q3,⟨Nat.le_refl _,fun ad h => by cases h⟩,rfl,by simp,by simp⟩
section
variable [Tabs Tryz.prog] [Pow Tryz.prog] [Utf Tryz.prog] {objs:List OB} {K:List OB → AV → Prop}
end
end
end Go.Proofs.YtadhjoggdbhkgaaGreatDoor
namespace Go.Proofs.YtadhjoggdbhkgaaGreatDoor
open Nat renaming reduceAdd → z6, reduceSub → z7, reduceLeDiff → z8, reduceLT → j4, reduceMul → j5, reduceEqDiff → j6
open Int renaming reduceToNat → j7, reduceAdd → j8, reduceSub → j9, reduceMul → x4, reduceNeg → x5, reduceLT → x6, reduceLE → x7, reduceEq → x8, reduceNe → x9
open Go.RowKit Sx
section
attribute [local irreducible] run
def zaD (s:List UInt8) (ρ:Rs):OB:=.box 51 [.s s,.i .i64 ρ.pos,.i .i64 (ρ.nodes:Int),.i .i64 ρ.fail,.i .i64 ρ.wh]
section
variable [Tabs Tryz.prog] {objs:List OB} {K:List OB → AV → Prop} {L:List (Nat × OB)} {p:Nat} {s:List UInt8} {ρ:Rs}
theorem zeM (t:Tk) (c:UInt8) (hk:K objs (.b (isP t c))):zae Tryz.prog 48 [zgH t,.s [c]] objs K:=by
 refine zaV is_ref14_is rfl fun C _ => ?_
 unfold isP at hk
 by_cases c1:t.1=2
 ·by_cases c2:t.2.1=[c]
  ·simp only [c1,c2,decide_true,Bool.and_self] at hk
   simp only [c_ref14_is,zgH,tkC,sxZ,z6,z7,z8,j4,j5,j6,j7,j8,j9,x4,x5,x6,x7,x8,x9,reduceCtorEq,↓reduceIte,c1,c2]
   exact hk
  ·simp only [c1,c2,decide_true,decide_false,Bool.and_false] at hk
   simp only [c_ref14_is,zgH,tkC,sxZ,z6,z7,z8,j4,j5,j6,j7,j8,j9,x4,x5,x6,x7,x8,x9,reduceCtorEq,↓reduceIte,c1,c2]
   exact hk
 ·simp only [c1,decide_false,Bool.false_and] at hk
  simp only [c_ref14_is,zgH,tkC,sxZ,z6,z7,z8,j4,j5,j6,j7,j8,j9,x4,x5,x6,x7,x8,x9,reduceCtorEq,↓reduceIte,c1]
  exact hk
theorem rword_k (l:List UInt8) (hk:K objs (.i .i64 (zfb l))):zae Tryz.prog 49 [.s l] objs K:=by
 refine zaV is_ref14_word rfl fun C _ => ?_
 unfold zfb zhV ze0 at hk
 by_cases c1:l=[116,114,117,101]
 ·rw [if_pos c1] at hk
  simp only [c_ref14_word,sxZ,z6,z7,z8,j4,j5,j6,j7,j8,j9,x4,x5,x6,x7,x8,x9,reduceCtorEq,↓reduceIte,c1]
  exact hk
 rw [if_neg c1] at hk
 by_cases c2:l=[102,97,108,115,101]
 ·rw [if_pos c2] at hk
  have n1:¬ ([102,97,108,115,101]:List UInt8)=[116,114,117,101]:=by decide
  simp only [c_ref14_word,sxZ,z6,z7,z8,j4,j5,j6,j7,j8,j9,x4,x5,x6,x7,x8,x9,reduceCtorEq,↓reduceIte,c2,n1]
  exact hk
 ·rw [if_neg c2] at hk
  simp only [c_ref14_word,sxZ,z6,z7,z8,j4,j5,j6,j7,j8,j9,x4,x5,x6,x7,x8,x9,reduceCtorEq,↓reduceIte,c1,c2]
  exact hk
theorem zbU (hO:zau ((p,zaD s ρ) :: L) objs) (a e:Int) (hk:∀ o,zau ((p,zaD s (zaO ρ a e)) :: L) o → K o (.tup [])):zae Tryz.prog 30 [.p p 0,.i .i64 a,.i .i64 e] objs K:=by
 refine zcr is_ref14_parser_stop fun C _ => ?_
 have e1:=hO.get (i:=p) (x:=zaD s ρ) (by simp)
 have hlt:=hO.lt (i:=p) (x:=zaD s ρ) (by simp)
 have gs:∀ x,(objs.set p x)[p]? = some x:=fun x => List.getElem?_set_self hlt
 unfold zaD at e1
 unfold zaO at hk
 by_cases c1:ρ.fail=0
 ·rw [if_pos c1] at hk
  simp only [c_ref14_parser_stop,sxZ,z6,z7,z8,j4,j5,j6,j7,j8,j9,x4,x5,x6,x7,x8,x9,reduceCtorEq,↓reduceIte,e1,c1,gs,List.set_set]
  exact hk _ (hO.set0 _)
 ·rw [if_neg c1] at hk
  simp only [c_ref14_parser_stop,sxZ,z6,z7,z8,j4,j5,j6,j7,j8,j9,x4,x5,x6,x7,x8,x9,reduceCtorEq,↓reduceIte,e1,c1]
  exact hk _ hO
theorem zce [Utf Tryz.prog] (hs:s.length ≤ 140737488351232) (hO:zau ((p,zaD s ρ) :: L) objs) (hk:∀ o,zau ((p,zaD s (zan s ρ).2) :: L) o → K o (zgH (zan s ρ).1)):zae Tryz.prog 29 [.p p 0] objs K:=by
 refine zcr is_ref14_parser_next fun C _ => ?_
 have hO1:=hO.new (.box 54 [.i .i64 0,.s [],.i .i64 0])
 have e1:=hO1.get (i:=p) (x:=zaD s ρ) (by simp)
 unfold zaD at e1
 unfold zan at hk
 rw [c_ref14_parser_next]
 refine zaa fun Y hY => ?_
 simp only [sxZ,z6,z7,z8,j4,j5,j6,j7,j8,j9,x4,x5,x6,x7,x8,x9,reduceCtorEq,↓reduceIte]
 have hlen:objs.length < (objs ++ [OB.box 54 [.i .i64 0,.s [],.i .i64 0]]).length:=by simp
 generalize hq:objs.length=q at hO1 hlen ⊢
 generalize objs ++ [OB.box 54 [.i .i64 0,.s [],.i .i64 0]]=o1 at hO1 e1 hlen ⊢
 have e0:=hO1.get (i:=q) (x:=.box 54 [.i .i64 0,.s [],.i .i64 0]) (by simp)
 have gs:∀ x,(o1.set q x)[q]? = some x:=fun x => List.getElem?_set_self hlen
 subst hY
 refine zaa fun Y hY => ?_
 by_cases c1:ρ.fail=0
 rotate_left
 ·rw [if_pos c1] at hk
  simp only [sxZ,z6,z7,z8,j4,j5,j6,j7,j8,j9,x4,x5,x6,x7,x8,x9,reduceCtorEq,↓reduceIte,e1,c1,e0,gs]
  exact hk _ ((hO1.set0 (.box 54 [.i .i64 0,.s [],.i .i64 0])).sub (List.sublist_cons_self _ _))
 rw [if_neg (fun h => h c1)] at hk
 simp only [sxZ,z6,z7,z8,j4,j5,j6,j7,j8,j9,x4,x5,x6,x7,x8,x9,reduceCtorEq,↓reduceIte,e1,c1]
 subst hY
 refine zaa fun Y hY => ?_
 have hne:¬ p=o1.length:=fun h => by
  have:=hO1.lt (i:=p) (x:=zaD s ρ) (by simp)
  omega
 simp only [sxZ,z6,z7,z8,j4,j5,j6,j7,j8,j9,x4,x5,x6,x7,x8,x9,reduceCtorEq,↓reduceIte,e1]
 refine zmO (zkt s ρ.pos hs rfl) rfl rfl ?_
 generalize zbf s ρ.pos=N at hk ⊢
 obtain ⟨T,to,e⟩:=N
 simp only at hk
 unfold zmI
 simp only [sxZ,z6,z7,z8,j4,j5,j6,j7,j8,j9,x4,x5,x6,x7,x8,x9,reduceCtorEq,↓reduceIte,gn1,sn1,hne]
 have f1:∀ x y z,OB.box 54 [.i .i64 x,.s y,.i .i64 z]=zaN (x,y,z):=fun _ _ _ => rfl
 rw [f1]
 have hO2:=hO1.new (zaN T)
 have g0:=hO2.get (i:=o1.length) (x:=zaN T) (by simp)
 have g1:=hO2.get (i:=p) (x:=zaD s ρ) (by simp)
 have g2:=hO2.get (i:=q) (x:=.box 54 [.i .i64 0,.s [],.i .i64 0]) (by simp)
 have hq2:=hO2.lt (i:=q) (x:=.box 54 [.i .i64 0,.s [],.i .i64 0]) (by simp)
 generalize o1 ++ [zaN T]=o2 at hO2 g0 g1 g2 hq2 ⊢
 unfold zaN tkC at g0
 unfold zaD at g1
 have gs2:∀ x,(o2.set q x)[q]? = some x:=fun x => List.getElem?_set_self hq2
 subst hY
 refine zaa fun Y hY => ?_
 by_cases c2:e=0
 rotate_left
 ·rw [if_pos c2] at hk
  simp only [sxZ,z6,z7,z8,j4,j5,j6,j7,j8,j9,x4,x5,x6,x7,x8,x9,reduceCtorEq,↓reduceIte,c2,g1]
  refine zak (zbU (L:=(o1.length,zaN T) :: (q,.box 54 [.i .i64 0,.s [],.i .i64 0]) :: L) (hO2.perm (List.Perm.trans (List.Perm.cons _ (List.Perm.swap _ _ _)) (List.Perm.swap _ _ _))) ρ.pos e fun o ho => ?_)
  have k2:=ho.get (i:=q) (x:=.box 54 [.i .i64 0,.s [],.i .i64 0]) (by simp)
  have kq:=ho.lt (i:=q) (x:=.box 54 [.i .i64 0,.s [],.i .i64 0]) (by simp)
  have gs3:∀ x,(o.set q x)[q]? = some x:=fun x => List.getElem?_set_self kq
  simp only [sxZ,z6,z7,z8,j4,j5,j6,j7,j8,j9,x4,x5,x6,x7,x8,x9,reduceCtorEq,↓reduceIte,k2,gs3]
  exact hk _ ((zau.set2 (.box 54 [.i .i64 0,.s [],.i .i64 0]) ho).sub (((List.sublist_cons_self _ _).trans (List.sublist_cons_self _ _)).cons_cons _))
 subst c2
 rw [if_neg (fun h => h rfl)] at hk
 have hne2:¬ p=q:=fun h => hO2.ne (A:=[_]) (B:=[]) h.symm
 have hne3:¬ p=o1.length:=fun h => hO2.ne (A:=[]) (B:=[_]) h.symm
 have gx0:∀ x,(o2.set p x)[o1.length]? = some (.box 54 [.i .i64 T.1,.s T.2.1,.i .i64 T.2.2]):=fun x => by rw [List.getElem?_set_ne hne3]; exact g0
 have gx2:∀ x,(o2.set p x)[q]? = some (.box 54 [.i .i64 0,.s [],.i .i64 0]):=fun x => by rw [List.getElem?_set_ne hne2]; exact g2
 have gx3:∀ x y,((o2.set p x).set q y)[q]? = some y:=fun x y => List.getElem?_set_self (by rw [List.length_set]; exact hq2)
 simp only [sxZ,z6,z7,z8,j4,j5,j6,j7,j8,j9,x4,x5,x6,x7,x8,x9,reduceCtorEq,↓reduceIte]
 subst hY
 simp only [sxZ,z6,z7,z8,j4,j5,j6,j7,j8,j9,x4,x5,x6,x7,x8,x9,reduceCtorEq,↓reduceIte,g1,gx0,gx2,gx3]
 have hF:=(zau.set1 (zaN T) (zau.set2 (zaD s ⟨to,ρ.nodes,ρ.fail,ρ.wh⟩) hO2)).sub (L':=(p,zaD s ⟨to,ρ.nodes,ρ.fail,ρ.wh⟩) :: L) ((List.sublist_cons_self _ _).trans (List.sublist_cons_self _ _))
 exact hk _ hF
end
end
end Go.Proofs.YtadhjoggdbhkgaaGreatDoor
namespace Go.Proofs.YtadhjoggdbhkgaaGreatDoor
open Go.RowKit Sx
section
attribute [local irreducible] run
def zvB:OB:=.box 25 [.i .i64 0,.s [],.nil,.nil]
def jvB (k:Int) (X Y:AV):OB:=.box 25 [.i .i64 k,.s [],X,Y]
def zaE (L:List (Nat × OB)):Prop:=∀ z ∈ L,∀ b g n xs,(∀ y ∈ L,y.1 ≠ b) → zlr b g n xs z.2=z.2
theorem zdO {b g n:Nat} {xs:List AV}:∀ {l:List AV},zaq l=true → l.map (zcy b g n xs)=l
 | [],_ => rfl
 | x :: l,h => by
  simp only [zaq,Bool.and_eq_true] at h
  rw [List.map_cons,zlq h.1,zdO h.2]
theorem ziD {z:Nat × OB} {L:List (Nat × OB)} (h:zaE L) (hz:∀ b g n xs,(∀ y ∈ z :: L,y.1 ≠ b) → zlr b g n xs z.2=z.2):zaE (z :: L):=by
 intro y hy b g n xs hb
 rcases List.mem_cons.1 hy with rfl | hy
 ·exact hz b g n xs hb
 ·exact h y hy b g n xs fun y hy => hb y (List.mem_cons_of_mem _ hy)
theorem zcY {i:Nat} {T:Nat} {cs:List AV} {L:List (Nat × OB)} (h:zaE L) (hp:zaq cs=true):zaE ((i,.box T cs) :: L) :=
 ziD h fun b g n xs _ => by show OB.box T _=_; rw [zdO hp]
theorem zkR {E sz n:Nat} {xs:List AV} {X:AV} {R A B:List (Nat × OB)} (hs:SlO E sz n xs X R) (h:zaE (A ++ B)):zaE (A ++ (R ++ B)):=by
 intro y hy b g m ys hb
 have hAB:∀ y ∈ A ++ B,y.1 ≠ b:=fun y hy => hb y (by
  rcases List.mem_append.1 hy with h | h
  ·exact List.mem_append_left _ h
  ·exact List.mem_append_right _ (List.mem_append_right _ h))
 rcases List.mem_append.1 hy with hy | hy
 ·exact h y (List.mem_append_left _ hy) b g m ys hAB
 rcases List.mem_append.1 hy with hy | hy
 ·rcases hs with ⟨_,_,_,rfl⟩ | ⟨b',g',_,rfl⟩
  ·cases hy
  ·simp only [List.mem_cons,List.not_mem_nil,or_false] at hy
   subst hy; rfl
 ·exact h y (List.mem_append_right _ hy) b g m ys hAB
theorem zhZ {E sz n:Nat} {xs:List AV} {X:AV} {R:List (Nat × OB)} (hs:SlO E sz n xs X R) {b g m:Nat} {ys:List AV} (hb:∀ y ∈ R,y.1 ≠ b):zcy b g m ys X=X:=by
 rcases hs with ⟨_,_,rfl,_⟩ | ⟨b',g',rfl,rfl⟩
 ·rfl
 ·exact if_neg (fun h => hb (b',.orow E sz g' n xs) (by simp) h.1)
def giv (n:Nat) (xs:List AV) (X:AV):Prop:=(n=0 ∧ xs=[] ∧ X=.nil) ∨ X=.row n xs
theorem zch {n:Nat} {xs:List AV} {X:AV} (h:giv n xs X) {G:Gh} {I:Imm} {y:Value} (hd:Den G I X y):Den G I (.row n xs) y:=by
 rcases h with ⟨rfl,rfl,rfl⟩ | rfl
 ·exact zf9 hd
 ·exact hd
section
variable {P:Program} [Tabs P] {f:FuncId} {args:List AV} {objs:List OB} {K:List OB → AV → Prop}
theorem ze6 (hc:zae P f args objs (fun o r => K o r ∨ ∃ b E sz gen n xs,o[b]? = some (.orow E sz gen n xs) ∧ K (pubO o b gen n xs) (subD b gen n xs r))):zae P f args objs K:=by
 intro C _ G I w hin hm ys hd
 refine (hc C G I w hin hm ys hd).mono ?_
 rintro e w' ⟨y,objs',r,G',I',he,hk,h1,h2,h3,h4,hy⟩
 rcases hk with hk | ⟨b,E,sz,gen,n,xs,hb,hk⟩
 ·exact ⟨y,objs',r,G',I',he,hk,h1,h2,h3,h4,hy⟩
 ·obtain ⟨v',vs,m1,m2,m3,m4,m5⟩:=h4.row b E sz gen n xs hb
  obtain ⟨hin',hm'⟩:=mem_pub (P:=P) hb h3 h4
  exact ⟨y,_,_,_,_,he,hk,h1.trans (zia m1),fun g o v h => .inl (h2 g o v h),hin',hm',den_subD h4 hb r y hy⟩
end
theorem zmm {E sz n:Nat} {xs:List AV} {X:AV} {R A B:List (Nat × OB)} {o:List OB} (hs:SlO E sz n xs X R) (hO:zau (A ++ (R ++ B)) o) (hA:zaE (A ++ B)) :
  (R=[] ∧ giv n xs X) ∨ ∃ b g,X=.orow b g ∧ o[b]? = some (.orow E sz g n xs) ∧ zau (A ++ B) (pubO o b g n xs) ∧ ∀ y ∈ A ++ B,y.1 ≠ b:=by
 rcases hs with ⟨h1,h2,h3,rfl⟩ | ⟨b,g,rfl,rfl⟩
 ·exact .inl ⟨rfl,.inl ⟨h1,h2,h3⟩⟩
 ·right
  have hP:zau ((b,.orow E sz g n xs) :: (A ++ B)) o:=hO.perm (by simp)
  have hne:∀ y ∈ A ++ B,y.1 ≠ b:=by
   have:=hP.1
   rw [List.map_cons,List.nodup_cons] at this
   exact fun y hy e => this.1 (by show b ∈ _; rw [← e]; exact List.mem_map_of_mem hy)
  exact ⟨b,g,rfl,hP.get (by simp),hP.mapset (zlr b g n xs) (fun z hz => hA z hz b g n xs hne),hne⟩
theorem zl3 {P:Program} [Tabs P] {f:FuncId} {args:List AV} {objs:List OB} {K:List OB → AV → Prop} {E1 s1 E2 s2:Nat} (v:JV) {z:Nat × OB} {L:List (Nat × OB)} (hC:zaE (z :: L)) (hk:∀ o,zau (z :: L) o → K o (.agg (zaj v)))
  (hc:zae P f args objs (fun o r => ∃ X R1 Y R2,SlO E1 s1 v.keys.length (v.keys.map .s) X R1 ∧ SlO E2 s2 v.items.length (zac v.items) Y R2 ∧ zau (z :: (R1 ++ (R2 ++ L))) o ∧ r=.agg [.i .i64 v.kind,.s v.text,X,Y])):zae P f args objs K:=by
 refine jres (.agg (zaj v)) ?_
 refine ze6 ?_
 refine ze6 ?_
 refine hc.mono ?_
 rintro o r ⟨X,R1,Y,R2,hX,hY,hO,rfl⟩
 have fin:∀ {X' Y':AV},giv v.keys.length (v.keys.map .s) X' → giv v.items.length (zac v.items) Y' → ∀ G I y,Den G I (.agg [.i .i64 v.kind,.s v.text,X',Y']) y → Den G I (.agg (zaj v)) y:=by
  intro X' Y' h1 h2 G I y hy
  rw [zaf]
  simp only [zah,Den] at hy ⊢
  obtain ⟨zs,rfl,⟨z0,m0,rfl,q0,z1,m1,rfl,q1,z2,m2,rfl,q2,z3,m3,rfl,q3,q4⟩,hz⟩:=hy
  exact ⟨_,rfl,⟨_,_,rfl,q0,_,_,rfl,q1,_,_,rfl,zch h1 q2,_,_,rfl,zch h2 q3,q4⟩,hz⟩
 have hC2:zaE ([z] ++ (R2 ++ L)):=zkR (A:=[z]) hY hC
 have step2:∀ (o:List OB) (X':AV),giv v.keys.length (v.keys.map .s) X' → zau ([z] ++ (R2 ++ L)) o →
   (((∀ G I y,Den G I (.agg [.i .i64 v.kind,.s v.text,X',Y]) y → Den G I (.agg (zaj v)) y) ∧ K o (.agg (zaj v))) ∨ ∃ b E sz gen n xs,o[b]? = some (.orow E sz gen n xs) ∧ (∀ G I y,Den G I (subD b gen n xs (.agg [.i .i64 v.kind,.s v.text,X',Y])) y → Den G I (.agg (zaj v)) y) ∧ K (pubO o b gen n xs) (.agg (zaj v))):=by
  intro o X' h1 hO
  rcases zmm hY hO hC with ⟨rfl,h2⟩ | ⟨b,g,rfl,hb,hO2,hne⟩
  ·exact .inl ⟨fin h1 h2,hk _ hO⟩
  ·refine .inr ⟨b,_,_,g,_,_,hb,fun G I y hy => ?_,hk _ hO2⟩
   refine fin h1 (.inr rfl) G I y ?_
   have e1:zcy b g v.items.length (zac v.items) (.orow b g)=.row v.items.length (zac v.items):=if_pos ⟨rfl,rfl⟩
   have e2:zcy b g v.items.length (zac v.items) X'=X':=by
    rcases h1 with ⟨_,_,rfl⟩ | rfl <;> rfl
   simp only [subD,List.map_cons,List.map_nil,e1,e2] at hy
   exact hy
 rcases zmm (A:=[z]) hX hO hC2 with ⟨rfl,h1⟩ | ⟨b,g,rfl,hb,hO2,hne⟩
 ·exact .inl (step2 o X h1 hO)
 ·refine .inr ⟨b,_,_,g,_,_,hb,?_⟩
  have h1:giv v.keys.length (v.keys.map .s) (.row v.keys.length (v.keys.map AV.s)):=.inr rfl
  have e1:zcy b g v.keys.length (v.keys.map .s) (.orow b g)=.row v.keys.length (v.keys.map .s):=if_pos ⟨rfl,rfl⟩
  have e2:zcy b g v.keys.length (v.keys.map .s) Y=Y:=zhZ hY fun y hy => hne y (by simp [hy])
  have e3:subD b g v.keys.length (v.keys.map .s) (.agg [.i .i64 v.kind,.s v.text,.orow b g,Y])=.agg [.i .i64 v.kind,.s v.text,.row v.keys.length (v.keys.map .s),Y]:=by
   simp only [subD,List.map_cons,List.map_nil,e1,e2]; rfl
  rw [e3]
  exact step2 _ _ h1 hO2
end
end Go.Proofs.YtadhjoggdbhkgaaGreatDoor
namespace Go.Proofs.YtadhjoggdbhkgaaGreatDoor
open Nat renaming reduceAdd → z6, reduceSub → z7, reduceLeDiff → z8, reduceLT → j4, reduceMul → j5, reduceEqDiff → j6
open Int renaming reduceToNat → j7, reduceAdd → j8, reduceSub → j9, reduceMul → x4, reduceNeg → x5, reduceLT → x6, reduceLE → x7, reduceEq → x8, reduceNe → x9
open Go.RowKit Sx
section
attribute [local irreducible] run
theorem zdE:∀ l:List JV,l.length ≤ JV.sizes l
 | [] => Nat.zero_le _
 | v :: l => by
  rw [JV.sizes,List.length_cons]
  have h1:=zdE l
  have h2:=size_eq v
  omega
section
variable [Tabs Tryz.prog]
theorem zhg (v:JV) (a:Int) (hv:JOk v) (ha:0 ≤ a) (ha2:a ≤ 1099511627776) {objs:List OB} {K:List OB → AV → Prop} (hk:∀ b,(b=true → JKp v ∧ (v.size:Int) ≤ a) → K objs (.b b)):zae Tryz.prog 9 [.agg (zaj v),.i .i64 a] objs K:=by
 refine zaV is_keep_Value (by simp only [zaq,AV.plain,zaJ,Bool.and_self]) fun C _ => ?_
 rw [c_keep_Value]
 refine zaa fun Y hY => ?_
 obtain ⟨q0,q1,q2,q3,hq⟩:∃ q0 q1 q2 q3,zaj v=[q0,q1,q2,q3]:=⟨_,_,_,_,zaf v⟩
 have hs:=fun {objs:List OB} {K:List OB → AV → Prop} (h:∀ n:Int,-1 ≤ n → n ≤ 1099511627776 → (0 ≤ n → JKp v ∧ n + (v.size:Int)=a) → K objs (.i .i64 n)) => zii (v.size + 1) v a 70 (Nat.lt_succ_self _) hv ha ha2 (by decide) (by decide) (objs:=objs) (K:=K) h
 rw [hq] at hs ⊢
 simp only [sxZ,z6,z7,z8,j4,j5,j6,j7,j8,j9,x4,x5,x6,x7,x8,x9,reduceCtorEq,↓reduceIte]
 subst hY
 refine zaa fun Y hY => ?_
 simp only [sxZ,z6,z7,z8,j4,j5,j6,j7,j8,j9,x4,x5,x6,x7,x8,x9,reduceCtorEq,↓reduceIte]
 refine zak (hs fun n h1 h2 h3 => ?_)
 simp only [sxZ,z6,z7,z8,j4,j5,j6,j7,j8,j9,x4,x5,x6,x7,x8,x9,reduceCtorEq,↓reduceIte]
 subst hY
 simp only [sxZ,z6,z7,z8,j4,j5,j6,j7,j8,j9,x4,x5,x6,x7,x8,x9,reduceCtorEq,↓reduceIte]
 exact hk _ fun h => by
  have h0:=of_decide_eq_true h
  have:=h3 h0
  exact ⟨this.1,by omega⟩
theorem long_k:∀ (m:Nat) (v:JV),v.size < m → JKp v → v.size ≤ 1000 → zdd v=true → ∀ {objs:List OB} {K:List OB → AV → Prop},K objs (.b false) → zae Tryz.prog 22 [.agg (zaj v)] objs K:=by
 intro m
 induction m with
 | zero => intro v h; omega
 | succ m ih =>
  intro v hm hv hsz0 hsv objs K hk
  obtain ⟨l1,l2,l3,l4⟩:=hv.lens
  have hkl:v.keys.length ≤ 1000:=by
   have h1:=size_eq v
   have h2:=zdE v.items
   rcases zc4 hsv with ⟨_,h,_⟩ | ⟨_,h,_⟩ | ⟨_,h,_⟩ <;> omega
  have hsi:∀ (i:Nat) (h:i < v.items.length),zdd v.items[i]=true:=fun i h => by
   rcases zc4 hsv with ⟨_,_,h0⟩ | ⟨_,_,h0⟩ | ⟨_,_,_,h0⟩
   ·omega
   ·exact zdR h0 h
   ·exact zdR h0 h
  refine zaV is_ref15_long (by simp only [zaq,AV.plain,zaJ,Bool.and_self]) fun C _ => ?_
  rw [c_ref15_long]
  have hjv:=zaf v
  rw [hjv]
  refine zaa fun Z hZ => ?_
  simp only [sxZ,z6,z7,z8,j4,j5,j6,j7,j8,j9,x4,x5,x6,x7,x8,x9,reduceCtorEq,↓reduceIte]
  subst hZ
  refine zaa fun Z hZ => ?_
  simp only [sxZ,z6,z7,z8,j4,j5,j6,j7,j8,j9,x4,x5,x6,x7,x8,x9,reduceCtorEq,↓reduceIte]
  subst hZ
  refine zaa fun Z hZ => ?_
  refine zaa fun W hW => ?_
  simp only [sxZ,z6,z7,z8,j4,j5,j6,j7,j8,j9,x4,x5,x6,x7,x8,x9,reduceCtorEq,↓reduceIte]
  subst hW
  rw [zaB]
  refine zaA (fun n o tm => ∃ (i:Nat) (b:Int),i ≤ v.keys.length ∧ n=v.keys.length - i ∧ o=[OB.box 25 [.i .i64 v.kind,.s v.text,.row v.keys.length (v.keys.map .s),.row v.items.length (zac v.items)]] ∧ 0 ≤ b ∧ b ≤ 300 + 300 * (i:Int) ∧ tm.length=35 ∧ tm[1]? = some (.p 0 0) ∧ tm[3]? = some (.i .i64 b) ∧ tm[12]? = some (.row v.keys.length (v.keys.map .s)) ∧ tm[13]? = some (.i .i64 (v.keys.length:Int)) ∧ tm[14]? = some (.i .i64 (i:Int))) v.keys.length ⟨0,(v.text.length:Int),Nat.zero_le _,rfl,rfl,by omega,by omega,rfl,rfl,rfl,rfl,rfl,rfl⟩ ?_
  rintro n _ tm ⟨i,b,hi,rfl,rfl,hb,hb2,hlen,t1,t3,t12,t13,t14⟩
  refine zaa fun W hW => ?_
  by_cases hlt:(i:Int) < (v.keys.length:Int)
  ·have hi':i < v.keys.length:=by omega
   have kv:(v.keys.map AV.s)[i * 1]? = some (.s v.keys[i]):=by rw [Nat.mul_one,List.getElem?_map,List.getElem?_eq_getElem hi']; rfl
   have kl:=l4 _ (List.getElem_mem hi')
   generalize v.keys[i]=x at kv kl
   simp only [sxZ,z6,z7,z8,j4,j5,j6,j7,j8,j9,x4,x5,x6,x7,x8,x9,reduceCtorEq,↓reduceIte,List.getElem?_set,hlen,t12,t13,t14,hlt]
   subst hW
   refine zaa fun W hW => ?_
   simp only [sxZ,z6,z7,z8,j4,j5,j6,j7,j8,j9,x4,x5,x6,x7,x8,x9,reduceCtorEq,↓reduceIte,List.getElem?_set,hlen]
   subst hW
   refine zaa fun V hV => ?_
   rw [zaB]
   refine zaa fun W hW => ?_
   simp only [sxZ,z6,z7,z8,j4,j5,j6,j7,j8,j9,x4,x5,x6,x7,x8,x9,reduceCtorEq,↓reduceIte,List.getElem?_set,hlen,t12,t14,kv,List.length_map]
   refine ⟨⟨by omega,by omega,by omega⟩,?_⟩
   subst hW
   simp only [sxZ,z6,z7,z8,j4,j5,j6,j7,j8,j9,x4,x5,x6,x7,x8,x9,reduceCtorEq,↓reduceIte,List.getElem?_set,hlen,t3]
   refine ⟨⟨by omega,by omega⟩,?_⟩
   subst hV
   simp only [sxZ,z6,z7,z8,j4,j5,j6,j7,j8,j9,x4,x5,x6,x7,x8,x9,reduceCtorEq,↓reduceIte,List.getElem?_set,hlen,t1,t12,t13,t14]
   exact ⟨by omega,v.keys.length - (i + 1),by omega,i + 1,b + x.length,by omega,rfl,by omega,by omega,rfl,rfl⟩
  simp only [sxZ,z6,z7,z8,j4,j5,j6,j7,j8,j9,x4,x5,x6,x7,x8,x9,reduceCtorEq,↓reduceIte,List.getElem?_set,hlen,t12,t13,t14,hlt]
  subst hW
  simp only [sxZ,z6,z7,z8,j4,j5,j6,j7,j8,j9,x4,x5,x6,x7,x8,x9,reduceCtorEq,↓reduceIte,List.getElem?_set,hlen]
  have c9:¬ (1048576:Int) < b:=by omega
  subst hZ
  refine za1 (fun tm => tm.length=35 ∧ tm[1]? = some (.p 0 0) ∧ tm[3]? = some (.i .i64 b)) ?_ ?_
  ·simp only [List.length_set,List.getElem?_set,hlen,t1,t3,Nat.reduceEqDiff,if_false,reduceIte,and_self]
  clear hlen t1 t3 t12 t13 t14
  rintro tm ⟨hlen,t1,t3⟩
  refine zaa fun Z hZ => ?_
  simp only [sxZ,z6,z7,z8,j4,j5,j6,j7,j8,j9,x4,x5,x6,x7,x8,x9,reduceCtorEq,↓reduceIte,List.getElem?_set,hlen,t3,c9]
  subst hZ
  refine zaa fun Z hZ => ?_
  refine zaa fun W hW => ?_
  simp only [sxZ,z6,z7,z8,j4,j5,j6,j7,j8,j9,x4,x5,x6,x7,x8,x9,reduceCtorEq,↓reduceIte,List.getElem?_set,hlen,t1]
  subst hW
  rw [zaB]
  refine zaA (fun n o tm => ∃ (i:Nat),i ≤ v.items.length ∧ n=v.items.length - i ∧ tm.length=35 ∧ tm[26]? = some (.row v.items.length (zac v.items)) ∧ tm[27]? = some (.i .i64 (v.items.length:Int)) ∧ tm[28]? = some (.i .i64 (i:Int))) v.items.length ⟨0,Nat.zero_le _,rfl,?_⟩ ?_
  ·simp only [sxZ,z6,z7,z8,j4,j5,j6,j7,j8,j9,x4,x5,x6,x7,x8,x9,reduceCtorEq,↓reduceIte,List.length_set,List.getElem?_set,hlen,Int.cast_ofNat_Int,and_self]
  clear hlen t1 t3
  rintro n o tm ⟨i,hi,rfl,hlen,t26,t27,t28⟩
  refine zaa fun W hW => ?_
  by_cases hlt:(i:Int) < (v.items.length:Int)
  ·have hi':i < v.items.length:=by omega
   have hjc:=zdF hi'
   have hjl:=zax v.items
   have hit:=hv.its hi'
   have hsz:=zaT hi'
   have hsx:=hsi i hi'
   generalize v.items[i]=x at hjc hit hsz hsx
   have hcall:=fun {objs:List OB} {K:List OB → AV → Prop} (h) => ih x (by omega) hit (by omega) hsx (objs:=objs) (K:=K) h
   have hjx:=zaf x
   rw [hjx] at hjc hcall
   simp only [sxZ,z6,z7,z8,j4,j5,j6,j7,j8,j9,x4,x5,x6,x7,x8,x9,reduceCtorEq,↓reduceIte,List.getElem?_set,hlen,t26,t27,t28,hlt]
   subst hW
   refine zaa fun W hW => ?_
   simp only [sxZ,z6,z7,z8,j4,j5,j6,j7,j8,j9,x4,x5,x6,x7,x8,x9,reduceCtorEq,↓reduceIte,List.getElem?_set,hlen]
   subst hW
   refine zaa fun V hV => ?_
   rw [zaB]
   refine zaa fun W hW => ?_
   simp only [sxZ,z6,z7,z8,j4,j5,j6,j7,j8,j9,x4,x5,x6,x7,x8,x9,reduceCtorEq,↓reduceIte,List.getElem?_set,hlen,t26,t28,hjc]
   refine ⟨⟨by omega,by omega,by omega⟩,by omega,?_⟩
   simp only [sxZ,z6,z7,z8,j4,j5,j6,j7,j8,j9,x4,x5,x6,x7,x8,x9,reduceCtorEq,↓reduceIte,List.getElem?_set,hlen,gn1,sn1]
   subst hW
   refine zaa fun W hW => ?_
   simp only [sxZ,z6,z7,z8,j4,j5,j6,j7,j8,j9,x4,x5,x6,x7,x8,x9,reduceCtorEq,↓reduceIte,List.getElem?_set,hlen,gn1]
   refine zak (hcall ?_)
   simp only [sxZ,z6,z7,z8,j4,j5,j6,j7,j8,j9,x4,x5,x6,x7,x8,x9,reduceCtorEq,↓reduceIte,List.getElem?_set,hlen]
   subst hW
   simp only [sxZ,z6,z7,z8,j4,j5,j6,j7,j8,j9,x4,x5,x6,x7,x8,x9,reduceCtorEq,↓reduceIte,List.getElem?_set,hlen]
   subst hV
   simp only [sxZ,z6,z7,z8,j4,j5,j6,j7,j8,j9,x4,x5,x6,x7,x8,x9,reduceCtorEq,↓reduceIte,List.getElem?_set,hlen,t26,t27,t28]
   exact ⟨by omega,v.items.length - (i + 1),by omega,i + 1,by omega,rfl,rfl⟩
  simp only [sxZ,z6,z7,z8,j4,j5,j6,j7,j8,j9,x4,x5,x6,x7,x8,x9,reduceCtorEq,↓reduceIte,List.getElem?_set,hlen,t26,t27,t28,hlt]
  subst hW
  subst hZ
  simp only [sxZ,z6,z7,z8,j4,j5,j6,j7,j8,j9,x4,x5,x6,x7,x8,x9,reduceCtorEq,↓reduceIte,List.getElem?_set,hlen]
  exact hk
end
end
section
attribute [local irreducible] run
def vB14 (X Y:AV):OB:=.box 25 [.i .i64 7,.s [],X,Y]
section
variable [Tabs Tryz.prog] {objs:List OB} {K:List OB → AV → Prop} {L:List (Nat × OB)}
theorem zl5 {X Y:AV} {R1 R2:List (Nat × OB)} (ks:List (List UInt8)) (its:List JV) (key:List UInt8) (hl:its.length=ks.length) (hlen0:ks.length ≤ 10000000) (hX:SlO 9 1 ks.length (ks.map .s) X R1) (hY:SlO 25 4 its.length (zac its) Y R2) (hO:zau (R1 ++ (R2 ++ L)) objs)
  (h1:key ∈ ks → ∀ o w,zau (R1 ++ (R2 ++ L)) o → K o (.tup [.agg (zaj w),.b true])) (h2:¬ key ∈ ks → ∀ o,zau (R1 ++ (R2 ++ L)) o → K o (.tup [.agg [.i .i64 0,.s [],.nil,.nil],.b false])):zae Tryz.prog 31 [.agg [.i .i64 7,.s [],X,Y],.s key] objs K:=by
 refine zcr is_ref14_Get fun C _ => ?_
 rw [c_ref14_Get]
 have hO2:=(hO.new (vB14 X Y)).new zvB
 unfold vB14 zvB at hO2
 refine zaa fun Z hZ => ?_
 have flatX:X.flat=true:=by rcases hX with ⟨_,_,rfl,_⟩ | ⟨_,_,rfl,_⟩ <;> rfl
 have flatY:Y.flat=true:=by rcases hY with ⟨_,_,rfl,_⟩ | ⟨_,_,rfl,_⟩ <;> rfl
 have flatV:(AV.agg [.i .i64 7,.s [],X,Y]).flat=true:=by
  rcases hX with ⟨_,_,rfl,_⟩ | ⟨_,_,rfl,_⟩ <;> rcases hY with ⟨_,_,rfl,_⟩ | ⟨_,_,rfl,_⟩ <;> rfl
 simp only [sxZ,z6,z7,z8,j4,j5,j6,j7,j8,j9,x4,x5,x6,x7,x8,x9,reduceCtorEq,↓reduceIte,flatV]
 have elen:(objs ++ [OB.box 25 [.i .i64 7,.s [],X,Y]]).length=objs.length + 1:=by simp
 rw [elen] at hO2
 generalize objs.length=qv at hO2 ⊢
 generalize objs ++ [OB.box 25 [.i .i64 7,.s [],X,Y]] ++ [OB.box 25 [.i .i64 0,.s [],.nil,.nil]]=o at hO2 ⊢
 have e0:=hO2.get (i:=qv) (x:=.box 25 [.i .i64 7,.s [],X,Y]) (by simp)
 have e1:=hO2.get (i:=qv + 1) (x:=.box 25 [.i .i64 0,.s [],.nil,.nil]) (by simp)
 have gs:∀ x,(o.set (qv + 1) x)[qv + 1]? = some x:=fun x => List.getElem?_set_self (hO2.lt (i:=qv + 1) (x:=.box 25 [.i .i64 0,.s [],.nil,.nil]) (by simp))
 have fin:∀ x,zau (R1 ++ (R2 ++ L)) (o.set (qv + 1) x):=fun x => (zau.set (A:=[]) x hO2).sub ((List.sublist_cons_self _ _).trans (List.sublist_cons_self _ _))
 subst hZ
 refine zaa fun Z hZ => ?_
 simp only [sxZ,z6,z7,z8,j4,j5,j6,j7,j8,j9,x4,x5,x6,x7,x8,x9,reduceCtorEq,↓reduceIte,e0,decide_true,Bool.not_true]
 subst hZ
 refine zaa fun Z hZ => ?_
 refine zaa fun W hW => ?_
 refine zav (fun o' tm => o=o' ∧ tm.length=38 ∧ tm[1]? = some (.s key) ∧ tm[2]? = some (.p qv 0) ∧ tm[4]? = some (.p (qv + 1) 0) ∧ tm[13]? = some (.i .i64 (ks.length:Int)) ∧ tm[14]? = some (.i .i64 0)) ?_ ?_
 ·rcases id hX with ⟨z1,z2,rfl,_⟩ | ⟨b1,g1,rfl,rfl⟩
  ·simp only [sxZ,z6,z7,z8,j4,j5,j6,j7,j8,j9,x4,x5,x6,x7,x8,x9,reduceCtorEq,↓reduceIte,zab,e0,z1,Int.cast_ofNat_Int,and_self]
  ·have eb1:=hO2.get (i:=b1) (x:=.orow 9 1 g1 ks.length (ks.map .s)) (by simp)
   simp only [sxZ,z6,z7,z8,j4,j5,j6,j7,j8,j9,x4,x5,x6,x7,x8,x9,reduceCtorEq,↓reduceIte,zab,e0,eb1,and_self]
 rintro _ tm ⟨rfl,hlen,t1,t2,t4,t13,t14⟩
 subst hW
 rw [zaB]
 refine zaA (fun n o' tm => ∃ i:Nat,i ≤ ks.length ∧ n=ks.length - i ∧ o=o' ∧ (∀ j,j < i → ks[j]? ≠ some key) ∧ tm.length=38 ∧ tm[1]? = some (.s key) ∧ tm[2]? = some (.p qv 0) ∧ tm[4]? = some (.p (qv + 1) 0) ∧ tm[13]? = some (.i .i64 (ks.length:Int)) ∧ tm[14]? = some (.i .i64 (i:Int))) ks.length ⟨0,Nat.zero_le _,rfl,rfl,fun j h => by omega,hlen,t1,t2,t4,t13,t14⟩ ?_
 clear hlen t1 t2 t4 t13 t14
 rintro n _ tm ⟨i,hi,rfl,rfl,hall,hlen,t1,t2,t4,t13,t14⟩
 refine zaa fun W hW => ?_
 by_cases hlt:(i:Int) < (ks.length:Int)
 ·have hi':i < ks.length:=by omega
  have hi2:i < its.length:=by omega
  rcases hX with ⟨z1,_⟩ | ⟨b1,g1,rfl,rfl⟩
  ·omega
  rcases hY with ⟨z1,_⟩ | ⟨b2,g2,rfl,rfl⟩
  ·omega
  have eb1:=hO2.get (i:=b1) (x:=.orow 9 1 g1 ks.length (ks.map .s)) (by simp)
  have eb2:=hO2.get (i:=b2) (x:=.orow 25 4 g2 its.length (zac its)) (by simp)
  have kv:(ks.map AV.s)[i * 1]? = some (.s ks[i]):=by rw [Nat.mul_one,List.getElem?_map,List.getElem?_eq_getElem hi']; rfl
  have kv2:ks[i]? = some ks[i]:=List.getElem?_eq_getElem hi'
  have kv3:ks[i] ∈ ks:=List.getElem_mem hi'
  generalize ks[i]=x at kv kv2 kv3
  simp only [sxZ,z6,z7,z8,j4,j5,j6,j7,j8,j9,x4,x5,x6,x7,x8,x9,reduceCtorEq,↓reduceIte,List.getElem?_set,hlen,t1,t2,t4,t13,t14,hlt]
  subst hW
  refine zaa fun W hW => ?_
  simp only [sxZ,z6,z7,z8,j4,j5,j6,j7,j8,j9,x4,x5,x6,x7,x8,x9,reduceCtorEq,↓reduceIte,List.getElem?_set,hlen]
  subst hW
  refine zaa fun V hV => ?_
  rw [zaB]
  refine zaa fun W hW => ?_
  simp only [sxZ,z6,z7,z8,j4,j5,j6,j7,j8,j9,x4,x5,x6,x7,x8,x9,reduceCtorEq,↓reduceIte,List.getElem?_set,hlen,t14]
  subst hW
  refine zaa fun W hW => ?_
  by_cases c2:x=key
  ·have hlt2:(i:Int) < (its.length:Int):=by omega
   have jv:=zdF hi2
   have jvl:=zax its
   have hw:=fun o ho => h1 (by rw [← c2]; exact kv3) o its[i] ho
   have hq:=zaf its[i]
   rw [hq] at jv
   simp only [sxZ,z6,z7,z8,j4,j5,j6,j7,j8,j9,x4,x5,x6,x7,x8,x9,reduceCtorEq,↓reduceIte,List.getElem?_set,hlen,t1,t2,e0,eb1,eb2,kv,List.length_map,c2,hlt2,decide_true]
   refine ⟨⟨by omega,by omega⟩,?_⟩
   subst hW
   simp only [sxZ,z6,z7,z8,j4,j5,j6,j7,j8,j9,x4,x5,x6,x7,x8,x9,reduceCtorEq,↓reduceIte,List.getElem?_set,hlen,t1,t2,t4,e0,e1,eb2,jv,gs]
   refine ⟨⟨by omega,by omega⟩,by omega,?_⟩
   rw [← hq]
   exact hw _ (fin _)
  ·simp only [sxZ,z6,z7,z8,j4,j5,j6,j7,j8,j9,x4,x5,x6,x7,x8,x9,reduceCtorEq,↓reduceIte,List.getElem?_set,hlen,t1,t2,e0,eb1,kv,List.length_map,c2,decide_false]
   refine ⟨⟨by omega,by omega⟩,?_⟩
   subst hW
   simp only [sxZ,z6,z7,z8,j4,j5,j6,j7,j8,j9,x4,x5,x6,x7,x8,x9,reduceCtorEq,↓reduceIte,List.getElem?_set,hlen,t1,t2,t4]
   subst hV
   simp only [sxZ,z6,z7,z8,j4,j5,j6,j7,j8,j9,x4,x5,x6,x7,x8,x9,reduceCtorEq,↓reduceIte,List.getElem?_set,hlen,t1,t2,t4,t13,t14]
   refine ⟨by omega,ks.length - (i + 1),by omega,i + 1,by omega,rfl,fun j hj => ?_,rfl⟩
   by_cases e:j=i
   ·subst e
    rw [kv2]; intro h; injection h with h; exact c2 h
   ·exact hall j (by omega)
 simp only [sxZ,z6,z7,z8,j4,j5,j6,j7,j8,j9,x4,x5,x6,x7,x8,x9,reduceCtorEq,↓reduceIte,List.getElem?_set,hlen,t1,t2,t4,t13,t14,hlt]
 subst hW
 subst hZ
 simp only [sxZ,z6,z7,z8,j4,j5,j6,j7,j8,j9,x4,x5,x6,x7,x8,x9,reduceCtorEq,↓reduceIte,List.getElem?_set,hlen,t1,t2,t4,t13,t14,hlt,e1,gs]
 refine h2 (fun h => ?_) _ (fin _)
 obtain ⟨j,hj⟩:=List.mem_iff_getElem?.1 h
 exact hall j (by have:=(List.getElem?_eq_some_iff.1 hj).1; omega) hj
end
end
section
attribute [local irreducible] run
theorem ziC {i:Nat} {T T':Nat} {cs cs':List AV} {L:List (Nat × OB)} (h:zaE ((i,.box T cs) :: L)) (hp:zaq cs'=true):zaE ((i,.box T' cs') :: L):=by
 intro y hy b g n xs hb
 rcases List.mem_cons.1 hy with rfl | hy
 ·show OB.box T' _=_; rw [zdO hp]
 ·exact h y (List.mem_cons_of_mem _ hy) b g n xs fun y hy => by
   rcases List.mem_cons.1 hy with rfl | hy
   ·exact hb (i,.box T' cs') (by simp)
   ·exact hb y (List.mem_cons_of_mem _ hy)
theorem ze3 {p:Nat} {s:List UInt8} {ρ ρ':Rs} {L:List (Nat × OB)} (h:zaE ((p,zaD s ρ) :: L)):zaE ((p,zaD s ρ') :: L):=ziC h rfl
theorem zfG {E1 s1 n1 E2 s2 n2:Nat} {x1 x2:List AV} {X Y:AV} {R1 R2 L:List (Nat × OB)} {p qt qv qr:Nat} {s:List UInt8} {ρ ρ':Rs} {T:Tk} {k:Int} (h1:SlO E1 s1 n1 x1 X R1) (h2:SlO E2 s2 n2 x2 Y R2) (h:zaE ((p,zaD s ρ) :: L)):zaE ((p,zaD s ρ') :: (qt,zaN T) :: (qv,jvB k X Y) :: (qr,zvB) :: (R1 ++ (R2 ++ L))):=by
 intro y hy b g m ys hb
 simp only [List.mem_cons,List.mem_append] at hy
 rcases hy with rfl | rfl | rfl | rfl | hy | hy | hy
 ·exact congrArg (OB.box _) (zdO rfl)
 ·exact congrArg (OB.box _) (zdO rfl)
 ·have q1:=zhZ h1 (b:=b) (g:=g) (m:=m) (ys:=ys) fun y hy => hb y (by simp [hy])
  have q2:=zhZ h2 (b:=b) (g:=g) (m:=m) (ys:=ys) fun y hy => hb y (by simp [hy])
  show OB.box _ _=_
  simp only [List.map_cons,List.map_nil,q1,q2]
  rfl
 ·exact congrArg (OB.box _) (zdO rfl)
 ·rcases h1 with ⟨_,_,_,rfl⟩ | ⟨b',g',_,rfl⟩
  ·cases hy
  ·simp only [List.mem_cons,List.not_mem_nil,or_false] at hy
   subst hy; rfl
 ·rcases h2 with ⟨_,_,_,rfl⟩ | ⟨b',g',_,rfl⟩
  ·cases hy
  ·simp only [List.mem_cons,List.not_mem_nil,or_false] at hy
   subst hy; rfl
 ·refine h y (List.mem_cons_of_mem _ hy) b g m ys fun z hz => ?_
  rcases List.mem_cons.1 hz with rfl | hz
  ·exact hb (p,zaD s ρ') (by simp)
  ·exact hb z (by simp [hz])
section
variable [Tabs Tryz.prog] [Utf Tryz.prog] {objs:List OB} {K:List OB → AV → Prop} {L:List (Nat × OB)} {p:Nat} {s:List UInt8} {ρ:Rs}
def ValK (s:List UInt8) (p:Nat) (d:Nat) (val:Rs → Tk → JV × Rs):Prop :=
 ∀ {objs:List OB} {K:List OB → AV → Prop} {L:List (Nat × OB)} {ρ:Rs} (t:Tk),GB s ρ → GT ρ t → t.2.1.length ≤ s.length → zaE ((p,zaD s ρ) :: L) → zau ((p,zaD s ρ) :: L) objs → (∀ o,zau ((p,zaD s (val ρ t).2) :: L) o → K o (.agg (zaj (val ρ t).1))) → zae Tryz.prog 28 [.p p 0,zgH t,.i .i64 (d:Int)] objs K
omit [Tabs Tryz.prog] [Utf Tryz.prog] in
theorem zbt (h:GB s ρ):(zan s ρ).1.2.1.length ≤ s.length:=by
 unfold zan
 split
 ·exact Nat.zero_le _
 split
 ·exact Nat.zero_le _
 ·rename_i h1 h2
  have:=zjl (s:=s) h.p0 (by simpa using h2)
  exact this.2.1
theorem array_k {val:Rs → Tk → JV × Rs} {d:Nat} (hv:ValK s p d val) (hg:GV s val) (hn:∀ ρ t,(val ρ t).2.fail=0 → ρ.nodes + 1 ≤ (val ρ t).2.nodes) (hs:s.length ≤ 1048576) (hB:GB s ρ) (hC:zaE ((p,zaD s ρ) :: L)) (hO:zau ((p,zaD s ρ) :: L) objs)
  (hk:∀ o,zau ((p,zaD s (zf2 s val ρ).2) :: L) o → K o (.agg (zaj (zf2 s val ρ).1))):zae Tryz.prog 50 [.p p 0,.i .i64 (d:Int)] objs K:=by
 refine zl3 (E1:=9) (s1:=1) (E2:=25) (s2:=4) (zf2 s val ρ).1 (ze3 hC) hk ?_
 refine zcr is_ref14_parser_array fun C _ => ?_
 have fin:∀ {o:List OB} {ρ':Rs} {acc:List JV} {X:AV} {R:List (Nat × OB)} {qt qv qr:Nat} {T V W:OB},zf2 s val ρ=(.mk 6 [] [] acc,ρ') → SlO 25 4 acc.length (zac acc) X R → zau ((p,zaD s ρ') :: (qt,T) :: (qv,V) :: (qr,W) :: (R ++ L)) o →
   ∃ X' R1 Y R2,SlO 9 1 (zf2 s val ρ).1.keys.length ((zf2 s val ρ).1.keys.map .s) X' R1 ∧ SlO 25 4 (zf2 s val ρ).1.items.length (zac (zf2 s val ρ).1.items) Y R2 ∧ zau ((p,zaD s (zf2 s val ρ).2) :: (R1 ++ (R2 ++ L))) (o.set qr (jvB 6 .nil X)) ∧ AV.agg [.i .i64 6,.s [],.nil,X]=.agg [.i .i64 (zf2 s val ρ).1.kind,.s (zf2 s val ρ).1.text,X',Y]:=by
  intro o ρ' acc X R qt qv qr T V W he hS hO
  rw [he]
  refine ⟨.nil,[],X,R,.inl ⟨rfl,rfl,rfl,rfl⟩,hS,?_,rfl⟩
  exact (zau.set (A:=[(p,zaD s ρ'),(qt,T),(qv,V)]) (jvB 6 .nil X) hO).sub ((((List.sublist_cons_self _ _).trans (List.sublist_cons_self _ _)).trans (List.sublist_cons_self _ _)).cons_cons _)
 rw [c_ref14_parser_array]
 refine zaa fun Y hY => ?_
 simp only [sxZ,z6,z7,z8,j4,j5,j6,j7,j8,j9,x4,x5,x6,x7,x8,x9,reduceCtorEq,↓reduceIte]
 have hO1:=hO.new zvB
 unfold zvB at hO1
 generalize hqr:objs.length=qr at hO1 ⊢
 generalize objs ++ [OB.box 25 [.i .i64 0,.s [],.nil,.nil]]=o1 at hO1 ⊢
 subst hY
 refine zaa fun Y hY => ?_
 simp only [sxZ,z6,z7,z8,j4,j5,j6,j7,j8,j9,x4,x5,x6,x7,x8,x9,reduceCtorEq,↓reduceIte,gn1,sn1]
 have hO2:=hO1.new (jvB 6 .nil .nil)
 unfold jvB at hO2
 generalize hqv:o1.length=qv at hO2 ⊢
 generalize o1 ++ [OB.box 25 [.i .i64 6,.s [],.nil,.nil]]=o2 at hO2 ⊢
 subst hY
 refine zaa fun Y hY => ?_
 simp only [sxZ,z6,z7,z8,j4,j5,j6,j7,j8,j9,x4,x5,x6,x7,x8,x9,reduceCtorEq,↓reduceIte]
 have hO2':zau ((p,zaD s ρ) :: (qv,jvB 6 .nil .nil) :: (qr,zvB) :: L) o2:=hO2.perm ((List.Perm.cons _ (List.Perm.swap _ _ _)).trans (List.Perm.swap _ _ _))
 refine zak (zce (by omega) hO2' fun o3 hO3 => ?_)
 have hB1:=za8 hB
 have hT1:=zbt hB
 have hrarr:zf2 s val ρ=if isP (zan s ρ).1 93=true then (.mk 6 [] [] [],(zan s ρ).2) else (.mk 6 [] [] (zdn s val (s.length + 2) (zan s ρ).2 (zan s ρ).1 []).1,(zdn s val (s.length + 2) (zan s ρ).2 (zan s ρ).1 []).2):=rfl
 have hn0:=za0 s ρ
 generalize zan s ρ=N at hO3 hB1 hT1 hrarr hn0 ⊢
 obtain ⟨T,ρ1⟩:=N
 simp only at hO3 hB1 hT1 hrarr hn0 ⊢
 unfold zgH tkC
 simp only [sxZ,z6,z7,z8,j4,j5,j6,j7,j8,j9,x4,x5,x6,x7,x8,x9,reduceCtorEq,↓reduceIte,gn1,sn1]
 have f1:∀ x y z,OB.box 54 [.i .i64 x,.s y,.i .i64 z]=zaN (x,y,z):=fun _ _ _ => rfl
 rw [f1]
 have hO4:=hO3.new (zaN T)
 have hO4:zau ((p,zaD s ρ1) :: (o3.length,zaN T) :: (qv,jvB 6 .nil .nil) :: (qr,zvB) :: ([] ++ L)) (o3 ++ [zaN T]):=hO4.perm (List.Perm.swap _ _ _)
 generalize o3.length=qt at hO4 ⊢
 generalize o3 ++ [zaN (T.1,T.2.1,T.2.2)]=o4 at hO4 ⊢
 have st:∀ (o:List OB) (ρ':Rs) (T':Tk) (X:AV) (R:List (Nat × OB)),zau ((p,zaD s ρ') :: (qt,zaN T') :: (qv,jvB 6 .nil X) :: (qr,zvB) :: (R ++ L)) o → o[p]? = some (.box 51 [.s s,.i .i64 ρ'.pos,.i .i64 (ρ'.nodes:Int),.i .i64 ρ'.fail,.i .i64 ρ'.wh]) ∧ o[qt]? = some (.box 54 [.i .i64 T'.1,.s T'.2.1,.i .i64 T'.2.2]) ∧ o[qv]? = some (.box 25 [.i .i64 6,.s [],.nil,X]) ∧ o[qr]? = some (.box 25 [.i .i64 0,.s [],.nil,.nil]) ∧ (∀ x,(o.set qr x)[qr]? = some x) ∧ (∀ x,(o.set qt x)[qt]? = some x) ∧ (∀ x,(o.set qv x)[qv]? = some x) :=
  fun o ρ' T' X R h => ⟨h.get (by simp [zaD]),h.get (by simp [zaN,tkC]),h.get (by simp [jvB]),h.get (by simp [zvB]),fun x => List.getElem?_set_self (h.lt (i:=qr) (x:=zvB) (by simp)),fun x => List.getElem?_set_self (h.lt (i:=qt) (x:=zaN T') (by simp)),fun x => List.getElem?_set_self (h.lt (i:=qv) (x:=jvB 6 .nil X) (by simp))⟩
 subst hY
 refine zaa fun Y hY => ?_
 obtain ⟨e1,e2,e3,e4,s1,s2,s3⟩:=st _ _ _ _ _ hO4
 simp only [sxZ,z6,z7,z8,j4,j5,j6,j7,j8,j9,x4,x5,x6,x7,x8,x9,reduceCtorEq,↓reduceIte,e2]
 refine zak (zeM T 93 ?_)
 cases hcl:isP T 93 with
 | true =>
  rw [hcl,if_pos rfl] at hrarr
  simp only [sxZ,z6,z7,z8,j4,j5,j6,j7,j8,j9,x4,x5,x6,x7,x8,x9,reduceCtorEq,↓reduceIte,e3,e4,s1]
  exact fin hrarr (.inl ⟨rfl,by rw [zas],rfl,rfl⟩) hO4
 | false =>
  rw [hcl,if_neg Bool.false_ne_true] at hrarr
  simp only [sxZ,z6,z7,z8,j4,j5,j6,j7,j8,j9,x4,x5,x6,x7,x8,x9,reduceCtorEq,↓reduceIte]
  subst hY
  refine zaa fun Y hY => ?_
  clear e1 e2 e3 e4 s1 s2 s3
  have last:∀ (o:List OB) (ρ':Rs) (T':Tk) (acc:List JV) (X:AV) (R:List (Nat × OB)) (tm:List AV),zf2 s val ρ=(.mk 6 [] [] acc,ρ') → SlO 25 4 acc.length (zac acc) X R → zau ((p,zaD s ρ') :: (qt,zaN T') :: (qv,jvB 6 .nil X) :: (qr,zvB) :: (R ++ L)) o → True:=fun _ _ _ _ _ _ _ _ _ _ => trivial
  simp only [sxZ,z6,z7,z8,j4,j5,j6,j7,j8,j9,x4,x5,x6,x7,x8,x9,reduceCtorEq,↓reduceIte]
  refine zaA (fun n o tm => ∃ (i:Nat) (ρ':Rs) (T':Tk) (acc:List JV) (X:AV) (R:List (Nat × OB)),n=s.length + 2 - i ∧ acc.length=i ∧ zf2 s val ρ=(.mk 6 [] [] (zdn s val n ρ' T' acc).1,(zdn s val n ρ' T' acc).2) ∧ GB s ρ' ∧ GT ρ' T' ∧ T'.2.1.length ≤ s.length ∧ (ρ'.fail=0 → i ≤ ρ'.nodes) ∧ SlO 25 4 acc.length (zac acc) X R ∧ zau ((p,zaD s ρ') :: (qt,zaN T') :: (qv,jvB 6 .nil X) :: (qr,zvB) :: (R ++ L)) o ∧
    tm.length=49 ∧ tm[0]? = some (.p p 0) ∧ tm[1]? = some (.i .i64 (d:Int)) ∧ tm[4]? = some (.p qr 0) ∧ tm[5]? = some (.p qv 0) ∧ tm[6]? = some (.p qt 0)) (s.length + 2) ⟨0,ρ1,T,[],.nil,[],rfl,rfl,hrarr,hB1.1,hB1.2,hT1,fun _ => Nat.zero_le _,.inl ⟨rfl,by rw [zas],rfl,rfl⟩,hO4,rfl,rfl,rfl,rfl,rfl,rfl⟩ ?_
  clear hO hO1 hO2 hO2' hO3 hO4 hrarr hB1 hT1 hcl hn0
  rintro n o tm ⟨i,ρ',T',acc,X,R,rfl,hi,hrarr,hGB,hGT,hTx,hnd,hS,hO,hlen,t0,t1,t4,t5,t6⟩
  obtain ⟨e1,e2,e3,e4,s1,s2,s3⟩:=st _ _ _ _ _ hO
  refine zaa fun Z hZ => ?_
  by_cases c1:ρ'.fail=0
  rotate_left
  ·have he:zdn s val (s.length + 2 - i) ρ' T' acc=(acc,ρ'):=by
    cases s.length + 2 - i with
    | zero => rw [zdn]
    | succ m => rw [zdn,if_pos c1]
   rw [he] at hrarr
   simp only [sxZ,z6,z7,z8,j4,j5,j6,j7,j8,j9,x4,x5,x6,x7,x8,x9,reduceCtorEq,↓reduceIte,List.getElem?_set,hlen,t0,e1,c1]
   subst hZ
   subst hY
   simp only [sxZ,z6,z7,z8,j4,j5,j6,j7,j8,j9,x4,x5,x6,x7,x8,x9,reduceCtorEq,↓reduceIte,List.getElem?_set,hlen,t4,t5,e3,e4,s1]
   exact fin hrarr hS hO
  have hil:i ≤ s.length:=by
   have h1:=hnd c1
   have h2:=hGB.n0 c1
   have h3:=hGB.p1
   omega
  obtain ⟨m,hm⟩:∃ m,s.length + 2 - i=m + 1:=⟨s.length + 1 - i,by omega⟩
  rw [hm,zdn,if_neg (fun h => h c1)] at hrarr
  simp only at hrarr
  simp only [sxZ,z6,z7,z8,j4,j5,j6,j7,j8,j9,x4,x5,x6,x7,x8,x9,reduceCtorEq,↓reduceIte,List.getElem?_set,hlen,t0,e1,c1]
  subst hZ
  rw [zaB]
  refine zaa fun Z hZ => ?_
  have hvc:=fun {objs:List OB} {K:List OB → AV → Prop} {L:List (Nat × OB)} (h1) (h2) (h3) => hv (objs:=objs) (K:=K) (L:=L) (ρ:=ρ') T' hGB hGT hTx h1 h2 h3
  have hg1:=hg ρ' T' hGB hGT
  have hn1:=hn ρ' T'
  generalize val ρ' T'=a at hvc hg1 hn1 hrarr
  obtain ⟨v,ρ2⟩:=a
  simp only at hvc hg1 hn1 hrarr
  obtain ⟨c0,c1',c2,c3,hcv⟩:∃ c0 c1 c2 c3,zaj v=[c0,c1,c2,c3]:=⟨_,_,_,_,zaf v⟩
  have hCL:zaE ((p,zaD s ρ') :: (qt,zaN T') :: (qv,jvB 6 .nil X) :: (qr,zvB) :: (R ++ L)):=zfG (E1:=0) (s1:=0) (R1:=[]) (.inl ⟨rfl,rfl,rfl,rfl⟩) hS hC
  refine zav (fun o tm => ∃ X' R',SlO 25 4 (acc ++ [v]).length (zac (acc ++ [v])) X' R' ∧ zau ((p,zaD s ρ2) :: (qt,zaN T') :: (qv,jvB 6 .nil X') :: (qr,zvB) :: (R' ++ L)) o ∧ tm.length=49 ∧ tm[0]? = some (.p p 0) ∧ tm[1]? = some (.i .i64 (d:Int)) ∧ tm[4]? = some (.p qr 0) ∧ tm[5]? = some (.p qv 0) ∧ tm[6]? = some (.p qt 0)) ?_ ?_
  ·simp only [sxZ,z6,z7,z8,j4,j5,j6,j7,j8,j9,x4,x5,x6,x7,x8,x9,reduceCtorEq,↓reduceIte,List.getElem?_set,hlen,t0,t1,t5,t6,e2,e3]
   refine zak (hvc hCL hO fun o2 hO2 => ?_)
   obtain ⟨e1',e2',e3',e4',s1',s2',s3'⟩:=st _ _ _ _ _ hO2
   rw [hcv]
   rcases hS with ⟨z1,z2,rfl,rfl⟩ | ⟨b,g,rfl,rfl⟩
   ·have a0:acc=[]:=List.eq_nil_of_length_eq_zero z1
    have hlt:=hO2.lt (i:=qv) (x:=jvB 6 .nil .nil) (by simp)
    have hne:¬ o2.length=qv:=by omega
    have gx:∀ x,(o2 ++ [x])[qv]? = some (.box 25 [.i .i64 6,.s [],.nil,.nil]):=fun x => by rw [List.getElem?_append_left hlt]; exact e3'
    simp only [sxZ,z6,z7,z8,j4,j5,j6,j7,j8,j9,x4,x5,x6,x7,x8,x9,reduceCtorEq,↓reduceIte,List.getElem?_set,hlen,t0,t1,t5,t6,e2',e3',gn1,sn1,gx,hne,zab,List.length_set,t4,and_self,and_true]
    have hN:=hO2.new (.orow 25 4 0 1 [c0,c1',c2,c3])
    have hR:=hN.set (A:=[(o2.length,OB.orow 25 4 0 1 [c0,c1',c2,c3]),(p,zaD s ρ2),(qt,zaN T')]) (jvB 6 .nil (.orow o2.length 0))
    refine ⟨_,[(o2.length,.orow 25 4 0 1 [c0,c1',c2,c3])],.inr ⟨_,_,rfl,by rw [a0,List.nil_append,zaw,zas,hcv]; rfl⟩,hR.perm ?_⟩
    exact List.perm_middle (l₁:=[(p,zaD s ρ2),(qt,zaN T'),(qv,jvB 6 .nil (.orow o2.length 0)),(qr,zvB)]).symm
   ·have e5:=hO2.get (i:=b) (x:=.orow 25 4 g acc.length (zac acc)) (by simp)
    have hlt:=hO2.lt (i:=qv) (x:=jvB 6 .nil (.orow b g)) (by simp)
    have hlt4:=hO2.lt (i:=b) (x:=.orow 25 4 g acc.length (zac acc)) (by simp)
    have hne:¬ b=qv:=by
     intro h
     have:=hO2.1
     simp only [List.map_cons,List.map_append,List.nodup_cons] at this
     exact this.2.2.1 (by simp [h])
    have gs:∀ x,(o2.set b x)[b]? = some x:=fun x => List.getElem?_set_self hlt4
    have gx:∀ x,(o2.set b x)[qv]? = some (.box 25 [.i .i64 6,.s [],.nil,.orow b g]):=fun x => by rw [List.getElem?_set_ne hne]; exact e3'
    have hjl:=zax acc
    simp only [sxZ,z6,z7,z8,j4,j5,j6,j7,j8,j9,x4,x5,x6,x7,x8,x9,reduceCtorEq,↓reduceIte,List.getElem?_set,hlen,t0,t1,t5,t6,e2',e3',e5,gs,gx,hne,zab,List.length_set,t4,and_self,and_true]
    refine ⟨⟨by omega,by omega⟩,?_⟩
    have hN:=hO2.set (A:=[(p,zaD s ρ2),(qt,zaN T'),(qv,jvB 6 .nil (.orow b g)),(qr,zvB)]) (.orow 25 4 (g + 1) (acc.length + 1) (zac acc ++ [c0,c1',c2,c3]))
    have hR:=hN.set (A:=[(p,zaD s ρ2),(qt,zaN T')]) (jvB 6 .nil (.orow b (g + 1)))
    exact ⟨_,[(b,.orow 25 4 (g + 1) (acc.length + 1) (zac acc ++ [c0,c1',c2,c3]))],.inr ⟨_,_,rfl,by rw [zbW,zaw,zas,hcv]; rfl⟩,hR⟩
  ·clear hO hS hlen t0 t1 t4 t5 t6 e1 e2 e3 e4 s1 s2 s3 hCL hvc hv hg hn
   rintro o5 tm ⟨X',R',hS,hO5,hlen,t0,t1,t4,t5,t6⟩
   subst hZ
   refine zaa fun Z hZ => ?_
   simp only [sxZ,z6,z7,z8,j4,j5,j6,j7,j8,j9,x4,x5,x6,x7,x8,x9,reduceCtorEq,↓reduceIte,List.getElem?_set,hlen,t0]
   refine zak (zce (by omega) hO5 fun o6 hO6 => ?_)
   have hB2:=za8 hg1
   have hT2:=zbt hg1
   have hn2:=za0 s ρ2
   have hfz:=zbO s ρ2
   generalize zan s ρ2=N at hO6 hB2 hT2 hn2 hfz hrarr ⊢
   obtain ⟨T2,ρ3⟩:=N
   simp only at hO6 hB2 hT2 hn2 hfz hrarr ⊢
   obtain ⟨e1,e2,e3,e4,s1,s2,s3⟩:=st _ _ _ _ _ hO6
   unfold zgH tkC
   simp only [sxZ,z6,z7,z8,j4,j5,j6,j7,j8,j9,x4,x5,x6,x7,x8,x9,reduceCtorEq,↓reduceIte,List.getElem?_set,hlen,t6,e2,s2]
   rw [f1]
   have hO7:=zau.set (A:=[(p,zaD s ρ3)]) (zaN T2) hO6
   have hO7:zau ((p,zaD s ρ3) :: (qt,zaN T2) :: (qv,jvB 6 .nil X') :: (qr,zvB) :: (R' ++ L)) (o6.set qt (zaN (T2.1,T2.2.1,T2.2.2))):=hO7
   generalize o6.set qt (zaN (T2.1,T2.2.1,T2.2.2))=o7 at hO7 ⊢
   refine za1 (fun t => t.length=49 ∧ t[0]? = some (.p p 0) ∧ t[1]? = some (.i .i64 (d:Int)) ∧ t[4]? = some (.p qr 0) ∧ t[5]? = some (.p qv 0) ∧ t[6]? = some (.p qt 0)) ?_ ?_
   ·simp only [sxZ,z6,z7,z8,j4,j5,j6,j7,j8,j9,x4,x5,x6,x7,x8,x9,reduceCtorEq,↓reduceIte,List.length_set,List.getElem?_set,hlen,t0,t1,t4,t5,t6,and_self]
   clear hO6 hO5 hlen t0 t1 t4 t5 t6 e1 e2 e3 e4 s1 s2 s3
   rintro tm ⟨hlen,t0,t1,t4,t5,t6⟩
   obtain ⟨e1,e2,e3,e4,s1,s2,s3⟩:=st _ _ _ _ _ hO7
   subst hZ
   refine zaa fun Z hZ => ?_
   simp only [sxZ,z6,z7,z8,j4,j5,j6,j7,j8,j9,x4,x5,x6,x7,x8,x9,reduceCtorEq,↓reduceIte,List.getElem?_set,hlen,t6,e2]
   refine zak (zeM T2 93 ?_)
   cases hcl:isP T2 93 with
   | true =>
    rw [hcl,if_pos rfl] at hrarr
    simp only [sxZ,z6,z7,z8,j4,j5,j6,j7,j8,j9,x4,x5,x6,x7,x8,x9,reduceCtorEq,↓reduceIte,List.getElem?_set,hlen,t4,t5,e3,e4,s1]
    exact fin hrarr hS hO7
   | false =>
    rw [hcl,if_neg Bool.false_ne_true] at hrarr
    simp only [sxZ,z6,z7,z8,j4,j5,j6,j7,j8,j9,x4,x5,x6,x7,x8,x9,reduceCtorEq,↓reduceIte,List.getElem?_set,hlen]
    subst hZ
    refine zaa fun Z hZ => ?_
    refine zav (fun o tm => zau ((p,zaD s (zaU ρ3 T2 44)) :: (qt,zaN T2) :: (qv,jvB 6 .nil X') :: (qr,zvB) :: (R' ++ L)) o ∧ tm.length=49 ∧ tm[0]? = some (.p p 0) ∧ tm[1]? = some (.i .i64 (d:Int)) ∧ tm[4]? = some (.p qr 0) ∧ tm[5]? = some (.p qv 0) ∧ tm[6]? = some (.p qt 0)) ?_ ?_
    ·refine zaa fun W hW => ?_
     by_cases c3:ρ3.fail=0
     rotate_left
     ·have hw:zaU ρ3 T2 44=ρ3:=by unfold zaU; rw [if_neg (fun h => c3 h.1)]
      simp only [sxZ,z6,z7,z8,j4,j5,j6,j7,j8,j9,x4,x5,x6,x7,x8,x9,reduceCtorEq,↓reduceIte,List.getElem?_set,hlen,t0,e1,c3]
      subst hW
      simp only [sxZ,z6,z7,z8,j4,j5,j6,j7,j8,j9,x4,x5,x6,x7,x8,x9,reduceCtorEq,↓reduceIte,zab,List.length_set,List.getElem?_set,hlen,t0,t1,t4,t5,t6,hw,and_self,and_true]
      exact hO7
     ·simp only [sxZ,z6,z7,z8,j4,j5,j6,j7,j8,j9,x4,x5,x6,x7,x8,x9,reduceCtorEq,↓reduceIte,List.getElem?_set,hlen,t0,t6,e1,e2,c3]
      refine zak (zeM T2 44 ?_)
      cases h44:isP T2 44 with
      | true =>
       have hw:zaU ρ3 T2 44=ρ3:=by unfold zaU; rw [if_neg (fun h => by rw [h44] at h; cases h.2)]
       simp only [sxZ,z6,z7,z8,j4,j5,j6,j7,j8,j9,x4,x5,x6,x7,x8,x9,reduceCtorEq,↓reduceIte,List.getElem?_set,hlen]
       subst hW
       simp only [sxZ,z6,z7,z8,j4,j5,j6,j7,j8,j9,x4,x5,x6,x7,x8,x9,reduceCtorEq,↓reduceIte,zab,List.length_set,List.getElem?_set,hlen,t0,t1,t4,t5,t6,hw,and_self,and_true]
       exact hO7
      | false =>
       have hw:zaU ρ3 T2 44=zaO ρ3 T2.2.2 140:=by unfold zaU; rw [if_pos ⟨c3,h44⟩]
       simp only [sxZ,z6,z7,z8,j4,j5,j6,j7,j8,j9,x4,x5,x6,x7,x8,x9,reduceCtorEq,↓reduceIte,List.getElem?_set,hlen]
       subst hW
       simp only [sxZ,z6,z7,z8,j4,j5,j6,j7,j8,j9,x4,x5,x6,x7,x8,x9,reduceCtorEq,↓reduceIte,List.getElem?_set,hlen,t0,t6,e2]
       refine zak (zbU hO7 T2.2.2 140 fun o8 hO8 => ?_)
       simp only [sxZ,z6,z7,z8,j4,j5,j6,j7,j8,j9,x4,x5,x6,x7,x8,x9,reduceCtorEq,↓reduceIte,zab,List.length_set,List.getElem?_set,hlen,t0,t1,t4,t5,t6,hw,and_self,and_true]
       exact hO8
    ·clear hO7 hlen t0 t1 t4 t5 t6 e1 e2 e3 e4 s1 s2 s3
     rintro o8 tm ⟨hO8,hlen,t0,t1,t4,t5,t6⟩
     subst hZ
     have hB3:=zd5 hB2.1 T2 44
     have hn3:=zdS ρ3 T2 44
     have hfz3:=zdT ρ3 T2 44
     generalize zaU ρ3 T2 44=ρ4 at hO8 hB3 hn3 hfz3 hrarr
     simp only [sxZ,z6,z7,z8,j4,j5,j6,j7,j8,j9,x4,x5,x6,x7,x8,x9,reduceCtorEq,↓reduceIte,List.getElem?_set,hlen,t0]
     refine zak (zce (by omega) hO8 fun o9 hO9 => ?_)
     have hB4:=za8 hB3
     have hT4:=zbt hB3
     have hn4:=za0 s ρ4
     have hfz4:=zbO s ρ4
     generalize zan s ρ4=N at hO9 hB4 hT4 hn4 hfz4 hrarr ⊢
     obtain ⟨T5,ρ5⟩:=N
     simp only at hO9 hB4 hT4 hn4 hfz4 hrarr ⊢
     obtain ⟨e1,e2,e3,e4,s1,s2,s3⟩:=st _ _ _ _ _ hO9
     unfold zgH tkC
     simp only [sxZ,z6,z7,z8,j4,j5,j6,j7,j8,j9,x4,x5,x6,x7,x8,x9,reduceCtorEq,↓reduceIte,List.getElem?_set,hlen,t6,e2,s2]
     rw [f1]
     have hO10:zau ((p,zaD s ρ5) :: (qt,zaN T5) :: (qv,jvB 6 .nil X') :: (qr,zvB) :: (R' ++ L)) (o9.set qt (zaN (T5.1,T5.2.1,T5.2.2))):=zau.set (A:=[(p,zaD s ρ5)]) (zaN T5) hO9
     generalize o9.set qt (zaN (T5.1,T5.2.1,T5.2.2))=o10 at hO10 ⊢
     refine ⟨m,by omega,i + 1,ρ5,T5,acc ++ [v],X',R',by omega,by rw [List.length_append,hi]; rfl,hrarr,hB4.1,hB4.2,hT4,fun hf => ?_,hS,hO10,?_⟩
     ·have q4:ρ4.fail=0:=by
       by_cases c:ρ4.fail=0
       ·exact c
       ·exact absurd ((hfz4 c).1.symm.trans hf) c
      have q3:ρ3.fail=0:=by
       by_cases c:ρ3.fail=0
       ·exact c
       ·exact absurd ((hfz3 c).1.symm.trans q4) c
      have q2:ρ2.fail=0:=by
       by_cases c:ρ2.fail=0
       ·exact c
       ·exact absurd ((hfz c).1.symm.trans q3) c
      have:=hn1 q2
      have:=hnd c1
      omega
     ·simp only [sxZ,z6,z7,z8,j4,j5,j6,j7,j8,j9,x4,x5,x6,x7,x8,x9,reduceCtorEq,↓reduceIte,List.length_set,List.getElem?_set,hlen,t0,t1,t4,t5,t6,and_self]
end
end
section
attribute [local irreducible] run
def SlP (ks:List (List UInt8)) (its:List JV) (X:AV) (R1:List (Nat × OB)) (Y:AV) (R2:List (Nat × OB)):Prop :=
 (ks=[] ∧ its=[] ∧ X=.nil ∧ R1=[] ∧ Y=.nil ∧ R2=[]) ∨ ∃ b1 g1 b2 g2,X=.orow b1 g1 ∧ R1=[(b1,.orow 9 1 g1 ks.length (ks.map .s))] ∧ Y=.orow b2 g2 ∧ R2=[(b2,.orow 25 4 g2 its.length (zac its))]
theorem SlP.k {ks:List (List UInt8)} {its:List JV} {X Y:AV} {R1 R2:List (Nat × OB)} (h:SlP ks its X R1 Y R2):SlO 9 1 ks.length (ks.map .s) X R1:=by
 rcases h with ⟨rfl,rfl,rfl,rfl,rfl,rfl⟩ | ⟨b1,g1,b2,g2,rfl,rfl,rfl,rfl⟩
 ·exact .inl ⟨rfl,rfl,rfl,rfl⟩
 ·exact .inr ⟨_,_,rfl,rfl⟩
theorem SlP.i {ks:List (List UInt8)} {its:List JV} {X Y:AV} {R1 R2:List (Nat × OB)} (h:SlP ks its X R1 Y R2):SlO 25 4 its.length (zac its) Y R2:=by
 rcases h with ⟨rfl,rfl,rfl,rfl,rfl,rfl⟩ | ⟨b1,g1,b2,g2,rfl,rfl,rfl,rfl⟩
 ·exact .inl ⟨rfl,zas,rfl,rfl⟩
 ·exact .inr ⟨_,_,rfl,rfl⟩
theorem SlP.flat {ks:List (List UInt8)} {its:List JV} {X Y:AV} {R1 R2:List (Nat × OB)} (h:SlP ks its X R1 Y R2):X.flat=true ∧ Y.flat=true:=by
 rcases h with ⟨rfl,rfl,rfl,rfl,rfl,rfl⟩ | ⟨b1,g1,b2,g2,rfl,rfl,rfl,rfl⟩ <;> exact ⟨rfl,rfl⟩
section
variable [Tabs Tryz.prog] [Utf Tryz.prog] {objs:List OB} {K:List OB → AV → Prop} {L:List (Nat × OB)} {p:Nat} {s:List UInt8} {ρ:Rs}
theorem object_k {val:Rs → Tk → JV × Rs} {d:Nat} (hv:ValK s p d val) (hg:GV s val) (hn:∀ ρ t,(val ρ t).2.fail=0 → ρ.nodes + 1 ≤ (val ρ t).2.nodes) (hvz:ValFroz val) (hs:s.length ≤ 1048576) (hB:GB s ρ) (hC:zaE ((p,zaD s ρ) :: L)) (hO:zau ((p,zaD s ρ) :: L) objs)
  (hk:∀ o,zau ((p,zaD s (zgx s val ρ).2) :: L) o → K o (.agg (zaj (zgx s val ρ).1))):zae Tryz.prog 51 [.p p 0,.i .i64 (d:Int)] objs K:=by
 refine zl3 (E1:=9) (s1:=1) (E2:=25) (s2:=4) (zgx s val ρ).1 (ze3 hC) hk ?_
 refine zcr is_ref14_parser_object fun C _ => ?_
 have fin:∀ {o:List OB} {ρ':Rs} {ks:List (List UInt8)} {its:List JV} {X Y:AV} {R1 R2:List (Nat × OB)} {qt qv qr:Nat} {T V W:OB},zgx s val ρ=(.mk 7 [] ks its,ρ') → SlP ks its X R1 Y R2 → zau ((p,zaD s ρ') :: (qt,T) :: (qv,V) :: (qr,W) :: (R1 ++ (R2 ++ L))) o →
   ∃ X' R1 Y' R2,SlO 9 1 (zgx s val ρ).1.keys.length ((zgx s val ρ).1.keys.map .s) X' R1 ∧ SlO 25 4 (zgx s val ρ).1.items.length (zac (zgx s val ρ).1.items) Y' R2 ∧ zau ((p,zaD s (zgx s val ρ).2) :: (R1 ++ (R2 ++ L))) (o.set qr (jvB 7 X Y)) ∧ AV.agg [.i .i64 7,.s [],X,Y]=.agg [.i .i64 (zgx s val ρ).1.kind,.s (zgx s val ρ).1.text,X',Y']:=by
  intro o ρ' ks its X Y R1 R2 qt qv qr T V W he hS hO
  rw [he]
  refine ⟨X,R1,Y,R2,hS.k,hS.i,?_,rfl⟩
  exact (zau.set (A:=[(p,zaD s ρ'),(qt,T),(qv,V)]) (jvB 7 X Y) hO).sub ((((List.sublist_cons_self _ _).trans (List.sublist_cons_self _ _)).trans (List.sublist_cons_self _ _)).cons_cons _)
 rw [c_ref14_parser_object]
 refine zaa fun Z0 hZ0 => ?_
 simp only [sxZ,z6,z7,z8,j4,j5,j6,j7,j8,j9,x4,x5,x6,x7,x8,x9,reduceCtorEq,↓reduceIte]
 have hO1:=hO.new zvB
 unfold zvB at hO1
 generalize hqr:objs.length=qr at hO1 ⊢
 generalize objs ++ [OB.box 25 [.i .i64 0,.s [],.nil,.nil]]=o1 at hO1 ⊢
 subst hZ0
 refine zaa fun Z0 hZ0 => ?_
 simp only [sxZ,z6,z7,z8,j4,j5,j6,j7,j8,j9,x4,x5,x6,x7,x8,x9,reduceCtorEq,↓reduceIte,gn1,sn1]
 have hO2:=hO1.new (jvB 7 .nil .nil)
 unfold jvB at hO2
 generalize hqv:o1.length=qv at hO2 ⊢
 generalize o1 ++ [OB.box 25 [.i .i64 7,.s [],.nil,.nil]]=o2 at hO2 ⊢
 subst hZ0
 refine zaa fun Z0 hZ0 => ?_
 simp only [sxZ,z6,z7,z8,j4,j5,j6,j7,j8,j9,x4,x5,x6,x7,x8,x9,reduceCtorEq,↓reduceIte]
 have hO2':zau ((p,zaD s ρ) :: (qv,jvB 7 .nil .nil) :: (qr,zvB) :: L) o2:=hO2.perm ((List.Perm.cons _ (List.Perm.swap _ _ _)).trans (List.Perm.swap _ _ _))
 refine zak (zce (by omega) hO2' fun o3 hO3 => ?_)
 have hB1:=za8 hB
 have hT1:=zbt hB
 have hrobj:zgx s val ρ=if isP (zan s ρ).1 125=true then (.mk 7 [] [] [],(zan s ρ).2) else (.mk 7 [] (zcM s val (s.length + 2) (zan s ρ).2 (zan s ρ).1 [] []).1.1 (zcM s val (s.length + 2) (zan s ρ).2 (zan s ρ).1 [] []).1.2,(zcM s val (s.length + 2) (zan s ρ).2 (zan s ρ).1 [] []).2):=rfl
 generalize zan s ρ=N at hO3 hB1 hT1 hrobj ⊢
 obtain ⟨T,ρ1⟩:=N
 simp only at hO3 hB1 hT1 hrobj ⊢
 unfold zgH tkC
 simp only [sxZ,z6,z7,z8,j4,j5,j6,j7,j8,j9,x4,x5,x6,x7,x8,x9,reduceCtorEq,↓reduceIte,gn1,sn1]
 have f1:∀ x y z,OB.box 54 [.i .i64 x,.s y,.i .i64 z]=zaN (x,y,z):=fun _ _ _ => rfl
 rw [f1]
 have hO4:=hO3.new (zaN T)
 have hO4:zau ((p,zaD s ρ1) :: (o3.length,zaN T) :: (qv,jvB 7 .nil .nil) :: (qr,zvB) :: ([] ++ ([] ++ L))) (o3 ++ [zaN T]):=hO4.perm (List.Perm.swap _ _ _)
 generalize o3.length=qt at hO4 ⊢
 generalize o3 ++ [zaN (T.1,T.2.1,T.2.2)]=o4 at hO4 ⊢
 have st:∀ (o:List OB) (ρ':Rs) (T':Tk) (X:AV) (R1:List (Nat × OB)) (Y:AV) (R2:List (Nat × OB)),zau ((p,zaD s ρ') :: (qt,zaN T') :: (qv,jvB 7 X Y) :: (qr,zvB) :: (R1 ++ (R2 ++ L))) o → o[p]? = some (.box 51 [.s s,.i .i64 ρ'.pos,.i .i64 (ρ'.nodes:Int),.i .i64 ρ'.fail,.i .i64 ρ'.wh]) ∧ o[qt]? = some (.box 54 [.i .i64 T'.1,.s T'.2.1,.i .i64 T'.2.2]) ∧ o[qv]? = some (.box 25 [.i .i64 7,.s [],X,Y]) ∧ o[qr]? = some (.box 25 [.i .i64 0,.s [],.nil,.nil]) ∧ (∀ x,(o.set qr x)[qr]? = some x) ∧ (∀ x,(o.set qt x)[qt]? = some x) ∧ (∀ x,(o.set qv x)[qv]? = some x) :=
  fun o ρ' T' X R1 Y R2 h => ⟨h.get (by simp [zaD]),h.get (by simp [zaN,tkC]),h.get (by simp [jvB]),h.get (by simp [zvB]),fun x => List.getElem?_set_self (h.lt (i:=qr) (x:=zvB) (by simp)),fun x => List.getElem?_set_self (h.lt (i:=qt) (x:=zaN T') (by simp)),fun x => List.getElem?_set_self (h.lt (i:=qv) (x:=jvB 7 X Y) (by simp))⟩
 subst hZ0
 refine zaa fun Z0 hZ0 => ?_
 obtain ⟨e1,e2,e3,e4,s1,s2,s3⟩:=st _ _ _ _ _ _ _ hO4
 simp only [sxZ,z6,z7,z8,j4,j5,j6,j7,j8,j9,x4,x5,x6,x7,x8,x9,reduceCtorEq,↓reduceIte,e2]
 refine zak (zeM T 125 ?_)
 cases hcl:isP T 125 with
 | true =>
  rw [hcl,if_pos rfl] at hrobj
  simp only [sxZ,z6,z7,z8,j4,j5,j6,j7,j8,j9,x4,x5,x6,x7,x8,x9,reduceCtorEq,↓reduceIte,e3,e4,s1]
  exact fin hrobj (.inl ⟨rfl,rfl,rfl,rfl,rfl,rfl⟩) hO4
 | false =>
  rw [hcl,if_neg Bool.false_ne_true] at hrobj
  simp only [sxZ,z6,z7,z8,j4,j5,j6,j7,j8,j9,x4,x5,x6,x7,x8,x9,reduceCtorEq,↓reduceIte]
  subst hZ0
  refine zaa fun Z0 hZ0 => ?_
  clear e1 e2 e3 e4 s1 s2 s3
  simp only [sxZ,z6,z7,z8,j4,j5,j6,j7,j8,j9,x4,x5,x6,x7,x8,x9,reduceCtorEq,↓reduceIte]
  refine zaA (fun n o tm => ∃ (i:Nat) (ρ':Rs) (T':Tk) (ks:List (List UInt8)) (its:List JV) (X:AV) (R1:List (Nat × OB)) (Y:AV) (R2:List (Nat × OB)),n=s.length + 2 - i ∧ ks.length=i ∧ its.length=i ∧ zgx s val ρ=(.mk 7 [] (zcM s val n ρ' T' ks its).1.1 (zcM s val n ρ' T' ks its).1.2,(zcM s val n ρ' T' ks its).2) ∧ GB s ρ' ∧ T'.2.1.length ≤ s.length ∧ (ρ'.fail=0 → i ≤ ρ'.nodes) ∧ SlP ks its X R1 Y R2 ∧ zau ((p,zaD s ρ') :: (qt,zaN T') :: (qv,jvB 7 X Y) :: (qr,zvB) :: (R1 ++ (R2 ++ L))) o ∧
    tm.length=98 ∧ tm[0]? = some (.p p 0) ∧ tm[1]? = some (.i .i64 (d:Int)) ∧ tm[4]? = some (.p qr 0) ∧ tm[5]? = some (.p qv 0) ∧ tm[6]? = some (.p qt 0)) (s.length + 2) ⟨0,ρ1,T,[],[],.nil,[],.nil,[],rfl,rfl,rfl,hrobj,hB1.1,hT1,fun _ => Nat.zero_le _,.inl ⟨rfl,rfl,rfl,rfl,rfl,rfl⟩,hO4,rfl,rfl,rfl,rfl,rfl,rfl⟩ ?_
  clear hO hO1 hO2 hO2' hO3 hO4 hrobj hB1 hT1 hcl
  rintro n o tm ⟨i,ρ',T',ks,its,X,R1,Y,R2,rfl,hi,hi2,hrobj,hGB,hTx,hnd,hS,hO,hlen,t0,t1,t4,t5,t6⟩
  obtain ⟨e1,e2,e3,e4,s1,s2,s3⟩:=st _ _ _ _ _ _ _ hO
  refine zaa fun Z hZ => ?_
  by_cases c1:ρ'.fail=0
  rotate_left
  ·have he:zcM s val (s.length + 2 - i) ρ' T' ks its=((ks,its),ρ'):=by
    cases s.length + 2 - i with
    | zero => rw [zcM]
    | succ m => rw [zcM,if_pos c1]
   rw [he] at hrobj
   simp only [sxZ,z6,z7,z8,j4,j5,j6,j7,j8,j9,x4,x5,x6,x7,x8,x9,reduceCtorEq,↓reduceIte,List.getElem?_set,hlen,t0,e1,c1]
   subst hZ
   subst hZ0
   simp only [sxZ,z6,z7,z8,j4,j5,j6,j7,j8,j9,x4,x5,x6,x7,x8,x9,reduceCtorEq,↓reduceIte,List.getElem?_set,hlen,t4,t5,e3,e4,s1,hS.flat.1,hS.flat.2]
   exact fin hrobj hS hO
  have hil:i ≤ s.length:=by
   have h1:=hnd c1
   have h2:=hGB.n0 c1
   have h3:=hGB.p1
   omega
  obtain ⟨m,hm⟩:∃ m,s.length + 2 - i=m + 1:=⟨s.length + 1 - i,by omega⟩
  rw [hm,zcM,if_neg (fun h => h c1)] at hrobj
  simp only at hrobj
  simp only [sxZ,z6,z7,z8,j4,j5,j6,j7,j8,j9,x4,x5,x6,x7,x8,x9,reduceCtorEq,↓reduceIte,List.getElem?_set,hlen,t0,e1,c1]
  subst hZ
  rw [zaB]
  clear s1 s2 s3 e1 e4
  refine zaa fun Z hZ => ?_
  have hk1:∀ t,t=ks → zl1 ρ' T' t=(if T'.2.1 ∈ ks then zaO (if ¬ T'.1=3 then zaO ρ' T'.2.2 140 else ρ') T'.2.2 143 else if ¬ T'.1=3 then zaO ρ' T'.2.2 140 else ρ'):=fun t h => by rw [h]; rfl
  have hk1:=hk1 ks rfl
  have hGk:=gb_key hGB T' ks
  have hnk:=rkey_n ρ' T' ks
  generalize hρa:(if ¬ T'.1=3 then zaO ρ' T'.2.2 140 else ρ')=ρa at hk1
  refine zav (fun o tm => zau ((p,zaD s ρa) :: (qt,zaN T') :: (qv,jvB 7 X Y) :: (qr,zvB) :: (R1 ++ (R2 ++ L))) o ∧ tm.length=98 ∧ tm[0]? = some (.p p 0) ∧ tm[1]? = some (.i .i64 (d:Int)) ∧ tm[4]? = some (.p qr 0) ∧ tm[5]? = some (.p qv 0) ∧ tm[6]? = some (.p qt 0)) ?_ ?_
  ·refine zaa fun W hW => ?_
   by_cases c3:T'.1=3
   ·rw [if_neg (fun h => h c3)] at hρa
    subst hρa
    simp only [sxZ,z6,z7,z8,j4,j5,j6,j7,j8,j9,x4,x5,x6,x7,x8,x9,reduceCtorEq,↓reduceIte,List.getElem?_set,hlen,t6,e2,c3]
    subst hW
    simp only [sxZ,z6,z7,z8,j4,j5,j6,j7,j8,j9,x4,x5,x6,x7,x8,x9,reduceCtorEq,↓reduceIte,zab,List.length_set,List.getElem?_set,hlen,t0,t1,t4,t5,t6,and_self,and_true]
    exact hO
   ·rw [if_pos c3] at hρa
    simp only [sxZ,z6,z7,z8,j4,j5,j6,j7,j8,j9,x4,x5,x6,x7,x8,x9,reduceCtorEq,↓reduceIte,List.getElem?_set,hlen,t6,e2,c3]
    subst hW
    simp only [sxZ,z6,z7,z8,j4,j5,j6,j7,j8,j9,x4,x5,x6,x7,x8,x9,reduceCtorEq,↓reduceIte,List.getElem?_set,hlen,t0,t6,e2]
    refine zak (zbU hO T'.2.2 140 fun o8 hO8 => ?_)
    rw [hρa] at hO8
    simp only [sxZ,z6,z7,z8,j4,j5,j6,j7,j8,j9,x4,x5,x6,x7,x8,x9,reduceCtorEq,↓reduceIte,zab,List.length_set,List.getElem?_set,hlen,t0,t1,t4,t5,t6,and_self,and_true]
    exact hO8
  clear hO hlen t0 t1 t4 t5 t6 e2 e3
  rintro oa tm ⟨hO,hlen,t0,t1,t4,t5,t6⟩
  subst hZ
  refine zaa fun Z hZ => ?_
  refine zav (fun o tm => zau ((p,zaD s (zl1 ρ' T' ks)) :: (qt,zaN T') :: (qv,jvB 7 X Y) :: (qr,zvB) :: (R1 ++ (R2 ++ L))) o ∧ tm.length=98 ∧ tm[0]? = some (.p p 0) ∧ tm[1]? = some (.i .i64 (d:Int)) ∧ tm[4]? = some (.p qr 0) ∧ tm[5]? = some (.p qv 0) ∧ tm[6]? = some (.p qt 0)) ?_ ?_
  ·obtain ⟨e1,e2,e3,e4,s1,s2,s3⟩:=st _ _ _ _ _ _ _ hO
   refine zaa fun W hW => ?_
   have hPerm:((p,zaD s ρa) :: (qt,zaN T') :: (qv,jvB 7 X Y) :: (qr,zvB) :: (R1 ++ (R2 ++ L))).Perm (R1 ++ (R2 ++ ((p,zaD s ρa) :: (qt,zaN T') :: (qv,jvB 7 X Y) :: (qr,zvB) :: L))):=by
    have h0:∀ (A B C:List (Nat × OB)),(A ++ (B ++ C)).Perm (B ++ (A ++ C)):=fun A B C => by
     rw [← List.append_assoc,← List.append_assoc]
     exact List.Perm.append_right C List.perm_append_comm
    refine (h0 [(p,zaD s ρa),(qt,zaN T'),(qv,jvB 7 X Y),(qr,zvB)] R1 (R2 ++ L)).trans ?_
    exact List.Perm.append_left R1 (h0 [(p,zaD s ρa),(qt,zaN T'),(qv,jvB 7 X Y),(qr,zvB)] R2 L)
   simp only [sxZ,z6,z7,z8,j4,j5,j6,j7,j8,j9,x4,x5,x6,x7,x8,x9,reduceCtorEq,↓reduceIte,List.getElem?_set,hlen,t5,t6,e2,e3]
   refine zak (zl5 ks its T'.2.1 (by omega) (by omega) hS.k hS.i (hO.perm hPerm) (fun hm o w ho => ?_) (fun hm o ho => ?_))
   ·have ho:=ho.perm hPerm.symm
    rw [if_pos hm] at hk1
    rw [zaf]
    simp only [sxZ,z6,z7,z8,j4,j5,j6,j7,j8,j9,x4,x5,x6,x7,x8,x9,reduceCtorEq,↓reduceIte,List.getElem?_set,hlen,gn1,sn1]
    have ho2:=ho.app [OB.box 25 [.i .i64 w.kind,.s w.text,.row w.keys.length (w.keys.map .s),.row w.items.length (zac w.items)]]
    obtain ⟨e1',e2',e3',_,_,_,_⟩:=st _ _ _ _ _ _ _ ho2
    subst hW
    simp only [sxZ,z6,z7,z8,j4,j5,j6,j7,j8,j9,x4,x5,x6,x7,x8,x9,reduceCtorEq,↓reduceIte,List.getElem?_set,hlen,t0,t6,e2']
    refine zak (zbU ho2 T'.2.2 143 fun o8 hO8 => ?_)
    rw [← hk1] at hO8
    simp only [sxZ,z6,z7,z8,j4,j5,j6,j7,j8,j9,x4,x5,x6,x7,x8,x9,reduceCtorEq,↓reduceIte,zab,List.length_set,List.getElem?_set,hlen,t0,t1,t4,t5,t6,and_self,and_true]
    exact hO8
   ·have ho:=ho.perm hPerm.symm
    rw [if_neg hm] at hk1
    simp only [sxZ,z6,z7,z8,j4,j5,j6,j7,j8,j9,x4,x5,x6,x7,x8,x9,reduceCtorEq,↓reduceIte,List.getElem?_set,hlen,gn1,sn1]
    have ho2:=ho.app [OB.box 25 [.i .i64 0,.s [],.nil,.nil]]
    subst hW
    rw [← hk1] at ho2
    simp only [sxZ,z6,z7,z8,j4,j5,j6,j7,j8,j9,x4,x5,x6,x7,x8,x9,reduceCtorEq,↓reduceIte,zab,List.length_set,List.getElem?_set,hlen,t0,t1,t4,t5,t6,and_self,and_true]
    exact ho2
  clear hO hlen t0 t1 t4 t5 t6 hk1 hρa
  generalize zl1 ρ' T' ks=ρk at hrobj hGk hnk
  rintro ob tm ⟨hO,hlen,t0,t1,t4,t5,t6⟩
  subst hZ
  refine zaa fun Z hZ => ?_
  obtain ⟨e1,e2,e3,e4,s1,s2,s3⟩:=st _ _ _ _ _ _ _ hO
  simp only [sxZ,z6,z7,z8,j4,j5,j6,j7,j8,j9,x4,x5,x6,x7,x8,x9,reduceCtorEq,↓reduceIte,List.getElem?_set,hlen,t6,e2]
  refine za1 (fun tm => tm.length=98 ∧ tm[0]? = some (.p p 0) ∧ tm[1]? = some (.i .i64 (d:Int)) ∧ tm[4]? = some (.p qr 0) ∧ tm[5]? = some (.p qv 0) ∧ tm[6]? = some (.p qt 0) ∧ tm[9]? = some (.s T'.2.1)) ?_ ?_
  ·simp only [sxZ,z6,z7,z8,j4,j5,j6,j7,j8,j9,x4,x5,x6,x7,x8,x9,reduceCtorEq,↓reduceIte,List.length_set,List.getElem?_set,hlen,t0,t1,t4,t5,t6,and_self]
  clear hlen t0 t1 t4 t5 t6
  rintro tm ⟨hlen,t0,t1,t4,t5,t6,t9⟩
  subst hZ
  refine zaa fun Z hZ => ?_
  refine zaa fun W0 hW0 => ?_
  simp only [sxZ,z6,z7,z8,j4,j5,j6,j7,j8,j9,x4,x5,x6,x7,x8,x9,reduceCtorEq,↓reduceIte,List.getElem?_set,hlen,t0]
  refine zak (zce (by omega) hO fun o6 hO6 => ?_)
  have hB_ρ2:=za8 hGk
  have hT_ρ2:=zbt hGk
  have hn_ρ2:=za0 s ρk
  have hz_ρ2:=zbO s ρk
  generalize zan s ρk=N at hO6 hB_ρ2 hT_ρ2 hn_ρ2 hz_ρ2 hrobj ⊢
  obtain ⟨T2,ρ2⟩:=N
  simp only at hO6 hB_ρ2 hT_ρ2 hn_ρ2 hz_ρ2 hrobj ⊢
  obtain ⟨e1,e2,e3,e4,s1,s2,s3⟩:=st _ _ _ _ _ _ _ hO6
  unfold zgH tkC
  simp only [sxZ,z6,z7,z8,j4,j5,j6,j7,j8,j9,x4,x5,x6,x7,x8,x9,reduceCtorEq,↓reduceIte,List.getElem?_set,hlen,t6,e2,s2]
  rw [f1]
  have hO7:zau ((p,zaD s ρ2) :: (qt,zaN T2) :: (qv,jvB 7 X Y) :: (qr,zvB) :: (R1 ++ (R2 ++ L))) (o6.set qt (zaN (T2.1,T2.2.1,T2.2.2))):=zau.set (A:=[(p,zaD s ρ2)]) (zaN T2) hO6
  generalize o6.set qt (zaN (T2.1,T2.2.1,T2.2.2))=o7 at hO7 ⊢
  refine za1 (fun tm => tm.length=98 ∧ tm[0]? = some (.p p 0) ∧ tm[1]? = some (.i .i64 (d:Int)) ∧ tm[4]? = some (.p qr 0) ∧ tm[5]? = some (.p qv 0) ∧ tm[6]? = some (.p qt 0) ∧ tm[9]? = some (.s T'.2.1)) ?_ ?_
  ·simp only [sxZ,z6,z7,z8,j4,j5,j6,j7,j8,j9,x4,x5,x6,x7,x8,x9,reduceCtorEq,↓reduceIte,List.length_set,List.getElem?_set,hlen,t0,t1,t4,t5,t6,t9,and_self]
  clear hO6 hO hlen t0 t1 t4 t5 t6 t9 e1 e2 e3 e4 s1 s2 s3
  rintro tm ⟨hlen,t0,t1,t4,t5,t6,t9⟩
  have hO:=hO7
  clear hO7
  subst hW0
  refine zav (fun o tm => zau ((p,zaD s (zaU ρ2 T2 58)) :: (qt,zaN T2) :: (qv,jvB 7 X Y) :: (qr,zvB) :: (R1 ++ (R2 ++ L))) o ∧ tm.length=98 ∧ tm[0]? = some (.p p 0) ∧ tm[1]? = some (.i .i64 (d:Int)) ∧ tm[4]? = some (.p qr 0) ∧ tm[5]? = some (.p qv 0) ∧ tm[6]? = some (.p qt 0) ∧ tm[9]? = some (.s T'.2.1)) ?_ ?_
  ·obtain ⟨e1,e2,e3,e4,s1,s2,s3⟩:=st _ _ _ _ _ _ _ hO
   refine zaa fun W hW => ?_
   by_cases c3:ρ2.fail=0
   rotate_left
   ·have hw:zaU ρ2 T2 58=ρ2:=by unfold zaU; rw [if_neg (fun h => c3 h.1)]
    simp only [sxZ,z6,z7,z8,j4,j5,j6,j7,j8,j9,x4,x5,x6,x7,x8,x9,reduceCtorEq,↓reduceIte,List.getElem?_set,hlen,t0,e1,c3]
    subst hW
    simp only [sxZ,z6,z7,z8,j4,j5,j6,j7,j8,j9,x4,x5,x6,x7,x8,x9,reduceCtorEq,↓reduceIte,zab,List.length_set,List.getElem?_set,hlen,t0,t1,t4,t5,t6,t9,hw,and_self,and_true]
    exact hO
   ·simp only [sxZ,z6,z7,z8,j4,j5,j6,j7,j8,j9,x4,x5,x6,x7,x8,x9,reduceCtorEq,↓reduceIte,List.getElem?_set,hlen,t0,t6,e1,e2,c3]
    refine zak (zeM T2 58 ?_)
    cases h44:isP T2 58 with
    | true =>
     have hw:zaU ρ2 T2 58=ρ2:=by unfold zaU; rw [if_neg (fun h => by rw [h44] at h; cases h.2)]
     simp only [sxZ,z6,z7,z8,j4,j5,j6,j7,j8,j9,x4,x5,x6,x7,x8,x9,reduceCtorEq,↓reduceIte,List.getElem?_set,hlen]
     subst hW
     simp only [sxZ,z6,z7,z8,j4,j5,j6,j7,j8,j9,x4,x5,x6,x7,x8,x9,reduceCtorEq,↓reduceIte,zab,List.length_set,List.getElem?_set,hlen,t0,t1,t4,t5,t6,t9,hw,and_self,and_true]
     exact hO
    | false =>
     have hw:zaU ρ2 T2 58=zaO ρ2 T2.2.2 140:=by unfold zaU; rw [if_pos ⟨c3,h44⟩]
     simp only [sxZ,z6,z7,z8,j4,j5,j6,j7,j8,j9,x4,x5,x6,x7,x8,x9,reduceCtorEq,↓reduceIte,List.getElem?_set,hlen]
     subst hW
     simp only [sxZ,z6,z7,z8,j4,j5,j6,j7,j8,j9,x4,x5,x6,x7,x8,x9,reduceCtorEq,↓reduceIte,List.getElem?_set,hlen,t0,t6,e2]
     refine zak (zbU hO T2.2.2 140 fun o8 hO8 => ?_)
     simp only [sxZ,z6,z7,z8,j4,j5,j6,j7,j8,j9,x4,x5,x6,x7,x8,x9,reduceCtorEq,↓reduceIte,zab,List.length_set,List.getElem?_set,hlen,t0,t1,t4,t5,t6,t9,hw,and_self,and_true]
     exact hO8
  clear hO hlen t0 t1 t4 t5 t6 t9
  rintro oc tm ⟨hO,hlen,t0,t1,t4,t5,t6,t9⟩
  have hG3:=zd5 hB_ρ2.1 T2 58
  have hn3:=zdS ρ2 T2 58
  have hz3:=zdT ρ2 T2 58
  generalize zaU ρ2 T2 58=ρ3 at hO hG3 hn3 hz3 hrobj
  subst hZ
  refine zaa fun Z hZ => ?_
  simp only [sxZ,z6,z7,z8,j4,j5,j6,j7,j8,j9,x4,x5,x6,x7,x8,x9,reduceCtorEq,↓reduceIte,List.getElem?_set,hlen,t0]
  refine zak (zce (by omega) hO fun o6 hO6 => ?_)
  have hB4:=za8 hG3
  have hT4:=zbt hG3
  have hn4:=za0 s ρ3
  have hz4:=zbO s ρ3
  generalize zan s ρ3=N at hO6 hB4 hT4 hn4 hz4 hrobj ⊢
  obtain ⟨T4,ρ4⟩:=N
  simp only at hO6 hB4 hT4 hn4 hz4 hrobj ⊢
  have hvc:=fun {objs:List OB} {K:List OB → AV → Prop} {L:List (Nat × OB)} (h1) (h2) (h3) => hv (objs:=objs) (K:=K) (L:=L) (ρ:=ρ4) T4 hB4.1 hB4.2 hT4 h1 h2 h3
  have hg5:=hg ρ4 T4 hB4.1 hB4.2
  have hn5:=hn ρ4 T4
  have hz5:=hvz ρ4 T4
  generalize val ρ4 T4=a at hvc hg5 hn5 hz5 hrobj
  obtain ⟨v,ρ5⟩:=a
  simp only at hvc hg5 hn5 hz5 hrobj
  obtain ⟨c0,c1',c2,c3,hcv⟩:∃ c0 c1 c2 c3,zaj v=[c0,c1,c2,c3]:=⟨_,_,_,_,zaf v⟩
  have hcf:(AV.agg [c0,c1',c2,c3]).flat=true:=by
   have:=zaf v
   rw [hcv] at this
   injection this with q0 this
   injection this with q1 this
   injection this with q2 this
   injection this with q3 _
   subst q0 q1 q2 q3
   rfl
  have hCL:zaE ((p,zaD s ρ4) :: (qt,zaN T2) :: (qv,jvB 7 X Y) :: (qr,zvB) :: (R1 ++ (R2 ++ L))):=zfG hS.k hS.i hC
  unfold zgH tkC
  simp only [sxZ,z6,z7,z8,j4,j5,j6,j7,j8,j9,x4,x5,x6,x7,x8,x9,reduceCtorEq,↓reduceIte,List.getElem?_set,hlen,t0,t1]
  refine zak (hvc hCL hO6 fun o7 hO7 => ?_)
  rw [hcv]
  simp only [sxZ,z6,z7,z8,j4,j5,j6,j7,j8,j9,x4,x5,x6,x7,x8,x9,reduceCtorEq,↓reduceIte,List.getElem?_set,hlen,gn1,sn1,hcf]
  have hO8:=hO7.new (.box 25 [c0,c1',c2,c3])
  generalize o7.length=qi at hO8 ⊢
  generalize o7 ++ [OB.box 25 [c0,c1',c2,c3]]=o8 at hO8 ⊢
  refine za1 (fun tm => tm.length=98 ∧ tm[0]? = some (.p p 0) ∧ tm[1]? = some (.i .i64 (d:Int)) ∧ tm[4]? = some (.p qr 0) ∧ tm[5]? = some (.p qv 0) ∧ tm[6]? = some (.p qt 0) ∧ tm[9]? = some (.s T'.2.1) ∧ tm[10]? = some (.p qi 0)) ?_ ?_
  ·simp only [sxZ,z6,z7,z8,j4,j5,j6,j7,j8,j9,x4,x5,x6,x7,x8,x9,reduceCtorEq,↓reduceIte,List.length_set,List.getElem?_set,hlen,t0,t1,t4,t5,t6,t9,and_self]
  clear hO hO6 hO7 hlen t0 t1 t4 t5 t6 t9
  rintro tm ⟨hlen,t0,t1,t4,t5,t6,t9,t10⟩
  subst hZ
  refine zaa fun Z hZ => ?_
  have hO8p:zau ((p,zaD s ρ5) :: (qt,zaN T2) :: (qv,jvB 7 X Y) :: (qr,zvB) :: (R1 ++ (R2 ++ L))) o8:=hO8.sub (List.sublist_cons_self _ _)
  obtain ⟨e1,e2,e3,e4,s1,s2,s3⟩:=st _ _ _ _ _ _ _ hO8p
  have ei:=hO8.get (i:=qi) (x:=.box 25 [c0,c1',c2,c3]) (by simp)
  refine zav (fun o tm => ∃ X' R1' Y' R2',SlP (ks ++ [T'.2.1]) (its ++ [v]) X' R1' Y' R2' ∧ zau ((p,zaD s ρ5) :: (qt,zaN T2) :: (qv,jvB 7 X' Y') :: (qr,zvB) :: (R1' ++ (R2' ++ L))) o ∧ tm.length=98 ∧ tm[0]? = some (.p p 0) ∧ tm[1]? = some (.i .i64 (d:Int)) ∧ tm[4]? = some (.p qr 0) ∧ tm[5]? = some (.p qv 0) ∧ tm[6]? = some (.p qt 0)) ?_ ?_
  ·rcases hS with ⟨z1,z2,rfl,rfl,rfl,rfl⟩ | ⟨b1,g1,b2,g2,rfl,rfl,rfl,rfl⟩
   ·have hlq:=(List.getElem?_eq_some_iff.1 e3).1
    have hli:=(List.getElem?_eq_some_iff.1 ei).1
    have n1:¬ qv=o8.length:=by omega
    have n2:¬ qi=o8.length:=by omega
    have h1:∀ x,(o8 ++ [x])[qv]? = some (.box 25 [.i .i64 7,.s [],.nil,.nil]):=fun x => by rw [List.getElem?_append_left hlq]; exact e3
    have h2:∀ x,(o8 ++ [x])[qi]? = some (.box 25 [c0,c1',c2,c3]):=fun x => by rw [List.getElem?_append_left hli]; exact ei
    have h3:∀ x y,(o8 ++ [x] ++ [y])[qv]? = some (.box 25 [.i .i64 7,.s [],.nil,.nil]):=fun x y => by rw [List.getElem?_append_left (by simp; omega)]; exact h1 x
    have h4:∀ x y z,((o8 ++ [x] ++ [y]).set qv z)[qv]? = some z:=fun x y z => List.getElem?_set_self (by simp; omega)
    subst z1 z2
    simp only [sxZ,z6,z7,z8,j4,j5,j6,j7,j8,j9,x4,x5,x6,x7,x8,x9,reduceCtorEq,↓reduceIte,List.getElem?_set,hlen,t5,t9,t10,e3,ei,gn1,sn1,h1,h2,h3,h4,n1,n2,zab,List.length_set,List.set_set,t0,t1,t4,t6,and_self,and_true,not_false_eq_true,true_and]
    have hN:=(hO8p.new (.orow 9 1 0 1 [AV.s T'.2.1])).new (.orow 25 4 0 1 [c0,c1',c2,c3])
    have elen:(o8 ++ [OB.orow 9 1 0 1 [AV.s T'.2.1]]).length=o8.length + 1:=by simp
    rw [elen] at hN
    have hR:=hN.set (A:=[(o8.length + 1,OB.orow 25 4 0 1 [c0,c1',c2,c3]),(o8.length,OB.orow 9 1 0 1 [AV.s T'.2.1]),(p,zaD s ρ5),(qt,zaN T2)]) (jvB 7 (.orow o8.length 0) (.orow (o8.length + 1) 0))
    refine ⟨_,[(o8.length,OB.orow 9 1 0 1 [AV.s T'.2.1])],_,[(o8.length + 1,OB.orow 25 4 0 1 [c0,c1',c2,c3])],.inr ⟨_,_,_,_,rfl,rfl,rfl,by rw [zaw,zas,hcv]; rfl⟩,hR.perm ?_⟩
    refine (List.perm_append_comm (l₁:=[(o8.length + 1,OB.orow 25 4 0 1 [c0,c1',c2,c3]),(o8.length,OB.orow 9 1 0 1 [AV.s T'.2.1])]) (l₂:=[(p,zaD s ρ5),(qt,zaN T2),(qv,jvB 7 (.orow o8.length 0) (.orow (o8.length + 1) 0)),(qr,zvB)])).append_right L |>.trans ?_
    exact List.Perm.cons _ (List.Perm.cons _ (List.Perm.cons _ (List.Perm.cons _ (List.Perm.swap _ _ _))))
   ·have eb1:=hO8.get (i:=b1) (x:=.orow 9 1 g1 ks.length (ks.map .s)) (by simp)
    have eb2:=hO8.get (i:=b2) (x:=.orow 25 4 g2 its.length (zac its)) (by simp)
    have hlq:=(List.getElem?_eq_some_iff.1 e3).1
    have hl1:=(List.getElem?_eq_some_iff.1 eb1).1
    have hl2:=(List.getElem?_eq_some_iff.1 eb2).1
    have hnd8:=hO8.1
    simp only [List.map_cons,List.map_append,List.map_nil,List.nodup_cons,List.cons_append,List.nil_append,List.mem_cons,List.mem_append,List.not_mem_nil,or_false,not_or] at hnd8
    have n1:¬ qv=b1:=hnd8.2.2.2.1.2.1
    have n2:¬ qi=b1:=hnd8.1.2.2.2.2.1
    have n3:¬ b1=b2:=hnd8.2.2.2.2.2.1.1
    have n4:¬ qv=b2:=hnd8.2.2.2.1.2.2.1
    have n1':¬ b1=qv:=fun h => n1 h.symm
    have n2':¬ b1=qi:=fun h => n2 h.symm
    have n4':¬ b2=qv:=fun h => n4 h.symm
    have h0:∀ x,(o8.set b1 x)[b1]? = some x:=fun x => List.getElem?_set_self hl1
    have h1:∀ x,(o8.set b1 x)[qv]? = some (.box 25 [.i .i64 7,.s [],.orow b1 g1,.orow b2 g2]):=fun x => by rw [List.getElem?_set_ne n1']; exact e3
    have h2:∀ x,(o8.set b1 x)[qi]? = some (.box 25 [c0,c1',c2,c3]):=fun x => by rw [List.getElem?_set_ne n2']; exact ei
    have h5:∀ x,(o8.set b1 x)[b2]? = some (.orow 25 4 g2 its.length (zac its)):=fun x => by rw [List.getElem?_set_ne n3]; exact eb2
    have h3:∀ x y,((o8.set b1 x).set b2 y)[qv]? = some (.box 25 [.i .i64 7,.s [],.orow b1 g1,.orow b2 g2]):=fun x y => by rw [List.getElem?_set_ne n4']; exact h1 x
    have h4:∀ x y z,(((o8.set b1 x).set b2 y).set qv z)[qv]? = some z:=fun x y z => List.getElem?_set_self (by simp; omega)
    have hjl:=zax its
    simp only [sxZ,z6,z7,z8,j4,j5,j6,j7,j8,j9,x4,x5,x6,x7,x8,x9,reduceCtorEq,↓reduceIte,List.getElem?_set,hlen,t5,t9,t10,e3,ei,eb1,h0,h1,h2,h3,h4,h5,n1,n2,zab,List.length_set,List.set_set,t0,t1,t4,t6,and_self,and_true,not_false_eq_true,true_and]
    refine ⟨⟨by omega,by omega⟩,⟨by omega,by omega⟩,?_⟩
    have hN:=hO8p.set (A:=[(p,zaD s ρ5),(qt,zaN T2),(qv,jvB 7 (.orow b1 g1) (.orow b2 g2)),(qr,zvB)]) (.orow 9 1 (g1 + 1) (ks.length + 1) (ks.map AV.s ++ [AV.s T'.2.1]))
    have hN:=hN.set (A:=[(p,zaD s ρ5),(qt,zaN T2),(qv,jvB 7 (.orow b1 g1) (.orow b2 g2)),(qr,zvB),(b1,OB.orow 9 1 (g1 + 1) (ks.length + 1) (ks.map AV.s ++ [AV.s T'.2.1]))]) (.orow 25 4 (g2 + 1) (its.length + 1) (zac its ++ [c0,c1',c2,c3]))
    have hR:=hN.set (A:=[(p,zaD s ρ5),(qt,zaN T2)]) (jvB 7 (.orow b1 (g1 + 1)) (.orow b2 (g2 + 1)))
    exact ⟨_,[(b1,OB.orow 9 1 (g1 + 1) (ks.length + 1) (ks.map AV.s ++ [AV.s T'.2.1]))],_,[(b2,OB.orow 25 4 (g2 + 1) (its.length + 1) (zac its ++ [c0,c1',c2,c3]))],.inr ⟨_,_,_,_,rfl,by rw [List.map_append,List.length_append]; rfl,rfl,by rw [zbW,zaw,zas,hcv,List.length_append]; rfl⟩,hR⟩
  clear hO8 hO8p hS hlen t0 t1 t4 t5 t6 t9 t10 e1 e2 e3 e4 s1 s2 s3 ei hCL hvc hv hg hn hcf hB hGB hTx
  rintro oc tm ⟨X',R1',Y',R2',hS,hO,hlen,t0,t1,t4,t5,t6⟩
  subst hZ
  refine zaa fun Z hZ => ?_
  simp only [sxZ,z6,z7,z8,j4,j5,j6,j7,j8,j9,x4,x5,x6,x7,x8,x9,reduceCtorEq,↓reduceIte,List.getElem?_set,hlen,t0]
  refine zak (zce (by omega) hO fun o6 hO6 => ?_)
  have hB_ρ6:=za8 hg5
  have hT_ρ6:=zbt hg5
  have hn_ρ6:=za0 s ρ5
  have hz_ρ6:=zbO s ρ5
  generalize zan s ρ5=N at hO6 hB_ρ6 hT_ρ6 hn_ρ6 hz_ρ6 hrobj ⊢
  obtain ⟨T6,ρ6⟩:=N
  simp only at hO6 hB_ρ6 hT_ρ6 hn_ρ6 hz_ρ6 hrobj ⊢
  obtain ⟨e1,e2,e3,e4,s1,s2,s3⟩:=st _ _ _ _ _ _ _ hO6
  unfold zgH tkC
  simp only [sxZ,z6,z7,z8,j4,j5,j6,j7,j8,j9,x4,x5,x6,x7,x8,x9,reduceCtorEq,↓reduceIte,List.getElem?_set,hlen,t6,e2,s2]
  rw [f1]
  have hO7:zau ((p,zaD s ρ6) :: (qt,zaN T6) :: (qv,jvB 7 X' Y') :: (qr,zvB) :: (R1' ++ (R2' ++ L))) (o6.set qt (zaN (T6.1,T6.2.1,T6.2.2))):=zau.set (A:=[(p,zaD s ρ6)]) (zaN T6) hO6
  generalize o6.set qt (zaN (T6.1,T6.2.1,T6.2.2))=o7 at hO7 ⊢
  refine za1 (fun tm => tm.length=98 ∧ tm[0]? = some (.p p 0) ∧ tm[1]? = some (.i .i64 (d:Int)) ∧ tm[4]? = some (.p qr 0) ∧ tm[5]? = some (.p qv 0) ∧ tm[6]? = some (.p qt 0)) ?_ ?_
  ·simp only [sxZ,z6,z7,z8,j4,j5,j6,j7,j8,j9,x4,x5,x6,x7,x8,x9,reduceCtorEq,↓reduceIte,List.length_set,List.getElem?_set,hlen,t0,t1,t4,t5,t6,and_self]
  clear hO6 hO hlen t0 t1 t4 t5 t6 e1 e2 e3 e4 s1 s2 s3
  rintro tm ⟨hlen,t0,t1,t4,t5,t6⟩
  have hO:=hO7
  clear hO7
  subst hZ
  refine zaa fun Z hZ => ?_
  obtain ⟨e1,e2,e3,e4,s1,s2,s3⟩:=st _ _ _ _ _ _ _ hO
  simp only [sxZ,z6,z7,z8,j4,j5,j6,j7,j8,j9,x4,x5,x6,x7,x8,x9,reduceCtorEq,↓reduceIte,List.getElem?_set,hlen,t6,e2]
  refine zak (zeM T6 125 ?_)
  cases hcl:isP T6 125 with
  | true =>
   rw [hcl,if_pos rfl] at hrobj
   simp only [sxZ,z6,z7,z8,j4,j5,j6,j7,j8,j9,x4,x5,x6,x7,x8,x9,reduceCtorEq,↓reduceIte,List.getElem?_set,hlen,t4,t5,e3,e4,s1,hS.flat.1,hS.flat.2]
   exact fin hrobj hS hO
  | false =>
  rw [hcl,if_neg Bool.false_ne_true] at hrobj
  simp only [sxZ,z6,z7,z8,j4,j5,j6,j7,j8,j9,x4,x5,x6,x7,x8,x9,reduceCtorEq,↓reduceIte,List.getElem?_set,hlen]
  refine za1 (fun tm => tm.length=98 ∧ tm[0]? = some (.p p 0) ∧ tm[1]? = some (.i .i64 (d:Int)) ∧ tm[4]? = some (.p qr 0) ∧ tm[5]? = some (.p qv 0) ∧ tm[6]? = some (.p qt 0)) ?_ ?_
  ·simp only [sxZ,z6,z7,z8,j4,j5,j6,j7,j8,j9,x4,x5,x6,x7,x8,x9,reduceCtorEq,↓reduceIte,List.length_set,List.getElem?_set,hlen,t0,t1,t4,t5,t6,and_self]
  clear hlen t0 t1 t4 t5 t6 e1 e2 e3 e4 s1 s2 s3
  rintro tm ⟨hlen,t0,t1,t4,t5,t6⟩
  subst hZ
  refine zaa fun Z hZ => ?_
  refine zav (fun o tm => zau ((p,zaD s (zaU ρ6 T6 44)) :: (qt,zaN T6) :: (qv,jvB 7 X' Y') :: (qr,zvB) :: (R1' ++ (R2' ++ L))) o ∧ tm.length=98 ∧ tm[0]? = some (.p p 0) ∧ tm[1]? = some (.i .i64 (d:Int)) ∧ tm[4]? = some (.p qr 0) ∧ tm[5]? = some (.p qv 0) ∧ tm[6]? = some (.p qt 0)) ?_ ?_
  ·obtain ⟨e1,e2,e3,e4,s1,s2,s3⟩:=st _ _ _ _ _ _ _ hO
   refine zaa fun W hW => ?_
   by_cases c3:ρ6.fail=0
   rotate_left
   ·have hw:zaU ρ6 T6 44=ρ6:=by unfold zaU; rw [if_neg (fun h => c3 h.1)]
    simp only [sxZ,z6,z7,z8,j4,j5,j6,j7,j8,j9,x4,x5,x6,x7,x8,x9,reduceCtorEq,↓reduceIte,List.getElem?_set,hlen,t0,e1,c3]
    subst hW
    simp only [sxZ,z6,z7,z8,j4,j5,j6,j7,j8,j9,x4,x5,x6,x7,x8,x9,reduceCtorEq,↓reduceIte,zab,List.length_set,List.getElem?_set,hlen,t0,t1,t4,t5,t6,hw,and_self,and_true]
    exact hO
   ·simp only [sxZ,z6,z7,z8,j4,j5,j6,j7,j8,j9,x4,x5,x6,x7,x8,x9,reduceCtorEq,↓reduceIte,List.getElem?_set,hlen,t0,t6,e1,e2,c3]
    refine zak (zeM T6 44 ?_)
    cases h44:isP T6 44 with
    | true =>
     have hw:zaU ρ6 T6 44=ρ6:=by unfold zaU; rw [if_neg (fun h => by rw [h44] at h; cases h.2)]
     simp only [sxZ,z6,z7,z8,j4,j5,j6,j7,j8,j9,x4,x5,x6,x7,x8,x9,reduceCtorEq,↓reduceIte,List.getElem?_set,hlen]
     subst hW
     simp only [sxZ,z6,z7,z8,j4,j5,j6,j7,j8,j9,x4,x5,x6,x7,x8,x9,reduceCtorEq,↓reduceIte,zab,List.length_set,List.getElem?_set,hlen,t0,t1,t4,t5,t6,hw,and_self,and_true]
     exact hO
    | false =>
     have hw:zaU ρ6 T6 44=zaO ρ6 T6.2.2 140:=by unfold zaU; rw [if_pos ⟨c3,h44⟩]
     simp only [sxZ,z6,z7,z8,j4,j5,j6,j7,j8,j9,x4,x5,x6,x7,x8,x9,reduceCtorEq,↓reduceIte,List.getElem?_set,hlen]
     subst hW
     simp only [sxZ,z6,z7,z8,j4,j5,j6,j7,j8,j9,x4,x5,x6,x7,x8,x9,reduceCtorEq,↓reduceIte,List.getElem?_set,hlen,t0,t6,e2]
     refine zak (zbU hO T6.2.2 140 fun o8 hO8 => ?_)
     simp only [sxZ,z6,z7,z8,j4,j5,j6,j7,j8,j9,x4,x5,x6,x7,x8,x9,reduceCtorEq,↓reduceIte,zab,List.length_set,List.getElem?_set,hlen,t0,t1,t4,t5,t6,hw,and_self,and_true]
     exact hO8
  clear hO hlen t0 t1 t4 t5 t6
  rintro oc tm ⟨hO,hlen,t0,t1,t4,t5,t6⟩
  have hG7:=zd5 hB_ρ6.1 T6 44
  have hn7:=zdS ρ6 T6 44
  have hz7:=zdT ρ6 T6 44
  generalize zaU ρ6 T6 44=ρ7 at hO hG7 hn7 hz7 hrobj
  subst hZ
  simp only [sxZ,z6,z7,z8,j4,j5,j6,j7,j8,j9,x4,x5,x6,x7,x8,x9,reduceCtorEq,↓reduceIte,List.getElem?_set,hlen,t0]
  refine zak (zce (by omega) hO fun o9 hO9 => ?_)
  have hB8:=za8 hG7
  have hT8:=zbt hG7
  have hn8:=za0 s ρ7
  have hz8:=zbO s ρ7
  generalize zan s ρ7=N at hO9 hB8 hT8 hn8 hz8 hrobj ⊢
  obtain ⟨T8,ρ8⟩:=N
  simp only at hO9 hB8 hT8 hn8 hz8 hrobj ⊢
  obtain ⟨e1,e2,e3,e4,s1,s2,s3⟩:=st _ _ _ _ _ _ _ hO9
  unfold zgH tkC
  simp only [sxZ,z6,z7,z8,j4,j5,j6,j7,j8,j9,x4,x5,x6,x7,x8,x9,reduceCtorEq,↓reduceIte,List.getElem?_set,hlen,t6,e2,s2]
  rw [f1]
  have hO10:zau ((p,zaD s ρ8) :: (qt,zaN T8) :: (qv,jvB 7 X' Y') :: (qr,zvB) :: (R1' ++ (R2' ++ L))) (o9.set qt (zaN (T8.1,T8.2.1,T8.2.2))):=zau.set (A:=[(p,zaD s ρ8)]) (zaN T8) hO9
  generalize o9.set qt (zaN (T8.1,T8.2.1,T8.2.2))=o10 at hO10 ⊢
  have zz:∀ {a b:Rs},zkY a b → b.fail=0 → a.fail=0:=fun {a b} h hb => by
   by_cases c:a.fail=0
   ·exact c
   ·exact absurd ((h c).1.symm.trans hb) c
  refine ⟨m,by omega,i + 1,ρ8,T8,ks ++ [T'.2.1],its ++ [v],X',R1',Y',R2',by omega,by rw [List.length_append,hi]; rfl,by rw [List.length_append,hi2]; rfl,hrobj,hB8.1,hT8,fun hf => ?_,hS,hO10,?_⟩
  ·have q7:=zz hz8 hf
   have q6:=zz hz7 q7
   have q5:=zz hz_ρ6 q6
   have q4:=zz hz5 q5
   have:=hn5 q5
   have:=hnd c1
   omega
  ·simp only [sxZ,z6,z7,z8,j4,j5,j6,j7,j8,j9,x4,x5,x6,x7,x8,x9,reduceCtorEq,↓reduceIte,List.length_set,List.getElem?_set,hlen,t0,t1,t4,t5,t6,and_self]
end
end
section
attribute [local irreducible] run
mutual
/-- with its keys in order -/
def za2:JV → JV
 | .mk k t ks its => if k=6 then .mk k t [] (zbH its) else .mk k t (zb4 ks.length ks) ((zb4 ks.length ks).map fun key => ((zbH its)[zd4 key ks]?).getD jvZ)
def zbH:List JV → List JV
 | [] => []
 | v :: l => za2 v :: zbH l
end
theorem zic (v:JV):za2 v=if v.kind=6 then .mk v.kind v.text [] (zbH v.items) else .mk v.kind v.text (zb4 v.keys.length v.keys) ((zb4 v.keys.length v.keys).map fun key => ((zbH v.items)[zd4 key v.keys]?).getD jvZ):=by cases v; rw [za2]; rfl
theorem zb7:∀ l:List JV,(zbH l).length=l.length
 | [] => by rw [zbH]
 | v :: l => by rw [zbH,List.length_cons,zb7 l,List.length_cons]
theorem zdB:∀ {l:List JV} {i:Nat} (hi:i < l.length),(zbH l)[i]? = some (za2 l[i])
 | a :: l,0,hi => by rw [zbH]; rfl
 | a :: l,i + 1,hi => by rw [zbH]; simpa using zdB (l:=l) (i:=i) (by simpa using hi)
def bvB (v:JV):OB:=.box 25 [.i .i64 v.kind,.s v.text,.row v.keys.length (v.keys.map .s),.row v.items.length (zac v.items)]
def oB (v:JV) (X Y:AV):OB:=.box 25 [.i .i64 v.kind,.s v.text,X,Y]
section
variable [Tabs Tryz.prog]
theorem zmp:∀ (m:Nat) (v:JV),v.size < m → zdd v=true → JOk v → JBd v → ∀ {objs:List OB} {K:List OB → AV → Prop},K objs (.agg (zaj (za2 v))) → zae Tryz.prog 24 [.agg (zaj v)] objs K:=by
 intro m
 induction m with
 | zero => intro v h; omega
 | succ m ih =>
  intro v hm hsv hv hbd objs K hk
  obtain ⟨l1,l2⟩:=hbd.lens
  have kvd:=zc4 hsv
  refine jres (.agg (zaj (za2 v))) ?_
  refine zaV is_ref15_order (by simp only [zaq,AV.plain,zaJ,Bool.and_self]) fun C _ => ?_
  have cv:∀ {ks:List (List UInt8)} {its:List JV} {X' Y':AV},za2 v=.mk v.kind v.text ks its → giv ks.length (ks.map .s) X' → giv its.length (zac its) Y' → ∀ G I y,Den G I (.agg [.i .i64 v.kind,.s v.text,X',Y']) y → Den G I (.agg (zaj (za2 v))) y:=by
   intro ks its X' Y' he h1 h2 G I y hy
   rw [he,zaj]
   simp only [zah,Den] at hy ⊢
   obtain ⟨zs,rfl,⟨z0,m0,rfl,q0,z1,m1,rfl,q1,z2,m2,rfl,q2,z3,m3,rfl,q3,q4⟩,hz⟩:=hy
   exact ⟨_,rfl,⟨_,_,rfl,q0,_,_,rfl,q1,_,_,rfl,zch h1 q2,_,_,rfl,zch h2 q3,q4⟩,hz⟩
  rw [c_ref15_order]
  have hjv:=zaf v
  rw [hjv]
  refine zaa fun Z hZ => ?_
  simp only [sxZ,z6,z7,z8,j4,j5,j6,j7,j8,j9,x4,x5,x6,x7,x8,x9,reduceCtorEq,↓reduceIte]
  subst hZ
  refine zaa fun Z hZ => ?_
  simp only [sxZ,z6,z7,z8,j4,j5,j6,j7,j8,j9,x4,x5,x6,x7,x8,x9,reduceCtorEq,↓reduceIte]
  have hO:zau ((0,bvB v) :: (1,zvB) :: (2,oB v .nil .nil) :: ([] ++ ([] ++ []))) [bvB v,zvB,oB v .nil .nil]:=⟨by simp,fun x hx => by
   simp only [List.mem_cons,List.not_mem_nil,or_false,List.nil_append] at hx
   rcases hx with rfl | rfl | rfl <;> rfl⟩
  have f0:[OB.box 25 [.i .i64 v.kind,.s v.text,.row v.keys.length (v.keys.map .s),.row v.items.length (zac v.items)],OB.box 25 [.i .i64 0,.s [],.nil,.nil],OB.box 25 [.i .i64 v.kind,.s v.text,.nil,.nil]]=[bvB v,zvB,oB v .nil .nil]:=rfl
  rw [f0]
  generalize [bvB v,zvB,oB v .nil .nil]=o at hO ⊢
  have st:∀ (o:List OB) (X Y:AV) (R1 R2:List (Nat × OB)),zau ((0,bvB v) :: (1,zvB) :: (2,oB v X Y) :: (R1 ++ (R2 ++ []))) o → o[0]? = some (.box 25 [.i .i64 v.kind,.s v.text,.row v.keys.length (v.keys.map .s),.row v.items.length (zac v.items)]) ∧ o[1]? = some (.box 25 [.i .i64 0,.s [],.nil,.nil]) ∧ o[2]? = some (.box 25 [.i .i64 v.kind,.s v.text,X,Y]) ∧ (∀ x,(o.set 1 x)[1]? = some x) :=
   fun o X Y R1 R2 h => ⟨h.get (by simp [bvB]),h.get (by simp [zvB]),h.get (by simp [oB]),fun x => List.getElem?_set_self (h.lt (i:=1) (x:=zvB) (by simp))⟩
  obtain ⟨e0,e1,e2,s1⟩:=st _ _ _ _ _ hO
  subst hZ
  refine za1 (fun tm => tm.length=63 ∧ tm[1]? = some (.p 0 0) ∧ tm[2]? = some (.p 1 0) ∧ tm[3]? = some (.p 2 0)) ?_ ?_
  ·exact ⟨rfl,rfl,rfl,rfl⟩
  rintro tm ⟨hlen,t1,t2,t3⟩
  refine zaa fun Z hZ => ?_
  by_cases c6:v.kind=6
  ·have hsi:zcI v.items=true:=by
    rcases kvd with ⟨h0,_⟩ | ⟨_,_,h⟩ | ⟨h0,_⟩
    ·omega
    ·exact h
    ·omega
   have hoj:za2 v=.mk v.kind v.text [] (zbH v.items):=by rw [zic,if_pos c6]
   rw [c6] at e0
   simp only [sxZ,z6,z7,z8,j4,j5,j6,j7,j8,j9,x4,x5,x6,x7,x8,x9,reduceCtorEq,↓reduceIte,List.getElem?_set,hlen,t1,e0,c6]
   refine zaA (fun n o tm => ∃ (i:Nat) (acc:List JV) (Y:AV) (R2:List (Nat × OB)),i ≤ v.items.length ∧ n=v.items.length - i ∧ acc=(zbH v.items).take i ∧ acc.length=i ∧ SlO 25 4 acc.length (zac acc) Y R2 ∧ zau ((0,bvB v) :: (1,zvB) :: (2,oB v .nil Y) :: ([] ++ (R2 ++ []))) o ∧ tm.length=63 ∧ tm[1]? = some (.p 0 0) ∧ tm[2]? = some (.p 1 0) ∧ tm[3]? = some (.p 2 0) ∧ tm[19]? = some (.row v.items.length (zac v.items)) ∧ tm[20]? = some (.i .i64 (v.items.length:Int)) ∧ tm[21]? = some (.i .i64 (i:Int))) v.items.length ⟨0,[],.nil,[],Nat.zero_le _,rfl,rfl,rfl,.inl ⟨rfl,zas,rfl,rfl⟩,hO,?_⟩ ?_
   ·simp only [sxZ,z6,z7,z8,j4,j5,j6,j7,j8,j9,x4,x5,x6,x7,x8,x9,reduceCtorEq,↓reduceIte,List.length_set,List.getElem?_set,hlen,t1,t2,t3,Int.cast_ofNat_Int,and_self]
   clear hlen t1 t2 t3 hO e0 e1 e2 s1
   rintro n o tm ⟨i,acc,Y,R2,hi,rfl,ha,hal,hS,hO,hlen,t1,t2,t3,t19,t20,t21⟩
   obtain ⟨e0,e1,e2,s1⟩:=st _ _ _ _ _ hO
   refine zaa fun W hW => ?_
   by_cases hlt:(i:Int) < (v.items.length:Int)
   ·have hi':i < v.items.length:=by omega
    have hjc:=zdF hi'
    have hjl:=zax v.items
    have hsz:=zaT hi'
    have hoi:=zdB hi'
    have hcall:=fun {objs:List OB} {K:List OB → AV → Prop} (h:K objs (.agg (zaj (za2 v.items[i])))) => ih v.items[i] (by omega) (zdR hsi hi') (hv.its hi') (hbd.its hi') (objs:=objs) (K:=K) h
    have hacc:acc ++ [za2 v.items[i]]=(zbH v.items).take (i + 1):=by
     rw [ha]
     have h1:i < (zbH v.items).length:=by rw [zb7]; exact hi'
     rw [List.take_add_one,hoi]; rfl
    generalize v.items[i]=x at hjc hcall hacc
    generalize za2 x=y at hcall hacc
    have hjx:=zaf x
    obtain ⟨c0,c1,c2,c3,hcv⟩:∃ c0 c1 c2 c3,zaj y=[c0,c1,c2,c3]:=⟨_,_,_,_,zaf y⟩
    rw [hjx] at hjc hcall
    rw [hcv] at hcall
    simp only [sxZ,z6,z7,z8,j4,j5,j6,j7,j8,j9,x4,x5,x6,x7,x8,x9,reduceCtorEq,↓reduceIte,List.getElem?_set,hlen,t19,t20,t21,hlt]
    subst hW
    refine zaa fun W hW => ?_
    simp only [sxZ,z6,z7,z8,j4,j5,j6,j7,j8,j9,x4,x5,x6,x7,x8,x9,reduceCtorEq,↓reduceIte,List.getElem?_set,hlen]
    subst hW
    refine zaa fun V hV => ?_
    rw [zaB]
    refine zaa fun W hW => ?_
    simp only [sxZ,z6,z7,z8,j4,j5,j6,j7,j8,j9,x4,x5,x6,x7,x8,x9,reduceCtorEq,↓reduceIte,List.getElem?_set,hlen,t19,t21,hjc]
    refine ⟨⟨by omega,by omega,by omega⟩,by omega,?_⟩
    simp only [sxZ,z6,z7,z8,j4,j5,j6,j7,j8,j9,x4,x5,x6,x7,x8,x9,reduceCtorEq,↓reduceIte,List.getElem?_set,hlen,gn1,sn1]
    have hO2:=hO.new (.box 25 [.i .i64 x.kind,.s x.text,.row x.keys.length (x.keys.map .s),.row x.items.length (zac x.items)])
    have ei:=hO2.get (i:=o.length) (x:=.box 25 [.i .i64 x.kind,.s x.text,.row x.keys.length (x.keys.map .s),.row x.items.length (zac x.items)]) (by simp)
    have hO3:zau ((0,bvB v) :: (1,zvB) :: (2,oB v .nil Y) :: ([] ++ (R2 ++ []))) (o ++ [.box 25 [.i .i64 x.kind,.s x.text,.row x.keys.length (x.keys.map .s),.row x.items.length (zac x.items)]]):=hO2.sub (List.sublist_cons_self _ _)
    clear hO hO2 e0 e1 e2 s1
    generalize o.length=qi at ei ⊢
    generalize o ++ [OB.box 25 [.i .i64 x.kind,.s x.text,.row x.keys.length (x.keys.map .s),.row x.items.length (zac x.items)]]=o at ei hO3 ⊢
    obtain ⟨e0,e1,e2,s1⟩:=st _ _ _ _ _ hO3
    subst hW
    refine zav (fun o tm => ∃ Y' R2',SlO 25 4 (acc ++ [y]).length (zac (acc ++ [y])) Y' R2' ∧ zau ((0,bvB v) :: (1,zvB) :: (2,oB v .nil Y') :: ([] ++ (R2' ++ []))) o ∧ tm.length=63 ∧ tm[1]? = some (.p 0 0) ∧ tm[2]? = some (.p 1 0) ∧ tm[3]? = some (.p 2 0) ∧ tm[19]? = some (.row v.items.length (zac v.items)) ∧ tm[20]? = some (.i .i64 (v.items.length:Int)) ∧ tm[21]? = some (.i .i64 (i:Int))) ?_ ?_
    ·simp only [sxZ,z6,z7,z8,j4,j5,j6,j7,j8,j9,x4,x5,x6,x7,x8,x9,reduceCtorEq,↓reduceIte,List.getElem?_set,hlen,t3,e2,ei]
     refine zco (hcall ⟨rfl,rfl⟩) ?_
     rcases hS with ⟨z1,z2,rfl,rfl⟩ | ⟨b,g,rfl,rfl⟩
     ·have a0:acc=[]:=List.eq_nil_of_length_eq_zero z1
      have hlt0:=(List.getElem?_eq_some_iff.1 e2).1
      have hne:¬ o.length=2:=by omega
      have gx:∀ z,(o ++ [z])[2]? = some (.box 25 [.i .i64 v.kind,.s v.text,.nil,.nil]):=fun z => by rw [List.getElem?_append_left hlt0]; exact e2
      simp only [sxZ,z6,z7,z8,j4,j5,j6,j7,j8,j9,x4,x5,x6,x7,x8,x9,reduceCtorEq,↓reduceIte,List.getElem?_set,hlen,t3,gn1,sn1,gx,hne,zab,List.length_set,t1,t2,t19,t20,t21,and_self,and_true]
      have hN:=hO3.new (.orow 25 4 0 1 [c0,c1,c2,c3])
      have hR:=hN.set (A:=[(o.length,OB.orow 25 4 0 1 [c0,c1,c2,c3]),(0,bvB v),(1,zvB)]) (oB v .nil (.orow o.length 0))
      refine ⟨_,[(o.length,OB.orow 25 4 0 1 [c0,c1,c2,c3])],.inr ⟨_,_,rfl,by rw [a0,List.nil_append,zaw,zas,hcv]; rfl⟩,hR.perm ?_⟩
      exact List.perm_append_comm (l₁:=[(o.length,OB.orow 25 4 0 1 [c0,c1,c2,c3])]) (l₂:=[(0,bvB v),(1,zvB),(2,oB v .nil (.orow o.length 0))])
     ·have hl2:acc.length ≤ 1099511627776:=by omega
      have e5:=hO3.get (i:=b) (x:=.orow 25 4 g acc.length (zac acc)) (by simp)
      have hlt4:=(List.getElem?_eq_some_iff.1 e5).1
      have hne:¬ b=2:=by
       intro h
       have:=hO3.1
       simp only [List.map_cons,List.map_append,List.nodup_cons] at this
       exact this.2.2.1 (by simp [h])
      have gs:∀ z,(o.set b z)[b]? = some z:=fun z => List.getElem?_set_self hlt4
      have gx:∀ z,(o.set b z)[2]? = some (.box 25 [.i .i64 v.kind,.s v.text,.nil,.orow b g]):=fun z => by rw [List.getElem?_set_ne hne]; exact e2
      have hjl:=zax acc
      simp only [sxZ,z6,z7,z8,j4,j5,j6,j7,j8,j9,x4,x5,x6,x7,x8,x9,reduceCtorEq,↓reduceIte,List.getElem?_set,hlen,t3,e5,gs,gx,hne,zab,List.length_set,t1,t2,t19,t20,t21,and_self,and_true]
      refine ⟨⟨by omega,by omega⟩,?_⟩
      have hN:=hO3.set (A:=[(0,bvB v),(1,zvB),(2,oB v .nil (.orow b g))]) (.orow 25 4 (g + 1) (acc.length + 1) (zac acc ++ [c0,c1,c2,c3]))
      have hR:=hN.set (A:=[(0,bvB v),(1,zvB)]) (oB v .nil (.orow b (g + 1)))
      exact ⟨_,[(b,.orow 25 4 (g + 1) (acc.length + 1) (zac acc ++ [c0,c1,c2,c3]))],.inr ⟨_,_,rfl,by rw [zbW,zaw,zas,hcv]; rfl⟩,hR⟩
    ·clear hlen t1 t2 t3 t19 t20 t21 e0 e1 e2 s1 ei hO3 hS
     rintro o5 tm ⟨Y',R2',hS,hO5,hlen,t1,t2,t3,t19,t20,t21⟩
     subst hV
     simp only [sxZ,z6,z7,z8,j4,j5,j6,j7,j8,j9,x4,x5,x6,x7,x8,x9,reduceCtorEq,↓reduceIte,List.getElem?_set,hlen,t1,t2,t3,t19,t20,t21]
     exact ⟨by omega,v.items.length - (i + 1),by omega,i + 1,acc ++ [y],Y',R2',by omega,rfl,hacc,by rw [List.length_append,hal]; rfl,hS,by simpa using hO5,rfl⟩
   have hn:i=v.items.length:=by omega
   rw [hn,List.take_of_length_le (by rw [zb7]; omega)] at ha
   simp only [sxZ,z6,z7,z8,j4,j5,j6,j7,j8,j9,x4,x5,x6,x7,x8,x9,reduceCtorEq,↓reduceIte,List.getElem?_set,hlen,t19,t20,t21,hlt]
   subst hW
   rw [← ha] at hoj
   rcases hS with ⟨z1,z2,rfl,rfl⟩ | ⟨b,g,rfl,rfl⟩
   ·simp only [sxZ,z6,z7,z8,j4,j5,j6,j7,j8,j9,x4,x5,x6,x7,x8,x9,reduceCtorEq,↓reduceIte,List.getElem?_set,hlen,t2,t3,e1,e2,s1]
    exact ⟨cv hoj (.inl ⟨rfl,rfl,rfl⟩) (.inl ⟨z1,z2,rfl⟩),hk⟩
   ·have hO2:=zau.set (A:=[(0,bvB v)]) (OB.box 25 [.i .i64 v.kind,.s v.text,.nil,.orow b g]) hO
    have eb:=hO2.get (i:=b) (x:=.orow 25 4 g acc.length (zac acc)) (by simp)
    simp only [sxZ,z6,z7,z8,j4,j5,j6,j7,j8,j9,x4,x5,x6,x7,x8,x9,reduceCtorEq,↓reduceIte,List.getElem?_set,hlen,t2,t3,e1,e2,s1,eb,zeU]
    exact ⟨cv hoj (.inl ⟨rfl,rfl,rfl⟩) (.inr rfl),hk⟩
  have hlk:v.keys.length=v.items.length ∧ v.keys.Nodup:=by
   rcases kvd with ⟨_,h1,h2⟩ | ⟨h0,_⟩ | ⟨_,h1,h2,_⟩
   ·have:v.keys=[]:=List.eq_nil_of_length_eq_zero h1
    exact ⟨by omega,by rw [this]; exact List.nodup_nil⟩
   ·exact absurd h0 c6
   ·exact ⟨h1,h2⟩
  have hoj:za2 v=.mk v.kind v.text (zb4 v.keys.length v.keys) ((zb4 v.keys.length v.keys).map fun key => ((zbH v.items)[zd4 key v.keys]?).getD jvZ):=by rw [zic,if_neg c6]
  have hperm:=zaY v.keys.length v.keys
  have hSl:=hperm.length_eq
  have hgv:=fun (key:List UInt8) {objs:List OB} {K:List OB → AV → Prop} (h) => zkx v key hv (objs:=objs) (K:=K) h
  rw [hjv] at hgv
  simp only [sxZ,z6,z7,z8,j4,j5,j6,j7,j8,j9,x4,x5,x6,x7,x8,x9,reduceCtorEq,↓reduceIte,List.getElem?_set,hlen,t1,e0,c6]
  subst hZ
  refine zaa fun Z hZ => ?_
  refine zaa fun W hW => ?_
  simp only [sxZ,z6,z7,z8,j4,j5,j6,j7,j8,j9,x4,x5,x6,x7,x8,x9,reduceCtorEq,↓reduceIte,List.getElem?_set,hlen,t1,e0]
  refine zak (ziS v.keys.length v.keys (Nat.le_refl _) l1 ?_)
  generalize zb4 v.keys.length v.keys=S at hoj hperm hSl ⊢
  simp only [sxZ,z6,z7,z8,j4,j5,j6,j7,j8,j9,x4,x5,x6,x7,x8,x9,reduceCtorEq,↓reduceIte,List.getElem?_set,hlen]
  subst hW
  rw [zaB]
  refine zaA (fun n o tm => ∃ (i:Nat) (ks:List (List UInt8)) (its:List JV) (X:AV) (R1:List (Nat × OB)) (Y:AV) (R2:List (Nat × OB)),i ≤ S.length ∧ n=S.length - i ∧ ks=S.take i ∧ its=(S.map fun key => ((zbH v.items)[zd4 key v.keys]?).getD jvZ).take i ∧ ks.length=i ∧ its.length=i ∧ SlP ks its X R1 Y R2 ∧ zau ((0,bvB v) :: (1,zvB) :: (2,oB v X Y) :: (R1 ++ (R2 ++ []))) o ∧ tm.length=63 ∧ tm[1]? = some (.p 0 0) ∧ tm[2]? = some (.p 1 0) ∧ tm[3]? = some (.p 2 0) ∧ tm[36]? = some (.row S.length (S.map .s)) ∧ tm[37]? = some (.i .i64 (S.length:Int)) ∧ tm[38]? = some (.i .i64 (i:Int))) S.length ⟨0,[],[],.nil,[],.nil,[],Nat.zero_le _,rfl,rfl,rfl,rfl,rfl,.inl ⟨rfl,rfl,rfl,rfl,rfl,rfl⟩,hO,?_⟩ ?_
  ·simp only [sxZ,z6,z7,z8,j4,j5,j6,j7,j8,j9,x4,x5,x6,x7,x8,x9,reduceCtorEq,↓reduceIte,List.length_set,List.getElem?_set,hlen,t1,t2,t3,Int.cast_ofNat_Int,and_self]
  clear hlen t1 t2 t3 hO e0 e1 e2 s1
  rintro n o tm ⟨i,ks,its,X,R1,Y,R2,hi,rfl,hks,hits,hkl,hil,hS,hO,hlen,t1,t2,t3,t36,t37,t38⟩
  obtain ⟨e0,e1,e2,s1⟩:=st _ _ _ _ _ hO
  refine zaa fun W hW => ?_
  by_cases hlt:(i:Int) < (S.length:Int)
  ·have hi':i < S.length:=by omega
   have kv:(S.map AV.s)[i * 1]? = some (.s S[i]):=by rw [Nat.mul_one,List.getElem?_map,List.getElem?_eq_getElem hi']; rfl
   have hmem:S[i] ∈ v.keys:=hperm.mem_iff.1 (List.getElem_mem hi')
   have hks2:ks ++ [S[i]]=S.take (i + 1):=by rw [hks,List.take_add_one,List.getElem?_eq_getElem hi']; rfl
   have hits2:its ++ [((zbH v.items)[zd4 S[i] v.keys]?).getD jvZ]=(S.map fun key => ((zbH v.items)[zd4 key v.keys]?).getD jvZ).take (i + 1):=by
    rw [hits,List.take_add_one,List.getElem?_map,List.getElem?_eq_getElem hi']; rfl
   generalize S[i]=key at kv hmem hks2 hits2
   obtain ⟨j,hj⟩:=List.mem_iff_getElem?.1 hmem
   obtain ⟨hj1,hj2⟩:=List.getElem?_eq_some_iff.1 hj
   have k7:v.kind=7 ∧ zcI v.items=true:=by
    rcases kvd with ⟨_,h1,h2⟩ | ⟨h0,_⟩ | ⟨h,_,_,h2⟩
    ·omega
    ·exact absurd h0 c6
    ·exact ⟨h,h2⟩
   have hj3:j < v.items.length:=by omega
   have hgo:=ziu k7.1 hlk.1 hlk.2 hj1
   have hidx:=zcp hlk.2 hj1
   rw [hj2] at hgo hidx
   have hgv:=@hgv key
   rw [hgo] at hgv
   rw [hidx,zdB hj3,Option.getD_some] at hits2
   have hsz:=zaT hj3
   have hcall:=fun {objs:List OB} {K:List OB → AV → Prop} (h:K objs (.agg (zaj (za2 v.items[j])))) => ih v.items[j] (by omega) (zdR k7.2 hj3) (hv.its hj3) (hbd.its hj3) (objs:=objs) (K:=K) h
   generalize v.items[j]=x at hgv hcall hits2
   generalize za2 x=y at hcall hits2
   have hjx:=zaf x
   obtain ⟨c0,c1,c2,c3,hcv⟩:∃ c0 c1 c2 c3,zaj y=[c0,c1,c2,c3]:=⟨_,_,_,_,zaf y⟩
   unfold zhp at hgv
   simp only at hgv
   rw [hjx] at hgv hcall
   rw [hcv] at hcall
   simp only [sxZ,z6,z7,z8,j4,j5,j6,j7,j8,j9,x4,x5,x6,x7,x8,x9,reduceCtorEq,↓reduceIte,List.getElem?_set,hlen,t36,t37,t38,hlt]
   subst hW
   refine zaa fun W hW => ?_
   simp only [sxZ,z6,z7,z8,j4,j5,j6,j7,j8,j9,x4,x5,x6,x7,x8,x9,reduceCtorEq,↓reduceIte,List.getElem?_set,hlen]
   subst hW
   refine zaa fun V hV => ?_
   rw [zaB]
   refine zaa fun W hW => ?_
   simp only [sxZ,z6,z7,z8,j4,j5,j6,j7,j8,j9,x4,x5,x6,x7,x8,x9,reduceCtorEq,↓reduceIte,List.getElem?_set,hlen,t36,t38,kv,List.length_map]
   refine ⟨⟨by omega,by omega,by omega⟩,?_⟩
   subst hW
   refine zaa fun W hW => ?_
   simp only [sxZ,z6,z7,z8,j4,j5,j6,j7,j8,j9,x4,x5,x6,x7,x8,x9,reduceCtorEq,↓reduceIte,List.getElem?_set,hlen,t1,e0]
   refine zak (hgv ?_)
   simp only [sxZ,z6,z7,z8,j4,j5,j6,j7,j8,j9,x4,x5,x6,x7,x8,x9,reduceCtorEq,↓reduceIte,List.getElem?_set,hlen,gn1,sn1]
   have hO2:=hO.new (.box 25 [.i .i64 x.kind,.s x.text,.row x.keys.length (x.keys.map .s),.row x.items.length (zac x.items)])
   clear hO e0 e1 e2 s1
   generalize o.length=qi at hO2 ⊢
   generalize o ++ [OB.box 25 [.i .i64 x.kind,.s x.text,.row x.keys.length (x.keys.map .s),.row x.items.length (zac x.items)]]=o8 at hO2 ⊢
   have hO8p:zau ((0,bvB v) :: (1,zvB) :: (2,oB v X Y) :: (R1 ++ (R2 ++ []))) o8:=hO2.sub (List.sublist_cons_self _ _)
   have ei:=hO2.get (i:=qi) (x:=.box 25 [.i .i64 x.kind,.s x.text,.row x.keys.length (x.keys.map .s),.row x.items.length (zac x.items)]) (by simp)
   obtain ⟨e0,e1,e3,s1⟩:=st _ _ _ _ _ hO8p
   subst hW
   refine zav (fun o tm => ∃ X' R1' Y' R2',SlP (ks ++ [key]) (its ++ [y]) X' R1' Y' R2' ∧ zau ((0,bvB v) :: (1,zvB) :: (2,oB v X' Y') :: (R1' ++ (R2' ++ []))) o ∧ tm.length=63 ∧ tm[1]? = some (.p 0 0) ∧ tm[2]? = some (.p 1 0) ∧ tm[3]? = some (.p 2 0) ∧ tm[36]? = some (.row S.length (S.map .s)) ∧ tm[37]? = some (.i .i64 (S.length:Int)) ∧ tm[38]? = some (.i .i64 (i:Int))) ?_ ?_
   ·rcases hS with ⟨z1,z2,rfl,rfl,rfl,rfl⟩ | ⟨b1,g1,b2,g2,rfl,rfl,rfl,rfl⟩
    ·have hlq:=(List.getElem?_eq_some_iff.1 e3).1
     have hli:=(List.getElem?_eq_some_iff.1 ei).1
     have n1:¬ 2=o8.length:=by omega
     have n2:¬ qi=o8.length:=by omega
     have h1:∀ x,(o8 ++ [x])[2]? = some (.box 25 [.i .i64 v.kind,.s v.text,.nil,.nil]):=fun x => by rw [List.getElem?_append_left hlq]; exact e3
     have h2:∀ z,(o8 ++ [z])[qi]? = some (.box 25 [.i .i64 x.kind,.s x.text,.row x.keys.length (x.keys.map .s),.row x.items.length (zac x.items)]):=fun z => by rw [List.getElem?_append_left hli]; exact ei
     have h3:∀ x y,(o8 ++ [x] ++ [y])[2]? = some (.box 25 [.i .i64 v.kind,.s v.text,.nil,.nil]):=fun x y => by rw [List.getElem?_append_left (by simp; omega)]; exact h1 x
     have h4:∀ x y z,((o8 ++ [x] ++ [y]).set 2 z)[2]? = some z:=fun x y z => List.getElem?_set_self (by simp; omega)
     subst z1 z2
     simp only [sxZ,z6,z7,z8,j4,j5,j6,j7,j8,j9,x4,x5,x6,x7,x8,x9,reduceCtorEq,↓reduceIte,List.getElem?_set,hlen,t3,e3,ei,gn1,sn1,h1,h2,h3,h4,n1,n2]
     refine zco (hcall ⟨rfl,rfl⟩) ?_
     simp only [sxZ,z6,z7,z8,j4,j5,j6,j7,j8,j9,x4,x5,x6,x7,x8,x9,reduceCtorEq,↓reduceIte,List.getElem?_set,hlen,t3,e3,ei,gn1,sn1,h1,h2,h3,h4,n1,n2,zab,List.length_set,List.set_set,t1,t2,t36,t37,t38,and_self,and_true,not_false_eq_true,true_and]
     have hN:=(hO8p.new (.orow 9 1 0 1 [AV.s key])).new (.orow 25 4 0 1 [c0,c1,c2,c3])
     have elen:(o8 ++ [OB.orow 9 1 0 1 [AV.s key]]).length=o8.length + 1:=by simp
     rw [elen] at hN
     have hR:=hN.set (A:=[(o8.length + 1,OB.orow 25 4 0 1 [c0,c1,c2,c3]),(o8.length,OB.orow 9 1 0 1 [AV.s key]),(0,bvB v),(1,zvB)]) (oB v (.orow o8.length 0) (.orow (o8.length + 1) 0))
     refine ⟨_,[(o8.length,OB.orow 9 1 0 1 [AV.s key])],_,[(o8.length + 1,OB.orow 25 4 0 1 [c0,c1,c2,c3])],.inr ⟨_,_,_,_,rfl,rfl,rfl,by rw [zaw,zas,hcv]; rfl⟩,hR.perm ?_⟩
     refine (List.perm_append_comm (l₁:=[(o8.length + 1,OB.orow 25 4 0 1 [c0,c1,c2,c3]),(o8.length,OB.orow 9 1 0 1 [AV.s key])]) (l₂:=[(0,bvB v),(1,zvB),(2,oB v (.orow o8.length 0) (.orow (o8.length + 1) 0))])).trans ?_
     exact List.Perm.cons _ (List.Perm.cons _ (List.Perm.cons _ (List.Perm.swap _ _ _)))
    ·have eb1:=hO8p.get (i:=b1) (x:=.orow 9 1 g1 ks.length (ks.map .s)) (by simp)
     have eb2:=hO8p.get (i:=b2) (x:=.orow 25 4 g2 its.length (zac its)) (by simp)
     have hlq:=(List.getElem?_eq_some_iff.1 e3).1
     have hl1:=(List.getElem?_eq_some_iff.1 eb1).1
     have hl2:=(List.getElem?_eq_some_iff.1 eb2).1
     have hnd8:=hO2.1
     simp only [List.map_cons,List.map_append,List.map_nil,List.nodup_cons,List.cons_append,List.nil_append,List.mem_cons,List.mem_append,List.not_mem_nil,or_false,not_or] at hnd8
     have n1:¬ 2=b1:=hnd8.2.2.2.1.1
     have n2:¬ qi=b1:=hnd8.1.2.2.2.1
     have n3:¬ b1=b2:=hnd8.2.2.2.2.1
     have n4:¬ 2=b2:=hnd8.2.2.2.1.2
     have n1':¬ b1=2:=fun h => n1 h.symm
     have n2':¬ b1=qi:=fun h => n2 h.symm
     have n4':¬ b2=2:=fun h => n4 h.symm
     have h0:∀ x,(o8.set b1 x)[b1]? = some x:=fun x => List.getElem?_set_self hl1
     have h1:∀ x,(o8.set b1 x)[2]? = some (.box 25 [.i .i64 v.kind,.s v.text,.orow b1 g1,.orow b2 g2]):=fun x => by rw [List.getElem?_set_ne n1']; exact e3
     have h2:∀ z,(o8.set b1 z)[qi]? = some (.box 25 [.i .i64 x.kind,.s x.text,.row x.keys.length (x.keys.map .s),.row x.items.length (zac x.items)]):=fun z => by rw [List.getElem?_set_ne n2']; exact ei
     have h5:∀ x,(o8.set b1 x)[b2]? = some (.orow 25 4 g2 its.length (zac its)):=fun x => by rw [List.getElem?_set_ne n3]; exact eb2
     have h3:∀ x y,((o8.set b1 x).set b2 y)[2]? = some (.box 25 [.i .i64 v.kind,.s v.text,.orow b1 g1,.orow b2 g2]):=fun x y => by rw [List.getElem?_set_ne n4']; exact h1 x
     have h4:∀ x y z,(((o8.set b1 x).set b2 y).set 2 z)[2]? = some z:=fun x y z => List.getElem?_set_self (by simp; omega)
     have hjl:=zax its
     simp only [sxZ,z6,z7,z8,j4,j5,j6,j7,j8,j9,x4,x5,x6,x7,x8,x9,reduceCtorEq,↓reduceIte,List.getElem?_set,hlen,t3,e3,ei,eb1,h0,h1,h2,h3,h4,h5,n1,n2]
     refine ⟨⟨by omega,by omega⟩,?_⟩
     refine zco (hcall ⟨rfl,rfl⟩) ?_
     simp only [sxZ,z6,z7,z8,j4,j5,j6,j7,j8,j9,x4,x5,x6,x7,x8,x9,reduceCtorEq,↓reduceIte,List.getElem?_set,hlen,t3,e3,ei,eb1,h0,h1,h2,h3,h4,h5,n1,n2,zab,List.length_set,List.set_set,t1,t2,t36,t37,t38,and_self,and_true,not_false_eq_true,true_and]
     refine ⟨⟨by omega,by omega⟩,?_⟩
     have hN:=hO8p.set (A:=[(0,bvB v),(1,zvB),(2,oB v (.orow b1 g1) (.orow b2 g2))]) (.orow 9 1 (g1 + 1) (ks.length + 1) (ks.map AV.s ++ [AV.s key]))
     have hN:=hN.set (A:=[(0,bvB v),(1,zvB),(2,oB v (.orow b1 g1) (.orow b2 g2)),(b1,OB.orow 9 1 (g1 + 1) (ks.length + 1) (ks.map AV.s ++ [AV.s key]))]) (.orow 25 4 (g2 + 1) (its.length + 1) (zac its ++ [c0,c1,c2,c3]))
     have hR:=hN.set (A:=[(0,bvB v),(1,zvB)]) (oB v (.orow b1 (g1 + 1)) (.orow b2 (g2 + 1)))
     exact ⟨_,[(b1,OB.orow 9 1 (g1 + 1) (ks.length + 1) (ks.map AV.s ++ [AV.s key]))],_,[(b2,OB.orow 25 4 (g2 + 1) (its.length + 1) (zac its ++ [c0,c1,c2,c3]))],.inr ⟨_,_,_,_,rfl,by rw [List.map_append,List.length_append]; rfl,rfl,by rw [zbW,zaw,zas,hcv,List.length_append]; rfl⟩,hR⟩
   ·clear hlen t1 t2 t3 t36 t37 t38 e0 e1 e3 s1 ei hO2 hO8p hS
    rintro o5 tm ⟨X',R1',Y',R2',hS,hO5,hlen,t1,t2,t3,t36,t37,t38⟩
    subst hV
    simp only [sxZ,z6,z7,z8,j4,j5,j6,j7,j8,j9,x4,x5,x6,x7,x8,x9,reduceCtorEq,↓reduceIte,List.getElem?_set,hlen,t1,t2,t3,t36,t37,t38]
    exact ⟨by omega,S.length - (i + 1),by omega,i + 1,ks ++ [key],its ++ [y],X',R1',Y',R2',by omega,rfl,hks2,hits2,by rw [List.length_append,hkl]; rfl,by rw [List.length_append,hil]; rfl,hS,by simpa using hO5,rfl⟩
  have hn:i=S.length:=by omega
  rw [hn,List.take_of_length_le (Nat.le_refl _)] at hks
  rw [hn,List.take_of_length_le (by simp)] at hits
  rw [← hits] at hoj
  rw [← hks] at hoj
  simp only [sxZ,z6,z7,z8,j4,j5,j6,j7,j8,j9,x4,x5,x6,x7,x8,x9,reduceCtorEq,↓reduceIte,List.getElem?_set,hlen,t36,t37,t38,hlt]
  subst hW
  subst hZ
  rcases hS with ⟨z1,z2,rfl,rfl,rfl,rfl⟩ | ⟨b1,g1,b2,g2,rfl,rfl,rfl,rfl⟩
  ·simp only [sxZ,z6,z7,z8,j4,j5,j6,j7,j8,j9,x4,x5,x6,x7,x8,x9,reduceCtorEq,↓reduceIte,List.getElem?_set,hlen,t2,t3,e1,e2,s1]
   exact ⟨cv hoj (.inl ⟨by rw [z1]; rfl,by rw [z1]; rfl,rfl⟩) (.inl ⟨by rw [z2]; rfl,by rw [z2,zas],rfl⟩),hk⟩
  ·have hO2:=zau.set (A:=[(0,bvB v)]) (OB.box 25 [.i .i64 v.kind,.s v.text,.orow b1 g1,.orow b2 g2]) hO
   have eb1:=hO2.get (i:=b1) (x:=.orow 9 1 g1 ks.length (ks.map .s)) (by simp)
   have eb2:=hO2.get (i:=b2) (x:=.orow 25 4 g2 its.length (zac its)) (by simp)
   simp only [sxZ,z6,z7,z8,j4,j5,j6,j7,j8,j9,x4,x5,x6,x7,x8,x9,reduceCtorEq,↓reduceIte,List.getElem?_set,hlen,t2,t3,e1,e2,s1,eb1,eb2,zeU,zcR]
   exact ⟨cv hoj (.inr rfl) (.inr rfl),hk⟩
end
end
end Go.Proofs.YtadhjoggdbhkgaaGreatDoor
namespace Go.Proofs.YtadhjoggdbhkgaaGreatDoor
open Go.RowKit Sx
theorem tnews1 (W:World) (a:Value):∀ j u,[a][j]? = some u → (W.alloc (.cells #[a] 5)).cell? ((⟨W.heap.size,0,none⟩:Addr).add j)=some u:=by
 intro j u hj
 rw [zay,World.cell?_alloc_at _ _ _ _ rfl]
 simpa using hj
theorem tnews2 (W:World) (a b:Value):∀ j u,[a,b][j]? = some u → (W.alloc (.cells #[a,b] 5)).cell? ((⟨W.heap.size,0,none⟩:Addr).add j)=some u:=by
 intro j u hj
 rw [zay,World.cell?_alloc_at _ _ _ _ rfl]
 simpa using hj
theorem tnews6 (W:World) (a b c d e f:Value):∀ j u,[a,b,c,d,e,f][j]? = some u → (W.alloc (.cells #[a,b,c,d,e,f] 5)).cell? ((⟨W.heap.size,0,none⟩:Addr).add j)=some u:=by
 intro j u hj
 rw [zay,World.cell?_alloc_at _ _ _ _ rfl]
 simpa using hj
theorem zkM (c:UInt8) (i j:Nat) (hi:i=c.toNat / 16) (hj:j=c.toNat % 16) (h1:i < ByteArray.size { data:=#[48,49,50,51,52,53,54,55,56,57,97,98,99,100,101,102] }) (h2:j < ByteArray.size { data:=#[48,49,50,51,52,53,54,55,56,57,97,98,99,100,101,102] }) :
  bv [92,117,48,48,zk1 (c.toNat / 16),zk1 (c.toNat % 16)]=[.int .u8 92,.int .u8 117,.int .u8 48,.int .u8 48,.int .u8 (({ data:=#[48,49,50,51,52,53,54,55,56,57,97,98,99,100,101,102] }:ByteArray)[i]).toNat,.int .u8 (({ data:=#[48,49,50,51,52,53,54,55,56,57,97,98,99,100,101,102] }:ByteArray)[j]).toNat]:=by
 have key:∀ (k:Nat) (h:k < ByteArray.size { data:=#[48,49,50,51,52,53,54,55,56,57,97,98,99,100,101,102] }),(({ data:=#[48,49,50,51,52,53,54,55,56,57,97,98,99,100,101,102] }:ByteArray)[k])=zk1 k:=by
  intro k h
  have h3:k < 16:=h
  have h4:=zis ⟨k,h3⟩
  have h':k < [(48:UInt8),49,50,51,52,53,54,55,56,57,97,98,99,100,101,102].length:=h
  rw [← h4,List.getD_eq_getElem?_getD,List.getElem?_eq_getElem h']
  rfl
 rw [key i h1,key j h2,hi,hj]
 rfl
theorem brow_lit (w:World) (B:Nat) (hB:B ≤ w.heap.size):zda (w.alloc (.cells #[.int .u8 34] 5)) B (.slice (some ⟨w.heap.size,0,none⟩) 1 1) [34]:=by
 refine ⟨by simp [bv],.inr ⟨w.heap.size,1,#[.int .u8 34],by simp,hB,heap_alloc_new w _,by simp,by simp [maxLen],by simp,?_⟩⟩
 simp [bv]
theorem zmd (s:ByteArray) (k:Nat) (h:k < s.size):zkC s.data.toList (k + 1)=zkC s.data.toList k ++ zfr s[k]:=by
 rw [← zg6 s.data.toList k (by rw [zad]; exact h),zgr s k h]
set_option maxRecDepth 1000000 in
set_option maxHeartbeats 4000000 in
theorem zkv (s:ByteArray) (w:World) (hs:s.size ≤ 140737488351232) :
  Calls Tryz.prog 38 #[.string s] w fun e w' => e=.returned (resV (zds s.data.toList)) ∧ Qb w w':=by
 have hmx:=zbP
 by_cases c0:(1048576:Int) < s.size
 ·have hE:zds s.data.toList=(5,[]):=by unfold zds; rw [if_pos (by rw [zad]; omega)]
  rw [hE]
  go_enter Tryz.func38,Tryz.ntmps38
  go_wp2_with fail
  go_ret2
  exact ⟨rfl,Qb.refl _⟩
 rcases hv:zaF s.data.toList with _ | _
 ·have hE:zds s.data.toList=(7,[]):=by unfold zds; rw [if_neg (by rw [zad]; omega),if_pos hv]
  rw [hE]
  go_enter Tryz.func38,Tryz.ntmps38
  go_wp2_with fail
  refine (zdY s _ hs).mono ?_
  rintro e w1 ⟨rfl,hq1⟩
  rw [hv]
  go_wp2_with fail
  go_ret2
  exact ⟨rfl,hq1⟩
 ·have hE:zds s.data.toList=(0,zh8 s.data.toList):=by unfold zds; rw [if_neg (by rw [zad]; omega),if_neg (by rw [hv]; simp)]
  have HE:=Lib.hid hE
  clear hE
  go_enter Tryz.func38,Tryz.ntmps38
  go_wp2_with fail
  refine (zdY s _ hs).mono ?_
  rintro e w1 ⟨rfl,hq1⟩
  rw [hv]
  go_wp2_with fail
  have hB1:w.heap.size ≤ w1.heap.size:=hq1.size
  go_loopw [4,5,6] (fun v i _ wr => ∃ k:Nat,∃ l,k ≤ s.size ∧ i=.int .i64 k ∧ zda wr w.heap.size v l ∧ l.length ≤ 6 * k + 1 ∧ Hid (l=zkC s.data.toList k) ∧ Qb w wr) (fun _ i _ _ => s.size - (intOf i).toNat)
  case atStart => exact ⟨0,[34],Nat.zero_le _,rfl,brow_lit _ _ hB1,Nat.le_refl _,Lib.hid rfl,hq1.alloc _⟩
  case round =>
   obtain ⟨k,l,hk,rfl,hrow,hlen,HL,hq⟩:=hrel
   have hB:w.heap.size ≤ wr.heap.size:=hq.size
   by_cases hlt:k < s.size
   ·have HS:=Lib.hid (zmd s k hlt)
    generalize hc:s[k]=c at *
    by_cases n34:c=34
    ·have d34:(((c.toNat:Nat):Int) == 34)=true:=by rw [n34]; rfl
     have HQ:Hid (zfr c=[92,c]):=Lib.hid (by rw [n34]; rfl)
     clear n34
     go_wp2_with (at_builtin; refine zba rfl (.tmp 34) (.tmp 36) rfl w.heap.size _ l [92,c] rfl (hrow.alloc _) _ _ _ rfl rfl (tnews2 _ _ _) (by simp; omega) (by simp; omega) ?_; intro v1 w1 hr1 hb1)
     go_roundw
     case rel => exact ⟨k + 1,_,by omega,by go_num,hr1,by simp; omega,Lib.hid (by rw [HS.out,HL.out,HQ.out]),Below.trans (hq.alloc _) hb1⟩
     case measure => simp [intOf]; omega
    by_cases n92:c=92
    ·have d92:(((c.toNat:Nat):Int) == 92)=true:=by rw [n92]; rfl
     have d34:(((c.toNat:Nat):Int) == 34)=false:=by rw [n92]; rfl
     have HQ:Hid (zfr c=[92,c]):=Lib.hid (by rw [n92]; rfl)
     clear n92
     go_wp2_with (at_builtin; refine zba rfl (.tmp 34) (.tmp 36) rfl w.heap.size _ l [92,c] rfl (hrow.alloc _) _ _ _ rfl rfl (tnews2 _ _ _) (by simp; omega) (by simp; omega) ?_; intro v1 w1 hr1 hb1)
     go_roundw
     case rel => exact ⟨k + 1,_,by omega,by go_num,hr1,by simp; omega,Lib.hid (by rw [HS.out,HL.out,HQ.out]),Below.trans (hq.alloc _) hb1⟩
     case measure => simp [intOf]; omega
    by_cases n8:c=8
    ·have d8:(((c.toNat:Nat):Int) == 8)=true:=by rw [n8]; rfl
     have d34:(((c.toNat:Nat):Int) == 34)=false:=by rw [n8]; rfl
     have d92:(((c.toNat:Nat):Int) == 92)=false:=by rw [n8]; rfl
     have HQ:Hid (zfr c=[92,98]):=Lib.hid (by rw [n8]; rfl)
     clear n8
     go_wp2_with (at_builtin; refine zaS rfl (.tmp 41) (.const (.string ⟨#[92,98]⟩)) rfl w.heap.size _ l rfl hrow _ rfl (by show l.length + 2 ≤ _; omega) (by omega) ?_; intro v1 w1 hr1 hb1)
     go_roundw
     case rel => exact ⟨k + 1,_,by omega,by go_num,hr1,by simp; omega,Lib.hid (by rw [HS.out,HL.out,HQ.out]),Below.trans hq hb1⟩
     case measure => simp [intOf]; omega
    by_cases n12:c=12
    ·have d12:(((c.toNat:Nat):Int) == 12)=true:=by rw [n12]; rfl
     have d34:(((c.toNat:Nat):Int) == 34)=false:=by rw [n12]; rfl
     have d92:(((c.toNat:Nat):Int) == 92)=false:=by rw [n12]; rfl
     have d8:(((c.toNat:Nat):Int) == 8)=false:=by rw [n12]; rfl
     have HQ:Hid (zfr c=[92,102]):=Lib.hid (by rw [n12]; rfl)
     clear n12
     go_wp2_with (at_builtin; refine zaS rfl (.tmp 46) (.const (.string ⟨#[92,102]⟩)) rfl w.heap.size _ l rfl hrow _ rfl (by show l.length + 2 ≤ _; omega) (by omega) ?_; intro v1 w1 hr1 hb1)
     go_roundw
     case rel => exact ⟨k + 1,_,by omega,by go_num,hr1,by simp; omega,Lib.hid (by rw [HS.out,HL.out,HQ.out]),Below.trans hq hb1⟩
     case measure => simp [intOf]; omega
    by_cases n10:c=10
    ·have d10:(((c.toNat:Nat):Int) == 10)=true:=by rw [n10]; rfl
     have d34:(((c.toNat:Nat):Int) == 34)=false:=by rw [n10]; rfl
     have d92:(((c.toNat:Nat):Int) == 92)=false:=by rw [n10]; rfl
     have d8:(((c.toNat:Nat):Int) == 8)=false:=by rw [n10]; rfl
     have d12:(((c.toNat:Nat):Int) == 12)=false:=by rw [n10]; rfl
     have HQ:Hid (zfr c=[92,110]):=Lib.hid (by rw [n10]; rfl)
     clear n10
     go_wp2_with (at_builtin; refine zaS rfl (.tmp 51) (.const (.string ⟨#[92,110]⟩)) rfl w.heap.size _ l rfl hrow _ rfl (by show l.length + 2 ≤ _; omega) (by omega) ?_; intro v1 w1 hr1 hb1)
     go_roundw
     case rel => exact ⟨k + 1,_,by omega,by go_num,hr1,by simp; omega,Lib.hid (by rw [HS.out,HL.out,HQ.out]),Below.trans hq hb1⟩
     case measure => simp [intOf]; omega
    by_cases n13:c=13
    ·have d13:(((c.toNat:Nat):Int) == 13)=true:=by rw [n13]; rfl
     have d34:(((c.toNat:Nat):Int) == 34)=false:=by rw [n13]; rfl
     have d92:(((c.toNat:Nat):Int) == 92)=false:=by rw [n13]; rfl
     have d8:(((c.toNat:Nat):Int) == 8)=false:=by rw [n13]; rfl
     have d12:(((c.toNat:Nat):Int) == 12)=false:=by rw [n13]; rfl
     have d10:(((c.toNat:Nat):Int) == 10)=false:=by rw [n13]; rfl
     have HQ:Hid (zfr c=[92,114]):=Lib.hid (by rw [n13]; rfl)
     clear n13
     go_wp2_with (at_builtin; refine zaS rfl (.tmp 56) (.const (.string ⟨#[92,114]⟩)) rfl w.heap.size _ l rfl hrow _ rfl (by show l.length + 2 ≤ _; omega) (by omega) ?_; intro v1 w1 hr1 hb1)
     go_roundw
     case rel => exact ⟨k + 1,_,by omega,by go_num,hr1,by simp; omega,Lib.hid (by rw [HS.out,HL.out,HQ.out]),Below.trans hq hb1⟩
     case measure => simp [intOf]; omega
    by_cases n9:c=9
    ·have d9:(((c.toNat:Nat):Int) == 9)=true:=by rw [n9]; rfl
     have d34:(((c.toNat:Nat):Int) == 34)=false:=by rw [n9]; rfl
     have d92:(((c.toNat:Nat):Int) == 92)=false:=by rw [n9]; rfl
     have d8:(((c.toNat:Nat):Int) == 8)=false:=by rw [n9]; rfl
     have d12:(((c.toNat:Nat):Int) == 12)=false:=by rw [n9]; rfl
     have d10:(((c.toNat:Nat):Int) == 10)=false:=by rw [n9]; rfl
     have d13:(((c.toNat:Nat):Int) == 13)=false:=by rw [n9]; rfl
     have HQ:Hid (zfr c=[92,116]):=Lib.hid (by rw [n9]; rfl)
     clear n9
     go_wp2_with (at_builtin; refine zaS rfl (.tmp 61) (.const (.string ⟨#[92,116]⟩)) rfl w.heap.size _ l rfl hrow _ rfl (by show l.length + 2 ≤ _; omega) (by omega) ?_; intro v1 w1 hr1 hb1)
     go_roundw
     case rel => exact ⟨k + 1,_,by omega,by go_num,hr1,by simp; omega,Lib.hid (by rw [HS.out,HL.out,HQ.out]),Below.trans hq hb1⟩
     case measure => simp [intOf]; omega
    have hq0:zfr c=if c.toNat < 32 then [92,117,48,48,zk1 (c.toNat / 16),zk1 (c.toNat % 16)] else [c]:=zjc n34 n92 n8 n12 n10 n13 n9
    have d34:(((c.toNat:Nat):Int) == 34)=false:=by rw [beq_eq_false_iff_ne]; intro h; exact n34 ((zcd (by decide)).1 h)
    have d92:(((c.toNat:Nat):Int) == 92)=false:=by rw [beq_eq_false_iff_ne]; intro h; exact n92 ((zcd (by decide)).1 h)
    have d8:(((c.toNat:Nat):Int) == 8)=false:=by rw [beq_eq_false_iff_ne]; intro h; exact n8 ((zcd (by decide)).1 h)
    have d12:(((c.toNat:Nat):Int) == 12)=false:=by rw [beq_eq_false_iff_ne]; intro h; exact n12 ((zcd (by decide)).1 h)
    have d10:(((c.toNat:Nat):Int) == 10)=false:=by rw [beq_eq_false_iff_ne]; intro h; exact n10 ((zcd (by decide)).1 h)
    have d13:(((c.toNat:Nat):Int) == 13)=false:=by rw [beq_eq_false_iff_ne]; intro h; exact n13 ((zcd (by decide)).1 h)
    have d9:(((c.toNat:Nat):Int) == 9)=false:=by rw [beq_eq_false_iff_ne]; intro h; exact n9 ((zcd (by decide)).1 h)
    clear n34 n92 n8 n12 n10 n13 n9
    by_cases c8:((c.toNat:Nat):Int) < 32
    ·rw [if_pos (by omega)] at hq0
     have HQ:=Lib.hid hq0
     clear hq0
     have a1:(0:Int) ≤ (c.toNat:Int) / 16:=by omega
     have a2:(c.toNat:Int) / 16 < 16:=by omega
     have b1:(0:Int) ≤ (c.toNat:Int) % 16:=by omega
     have b2:(c.toNat:Int) % 16 < 16:=by omega
     have e1:IntKind.u8.wrap ((c.toNat:Int) / 16)=(c.toNat:Int) / 16:=by
      have:=c.toNat_lt
      simp [IntKind.wrap,IntKind.bits,IntKind.signed]; omega
     have e2:IntKind.u8.wrap ((c.toNat:Int) % 16)=(c.toNat:Int) % 16:=by
      have:=c.toNat_lt
      simp [IntKind.wrap,IntKind.bits,IntKind.signed]; omega
     have e3:((c.toNat:Nat):Int).tmod 16=(c.toNat:Int) % 16:=Int.tmod_eq_emod_of_nonneg (by omega)
     have hcells:=Lib.hid (zkM c ((c.toNat:Int) / 16).toNat ((c.toNat:Int) % 16).toNat (by omega) (by omega) (by show _ < 16; omega) (by show _ < 16; omega))
     go_wp2_with fail
     go_region_law (first | (refine zeE rfl (.tmp 66) (.tmp 73) rfl w.heap.size _ l [92,117,48,48,zk1 (c.toNat / 16),zk1 (c.toNat % 16)] rfl (zda.drew (hrow.alloc _)) _ _ _ rfl rfl (by rw [hcells.out]; exact tnews6 _ _ _ _ _ _ _) (by simp; omega) (by simp; omega) ?_; intro v1 w1 hr1 hb1) | fail)
     all_goals have hb2:=Below.trans ((hq.alloc _).drew) hb1
     all_goals (try go_wp2_with fail)
     all_goals
      go_roundw
      case rel => exact ⟨k + 1,_,by omega,by go_num,hr1,by simp; omega,Lib.hid (by rw [HS.out,HL.out,HQ.out]),hb2⟩
      case measure => simp [intOf]; omega
    ·rw [if_neg (by omega)] at hq0
     have HQ:=Lib.hid hq0
     clear hq0
     go_wp2_with (at_builtin; refine zba rfl (.tmp 23) (.tmp 25) rfl w.heap.size _ l [c] rfl (hrow.alloc _) _ _ _ rfl rfl (tnews1 _ _) (by simp; omega) (by simp; omega) ?_; intro v1 w1 hr1 hb1)
     go_roundw
     case rel => exact ⟨k + 1,_,by omega,by go_num,hr1,by simp; omega,Lib.hid (by rw [HS.out,HL.out,HQ.out]),Below.trans (hq.alloc _) hb1⟩
     case measure => simp [intOf]; omega
   ·have hke:k=s.size:=by omega
    have HZ:Hid (l ++ [34]=zh8 s.data.toList):=Lib.hid (by
     have h:=zja s.data.toList
     rw [zad] at h
     rw [HL.out,hke]
     unfold zkC zh8
     rw [← zad,List.take_length]; rfl)
    go_wp2_with (at_builtin; refine zba rfl (.tmp 75) (.tmp 76) rfl w.heap.size _ l [34] rfl (hrow.alloc _) _ _ _ rfl rfl (tnews1 _ _) (by simp; omega) (by simp; omega) ?_; intro v1 w1 hr1 hb1; have hst:=row_str hr1)
    go_ret2
    exact ⟨by rw [HE.out,← HZ.out]; rfl,Below.trans (hq.alloc _) hb1⟩
end Go.Proofs.YtadhjoggdbhkgaaGreatDoor
namespace Go.Proofs.YtadhjoggdbhkgaaGreatDoor
open Nat renaming reduceAdd → z6, reduceSub → z7, reduceLeDiff → z8, reduceLT → j4, reduceMul → j5, reduceEqDiff → j6
open Int renaming reduceToNat → j7, reduceAdd → j8, reduceSub → j9, reduceMul → x4, reduceNeg → x5, reduceLT → x6, reduceLE → x7, reduceEq → x8, reduceNe → x9
open Go.RowKit Sx
section
attribute [local irreducible] run
def nullL:List UInt8:=[110,117,108,108]
mutual
/-- the text of a value -/
def wrJ:JV → List UInt8
 | .mk k t ks its => if k=1 then nullL else if k=2 then ze0 else if k=3 then zhV else if k=4 then t else if k=5 then (zds t).2 else if k=7 then 123 :: (wrI true true ks its ++ [125]) else 91 :: (wrI false true ks its ++ [93])
/-- .. of its members: objects', the first one -/
def wrI:Bool → Bool → List (List UInt8) → List JV → List UInt8
 | _,_,_,[] => []
 | o,f,ks,v :: l => (if f=true then [] else [44]) ++ ((if o=true then (zds (ks.head?.getD [])).2 ++ [58] else []) ++ (wrJ v ++ wrI o false ks.tail l))
end
theorem wrJ_eq (v:JV):wrJ v=if v.kind=1 then nullL else if v.kind=2 then ze0 else if v.kind=3 then zhV else if v.kind=4 then v.text else if v.kind=5 then (zds v.text).2 else if v.kind=7 then 123 :: (wrI true true v.keys v.items ++ [125]) else 91 :: (wrI false true v.keys v.items ++ [93]):=by cases v; rw [wrJ]; rfl
theorem zep (s:List UInt8):(zds s).2.length ≤ 6 * s.length + 2:=by
 unfold zds
 split
 ·exact Nat.zero_le _
 split
 ·exact Nat.zero_le _
 ·show (zh8 s).length ≤ _
  unfold zh8
  have:=zjb s
  rw [List.length_cons,List.length_append,List.length_cons,List.length_nil]; omega
mutual
theorem zhQ:∀ v:JV,JKp v → (wrJ v).length + 1804 ≤ 4000 * v.size
 | .mk k t ks its,h => by
  obtain ⟨l1,l2,l3,l4⟩:=h.lens
  have hs:=size_eq (.mk k t ks its)
  have hi:∀ o f,(wrI o f ks its).length ≤ 4000 * JV.sizes its:=fun o f => zk9 its (by rw [JKp] at h; exact h.2.2.2.2) o f ks l4
  have hq:=zep t
  have h1:=hi true true
  have h2:=hi false true
  simp only [JV.items,JV.text,JV.keys] at hs l3 l4
  rw [wrJ]
  split
  ·show 4 + 1804 ≤ _; omega
  split
  ·show 5 + 1804 ≤ _; omega
  split
  ·show 4 + 1804 ≤ _; omega
  split
  ·omega
  split
  ·omega
  split
  ·simp only [List.length_cons,List.length_append,List.length_nil]; omega
  ·simp only [List.length_cons,List.length_append,List.length_nil]; omega
theorem zk9:∀ (l:List JV),zdN l → ∀ (o f:Bool) (ks:List (List UInt8)),(∀ k ∈ ks,k.length ≤ 300) → (wrI o f ks l).length ≤ 4000 * JV.sizes l
 | [],_,o,f,ks,_ => by rw [wrI]; exact Nat.zero_le _
 | v :: l,h,o,f,ks,hk => by
  rw [zdN] at h
  have h1:=zhQ v h.1
  have h2:=zk9 l h.2 o false ks.tail (fun k hk' => hk k (List.mem_of_mem_tail hk'))
  have h3:(zds (ks.head?.getD [])).2.length ≤ 1802:=by
   have:=zep (ks.head?.getD [])
   cases ks with
   | nil => simp at this ⊢; omega
   | cons a ks =>
    have:=hk a (by simp)
    simp at *
    omega
  rw [wrI,JV.sizes]
  have h4:(if f=true then ([]:List UInt8) else [44]).length ≤ 1:=by cases f <;> simp
  have h5:(if o=true then (zds (ks.head?.getD [])).2 ++ [58] else []).length ≤ 1803:=by cases o <;> simp <;> omega
  simp only [List.length_append]
  omega
end
mutual
/-- objects have as many keys as items, wherever -/
def WfW:JV → Prop
 | .mk k t ks its => (k=7 → ks.length=its.length) ∧ zkX its
def zkX:List JV → Prop
 | [] => True
 | v :: l => WfW v ∧ zkX l
end
theorem zli:∀ {l:List JV} (h:zkX l) {i:Nat} (hi:i < l.length),WfW l[i]
 | a :: l,h,0,hi => by rw [zkX] at h; exact h.1
 | a :: l,h,i + 1,hi => by rw [zkX] at h; exact zli h.2 (by simpa using hi)
theorem WfW.its {v:JV} (h:WfW v) {i:Nat} (hi:i < v.items.length):WfW v.items[i]:=by
 cases v with
 | mk k t ks its => rw [WfW] at h; exact zli h.2 hi
theorem WfW.len {v:JV} (h:WfW v):v.kind=7 → v.keys.length=v.items.length:=by
 cases v with
 | mk k t ks its => rw [WfW] at h; exact h.1
theorem wrI_drop (o:Bool):∀ (ks:List (List UInt8)) (l:List JV) (f:Bool) {i:Nat} (hi:i < l.length),(o=true → i < ks.length) →
  wrI o f (ks.drop i) (l.drop i)=(if f=true then [] else [44]) ++ ((if o=true then (zds (ks[i]?.getD [])).2 ++ [58] else []) ++ (wrJ l[i] ++ wrI o false (ks.drop (i + 1)) (l.drop (i + 1)))):=by
 intro ks l f i hi hk
 rw [zgb hi,wrI,List.tail_drop]
 congr 2
 cases o with
 | false => rfl
 | true =>
  have h1:=hk rfl
  rw [List.head?_drop]
section
variable {P:Program} [Tabs P] {C:Cx}
theorem zjE {E sz by' n m:Nat} {xs ys:List AV} {X:AV} {R A B:List (Nat × OB)} {o:List OB} {d:Option Nat} {r:List SO} {k:List IT} {tm:List AV} {F:zaH}
  (hS:SlO E sz n xs X R) (hO:zau (A ++ (R ++ B)) o) (c:ys.length=m * sz ∧ (n + m) * by' ≤ 140737488355328 ∧ n + m ≤ 140737488355328)
  (next:∀ X' R' o',SlO E sz (n + m) (xs ++ ys) X' R' → zau (A ++ (R' ++ B)) o' → run P C (.ops r :: k) o' (zap tm d X') F):kAp2 P C X E sz by' m ys d r k o tm F:=by
 rcases hS with ⟨rfl,rfl,rfl,rfl⟩ | ⟨b,g,rfl,rfl⟩
 ·rw [zni]
  rw [Nat.zero_add] at c
  refine ⟨c,next _ [(o.length,.orow E sz 0 m ys)] _ (.inr ⟨_,_,rfl,by rw [Nat.zero_add]; rfl⟩) ?_⟩
  exact (hO.new _).perm (List.perm_middle.symm)
 ·rw [znh,hO.get (i:=b) (x:=.orow E sz g n xs) (by simp),zng]
  exact ⟨c,next _ [(b,.orow E sz (g + 1) (n + m) (xs ++ ys))] _ (.inr ⟨_,_,rfl,rfl⟩) (hO.set _)⟩
theorem zin {E n:Nat} {xs:List AV} {l:List UInt8} {X:AV} {R A B:List (Nat × OB)} {o:List OB} {d:Option Nat} {r:List SO} {k:List IT} {tm:List AV} {F:zaH}
  (hS:SlO E 1 n xs X R) (hO:zau (A ++ (R ++ B)) o) (c:n + l.length ≤ 140737488355328)
  (next:∀ X' R' o',SlO E 1 (n + l.length) (xs ++ byA l) X' R' → zau (A ++ (R' ++ B)) o' → run P C (.ops r :: k) o' (zap tm d X') F):kAs P C X (.s l) E d r k o tm F:=by
 rcases hS with ⟨rfl,rfl,rfl,rfl⟩ | ⟨b,g,rfl,rfl⟩
 ·rw [kAs_n]
  rw [Nat.zero_add] at c
  refine ⟨c,next _ [(o.length,.orow E 1 0 l.length (byA l))] _ (.inr ⟨_,_,rfl,by rw [Nat.zero_add]; rfl⟩) ?_⟩
  exact (hO.new _).perm (List.perm_middle.symm)
 ·rw [kAs_o,hO.get (i:=b) (x:=.orow E 1 g n xs) (by simp),zm9]
  exact ⟨c,next _ [(b,.orow E 1 (g + 1) (n + l.length) (xs ++ byA l))] _ (.inr ⟨_,_,rfl,rfl⟩) (hO.set _)⟩
theorem zeG {E n:Nat} {a b:List UInt8} {X:AV} {R:List (Nat × OB)} (h:SlO E 1 (a.length + n) (byA a ++ byA b) X R) (hn:b.length=n):SlO E 1 (a ++ b).length (byA (a ++ b)) X R:=by
 rw [List.length_append,zkT,hn]; exact h
end
section
variable [Tabs Tryz.prog]
theorem zgT (s:List UInt8) (hs:s.length ≤ 140737488351232) {objs:List OB} {K:List OB → AV → Prop} (hk:K objs (.tup [.s (zds s).2,.i .i64 (zds s).1])):zae Tryz.prog 38 [.s s] objs K :=
 conv (vs:=[.string (S s)]) rfl rfl (fun w => zkv (S s) w (by rw [zbJ]; exact hs)) hk
theorem write_k:∀ (m:Nat) (v:JV),v.size < m → v.size ≤ 100000 → JKp v → WfW v → ∀ {objs:List OB} {K:List OB → AV → Prop},K objs (.s (wrJ v)) → zae Tryz.prog 23 [.agg (zaj v)] objs K:=by
 intro m
 induction m with
 | zero => intro v h; omega
 | succ m ih =>
  intro v hm hsz hv hw objs K hk
  obtain ⟨l1,l2,l3,l4⟩:=hv.lens
  have hwl:=zhQ v hv
  refine zaV is_ref15_write (by simp only [zaq,AV.plain,zaJ,Bool.and_self]) fun C _ => ?_
  rw [c_ref15_write]
  have hjv:=zaf v
  rw [hjv]
  refine zaa fun Z hZ => ?_
  simp only [sxZ,z6,z7,z8,j4,j5,j6,j7,j8,j9,x4,x5,x6,x7,x8,x9,reduceCtorEq,↓reduceIte]
  rw [wrJ_eq] at hk hwl
  subst hZ
  refine zaa fun Z hZ => ?_
  refine zaa fun W hW => ?_
  simp only [sxZ,z6,z7,z8,j4,j5,j6,j7,j8,j9,x4,x5,x6,x7,x8,x9,reduceCtorEq,↓reduceIte]
  subst hW
  rw [zaB]
  by_cases a1:v.kind=1
  ·rw [if_pos a1] at hk
   simp only [sxZ,z6,z7,z8,j4,j5,j6,j7,j8,j9,x4,x5,x6,x7,x8,x9,reduceCtorEq,↓reduceIte,a1]
   exact hk
  rw [if_neg a1] at hk hwl
  by_cases a2:v.kind=2
  ·rw [if_pos a2] at hk
   simp only [sxZ,z6,z7,z8,j4,j5,j6,j7,j8,j9,x4,x5,x6,x7,x8,x9,reduceCtorEq,↓reduceIte,a2]
   exact hk
  rw [if_neg a2] at hk hwl
  by_cases a3:v.kind=3
  ·rw [if_pos a3] at hk
   simp only [sxZ,z6,z7,z8,j4,j5,j6,j7,j8,j9,x4,x5,x6,x7,x8,x9,reduceCtorEq,↓reduceIte,a3]
   exact hk
  rw [if_neg a3] at hk hwl
  by_cases a4:v.kind=4
  ·rw [if_pos a4] at hk
   simp only [sxZ,z6,z7,z8,j4,j5,j6,j7,j8,j9,x4,x5,x6,x7,x8,x9,reduceCtorEq,↓reduceIte,a4]
   exact hk
  rw [if_neg a4] at hk hwl
  by_cases a5:v.kind=5
  ·rw [if_pos a5] at hk
   simp only [sxZ,z6,z7,z8,j4,j5,j6,j7,j8,j9,x4,x5,x6,x7,x8,x9,reduceCtorEq,↓reduceIte,a5]
   refine zak (zgT v.text (by omega) ?_)
   simp only [sxZ,z6,z7,z8,j4,j5,j6,j7,j8,j9,x4,x5,x6,x7,x8,x9,reduceCtorEq,↓reduceIte]
   exact hk
  rw [if_neg a5] at hk hwl
  simp only [sxZ,z6,z7,z8,j4,j5,j6,j7,j8,j9,x4,x5,x6,x7,x8,x9,reduceCtorEq,↓reduceIte,a1,a2,a3,a4,a5]
  have f0:[OB.box 25 [.i .i64 v.kind,.s v.text,.row v.keys.length (v.keys.map .s),.row v.items.length (zac v.items)]]=[bvB v]:=rfl
  rw [f0]
  have hO:zau [(0,bvB v)] [bvB v]:=⟨by simp,fun x hx => by
   simp only [List.mem_cons,List.not_mem_nil,or_false] at hx
   rcases hx with rfl <;> rfl⟩
  subst hZ
  refine za1 (fun tm => tm.length=77 ∧ tm[1]? = some (.p 0 0)) ?_ ?_
  ·exact ⟨rfl,rfl⟩
  rintro tm ⟨hlen,t1⟩
  refine zaa fun Z hZ => ?_
  simp only [sxZ,z6,z7,z8,j4,j5,j6,j7,j8,j9,x4,x5,x6,x7,x8,x9,reduceCtorEq,↓reduceIte,List.getElem?_set,hlen]
  subst hZ
  refine zaa fun Z hZ => ?_
  refine zaa fun W hW => ?_
  have eb2:[bvB v][0]? = some (OB.box 25 [.i .i64 v.kind,.s v.text,.row v.keys.length (v.keys.map .s),.row v.items.length (zac v.items)]):=rfl
  generalize [bvB v]=o at hO eb2 ⊢
  simp only [sxZ,z6,z7,z8,j4,j5,j6,j7,j8,j9,x4,x5,x6,x7,x8,x9,reduceCtorEq,↓reduceIte,List.getElem?_set,hlen,t1,eb2]
  subst hW
  rw [zaB]
  obtain ⟨o7,ho7⟩:∃ o7,o7=decide (v.kind=7):=⟨_,rfl⟩
  have hbody:(wrI o7 true v.keys v.items).length + 2 + 1804 ≤ 4000 * v.size:=by
   by_cases a7:v.kind=7
   ·rw [if_pos a7,List.length_cons,List.length_append,List.length_cons,List.length_nil] at hwl
    rw [ho7,decide_eq_true a7]; omega
   ·rw [if_neg a7,List.length_cons,List.length_append,List.length_cons,List.length_nil] at hwl
    rw [ho7,decide_eq_false a7]; omega
  refine zaA (fun n o tm => ∃ (i:Nat) (txt:List UInt8) (X:AV) (R:List (Nat × OB)),i ≤ v.items.length ∧ n=v.items.length - i ∧ wrI o7 true v.keys v.items=txt ++ wrI o7 (decide (i=0)) (v.keys.drop i) (v.items.drop i) ∧ SlO 5 1 txt.length (byA txt) X R ∧ zau ((0,bvB v) :: (R ++ [])) o ∧ tm.length=77 ∧ tm[1]? = some (.p 0 0) ∧ tm[5]? = some X ∧ tm[32]? = some (.row v.items.length (zac v.items)) ∧ tm[33]? = some (.i .i64 (v.items.length:Int)) ∧ tm[34]? = some (.i .i64 (i:Int))) v.items.length ⟨0,[],.nil,[],Nat.zero_le _,rfl,rfl,.inl ⟨rfl,rfl,rfl,rfl⟩,hO,?_⟩ ?_
  ·simp only [sxZ,z6,z7,z8,j4,j5,j6,j7,j8,j9,x4,x5,x6,x7,x8,x9,reduceCtorEq,↓reduceIte,List.length_set,List.getElem?_set,hlen,t1,Int.cast_ofNat_Int,and_self]
  clear hlen t1 hO eb2
  rintro n o tm ⟨i,txt,X,R,hi,rfl,htx,hS,hO,hlen,t1,t5,t32,t33,t34⟩
  refine zaa fun W hW => ?_
  by_cases hlt:(i:Int) < (v.items.length:Int)
  ·have hi':i < v.items.length:=by omega
   have hki:v.kind=7 → i < v.keys.length:=fun h => by have:=hw.len h; omega
   have hjc:=zdF hi'
   have hjl:=zax v.items
   have hsx:=zaT hi'
   have hcall:=fun {objs:List OB} {K:List OB → AV → Prop} (h:K objs (.s (wrJ v.items[i]))) => ih v.items[i] (by omega) (by omega) (hv.its hi') (hw.its hi') (objs:=objs) (K:=K) h
   rw [wrI_drop o7 v.keys v.items _ hi' (fun h => hki (by rw [ho7] at h; exact of_decide_eq_true h))] at htx
   generalize v.items[i]=x at hjc hcall htx
   generalize wrJ x=wx at hcall htx
   have hjx:=zaf x
   rw [hjx] at hjc hcall
   simp only [sxZ,z6,z7,z8,j4,j5,j6,j7,j8,j9,x4,x5,x6,x7,x8,x9,reduceCtorEq,↓reduceIte,List.getElem?_set,hlen,t32,t33,t34,hlt]
   subst hW
   refine zaa fun W hW => ?_
   simp only [sxZ,z6,z7,z8,j4,j5,j6,j7,j8,j9,x4,x5,x6,x7,x8,x9,reduceCtorEq,↓reduceIte,List.getElem?_set,hlen]
   subst hW
   refine zaa fun V hV => ?_
   rw [zaB]
   refine zaa fun W hW => ?_
   simp only [sxZ,z6,z7,z8,j4,j5,j6,j7,j8,j9,x4,x5,x6,x7,x8,x9,reduceCtorEq,↓reduceIte,List.getElem?_set,hlen,t32,t34,hjc]
   refine ⟨⟨by omega,by omega,by omega⟩,by omega,?_⟩
   simp only [sxZ,z6,z7,z8,j4,j5,j6,j7,j8,j9,x4,x5,x6,x7,x8,x9,reduceCtorEq,↓reduceIte,List.getElem?_set,hlen,gn1,sn1]
   have hO2:=hO.new (.box 25 [.i .i64 x.kind,.s x.text,.row x.keys.length (x.keys.map .s),.row x.items.length (zac x.items)])
   have hO2:zau ((0,bvB v) :: (o.length,OB.box 25 [.i .i64 x.kind,.s x.text,.row x.keys.length (x.keys.map .s),.row x.items.length (zac x.items)]) :: (R ++ [])) (o ++ [.box 25 [.i .i64 x.kind,.s x.text,.row x.keys.length (x.keys.map .s),.row x.items.length (zac x.items)]]):=hO2.perm (List.Perm.swap _ _ _)
   clear hO
   generalize o.length=q at hO2 ⊢
   generalize o ++ [OB.box 25 [.i .i64 x.kind,.s x.text,.row x.keys.length (x.keys.map .s),.row x.items.length (zac x.items)]]=o at hO2 ⊢
   refine za1 (fun tm => tm.length=77 ∧ tm[1]? = some (.p 0 0) ∧ tm[5]? = some X ∧ tm[6]? = some (.i .i64 (i:Int)) ∧ tm[7]? = some (.p q 0) ∧ tm[32]? = some (.row v.items.length (zac v.items)) ∧ tm[33]? = some (.i .i64 (v.items.length:Int)) ∧ tm[34]? = some (.i .i64 (i:Int))) ?_ ?_
   ·simp only [sxZ,z6,z7,z8,j4,j5,j6,j7,j8,j9,x4,x5,x6,x7,x8,x9,reduceCtorEq,↓reduceIte,List.length_set,List.getElem?_set,hlen,t1,t5,t32,t33,t34,and_self]
   clear hlen t1 t5 t32 t33 t34
   rintro tm ⟨hlen,t1,t5,t6,t7,t32,t33,t34⟩
   subst hW
   refine zaa fun W hW => ?_
   have htl:=congrArg List.length htx
   simp only [List.length_append] at htl
   refine zav (fun o tm => ∃ X R,SlO 5 1 (txt ++ (if decide (i=0)=true then [] else [44])).length (byA (txt ++ (if decide (i=0)=true then [] else [44]))) X R ∧ zau ((0,bvB v) :: (q,OB.box 25 [.i .i64 x.kind,.s x.text,.row x.keys.length (x.keys.map .s),.row x.items.length (zac x.items)]) :: (R ++ [])) o ∧ tm.length=77 ∧ tm[1]? = some (.p 0 0) ∧ tm[5]? = some X ∧ tm[6]? = some (.i .i64 (i:Int)) ∧ tm[7]? = some (.p q 0) ∧ tm[32]? = some (.row v.items.length (zac v.items)) ∧ tm[33]? = some (.i .i64 (v.items.length:Int)) ∧ tm[34]? = some (.i .i64 (i:Int))) ?_ ?_
   ·cases i with
    | zero =>
     have z:¬ (0:Int) < ((0:Nat):Int):=by decide
     simp only [sxZ,z6,z7,z8,j4,j5,j6,j7,j8,j9,x4,x5,x6,x7,x8,x9,reduceCtorEq,↓reduceIte,List.getElem?_set,hlen,t6,z,zab,List.length_set,t1,t5,t7,t32,t33,t34,and_self,decide_true,if_true,List.append_nil]
     exact ⟨X,R,hS,by simpa using hO2,rfl⟩
    | succ i =>
     have z:(0:Int) < ((i + 1:Nat):Int):=by omega
     have z2:¬ (i + 1=0):=by omega
     simp only [sxZ,z6,z7,z8,j4,j5,j6,j7,j8,j9,x4,x5,x6,x7,x8,x9,reduceCtorEq,↓reduceIte,List.getElem?_set,hlen,t6,z,z2,zab,List.length_set,t1,t5,t7,t32,t33,t34,and_self,decide_false,Bool.false_eq_true,if_false]
     refine zjE (A:=[(0,bvB v),(q,OB.box 25 [.i .i64 x.kind,.s x.text,.row x.keys.length (x.keys.map .s),.row x.items.length (zac x.items)])]) (B:=[]) hS hO2 ⟨rfl,by omega,by omega⟩ ?_
     intro X' R' o' hS' hO'
     simp only [sxZ,z6,z7,z8,j4,j5,j6,j7,j8,j9,x4,x5,x6,x7,x8,x9,reduceCtorEq,↓reduceIte,List.getElem?_set,hlen,zab,List.length_set,t1,t5,t6,t7,t32,t33,t34,and_self]
     exact ⟨X',R',by simpa only [List.length_append,List.length_cons,List.length_nil,Nat.zero_add] using (zeG hS' (b:=[44]) rfl),by simpa using hO',rfl⟩
   clear hlen t1 t5 t6 t7 t32 t33 t34 hO2 hS
   rintro o tm ⟨X,R,hS,hO2,hlen,t1,t5,t6,t7,t32,t33,t34⟩
   generalize (if decide (i=0)=true then ([]:List UInt8) else [44])=cm at htx htl hS
   have hcm:cm.length ≤ (txt ++ cm).length:=by rw [List.length_append]; omega
   rw [← List.append_assoc] at htx
   have hcl:(txt ++ cm).length=txt.length + cm.length:=List.length_append
   generalize txt ++ cm=txt at htx hS hcl
   subst hW
   refine zaa fun W hW => ?_
   refine zav (fun o tm => ∃ X R,SlO 5 1 (txt ++ (if o7=true then (zds (v.keys[i]?.getD [])).2 ++ [58] else [])).length (byA (txt ++ (if o7=true then (zds (v.keys[i]?.getD [])).2 ++ [58] else []))) X R ∧ zau ((0,bvB v) :: (q,OB.box 25 [.i .i64 x.kind,.s x.text,.row x.keys.length (x.keys.map .s),.row x.items.length (zac x.items)]) :: (R ++ [])) o ∧ tm.length=77 ∧ tm[1]? = some (.p 0 0) ∧ tm[5]? = some X ∧ tm[6]? = some (.i .i64 (i:Int)) ∧ tm[7]? = some (.p q 0) ∧ tm[32]? = some (.row v.items.length (zac v.items)) ∧ tm[33]? = some (.i .i64 (v.items.length:Int)) ∧ tm[34]? = some (.i .i64 (i:Int))) ?_ ?_
   ·have e0:=hO2.get (i:=0) (x:=bvB v) (by simp)
    have e0:o[0]? = some (OB.box 25 [.i .i64 v.kind,.s v.text,.row v.keys.length (v.keys.map .s),.row v.items.length (zac v.items)]):=e0
    by_cases a7:v.kind=7
    ·have hik:=hki a7
     have ho:o7=true:=by rw [ho7]; exact decide_eq_true a7
     have kv:(v.keys.map AV.s)[i * 1]? = some (.s v.keys[i]):=by rw [Nat.mul_one,List.getElem?_map,List.getElem?_eq_getElem hik]; rfl
     have hkl:=l4 _ (List.getElem_mem hik)
     have hke:v.keys[i]?.getD []=v.keys[i]:=by rw [List.getElem?_eq_getElem hik]; rfl
     have hb2:=hbody
     rw [ho] at hb2
     rw [ho,if_pos rfl,hke] at htl
     rw [ho,if_pos rfl,hke]
     generalize v.keys[i]=key at kv hkl htl
     rw [List.length_append,List.length_cons,List.length_nil] at htl
     simp only [sxZ,z6,z7,z8,j4,j5,j6,j7,j8,j9,x4,x5,x6,x7,x8,x9,reduceCtorEq,↓reduceIte,List.getElem?_set,hlen,t1,t6,e0,a7,kv]
     have hml:(v.keys.map AV.s).length=v.keys.length:=List.length_map _
     refine ⟨⟨by omega,by omega,by omega⟩,?_⟩
     refine zak (zgT key (by omega) ?_)
     simp only [sxZ,z6,z7,z8,j4,j5,j6,j7,j8,j9,x4,x5,x6,x7,x8,x9,reduceCtorEq,↓reduceIte,List.getElem?_set,hlen,t5]
     refine zin (A:=[(0,bvB v),(q,OB.box 25 [.i .i64 x.kind,.s x.text,.row x.keys.length (x.keys.map .s),.row x.items.length (zac x.items)])]) (B:=[]) hS hO2 (by omega) ?_
     intro X' R' o' hS' hO'
     simp only [sxZ,z6,z7,z8,j4,j5,j6,j7,j8,j9,x4,x5,x6,x7,x8,x9,reduceCtorEq,↓reduceIte,List.getElem?_set,hlen]
     refine zjE (A:=[(0,bvB v),(q,OB.box 25 [.i .i64 x.kind,.s x.text,.row x.keys.length (x.keys.map .s),.row x.items.length (zac x.items)])]) (B:=[]) (zeG hS' rfl) hO' ⟨rfl,by rw [List.length_append]; omega,by rw [List.length_append]; omega⟩ ?_
     intro X2 R2 o2 hS2 hO2
     simp only [sxZ,z6,z7,z8,j4,j5,j6,j7,j8,j9,x4,x5,x6,x7,x8,x9,reduceCtorEq,↓reduceIte,List.getElem?_set,hlen,zab,List.length_set,t1,t5,t6,t7,t32,t33,t34,and_self]
     rw [← List.append_assoc]
     exact ⟨X2,R2,by simpa only [List.length_append,List.length_cons,List.length_nil,Nat.zero_add,Nat.add_assoc] using (zeG hS2 (b:=[58]) rfl),by simpa using hO2,rfl⟩
    ·have ho:o7=false:=by rw [ho7]; exact decide_eq_false a7
     rw [ho,if_neg (by decide),List.append_nil]
     simp only [sxZ,z6,z7,z8,j4,j5,j6,j7,j8,j9,x4,x5,x6,x7,x8,x9,reduceCtorEq,↓reduceIte,List.getElem?_set,hlen,zab,List.length_set,t1,t5,t6,t7,t32,t33,t34,e0,a7,and_self]
     exact ⟨X,R,hS,by simpa using hO2,rfl⟩
   clear hlen t1 t5 t6 t7 t32 t33 t34 hO2 hS
   rintro o tm ⟨X,R,hS,hO2,hlen,t1,t5,t6,t7,t32,t33,t34⟩
   generalize (if o7=true then (zds (v.keys[i]?.getD [])).2 ++ [58] else [])=kk at htx htl hS
   rw [← List.append_assoc] at htx
   have hkl:(txt ++ kk).length=txt.length + kk.length:=List.length_append
   generalize txt ++ kk=txt at htx hS hkl
   have eq:=hO2.get (i:=q) (x:=OB.box 25 [.i .i64 x.kind,.s x.text,.row x.keys.length (x.keys.map .s),.row x.items.length (zac x.items)]) (by simp)
   subst hW
   simp only [sxZ,z6,z7,z8,j4,j5,j6,j7,j8,j9,x4,x5,x6,x7,x8,x9,reduceCtorEq,↓reduceIte,List.getElem?_set,hlen,t5,t7,eq]
   refine zak (hcall ?_)
   simp only [sxZ,z6,z7,z8,j4,j5,j6,j7,j8,j9,x4,x5,x6,x7,x8,x9,reduceCtorEq,↓reduceIte,List.getElem?_set,hlen]
   refine zin (A:=[(0,bvB v),(q,OB.box 25 [.i .i64 x.kind,.s x.text,.row x.keys.length (x.keys.map .s),.row x.items.length (zac x.items)])]) (B:=[]) hS hO2 (by omega) ?_
   intro X' R' o' hS' hO'
   have hO3:zau ((0,bvB v) :: (R' ++ [])) o':=hO'.sub (List.Sublist.cons_cons _ (List.sublist_cons_self _ _))
   subst hV
   simp only [sxZ,z6,z7,z8,j4,j5,j6,j7,j8,j9,x4,x5,x6,x7,x8,x9,reduceCtorEq,↓reduceIte,List.getElem?_set,hlen,List.length_set,t1,t32,t33,t34]
   refine ⟨by omega,v.items.length - (i + 1),by omega,i + 1,txt ++ wx,X',R',by omega,rfl,?_,zeG hS' rfl,by simpa using hO3,rfl,rfl⟩
   rw [htx,List.append_assoc,decide_eq_false (by omega)]
  simp only [sxZ,z6,z7,z8,j4,j5,j6,j7,j8,j9,x4,x5,x6,x7,x8,x9,reduceCtorEq,↓reduceIte,List.getElem?_set,hlen,t32,t33,t34,hlt]
  subst hW
  have hn:i=v.items.length:=by omega
  rw [List.drop_of_length_le (l:=v.items) (by omega),wrI,List.append_nil] at htx
  have e0:o[0]? = some (OB.box 25 [.i .i64 v.kind,.s v.text,.row v.keys.length (v.keys.map .s),.row v.items.length (zac v.items)]):=hO.get (i:=0) (x:=bvB v) (by simp)
  have fin:∀ {Y:AV},Y=.s (if v.kind=7 then 123 :: (txt ++ [125]) else 91 :: (txt ++ [93])) → K objs Y:=by
   rintro Y rfl
   by_cases a7:v.kind=7
   ·rw [if_pos a7] at hk ⊢
    rw [show o7=true by rw [ho7]; exact decide_eq_true a7] at htx
    rw [← htx]; exact hk
   ·rw [if_neg a7] at hk ⊢
    rw [show o7=false by rw [ho7]; exact decide_eq_false a7] at htx
    rw [← htx]; exact hk
  have htl:=congrArg List.length htx
  subst hZ
  rcases hS with ⟨z1,z2,rfl,rfl⟩ | ⟨b,g,rfl,rfl⟩
  ·have hz:=List.eq_nil_of_length_eq_zero z1
   by_cases a7:v.kind=7
   ·simp only [sxZ,z6,z7,z8,j4,j5,j6,j7,j8,j9,x4,x5,x6,x7,x8,x9,reduceCtorEq,↓reduceIte,List.getElem?_set,hlen,t1,t5,e0,a7]
    exact fin (by rw [if_pos a7,hz]; rfl)
   ·simp only [sxZ,z6,z7,z8,j4,j5,j6,j7,j8,j9,x4,x5,x6,x7,x8,x9,reduceCtorEq,↓reduceIte,List.getElem?_set,hlen,t1,t5,e0,a7]
    exact fin (by rw [if_neg a7,hz]; rfl)
  ·have eb:=hO.get (i:=b) (x:=.orow 5 1 g txt.length (byA txt)) (by simp)
   by_cases a7:v.kind=7
   ·simp only [sxZ,z6,z7,z8,j4,j5,j6,j7,j8,j9,x4,x5,x6,x7,x8,x9,reduceCtorEq,↓reduceIte,List.getElem?_set,hlen,t1,t5,e0,a7,eb]
    refine kCb2_o _ _ _ _ ?_
    simp only [sxZ,z6,z7,z8,j4,j5,j6,j7,j8,j9,x4,x5,x6,x7,x8,x9,reduceCtorEq,↓reduceIte,List.getElem?_set,hlen]
    refine ⟨by omega,by omega,?_⟩
    exact fin (by rw [if_pos a7])
   ·simp only [sxZ,z6,z7,z8,j4,j5,j6,j7,j8,j9,x4,x5,x6,x7,x8,x9,reduceCtorEq,↓reduceIte,List.getElem?_set,hlen,t1,t5,e0,a7,eb]
    refine kCb2_o _ _ _ _ ?_
    simp only [sxZ,z6,z7,z8,j4,j5,j6,j7,j8,j9,x4,x5,x6,x7,x8,x9,reduceCtorEq,↓reduceIte,List.getElem?_set,hlen]
    refine ⟨by omega,by omega,?_⟩
    exact fin (by rw [if_neg a7])
end
end
end Go.Proofs.YtadhjoggdbhkgaaGreatDoor
namespace Go.Proofs.YtadhjoggdbhkgaaGreatDoor
open Go.RowKit Sx
section
attribute [local irreducible] run
def TokAt (k:Int) (x b m:List UInt8):Prop:=zbl (b ++ m)=(0,k,x,b.length) ∧ ∃ c t,b=c :: t ∧ zcB c=false
theorem zln {c:UInt8} (m:List UInt8) (h:zcC c [123,125,91,93,58,44]=true) (hw:zcB c=false):TokAt 2 [c] [c] m:=by
 refine ⟨?_,c,[],rfl,hw⟩
 show zbl (c :: m)=_
 rw [zbl,if_pos h]; rfl
def zdM (w:List UInt8):Prop:=∀ c ∈ w,zcB c=true
def Spl:List (Int × List UInt8) → List UInt8 → List UInt8 → Prop
 | [],l,r => l=r
 | (k,x) :: ts,l,r => ∃ w b m,l=w ++ (b ++ m) ∧ zdM w ∧ TokAt k x b m ∧ Spl ts m r
theorem zlv:∀ {a b:List (Int × List UInt8)} {l m r:List UInt8},Spl a l m → Spl b m r → Spl (a ++ b) l r
 | [],b,l,m,r,h,k => by rw [show l=m from h]; exact k
 | (k,x) :: a,b,l,m,r,h,k' => by
  obtain ⟨w,c,n,h1,h2,h3,h4⟩:=h
  exact ⟨w,c,n,h1,h2,h3,zlv h4 k'⟩
theorem zlu {t:Int × List UInt8} {ts:List (Int × List UInt8)} {l r w:List UInt8} (hw:zdM w) (h:Spl (t :: ts) l r):Spl (t :: ts) (w ++ l) r:=by
 obtain ⟨k,x⟩:=t
 obtain ⟨w',b,m,rfl,h2,h3,h4⟩:=h
 exact ⟨w ++ w',b,m,by rw [List.append_assoc],fun c hc => (List.mem_append.1 hc).elim (hw c) (h2 c),h3,h4⟩
end
end Go.Proofs.YtadhjoggdbhkgaaGreatDoor
namespace Go.Proofs.YtadhjoggdbhkgaaGreatDoor
open Go.RowKit Sx
section
attribute [local irreducible] run
mutual
/-- a value that is written and read, d deep -/
def RdJ:JV → Nat → Prop
 | .mk k t ks its,d =>
  ((k=1 ∨ k=2 ∨ k=3) ∧ t=[] ∧ ks=[] ∧ its=[]) ∨ (k=4 ∧ zbv t=(0,t) ∧ ks=[] ∧ its=[]) ∨ (k=5 ∧ (zaF t=true ∧ t.length ≤ 1048576) ∧ ks=[] ∧ its=[]) ∨
  (k=6 ∧ t=[] ∧ ks=[] ∧ d < 64 ∧ RdL its (d + 1)) ∨ (k=7 ∧ t=[] ∧ ks.length=its.length ∧ ks.Nodup ∧ (∀ x ∈ ks,zaF x=true ∧ x.length ≤ 1048576) ∧ d < 64 ∧ RdL its (d + 1))
def RdL:List JV → Nat → Prop
 | [],_ => True
 | v :: l,d => RdJ v d ∧ RdL l d
end
theorem zeQ:∀ {l:List JV} {d:Nat},RdL l d ↔ ∀ x ∈ l,RdJ x d
 | [],d => by rw [RdL]; simp
 | v :: l,d => by rw [RdL,zeQ (l:=l)]; simp
end
end Go.Proofs.YtadhjoggdbhkgaaGreatDoor
namespace Go.Proofs.YtadhjoggdbhkgaaGreatDoor
open Go.RowKit Sx
section
attribute [local irreducible] run
def puL:List UInt8:=[44,58,91,93,123,125]
def whL:List UInt8:=[32,9,13,10]
def kSp (sp:List UInt8) (i:Nat):Nat:=(sp[i % sp.length]?.getD 0).toNat
def preS (k:Nat):List UInt8:=if k % 2=1 then [whL[k / 2 % 4]?.getD 0] else []
def zkE (k:Nat):List UInt8:=if k / 8 % 2=1 then [whL[k / 16 % 4]?.getD 0] else []
def sprd (sp:List UInt8):List UInt8 → Bool → Nat → List UInt8
 | [],_,_ => []
 | c :: t,ins,i =>
  if ins=true ∧ c=92 then (match t with
   | [] => [c]
   | d :: t' => c :: d :: sprd sp t' true (i + 2))
  else preS (if ins=false ∧ zcC c puL=true then kSp sp i else 0) ++ (c :: (zkE (if ins=false ∧ zcC c puL=true then kSp sp i else 0) ++ sprd sp t (if c=34 then !ins else ins) (i + 1)))
theorem wh_all:∀ n:Fin 4,zcB (whL[n.val]?.getD 0)=true:=by decide +kernel
theorem zmf (k:Nat):zdM (preS k):=by
 intro c hc
 unfold preS at hc
 split at hc
 ·rw [List.mem_singleton] at hc
  rw [hc]
  exact wh_all ⟨k / 2 % 4,by omega⟩
 ·cases hc
theorem zkD (k:Nat):zdM (zkE k):=by
 intro c hc
 unfold zkE at hc
 split at hc
 ·rw [List.mem_singleton] at hc
  rw [hc]
  exact wh_all ⟨k / 16 % 4,by omega⟩
 ·cases hc
theorem zlt {sp:List UInt8} {c:UInt8} {t:List UInt8} {ins:Bool} {i:Nat} (h:¬ (ins=true ∧ c=92)):sprd sp (c :: t) ins i=preS (if ins=false ∧ zcC c puL=true then kSp sp i else 0) ++ (c :: (zkE (if ins=false ∧ zcC c puL=true then kSp sp i else 0) ++ sprd sp t (if c=34 then !ins else ins) (i + 1))):=by
 rw [sprd.eq_def]; exact if_neg h
theorem sprd_pu {sp:List UInt8} {c:UInt8} {t:List UInt8} {i:Nat} (h:zcC c puL=true) (h34:c ≠ 34):sprd sp (c :: t) false i=preS (kSp sp i) ++ (c :: (zkE (kSp sp i) ++ sprd sp t false (i + 1))):=by
 rw [zlt (by simp),if_pos ⟨rfl,h⟩,if_neg h34]
def SplW (ts:List (Int × List UInt8)) (l r:List UInt8):Prop:=∃ w,zdM w ∧ Spl ts l (w ++ r)
theorem zlg {a b:List UInt8} (ha:zdM a) (hb:zdM b):zdM (a ++ b):=fun c hc => (List.mem_append.1 hc).elim (ha c) (hb c)
theorem zlh:zdM []:=fun c hc => by cases hc
theorem SplW.app {a b:List (Int × List UInt8)} {l m r:List UInt8} (h:SplW a l m) (k:SplW b m r):SplW (a ++ b) l r:=by
 obtain ⟨w,hw,h1⟩:=h
 obtain ⟨w',hw',h2⟩:=k
 cases b with
 | nil =>
  rw [show m=w' ++ r from h2,← List.append_assoc] at h1
  exact ⟨w ++ w',zlg hw hw',by rw [List.append_nil]; exact h1⟩
 | cons t b => exact ⟨w',hw',zlv h1 (zlu hw h2)⟩
theorem SplW.none (r:List UInt8):SplW [] r r:=⟨[],zlh,rfl⟩
theorem SplW.pu {c:UInt8} (sp t:List UInt8) (i:Nat) (h:zcC c puL=true) (h2:zcC c [123,125,91,93,58,44]=true) (h34:c ≠ 34) (hw:zcB c=false):SplW [(2,[c])] (sprd sp (c :: t) false i) (sprd sp t false (i + 1)):=by
 rw [sprd_pu h h34]
 refine ⟨zkE (kSp sp i),zkD _,?_⟩
 exact ⟨preS (kSp sp i),[c],_,rfl,zmf _,zln _ h2 hw,rfl⟩
end
end Go.Proofs.YtadhjoggdbhkgaaGreatDoor
namespace Go.Proofs.YtadhjoggdbhkgaaGreatDoor
open Go.RowKit Sx
section
attribute [local irreducible] run
theorem zgc:∀ (l:List JV) (d n:Int),0 ≤ n → 0 < zbB l d n → zbB l d n ≤ 20000 → ∀ x ∈ l,0 < zbr x d ∧ zbr x d ≤ 20000
 | [],d,n,h0,h1,h2,x,hx => by cases hx
 | v :: l,d,n,h0,h1,h2,x,hx => by
  rw [zbB] at h1 h2
  have hb:=zgd v d
  by_cases c1:zbr v d=0
  ·rw [if_pos c1] at h1; omega
  rw [if_neg c1] at h1 h2
  by_cases c2:20000 < n + zbr v d
  ·rw [if_pos c2] at h2; omega
  rw [if_neg c2] at h1 h2
  rcases List.mem_cons.1 hx with rfl | hx
  ·omega
  ·exact zgc l d _ (by omega) h1 h2 x hx
theorem zga:∀ {l:List JV},zdN l ↔ ∀ x ∈ l,JKp x
 | [] => by rw [zdN]; simp
 | v :: l => by rw [zdN,zga (l:=l)]; simp
mutual
/-- a valid value -/
theorem rd_of:∀ (v:JV) (d:Nat),zdd v=true → JKp v → 0 < zbr v d → zbr v d ≤ 20000 → RdJ v d
 | .mk k t ks its,d,hs,hk,h1,h2 => by
  obtain ⟨l1,l2,l3,l4⟩:=hk.lens
  have hi:=rdL_of its (d + 1)
  have hki:zdN its:=by rw [JKp] at hk; exact hk.2.2.2.2
  rw [zbr] at h1 h2
  rw [zdd] at hs
  simp only [JV.text,JV.keys,JV.items] at l1 l2 l3 l4
  rw [RdJ]
  by_cases a1:k=1 ∨ k=3 ∨ k=2
  ·rw [if_pos a1] at hs
   simp only [Bool.and_eq_true,decide_eq_true_eq] at hs
   exact .inl ⟨by omega,hs.1,List.eq_nil_of_length_eq_zero hs.2.1,List.eq_nil_of_length_eq_zero hs.2.2⟩
  rw [if_neg a1] at hs
  by_cases a4:k=4
  ·rw [if_pos a4] at hs
   simp only [Bool.and_eq_true,decide_eq_true_eq] at hs
   exact .inr (.inl ⟨a4,Prod.ext hs.1 hs.2.1,List.eq_nil_of_length_eq_zero hs.2.2.1,List.eq_nil_of_length_eq_zero hs.2.2.2⟩)
  rw [if_neg a4] at hs
  by_cases a5:k=5
  ·rw [if_pos a5] at hs
   simp only [Bool.and_eq_true,decide_eq_true_eq] at hs
   exact .inr (.inr (.inl ⟨a5,⟨hs.1,by omega⟩,List.eq_nil_of_length_eq_zero hs.2.1,List.eq_nil_of_length_eq_zero hs.2.2⟩))
  rw [if_neg a5] at hs
  by_cases a6:k=6
  ·rw [if_pos a6] at hs
   simp only [Bool.and_eq_true,decide_eq_true_eq] at hs
   have hin:(if k=6 ∨ k=7 then (d:Int) + 1 else (d:Int))=(d:Int) + 1:=if_pos (.inl a6)
   rw [hin] at h1 h2
   by_cases c64:64 < (d:Int) + 1
   ·rw [if_pos c64] at h1; omega
   rw [if_neg c64] at h1 h2
   exact .inr (.inr (.inr (.inl ⟨a6,hs.1,List.eq_nil_of_length_eq_zero hs.2.1,by omega,hi hs.2.2 hki (fun x hx => zgc its _ 1 (by decide) h1 h2 x hx)⟩)))
  rw [if_neg a6] at hs
  by_cases a7:k=7
  ·rw [if_pos a7] at hs
   unfold zbZ at hs
   simp only [Bool.and_eq_true,decide_eq_true_eq,List.all_eq_true] at hs
   have hin:(if k=6 ∨ k=7 then (d:Int) + 1 else (d:Int))=(d:Int) + 1:=if_pos (.inr a7)
   rw [hin] at h1 h2
   by_cases c64:64 < (d:Int) + 1
   ·rw [if_pos c64] at h1; omega
   rw [if_neg c64] at h1 h2
   exact .inr (.inr (.inr (.inr ⟨a7,hs.1,hs.2.1,hs.2.2.1.1,fun x hx => ⟨hs.2.2.1.2 x hx,by have:=l4 x hx; omega⟩,by omega,hi hs.2.2.2 hki (fun x hx => zgc its _ 1 (by decide) h1 h2 x hx)⟩)))
  rw [if_neg a7] at hs
  cases hs
theorem rdL_of:∀ (l:List JV) (d:Nat),zcI l=true → zdN l → (∀ x ∈ l,0 < zbr x (d:Int) ∧ zbr x (d:Int) ≤ 20000) → RdL l d
 | [],d,hs,hk,h => by rw [RdL]; trivial
 | v :: l,d,hs,hk,h => by
  rw [zcI,Bool.and_eq_true] at hs
  rw [zdN] at hk
  rw [RdL]
  have h0:=h v (by simp)
  exact ⟨rd_of v d hs.1 hk.1 h0.1 h0.2,rdL_of l d hs.2 hk.2 fun x hx => h x (by simp [hx])⟩
end
theorem rd_val {v:JV} (h:zdg v=true) (hk:JKp v):RdJ v 0:=by
 unfold zdg at h
 simp only [Bool.and_eq_true,decide_eq_true_eq] at h
 exact rd_of v 0 h.2 hk h.1.1 h.1.2
mutual
theorem zi7:∀ (v:JV) (d:Nat),RdJ v d → zdd v=true
 | .mk k t ks its,d,h => by
  have hi:=zl9 its (d + 1)
  rw [RdJ] at h
  rw [zdd]
  rcases h with ⟨hk,rfl,rfl,rfl⟩ | ⟨rfl,hx,rfl,rfl⟩ | ⟨rfl,hx,rfl,rfl⟩ | ⟨rfl,rfl,rfl,hd2,hl⟩ | ⟨rfl,rfl,hlen,hnd,hv,hd2,hl⟩
  ·rw [if_pos (by omega)]; rfl
  ·rw [if_neg (by decide),if_pos rfl,hx]; simp
  ·rw [if_neg (by decide),if_neg (by decide),if_pos rfl,hx.1]; rfl
  ·rw [if_neg (by decide),if_neg (by decide),if_neg (by decide),if_pos rfl,hi hl]; rfl
  ·rw [if_neg (by decide),if_neg (by decide),if_neg (by decide),if_neg (by decide),if_pos rfl,hi hl]
   unfold zbZ
   have:ks.all zaF=true:=List.all_eq_true.2 fun x hx => (hv x hx).1
   rw [this,decide_eq_true hnd,decide_eq_true hlen]; rfl
theorem zl9:∀ (l:List JV) (d:Nat),RdL l d → zcI l=true
 | [],d,h => by rw [zcI]
 | v :: l,d,h => by rw [RdL] at h; rw [zcI,zi7 v d h.1,zl9 l d h.2]; rfl
end
mutual
theorem rd_wf:∀ (v:JV) (d:Nat),RdJ v d → WfW v
 | .mk k t ks its,d,h => by
  have hi:=rdL_wf its (d + 1)
  rw [RdJ] at h
  rw [WfW]
  rcases h with ⟨hk,rfl,rfl,rfl⟩ | ⟨rfl,hx,rfl,rfl⟩ | ⟨rfl,hx,rfl,rfl⟩ | ⟨rfl,rfl,rfl,hd2,hl⟩ | ⟨rfl,rfl,hlen,hnd,hv,hd2,hl⟩
  ·exact ⟨fun _ => rfl,by rw [zkX]; trivial⟩
  ·exact ⟨fun _ => rfl,by rw [zkX]; trivial⟩
  ·exact ⟨fun _ => rfl,by rw [zkX]; trivial⟩
  ·exact ⟨fun h => absurd h (by decide),hi hl⟩
  ·exact ⟨fun _ => hlen,hi hl⟩
theorem rdL_wf:∀ (l:List JV) (d:Nat),RdL l d → zkX l
 | [],d,h => by rw [zkX]; trivial
 | v :: l,d,h => by rw [RdL] at h; rw [zkX]; exact ⟨rd_wf v d h.1,rdL_wf l d h.2⟩
end
theorem ord_perm {ks:List (List UInt8)} {l:List JV} (hnd:ks.Nodup) (hlen:ks.length=l.length) (n:Nat):((zb4 n ks).map fun key => (l[zd4 key ks]?).getD jvZ).Perm l:=by
 have e:(ks.map fun key => (l[zd4 key ks]?).getD jvZ)=l:=by
  apply List.ext_getElem (by rw [List.length_map,hlen])
  intro i h1 h2
  rw [List.getElem_map,zcp hnd,List.getElem?_eq_getElem h2]; rfl
 have:=(zaY n ks).map fun key => (l[zd4 key ks]?).getD jvZ
 rw [e] at this
 exact this
theorem zkn {a b:List JV} (h:a.Perm b):JV.sizes a=JV.sizes b:=by
 induction h with
 | nil => rfl
 | cons x h ih => rw [JV.sizes,JV.sizes,ih]
 | swap x y l => rw [JV.sizes,JV.sizes,JV.sizes,JV.sizes]; omega
 | trans h1 h2 i1 i2 => rw [i1,i2]
theorem zcS {v:JV} {d:Nat} (h:RdJ v d):(v.items=[] ∧ v.keys=[] ∧ za2 v=v ∧ v.kind ≠ 6 ∧ v.kind ≠ 7) ∨ (v.kind=6 ∧ v.keys=[] ∧ za2 v=.mk 6 v.text [] (zbH v.items)) ∨
  (v.kind=7 ∧ v.keys.length=v.items.length ∧ v.keys.Nodup ∧ ∃ S its,za2 v=.mk 7 v.text S its ∧ S=zb4 v.keys.length v.keys ∧ its=(S.map fun key => ((zbH v.items)[zd4 key v.keys]?).getD jvZ) ∧ S.Perm v.keys ∧ its.Perm (zbH v.items)):=by
 cases v with
 | mk k t ks its =>
  rw [RdJ] at h
  have z:∀ k:Int,k ≠ 6 → za2 (.mk k t [] [])=.mk k t [] []:=fun k hk => by
   rw [za2,if_neg hk]; rfl
  rcases h with ⟨hk,rfl,rfl,rfl⟩ | ⟨rfl,hx,rfl,rfl⟩ | ⟨rfl,hx,rfl,rfl⟩ | ⟨rfl,rfl,rfl,hd2,hl⟩ | ⟨rfl,rfl,hlen,hnd,hv,hd2,hl⟩
  ·exact .inl ⟨rfl,rfl,z k (by omega),by show k ≠ 6; omega,by show k ≠ 7; omega⟩
  ·exact .inl ⟨rfl,rfl,z _ (by decide),by show (4:Int) ≠ 6; decide,by show (4:Int) ≠ 7; decide⟩
  ·exact .inl ⟨rfl,rfl,z _ (by decide),by show (5:Int) ≠ 6; decide,by show (5:Int) ≠ 7; decide⟩
  ·exact .inr (.inl ⟨rfl,rfl,by rw [za2,if_pos rfl]; rfl⟩)
  ·refine .inr (.inr ⟨rfl,hlen,hnd,_,_,by rw [za2,if_neg (by decide)]; rfl,rfl,rfl,zaY _ _,?_⟩)
   exact ord_perm hnd (by rw [zb7]; exact hlen) _
mutual
theorem zjg:∀ (v:JV) (d:Nat),RdJ v d → RdJ (za2 v) d
 | .mk k t ks its,d,h => by
  have hi:=zms its (d + 1)
  have hc:=zcS h
  have h0:=h
  rw [RdJ] at h
  rcases hc with ⟨_,_,e,_⟩ | ⟨k6,_,e⟩ | ⟨k7,hlen,hnd,S,its',e,_,_,hS,hI⟩
  ·rw [e]; exact h0
  ·simp only [JV.kind,JV.text,JV.items] at k6 e
   rw [e,RdJ]
   rcases h with ⟨hk,_⟩ | ⟨h,_⟩ | ⟨h,_⟩ | ⟨_,rfl,rfl,hd2,hl⟩ | ⟨h,_⟩
   ·omega
   ·omega
   ·omega
   ·exact .inr (.inr (.inr (.inl ⟨rfl,rfl,rfl,hd2,hi hl⟩)))
   ·omega
  ·simp only [JV.kind,JV.text,JV.items,JV.keys] at k7 e hlen hnd hS hI
   rw [e,RdJ]
   rcases h with ⟨hk,_⟩ | ⟨h,_⟩ | ⟨h,_⟩ | ⟨h,_⟩ | ⟨_,rfl,_,_,hv,hd2,hl⟩
   ·omega
   ·omega
   ·omega
   ·omega
   ·have hl2:=hi hl
    rw [zeQ] at hl2
    exact .inr (.inr (.inr (.inr ⟨rfl,rfl,by rw [hS.length_eq,hI.length_eq,zb7]; exact hlen,hS.nodup_iff.2 hnd,fun x hx => hv x (hS.mem_iff.1 hx),hd2,zeQ.2 fun x hx => hl2 x (hI.mem_iff.1 hx)⟩)))
theorem zms:∀ (l:List JV) (d:Nat),RdL l d → RdL (zbH l) d
 | [],d,h => by rw [zbH,RdL]; trivial
 | v :: l,d,h => by rw [RdL] at h; rw [zbH,RdL]; exact ⟨zjg v d h.1,zms l d h.2⟩
end
mutual
theorem zeq:∀ (v:JV) (d:Nat),RdJ v d → (za2 v).size=v.size
 | .mk k t ks its,d,h => by
  have hi:=zg8 its (d + 1)
  have hc:=zcS h
  rw [RdJ] at h
  have hl:RdL its (d + 1):=by
   rcases h with ⟨_,_,_,rfl⟩ | ⟨_,_,_,rfl⟩ | ⟨_,_,_,rfl⟩ | ⟨_,_,_,_,hl⟩ | ⟨_,_,_,_,_,_,hl⟩
   ·rw [RdL]; trivial
   ·rw [RdL]; trivial
   ·rw [RdL]; trivial
   ·exact hl
   ·exact hl
  have h1:=hi hl
  rcases hc with ⟨_,_,e,_⟩ | ⟨k6,_,e⟩ | ⟨k7,hlen,hnd,S,its',e,_,_,hS,hI⟩
  ·rw [e]
  ·rw [e,size_eq,size_eq]
   show JV.sizes (zbH its) + 1=_
   rw [h1]; rfl
  ·rw [e,size_eq,size_eq]
   show JV.sizes its' + 1=_
   rw [zkn hI]
   show JV.sizes (zbH its) + 1=_
   rw [h1]; rfl
theorem zg8:∀ (l:List JV) (d:Nat),RdL l d → JV.sizes (zbH l)=JV.sizes l
 | [],d,h => by rw [zbH]
 | v :: l,d,h => by rw [RdL] at h; rw [zbH,JV.sizes,JV.sizes,zeq v d h.1,zg8 l d h.2]
end
mutual
theorem ord_kp:∀ (v:JV) (d:Nat),RdJ v d → JKp v → JKp (za2 v)
 | .mk k t ks its,d,h,hk => by
  have hi:=zmt its (d + 1)
  have hc:=zcS h
  obtain ⟨l1,l2,l3,l4⟩:=hk.lens
  have hki:zdN its:=by rw [JKp] at hk; exact hk.2.2.2.2
  rw [RdJ] at h
  have hl:RdL its (d + 1):=by
   rcases h with ⟨_,_,_,rfl⟩ | ⟨_,_,_,rfl⟩ | ⟨_,_,_,rfl⟩ | ⟨_,_,_,_,hl⟩ | ⟨_,_,_,_,_,_,hl⟩
   ·rw [RdL]; trivial
   ·rw [RdL]; trivial
   ·rw [RdL]; trivial
   ·exact hl
   ·exact hl
  have h1:=hi hl hki
  simp only [JV.text,JV.keys,JV.items] at l1 l2 l3 l4 hc
  rcases hc with ⟨_,_,e,_⟩ | ⟨k6,_,e⟩ | ⟨k7,hlen,hnd,S,its',e,_,_,hS,hI⟩
  ·rw [e]; exact hk
  ·rw [e,JKp]
   exact ⟨by simp,by rw [zb7]; exact l2,l3,by simp,h1⟩
  ·rw [e,JKp]
   exact ⟨by rw [hS.length_eq]; exact l1,by rw [hI.length_eq,zb7]; exact l2,l3,fun x hx => l4 x (hS.mem_iff.1 hx),zga.2 fun x hx => zga.1 h1 x (hI.mem_iff.1 hx)⟩
theorem zmt:∀ (l:List JV) (d:Nat),RdL l d → zdN l → zdN (zbH l)
 | [],d,h,hk => by rw [zbH]; exact hk
 | v :: l,d,h,hk => by rw [RdL] at h; rw [zdN] at hk; rw [zbH,zdN]; exact ⟨ord_kp v d h.1 hk.1,zmt l d h.2 hk.2⟩
end
theorem znn:∀ (l:List JV) (w:JV) (ks:List (List UInt8)),(∀ (i:Nat) (h1:i < ks.length) (h2:i < l.length),(zfA w ks[i]).2=true ∧ jeqJ l[i] (zfA w ks[i]).1=true) → zk0 ks l w=true
 | [],w,ks,_ => by rw [zk0]
 | v :: l,w,[],_ => by rw [zk0]
 | v :: l,w,k :: ks,hw => by
  have h0:=hw 0 (by simp) (by simp)
  simp only [List.getElem_cons_zero] at h0
  rw [zk0]
  simp only [h0]
  rw [znn l w ks fun i h1 h2 => by
   have:=hw (i + 1) (by simpa using h1) (by simpa using h2)
   simpa only [List.getElem_cons_succ] using this]
  rfl
mutual
/-- in order or not: equal -/
theorem ord_eq:∀ (v:JV) (d:Nat),RdJ v d → jeqJ (za2 v) v=true
 | .mk k t ks its,d,h => by
  have hi:=zmu its (d + 1)
  have hc:=zcS h
  have hs:=zi7 _ _ h
  rw [RdJ] at h
  have hl:RdL its (d + 1):=by
   rcases h with ⟨_,_,_,rfl⟩ | ⟨_,_,_,rfl⟩ | ⟨_,_,_,rfl⟩ | ⟨_,_,_,_,hl⟩ | ⟨_,_,_,_,_,_,hl⟩
   ·rw [RdL]; trivial
   ·rw [RdL]; trivial
   ·rw [RdL]; trivial
   ·exact hl
   ·exact hl
  have h1:=hi hl
  rcases hc with ⟨_,_,e,_⟩ | ⟨k6,_,e⟩ | ⟨k7,hlen,hnd,S,its',e,hS0,hI0,hS,hI⟩
  ·rw [e]; exact zeX _ hs
  ·simp only [JV.kind,JV.text,JV.items] at k6 e
   rw [e,zip,k6]
   show (decide ((6:Int)=6) && _)=true
   rw [if_neg (by show ¬ ((6:Int)=1 ∨ (6:Int)=2 ∨ (6:Int)=3); decide),if_neg (by show ¬ ((6:Int)=4 ∨ (6:Int)=5); decide),if_pos (show (JV.mk 6 t [] (zbH its)).kind=6 from rfl)]
   exact h1.1
  ·simp only [JV.kind,JV.text,JV.items,JV.keys] at k7 e hlen hnd hS hI hS0 hI0
   rw [e,zip,k7]
   show (decide ((7:Int)=7) && _)=true
   rw [if_neg (by show ¬ ((7:Int)=1 ∨ (7:Int)=2 ∨ (7:Int)=3); decide),if_neg (by show ¬ ((7:Int)=4 ∨ (7:Int)=5); decide),if_neg (by show ¬ (7:Int)=6; decide),if_pos (show (JV.mk 7 t S its').kind=7 from rfl)]
   show (true && (decide (S.length=ks.length) && zk0 S its' (.mk 7 t ks its)))=true
   rw [decide_eq_true hS.length_eq,Bool.true_and,Bool.true_and]
   refine znn its' _ S fun i q1 q2 => ?_
   have hm:S[i] ∈ ks:=hS.mem_iff.1 (List.getElem_mem q1)
   obtain ⟨j,hj1,hj2⟩:=List.mem_iff_getElem.1 hm
   have hg:=ziu (v:=.mk 7 t ks its) rfl hlen hnd hj1
   have e2:its'[i]=za2 (its[j]'(by omega)):=by
    have:its'[i]? = some (za2 (its[j]'(by omega))):=by
     rw [hI0,List.getElem?_map,List.getElem?_eq_getElem q1,← hj2]
     show some ((zbH its)[zd4 ks[j] ks]?.getD jvZ)=_
     rw [zcp hnd hj1,zdB (by omega)]; rfl
    rw [List.getElem?_eq_getElem q2] at this
    exact Option.some.inj this
   rw [e2,← hj2]
   have hg:zfA (.mk 7 t ks its) ks[j]=(its[j]'(by omega),true):=hg
   rw [hg]
   exact ⟨rfl,h1.2 j (by omega)⟩
theorem zmu:∀ (l:List JV) (d:Nat),RdL l d → jeqL (zbH l) l=true ∧ ∀ (i:Nat) (h:i < l.length),jeqJ (za2 l[i]) l[i]=true
 | [],d,h => ⟨by rw [zbH,jeqL]; rfl,fun i h => by simp at h⟩
 | v :: l,d,h => by
  rw [RdL] at h
  have h1:=ord_eq v d h.1
  have h2:=zmu l d h.2
  refine ⟨by rw [zbH,jeqL,h1,h2.1]; rfl,fun i hi => ?_⟩
  cases i with
  | zero => exact h1
  | succ i => exact h2.2 i (by simpa using hi)
end
end
end Go.Proofs.YtadhjoggdbhkgaaGreatDoor
