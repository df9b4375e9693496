/- The texts that the proofs of these statements reach, in their order, as few files. -/
import Derived.Test.YtceenajkieomoaaJd4
set_option linter.unusedVariables false
set_option linter.unusedSimpArgs false
set_option maxRecDepth 100000
namespace Go.Proofs.Ytceenajkieomoaa
open Nat renaming reduceAdd → z5, reduceSub → z6, reduceLeDiff → z7, reduceLT → z8, reduceMul → j4, reduceEqDiff → j5
open Int renaming reduceToNat → j6, reduceAdd → j7, reduceSub → j8, reduceMul → j9, reduceNeg → y3, reduceLT → y4, reduceLE → y5, reduceEq → y6, reduceNe → y7
open Go.RowKit Sx
section
attribute [local irreducible] run
def zbG (v:JV) (e:Int):OB:=.box 71 (.i .i64 e :: zaj v)
section
variable [Tabs Try.prog] {objs:List OB} {K:List OB → AV → Prop}
theorem zdZ (v:JV) (e x:Int) (b:Nat) (hb:objs[b]? = some (zbG v e)) (hk:K (objs.set b (zbG v (orE e x))) (.tup [])):zah Try.prog 55 [.p b 0,.i .i64 x] objs K:=by
 unfold zbG at hb hk
 rw [zad] at hb hk
 refine zbb is_jrd_failure_fail fun C _ => ?_
 rw [c_jrd_failure_fail]
 unfold orE at hk
 by_cases c:e=0
 ·rw [if_pos c] at hk
  simp only [sxZ,z5,z6,z7,z8,j4,j5,j6,j7,j8,j9,y3,y4,y5,y6,y7,reduceCtorEq,↓reduceIte,hb,c]
  exact hk
 ·rw [if_neg c,set_same hb] at hk
  simp only [sxZ,z5,z6,z7,z8,j4,j5,j6,j7,j8,j9,y3,y4,y5,y6,y7,reduceCtorEq,↓reduceIte,hb,c]
  exact hk
theorem zed (v:JV) (e kind:Int) (name:List UInt8) (b:Nat) (hv:JOk v) (hj:JBd v) (hb:objs[b]? = some (zbG v e)) (hk:∀ o,Ext objs o b (zbG v (zaM v e name kind).1) → K o (.tup [.agg (zaj (zaM v e name kind).2.1),.b (zaM v e name kind).2.2])):zah Try.prog 56 [.p b 0,.s name,.i .i64 kind] objs K:=by
 have hbl:=(List.getElem?_eq_some_iff.1 hb).1
 refine zd8 (zco (zaM v e name kind).2) ?_
 have hk':∀ o,Ext objs o b (zbG v (zaM v e name kind).1) → K o (zco (zaM v e name kind).2):=hk
 clear hk
 refine zbb is_jrd_decoder_member fun C _ => ?_
 rw [c_jrd_decoder_member]
 have hb':=hb
 unfold zbG at hb
 rw [zad] at hb
 refine zaa fun Z hZ => ?_
 simp only [sxZ,z5,z6,z7,z8,j4,j5,j6,j7,j8,j9,y3,y4,y5,y6,y7,reduceCtorEq,↓reduceIte]
 subst hZ
 refine zaa fun Z hZ => ?_
 have hb1:∀ z,(objs ++ [z])[b]? = some (.box 71 [.i .i64 e,.i .i64 v.kind,.s v.text,.row v.keys.length (v.keys.map .s),.row v.items.length (zab v.items)]):=fun z => by rw [List.getElem?_append_left hbl]; exact hb
 by_cases c:e=0
 ·subst c
  simp only [sxZ,z5,z6,z7,z8,j4,j5,j6,j7,j8,j9,y3,y4,y5,y6,y7,reduceCtorEq,↓reduceIte,hb1]
  subst hZ
  refine zaa fun Z hZ => ?_
  simp only [sxZ,z5,z6,z7,z8,j4,j5,j6,j7,j8,j9,y3,y4,y5,y6,y7,reduceCtorEq,↓reduceIte,hb1]
  have ej:AV.agg [.i .i64 v.kind,.s v.text,.row v.keys.length (v.keys.map .s),.row v.items.length (zab v.items)]=.agg (zaj v):=by rw [zad]
  rw [ej]
  refine zak (jGet14_k v name hv hj ?_)
  have hm:zaM v 0 name kind=if (zba v name).2=true ∧ (zba v name).1.kind ≠ kind then (160,(zba v name).1,false) else (0,(zba v name).1,(zba v name).2 && decide ((zba v name).1.kind=kind)):=by
   unfold zaM; rw [if_neg (by simp)]
  obtain ⟨⟨x,ok⟩,hx⟩:∃ R,zba v name=R:=⟨_,rfl⟩
  rw [hx] at hm ⊢
  unfold zco
  rw [zad x]
  simp only [sxZ,z5,z6,z7,z8,j4,j5,j6,j7,j8,j9,y3,y4,y5,y6,y7,reduceCtorEq,↓reduceIte,gn1,sn1,gn2,sn2,List.length_append,List.length_cons,List.length_nil]
  have hE:=((Ext.refl hb').app (.box 25 [.i .i64 0,.s [],.nil,.nil])).app (.box 25 [.i .i64 x.kind,.s x.text,.row x.keys.length (x.keys.map .s),.row x.items.length (zab x.items)])
  have eA:(objs ++ [OB.box 25 [.i .i64 0,.s [],.nil,.nil]] ++ [OB.box 25 [.i .i64 x.kind,.s x.text,.row x.keys.length (x.keys.map .s),.row x.items.length (zab x.items)]])[objs.length]? = some (.box 25 [.i .i64 0,.s [],.nil,.nil]):=by
   rw [List.getElem?_append_left (by simp)]; exact gn1 _ _
  have eB:(objs ++ [OB.box 25 [.i .i64 0,.s [],.nil,.nil]] ++ [OB.box 25 [.i .i64 x.kind,.s x.text,.row x.keys.length (x.keys.map .s),.row x.items.length (zab x.items)]])[objs.length + 1]? = some (.box 25 [.i .i64 x.kind,.s x.text,.row x.keys.length (x.keys.map .s),.row x.items.length (zab x.items)]):=by
   rw [List.getElem?_append_right (by simp)]; simp
  generalize objs ++ [OB.box 25 [.i .i64 0,.s [],.nil,.nil]] ++ [OB.box 25 [.i .i64 x.kind,.s x.text,.row x.keys.length (x.keys.map .s),.row x.items.length (zab x.items)]]=o1 at hE eA eB ⊢
  have hol:objs.length < o1.length:=(List.getElem?_eq_some_iff.1 eA).1
  have ejx:zaj x=[.i .i64 x.kind,.s x.text,.row x.keys.length (x.keys.map .s),.row x.items.length (zab x.items)]:=zad x
  subst hZ
  refine zaa fun Z hZ => ?_
  cases ok with
  | false =>
   have hm2:zaM v 0 name kind=(0,x,false):=by rw [hm]; simp
   rw [hm2] at hk' ⊢
   simp only [sxZ,z5,z6,z7,z8,j4,j5,j6,j7,j8,j9,y3,y4,y5,y6,y7,reduceCtorEq,↓reduceIte,eB]
   subst hZ
   simp only [sxZ,z5,z6,z7,z8,j4,j5,j6,j7,j8,j9,y3,y4,y5,y6,y7,reduceCtorEq,↓reduceIte,eB,eA,List.getElem?_set_self hol]
   have hf:=hk' _ (hE.own objs.length (.box 25 (zaj x)) (Nat.le_refl _) hbl)
   unfold zco at hf
   rw [ejx] at hf ⊢
   exact ⟨fun G I y hy => hy,hf⟩
  | true =>
   by_cases c2:x.kind=kind
   ·have hm2:zaM v 0 name kind=(0,x,true):=by rw [hm]; simp [c2]
    rw [hm2] at hk' ⊢
    simp only [sxZ,z5,z6,z7,z8,j4,j5,j6,j7,j8,j9,y3,y4,y5,y6,y7,reduceCtorEq,↓reduceIte,eB,c2]
    subst hZ
    simp only [sxZ,z5,z6,z7,z8,j4,j5,j6,j7,j8,j9,y3,y4,y5,y6,y7,reduceCtorEq,↓reduceIte,eB,eA,c2,List.getElem?_set_self hol]
    refine ⟨by omega,?_⟩
    have hf:=hk' _ (hE.own objs.length (.box 25 (zaj x)) (Nat.le_refl _) hbl)
    unfold zco at hf
    rw [ejx,c2] at hf ⊢
    exact ⟨fun G I y hy => hy,hf⟩
   ·have hm2:zaM v 0 name kind=(160,x,false):=by rw [hm]; simp [c2]
    rw [hm2] at hk' ⊢
    simp only [sxZ,z5,z6,z7,z8,j4,j5,j6,j7,j8,j9,y3,y4,y5,y6,y7,reduceCtorEq,↓reduceIte,eB,c2]
    refine zak (zdZ v 0 160 b hE.1 ?_)
    have hE2:=hE.set (zbG v (orE 0 160))
    have eA2:(o1.set b (zbG v (orE 0 160)))[objs.length]? = some (.box 25 [.i .i64 0,.s [],.nil,.nil]):=by rw [List.getElem?_set_ne (by omega)]; exact eA
    have eB2:(o1.set b (zbG v (orE 0 160)))[objs.length + 1]? = some (.box 25 [.i .i64 x.kind,.s x.text,.row x.keys.length (x.keys.map .s),.row x.items.length (zab x.items)]):=by rw [List.getElem?_set_ne (by omega)]; exact eB
    have hor:orE 0 160=160:=by rfl
    rw [hor] at hE2 eA2 eB2 ⊢
    generalize o1.set b (zbG v 160)=o2 at hE2 eA2 eB2 ⊢
    have hol2:objs.length < o2.length:=(List.getElem?_eq_some_iff.1 eA2).1
    simp only [sxZ,z5,z6,z7,z8,j4,j5,j6,j7,j8,j9,y3,y4,y5,y6,y7,reduceCtorEq,↓reduceIte]
    subst hZ
    simp only [sxZ,z5,z6,z7,z8,j4,j5,j6,j7,j8,j9,y3,y4,y5,y6,y7,reduceCtorEq,↓reduceIte,eB2,eA2,c2,List.getElem?_set_self hol2]
    refine ⟨by omega,?_⟩
    have hf:=hk' _ (hE2.own objs.length (.box 25 (zaj x)) (Nat.le_refl _) hbl)
    unfold zco at hf
    rw [ejx] at hf ⊢
    exact ⟨fun G I y hy => hy,hf⟩
 ·simp only [sxZ,z5,z6,z7,z8,j4,j5,j6,j7,j8,j9,y3,y4,y5,y6,y7,reduceCtorEq,↓reduceIte,hb1,c,gn1,sn1]
  have hm:zaM v e name kind=(e,jvZ,false):=by unfold zaM; rw [if_pos c]
  rw [hm] at hk' ⊢
  exact ⟨fun G I y hy => zhs hy,hk' _ ((Ext.refl hb').app _)⟩
theorem zf0 (v:JV) (e:Int) (name:List UInt8) (b:Nat) (hv:JOk v) (hj:JBd v) (hb:objs[b]? = some (zbG v e)) (hk:∀ o,Ext objs o b (zbG v (zaM v e name 5).1) → K o (.s (zaM v e name 5).2.1.text)):zah Try.prog 27 [.p b 0,.s name] objs K:=by
 have hbl:=(List.getElem?_eq_some_iff.1 hb).1
 refine zbb is_jrd_decoder_text fun C _ => ?_
 rw [c_jrd_decoder_text]
 refine zaa fun Z hZ => ?_
 simp only [sxZ,z5,z6,z7,z8,j4,j5,j6,j7,j8,j9,y3,y4,y5,y6,y7,reduceCtorEq,↓reduceIte]
 subst hZ
 refine zaa fun Z hZ => ?_
 simp only [sxZ,z5,z6,z7,z8,j4,j5,j6,j7,j8,j9,y3,y4,y5,y6,y7,reduceCtorEq,↓reduceIte]
 refine zak (zed v e 5 name b hv hj hb fun o ho => ?_)
 generalize zaM v e name 5=M at hk ho ⊢
 obtain ⟨e1,x,ok⟩:=M
 have hl:=ho.2.1
 dsimp only at hk ho ⊢
 rw [zad x]
 simp only [sxZ,z5,z6,z7,z8,j4,j5,j6,j7,j8,j9,y3,y4,y5,y6,y7,reduceCtorEq,↓reduceIte,gn1,sn1]
 subst hZ
 simp only [sxZ,z5,z6,z7,z8,j4,j5,j6,j7,j8,j9,y3,y4,y5,y6,y7,reduceCtorEq,↓reduceIte,gn1]
 exact hk _ (ho.app _)
theorem dreq_k (v:JV) (e:Int) (name:List UInt8) (b:Nat) (hv:JOk v) (hj:JBd v) (hb:objs[b]? = some (zbG v e)) (hk:∀ o,Ext objs o b (zbG v (if (zaM v e name 5).2.2=true then (zaM v e name 5).1 else orE (zaM v e name 5).1 160)) → K o (.s (zaM v e name 5).2.1.text)):zah Try.prog 58 [.p b 0,.s name] objs K:=by
 have hbl:=(List.getElem?_eq_some_iff.1 hb).1
 refine zbb is_jrd_decoder_requiredText fun C _ => ?_
 rw [c_jrd_decoder_requiredText]
 refine zaa fun Z hZ => ?_
 simp only [sxZ,z5,z6,z7,z8,j4,j5,j6,j7,j8,j9,y3,y4,y5,y6,y7,reduceCtorEq,↓reduceIte]
 subst hZ
 refine zaa fun Z hZ => ?_
 simp only [sxZ,z5,z6,z7,z8,j4,j5,j6,j7,j8,j9,y3,y4,y5,y6,y7,reduceCtorEq,↓reduceIte]
 refine zak (zed v e 5 name b hv hj hb fun o ho => ?_)
 generalize zaM v e name 5=M at hk ho ⊢
 obtain ⟨e1,x,ok⟩:=M
 have hl:=ho.2.1
 dsimp only at hk ho ⊢
 rw [zad x]
 simp only [sxZ,z5,z6,z7,z8,j4,j5,j6,j7,j8,j9,y3,y4,y5,y6,y7,reduceCtorEq,↓reduceIte,gn1,sn1]
 have hE:=ho.app (.box 25 [.i .i64 x.kind,.s x.text,.row x.keys.length (x.keys.map .s),.row x.items.length (zab x.items)])
 have eB:(o ++ [OB.box 25 [.i .i64 x.kind,.s x.text,.row x.keys.length (x.keys.map .s),.row x.items.length (zab x.items)]])[o.length]? = some (.box 25 [.i .i64 x.kind,.s x.text,.row x.keys.length (x.keys.map .s),.row x.items.length (zab x.items)]):=gn1 _ _
 generalize o ++ [OB.box 25 [.i .i64 x.kind,.s x.text,.row x.keys.length (x.keys.map .s),.row x.items.length (zab x.items)]]=o1 at hE eB ⊢
 subst hZ
 refine zaa fun Z hZ => ?_
 cases ok with
 | true =>
  simp only [sxZ,z5,z6,z7,z8,j4,j5,j6,j7,j8,j9,y3,y4,y5,y6,y7,reduceCtorEq,↓reduceIte]
  subst hZ
  simp only [sxZ,z5,z6,z7,z8,j4,j5,j6,j7,j8,j9,y3,y4,y5,y6,y7,reduceCtorEq,↓reduceIte,eB]
  exact hk _ hE
 | false =>
  simp only [sxZ,z5,z6,z7,z8,j4,j5,j6,j7,j8,j9,y3,y4,y5,y6,y7,reduceCtorEq,↓reduceIte]
  refine zak (zdZ v e1 160 b hE.1 ?_)
  have eB2:(o1.set b (zbG v (orE e1 160)))[o.length]? = some (.box 25 [.i .i64 x.kind,.s x.text,.row x.keys.length (x.keys.map .s),.row x.items.length (zab x.items)]):=by rw [List.getElem?_set_ne (by omega)]; exact eB
  have hE2:=hE.set (zbG v (orE e1 160))
  generalize o1.set b (zbG v (orE e1 160))=o2 at hE2 eB2 ⊢
  simp only [sxZ,z5,z6,z7,z8,j4,j5,j6,j7,j8,j9,y3,y4,y5,y6,y7,reduceCtorEq,↓reduceIte]
  subst hZ
  simp only [sxZ,z5,z6,z7,z8,j4,j5,j6,j7,j8,j9,y3,y4,y5,y6,y7,reduceCtorEq,↓reduceIte,eB2]
  exact hk _ hE2
theorem ziV (v:JV) (e:Int) (name:List UInt8) (most b:Nat) (hv:JOk v) (hj:JBd v) (hb:objs[b]? = some (zbG v e)) (hk:∀ o,Ext objs o b (zbG v (itE v e name most).1) → K o (.row (itE v e name most).2.length (zab (itE v e name most).2))):zah Try.prog 57 [.p b 0,.s name,.i .i64 (most:Int)] objs K:=by
 have hbl:=(List.getElem?_eq_some_iff.1 hb).1
 refine zd8 (.row (itE v e name most).2.length (zab (itE v e name most).2)) ?_
 refine zbb is_jrd_decoder_items fun C _ => ?_
 rw [c_jrd_decoder_items]
 refine zaa fun Z hZ => ?_
 simp only [sxZ,z5,z6,z7,z8,j4,j5,j6,j7,j8,j9,y3,y4,y5,y6,y7,reduceCtorEq,↓reduceIte]
 subst hZ
 refine zaa fun Z hZ => ?_
 simp only [sxZ,z5,z6,z7,z8,j4,j5,j6,j7,j8,j9,y3,y4,y5,y6,y7,reduceCtorEq,↓reduceIte]
 refine zak (zed v e 6 name b hv hj hb fun o ho => ?_)
 have hmo:=zk8 (v:=v) (e:=e) (kind:=6) (name:=name)
 unfold itE at hk ⊢
 generalize zaM v e name 6=M at hk ho hmo ⊢
 obtain ⟨e1,x,ok⟩:=M
 have hl:=ho.2.1
 dsimp only at hk ho hmo ⊢
 rw [zad x]
 simp only [sxZ,z5,z6,z7,z8,j4,j5,j6,j7,j8,j9,y3,y4,y5,y6,y7,reduceCtorEq,↓reduceIte,gn1,sn1]
 have hE:=ho.app (.box 25 [.i .i64 x.kind,.s x.text,.row x.keys.length (x.keys.map .s),.row x.items.length (zab x.items)])
 have eB:(o ++ [OB.box 25 [.i .i64 x.kind,.s x.text,.row x.keys.length (x.keys.map .s),.row x.items.length (zab x.items)]])[o.length]? = some (.box 25 [.i .i64 x.kind,.s x.text,.row x.keys.length (x.keys.map .s),.row x.items.length (zab x.items)]):=gn1 _ _
 generalize o ++ [OB.box 25 [.i .i64 x.kind,.s x.text,.row x.keys.length (x.keys.map .s),.row x.items.length (zab x.items)]]=o1 at hE eB ⊢
 subst hZ
 refine zaa fun Z hZ => ?_
 cases ok with
 | false =>
  rw [if_neg (by simp)] at hk ⊢
  simp only [sxZ,z5,z6,z7,z8,j4,j5,j6,j7,j8,j9,y3,y4,y5,y6,y7,reduceCtorEq,↓reduceIte]
  subst hZ
  simp only [sxZ,z5,z6,z7,z8,j4,j5,j6,j7,j8,j9,y3,y4,y5,y6,y7,reduceCtorEq,↓reduceIte,eB]
  exact ⟨fun G I y hy => hy,hk _ hE⟩
 | true =>
  by_cases c:(most:Int) < (x.items.length:Int)
  ·rw [if_pos ⟨rfl,by omega⟩] at hk ⊢
   simp only [sxZ,z5,z6,z7,z8,j4,j5,j6,j7,j8,j9,y3,y4,y5,y6,y7,reduceCtorEq,↓reduceIte,eB,c]
   refine zak (zdZ v e1 161 b hE.1 ?_)
   have hE2:=hE.set (zbG v (orE e1 161))
   rw [hmo rfl,show orE 0 161=161 from rfl] at hE2 ⊢
   simp only [sxZ,z5,z6,z7,z8,j4,j5,j6,j7,j8,j9,y3,y4,y5,y6,y7,reduceCtorEq,↓reduceIte]
   exact ⟨fun G I y hy => zaZ hy,hk _ hE2⟩
  ·rw [if_neg (fun h => c (by have:=h.2; omega))] at hk ⊢
   simp only [sxZ,z5,z6,z7,z8,j4,j5,j6,j7,j8,j9,y3,y4,y5,y6,y7,reduceCtorEq,↓reduceIte,eB,c]
   subst hZ
   simp only [sxZ,z5,z6,z7,z8,j4,j5,j6,j7,j8,j9,y3,y4,y5,y6,y7,reduceCtorEq,↓reduceIte,eB]
   exact ⟨fun G I y hy => hy,hk _ hE⟩
theorem zic (v:JV) (hk:∀ o b,objs.length ≤ b → o[b]? = some (zbG v (if v.kind=7 then 0 else 160)) → objs.length ≤ o.length → (∀ i,i < objs.length → o[i]? = objs[i]?) → K o (.p b 0)):zah Try.prog 26 [.agg (zaj v)] objs K:=by
 refine zbb is_jrd_newDecoder fun C _ => ?_
 rw [c_jrd_newDecoder]
 rw [zad]
 refine zaa fun Z hZ => ?_
 simp only [sxZ,z5,z6,z7,z8,j4,j5,j6,j7,j8,j9,y3,y4,y5,y6,y7,reduceCtorEq,↓reduceIte]
 subst hZ
 refine zaa fun Z hZ => ?_
 simp only [sxZ,z5,z6,z7,z8,j4,j5,j6,j7,j8,j9,y3,y4,y5,y6,y7,reduceCtorEq,↓reduceIte,gn1,gn2,List.length_append,List.length_cons,List.length_nil]
 have eB:(objs ++ [OB.box 25 [.i .i64 v.kind,.s v.text,.row v.keys.length (v.keys.map .s),.row v.items.length (zab v.items)]] ++ [OB.box 71 [.i .i64 0,.i .i64 v.kind,.s v.text,.row v.keys.length (v.keys.map .s),.row v.items.length (zab v.items)]])[objs.length + 1]? = some (zbG v 0):=by rw [gn2]; unfold zbG; rw [zad]
 have eA:(objs ++ [OB.box 25 [.i .i64 v.kind,.s v.text,.row v.keys.length (v.keys.map .s),.row v.items.length (zab v.items)]] ++ [OB.box 71 [.i .i64 0,.i .i64 v.kind,.s v.text,.row v.keys.length (v.keys.map .s),.row v.items.length (zab v.items)]])[objs.length]? = some (.box 25 [.i .i64 v.kind,.s v.text,.row v.keys.length (v.keys.map .s),.row v.items.length (zab v.items)]):=by rw [List.getElem?_append_left (by simp)]; exact gn1 _ _
 have eO:∀ i,i < objs.length → (objs ++ [OB.box 25 [.i .i64 v.kind,.s v.text,.row v.keys.length (v.keys.map .s),.row v.items.length (zab v.items)]] ++ [OB.box 71 [.i .i64 0,.i .i64 v.kind,.s v.text,.row v.keys.length (v.keys.map .s),.row v.items.length (zab v.items)]])[i]? = objs[i]?:=fun i hi => by rw [List.getElem?_append_left (by simp; omega),List.getElem?_append_left hi]
 generalize objs ++ [OB.box 25 [.i .i64 v.kind,.s v.text,.row v.keys.length (v.keys.map .s),.row v.items.length (zab v.items)]] ++ [OB.box 71 [.i .i64 0,.i .i64 v.kind,.s v.text,.row v.keys.length (v.keys.map .s),.row v.items.length (zab v.items)]]=o1 at eA eB eO ⊢
 have hol:objs.length + 1 < o1.length:=(List.getElem?_eq_some_iff.1 eB).1
 subst hZ
 refine zaa fun Z hZ => ?_
 by_cases c:v.kind=7
 ·rw [if_pos c] at hk
  simp only [sxZ,z5,z6,z7,z8,j4,j5,j6,j7,j8,j9,y3,y4,y5,y6,y7,reduceCtorEq,↓reduceIte,eA,c]
  subst hZ
  simp only [sxZ,z5,z6,z7,z8,j4,j5,j6,j7,j8,j9,y3,y4,y5,y6,y7,reduceCtorEq,↓reduceIte]
  exact hk _ _ (by omega) eB (by omega) eO
 ·rw [if_neg c] at hk
  simp only [sxZ,z5,z6,z7,z8,j4,j5,j6,j7,j8,j9,y3,y4,y5,y6,y7,reduceCtorEq,↓reduceIte,eA,c]
  refine zak (zdZ v 0 160 (objs.length + 1) eB ?_)
  simp only [sxZ,z5,z6,z7,z8,j4,j5,j6,j7,j8,j9,y3,y4,y5,y6,y7,reduceCtorEq,↓reduceIte]
  subst hZ
  simp only [sxZ,z5,z6,z7,z8,j4,j5,j6,j7,j8,j9,y3,y4,y5,y6,y7,reduceCtorEq,↓reduceIte]
  refine hk _ _ (by omega) (List.getElem?_set_self hol) (by rw [List.length_set]; omega) fun i hi => ?_
  rw [List.getElem?_set_ne (by omega)]; exact eO i hi
end
end
section
attribute [local irreducible] run
theorem zf5 (v:JV) (e:Int):PlO (zbG v e):=by
 show zan (_ :: zaj v)=true
 simp only [zan,AV.plain,za9,Bool.and_self]
section
variable [Tabs Try.prog] {objs:List OB} {K:List OB → AV → Prop}
theorem dtexts_k (v:JV) (e:Int) (name:List UInt8) (b:Nat) (hv:JOk v) (hj:JBd v) (hb:objs[b]? = some (zbG v e)) (hk:∀ o,Ext objs o b (zbG v (tsE v e name).1) → K o (.row (tsE v e name).2.length ((tsE v e name).2.map .s))):zah Try.prog 28 [.p b 0,.s name] objs K:=by
 have hbl:=(List.getElem?_eq_some_iff.1 hb).1
 obtain ⟨R,hR⟩:∃ R,tsE v e name=R:=⟨_,rfl⟩
 rw [hR] at hk
 refine zd8 (.row R.2.length (R.2.map .s)) ?_
 refine zbh ?_
 refine zbb is_jrd_decoder_texts fun C _ => ?_
 rw [c_jrd_decoder_texts]
 refine zaa fun Z hZ => ?_
 simp only [sxZ,z5,z6,z7,z8,j4,j5,j6,j7,j8,j9,y3,y4,y5,y6,y7,reduceCtorEq,↓reduceIte]
 subst hZ
 refine zaa fun Z hZ => ?_
 simp only [sxZ,z5,z6,z7,z8,j4,j5,j6,j7,j8,j9,y3,y4,y5,y6,y7,reduceCtorEq,↓reduceIte]
 subst hZ
 refine zaa fun Z hZ => ?_
 refine zaa fun W hW => ?_
 simp only [sxZ,z5,z6,z7,z8,j4,j5,j6,j7,j8,j9,y3,y4,y5,y6,y7,reduceCtorEq,↓reduceIte]
 refine zak (ziV v e name 64 b hv hj hb fun o ho => ?_)
 have hit:=zlI hj e name 64
 unfold tsE at hR
 generalize itE v e name 64=M at hR ho hit ⊢
 obtain ⟨e1,its⟩:=M
 dsimp only at hR ho hit ⊢
 have hl4:=zay its
 simp only [sxZ,z5,z6,z7,z8,j4,j5,j6,j7,j8,j9,y3,y4,y5,y6,y7,reduceCtorEq,↓reduceIte]
 subst hW
 rw [zaH]
 refine zaC (fun m o tm => ∃ (i:Nat),i ≤ its.length ∧ m=its.length - i ∧ Ext objs o b (zbG v e1) ∧ (∀ x ∈ its.take i,x.kind=5) ∧ zmD objs.length ((its.take i).map JV.text) o (tm[5]?.getD .u) ∧ tm.length=30 ∧ tm[0]? = some (.p b 0) ∧ tm[10]? = some (.row its.length (zab its)) ∧ tm[11]? = some (.i .i64 (its.length:Int)) ∧ tm[12]? = some (.i .i64 (i:Int))) its.length ⟨0,Nat.zero_le _,rfl,ho,by simp,.inl ⟨rfl,rfl⟩,rfl,rfl,rfl,rfl,rfl⟩ ?_
 clear ho
 rintro m o tm ⟨i,hi,rfl,ho,hall,hA,hlen,t0,t10,t11,t12⟩
 obtain ⟨a5,t5⟩:∃ a,tm[5]? = some a:=⟨_,List.getElem?_eq_getElem (by omega)⟩
 rw [t5,Option.getD_some] at hA
 refine zaa fun W hW => ?_
 by_cases hlt:(i:Int) < (its.length:Int)
 ·have hi':i < its.length:=by omega
  have kv:=zdp hi'
  have hmem:=List.getElem_mem hi'
  have htk:its.take (i + 1)=its.take i ++ [its[i]]:=by rw [List.take_add_one,List.getElem?_eq_getElem hi']; rfl
  have hfl:((its.take i).map JV.text).length=i:=by rw [List.length_map,List.length_take]; omega
  generalize its[i]=y at kv htk hmem
  rw [zad y] at kv
  simp only [sxZ,z5,z6,z7,z8,j4,j5,j6,j7,j8,j9,y3,y4,y5,y6,y7,reduceCtorEq,↓reduceIte,List.getElem?_set,hlen,t10,t11,t12,hlt]
  subst hW
  refine zaa fun W hW => ?_
  simp only [sxZ,z5,z6,z7,z8,j4,j5,j6,j7,j8,j9,y3,y4,y5,y6,y7,reduceCtorEq,↓reduceIte,List.getElem?_set,hlen]
  subst hW
  refine zaa fun V hV => ?_
  rw [zaH]
  refine zaa fun W hW => ?_
  simp only [sxZ,z5,z6,z7,z8,j4,j5,j6,j7,j8,j9,y3,y4,y5,y6,y7,reduceCtorEq,↓reduceIte,List.getElem?_set,hlen,t10,t12,kv]
  refine ⟨⟨by omega,by omega,by omega⟩,by omega,?_⟩
  simp only [sxZ,z5,z6,z7,z8,j4,j5,j6,j7,j8,j9,y3,y4,y5,y6,y7,reduceCtorEq,↓reduceIte,List.getElem?_set,hlen,gn1,sn1]
  subst hW
  have hE:=ho.app (.box 25 [.i .i64 y.kind,.s y.text,.row y.keys.length (y.keys.map .s),.row y.items.length (zab y.items)])
  have hA2:=hA.mono (.box 25 [.i .i64 y.kind,.s y.text,.row y.keys.length (y.keys.map .s),.row y.items.length (zab y.items)])
  have eB:(o ++ [OB.box 25 [.i .i64 y.kind,.s y.text,.row y.keys.length (y.keys.map .s),.row y.items.length (zab y.items)]])[o.length]? = some (.box 25 [.i .i64 y.kind,.s y.text,.row y.keys.length (y.keys.map .s),.row y.items.length (zab y.items)]):=gn1 _ _
  have hol:=ho.2.1
  generalize o ++ [OB.box 25 [.i .i64 y.kind,.s y.text,.row y.keys.length (y.keys.map .s),.row y.items.length (zab y.items)]]=o1 at hE hA2 eB ⊢
  refine zaa fun W hW => ?_
  by_cases c:y.kind=5
  ·simp only [sxZ,z5,z6,z7,z8,j4,j5,j6,j7,j8,j9,y3,y4,y5,y6,y7,reduceCtorEq,↓reduceIte,List.getElem?_set,hlen,eB,c]
   subst hW
   refine zaz (fun o3 t3 => Ext objs o3 b (zbG v e1) ∧ zmD objs.length (((its.take i).map JV.text) ++ [y.text]) o3 (t3[5]?.getD .u) ∧ t3.length=30 ∧ t3[0]? = some (.p b 0) ∧ t3[10]? = some (.row its.length (zab its)) ∧ t3[11]? = some (.i .i64 (its.length:Int)) ∧ t3[12]? = some (.i .i64 (i:Int))) ?_ ?_
   ·generalize (its.take i).map JV.text=acc at hA2 hfl
    rcases hA2 with ⟨rfl,rfl⟩ | ⟨r,g,rfl,hr0,hr⟩
    ·simp only [sxZ,z5,z6,z7,z8,j4,j5,j6,j7,j8,j9,y3,y4,y5,y6,y7,reduceCtorEq,↓reduceIte,List.getElem?_set,hlen,t0,t5,t10,t11,t12,eB,zac]
     refine ⟨hE.app _,.inr ⟨_,0,rfl,by have:=hE.2.1; omega,?_⟩⟩
     rw [gn1]; simp
    ·have hrl:=(List.getElem?_eq_some_iff.1 hr).1
     simp only [sxZ,z5,z6,z7,z8,j4,j5,j6,j7,j8,j9,y3,y4,y5,y6,y7,reduceCtorEq,↓reduceIte,List.getElem?_set,hlen,t0,t5,t10,t11,t12,eB,hr,zac]
     refine ⟨⟨by omega,by omega⟩,hE.own r _ hr0 hbl,.inr ⟨r,g + 1,rfl,hr0,?_⟩⟩
     rw [List.getElem?_set_self hrl,List.length_append,List.map_append]
     rfl
   rintro o3 tm2 ⟨hE3,hA3,hlen2,k0,k10,k11,k12⟩
   simp only [sxZ,z5,z6,z7,z8,j4,j5,j6,j7,j8,j9,y3,y4,y5,y6,y7,reduceCtorEq,↓reduceIte]
   subst hV
   simp only [sxZ,z5,z6,z7,z8,j4,j5,j6,j7,j8,j9,y3,y4,y5,y6,y7,reduceCtorEq,↓reduceIte,List.getElem?_set,hlen2,k0,k10,k11,k12]
   refine ⟨by omega,its.length - (i + 1),by omega,i + 1,by omega,rfl,hE3,fun x hx => ?_,?_,rfl⟩
   ·rw [htk] at hx
    rcases List.mem_append.1 hx with hx | hx
    ·exact hall x hx
    ·rw [List.mem_singleton] at hx; rw [hx]; exact c
   ·rw [htk,List.map_append]; exact hA3
  ·simp only [sxZ,z5,z6,z7,z8,j4,j5,j6,j7,j8,j9,y3,y4,y5,y6,y7,reduceCtorEq,↓reduceIte,List.getElem?_set,hlen,eB,c,t0]
   refine zak (zdZ v e1 160 b hE.1 ?_)
   have hE2:=hE.set (zbG v (orE e1 160))
   have hno:¬ its.all (fun x => decide (x.kind=5))=true:=fun h => c (by have:=List.all_eq_true.1 h y hmem; simpa using this)
   rw [if_neg hno] at hR
   subst hR
   generalize o1.set b (zbG v (orE e1 160))=o2 at hE2 ⊢
   simp only [sxZ,z5,z6,z7,z8,j4,j5,j6,j7,j8,j9,y3,y4,y5,y6,y7,reduceCtorEq,↓reduceIte,List.getElem?_set,hlen]
   exact .inl ⟨fun G I y hy => zaZ hy,hk _ hE2⟩
 have hn:i=its.length:=by omega
 rw [hn,List.take_of_length_le (Nat.le_refl _)] at hA hall
 rw [if_pos (List.all_eq_true.2 fun x hx => decide_eq_true (hall x hx))] at hR
 subst hR
 simp only [sxZ,z5,z6,z7,z8,j4,j5,j6,j7,j8,j9,y3,y4,y5,y6,y7,reduceCtorEq,↓reduceIte,List.getElem?_set,hlen,t10,t11,t12,hlt]
 subst hW
 simp only [sxZ,z5,z6,z7,z8,j4,j5,j6,j7,j8,j9,y3,y4,y5,y6,y7,reduceCtorEq,↓reduceIte,List.getElem?_set,hlen]
 subst hZ
 rcases hA with ⟨h0,rfl⟩ | ⟨r,g,rfl,hr0,hr⟩
 ·simp only [sxZ,z5,z6,z7,z8,j4,j5,j6,j7,j8,j9,y3,y4,y5,y6,y7,reduceCtorEq,↓reduceIte,List.getElem?_set,hlen,t5]
  rw [h0] at hk ⊢
  exact .inl ⟨fun G I y hy => zaZ hy,hk _ ho⟩
 ·simp only [sxZ,z5,z6,z7,z8,j4,j5,j6,j7,j8,j9,y3,y4,y5,y6,y7,reduceCtorEq,↓reduceIte,List.getElem?_set,hlen,t5]
  refine .inr ⟨r,_,_,_,_,_,hr,fun G I y hy => ?_,hk _ (ho.pub (zf5 _ _) r g _ _ hr0 hbl)⟩
  simpa [zje,zbf] using hy
end
end
section
attribute [local irreducible] run
section
variable [Tabs Try.prog] {objs:List OB} {K:List OB → AV → Prop}
theorem zf1 (v:JV) (e:Int) (name:List UInt8) (null:Bool) (b:Nat) (hv:JOk v) (hj:JBd v) (hb:objs[b]? = some (zbG v e)) (hk:∀ o,Ext objs o b (zbG v (prE v e name null).1) → K o (.row (prE v e name null).2.length (zaX (prE v e name null).2))):zah Try.prog 29 [.p b 0,.s name,.b null] objs K:=by
 have hbl:=(List.getElem?_eq_some_iff.1 hb).1
 obtain ⟨R,hR⟩:∃ R,prE v e name null=R:=⟨_,rfl⟩
 rw [hR] at hk
 refine zd8 (.row R.2.length (zaX R.2)) ?_
 refine zbh ?_
 refine zbb is_jrd_decoder_properties fun C _ => ?_
 rw [c_jrd_decoder_properties]
 refine zaa fun Z hZ => ?_
 simp only [sxZ,z5,z6,z7,z8,j4,j5,j6,j7,j8,j9,y3,y4,y5,y6,y7,reduceCtorEq,↓reduceIte]
 subst hZ
 refine zaa fun Z hZ => ?_
 simp only [sxZ,z5,z6,z7,z8,j4,j5,j6,j7,j8,j9,y3,y4,y5,y6,y7,reduceCtorEq,↓reduceIte]
 refine zak (zed v e 7 name b hv hj hb fun o ho => ?_)
 have hbd:=(zhh hj e 7 name).lens
 have hmo:=zk8 (v:=v) (e:=e) (kind:=7) (name:=name)
 unfold prE at hR
 generalize zaM v e name 7=M at hR ho hbd hmo ⊢
 obtain ⟨e1,x,ok⟩:=M
 dsimp only at hR ho hbd hmo ⊢
 obtain ⟨bd1,bd2⟩:=hbd
 rw [zad x]
 simp only [sxZ,z5,z6,z7,z8,j4,j5,j6,j7,j8,j9,y3,y4,y5,y6,y7,reduceCtorEq,↓reduceIte,gn1,sn1]
 have hE:=ho.app (.box 25 [.i .i64 x.kind,.s x.text,.row x.keys.length (x.keys.map .s),.row x.items.length (zab x.items)])
 have eV:(o ++ [.box 25 [.i .i64 x.kind,.s x.text,.row x.keys.length (x.keys.map .s),.row x.items.length (zab x.items)]])[o.length]? = some (.box 25 [.i .i64 x.kind,.s x.text,.row x.keys.length (x.keys.map .s),.row x.items.length (zab x.items)]):=gn1 _ _
 have hq:=ho.2.1
 generalize hqq:o.length=q at eV hq ⊢
 generalize o ++ [.box 25 [.i .i64 x.kind,.s x.text,.row x.keys.length (x.keys.map .s),.row x.items.length (zab x.items)]]=o1 at hE eV ⊢
 clear ho hqq
 subst hZ
 refine zaa fun Z hZ => ?_
 simp only [sxZ,z5,z6,z7,z8,j4,j5,j6,j7,j8,j9,y3,y4,y5,y6,y7,reduceCtorEq,↓reduceIte,eV]
 have hmn:(if (x.items.length:Int) < (x.keys.length:Int) then (x.items.length:Int) else (x.keys.length:Int))=((min x.keys.length x.items.length:Nat):Int):=by split <;> omega
 rw [hmn]
 have hzl:(x.keys.zip x.items).length=min x.keys.length x.items.length:=List.length_zip
 generalize hn:min x.keys.length x.items.length=n at hR hzl ⊢
 have hn1:n ≤ x.keys.length ∧ n ≤ x.items.length:=by omega
 subst hZ
 refine zaa fun Z hZ => ?_
 have main:¬ (ok=true ∧ 64 < n) → R=(if (x.keys.zip x.items).all (okP null)=true then (e1,(x.keys.zip x.items).map (mkP null)) else (orE e1 160,[])) → ∀ tm:List AV,tm.length=81 → tm[0]? = some (.p b 0) → tm[2]? = some (.b null) → tm[7]? = some (.p q 0) → tm[9]? = some (.i .i64 (n:Int)) → run Try.prog C [.code Z] o1 tm (endI [SRes.tmp 6] fun o r => ((∀ (G:Gh) (I:Imm) (y:Value),Den G I r y → Den G I (.row R.2.length (zaX R.2)) y) ∧ K o (.row R.2.length (zaX R.2))) ∨ ∃ b E sz gen n xs,o[b]? = some (.orow E sz gen n xs) ∧ (∀ (G:Gh) (I:Imm) (y:Value),Den G I (zje b gen n xs r) y → Den G I (.row R.2.length (zaX R.2)) y) ∧ K (zha o b gen n xs) (.row R.2.length (zaX R.2))):=by
  intro _ hR2 tm hlen t0 t2 t7 t9
  have hl4:=zay x.items
  subst hZ
  refine zaa fun Z hZ => ?_
  simp only [sxZ,z5,z6,z7,z8,j4,j5,j6,j7,j8,j9,y3,y4,y5,y6,y7,reduceCtorEq,↓reduceIte,List.getElem?_set,hlen]
  subst hZ
  refine zaa fun Z hZ => ?_
  refine zaa fun W hW => ?_
  simp only [sxZ,z5,z6,z7,z8,j4,j5,j6,j7,j8,j9,y3,y4,y5,y6,y7,reduceCtorEq,↓reduceIte,List.getElem?_set,hlen,t9]
  subst hW
  rw [zaH]
  refine zaC (fun m o tm => ∃ (i:Nat),i ≤ n ∧ m=n - i ∧ Ext objs o b (zbG v e1) ∧ o[q]? = some (.box 25 [.i .i64 x.kind,.s x.text,.row x.keys.length (x.keys.map .s),.row x.items.length (zab x.items)]) ∧ (∀ z ∈ (x.keys.zip x.items).take i,okP null z=true) ∧ zjI objs.length (((x.keys.zip x.items).take i).map (mkP null)) o (tm[10]?.getD .u) ∧ tm.length=81 ∧ tm[0]? = some (.p b 0) ∧ tm[2]? = some (.b null) ∧ tm[7]? = some (.p q 0) ∧ tm[37]? = some (.i .i64 (n:Int)) ∧ tm[38]? = some (.i .i64 (i:Int))) n ⟨0,Nat.zero_le _,rfl,hE,eV,by simp,.inl ⟨rfl,?_⟩,?_,?_,?_,?_,?_,?_⟩ ?_
  ·simp only [sxZ,z5,z6,z7,z8,j4,j5,j6,j7,j8,j9,y3,y4,y5,y6,y7,reduceCtorEq,↓reduceIte,List.getElem?_set,hlen,Option.getD_some]
  ·simp only [List.length_set,hlen]
  ·simp only [sxZ,z5,z6,z7,z8,j4,j5,j6,j7,j8,j9,y3,y4,y5,y6,y7,reduceCtorEq,↓reduceIte,List.getElem?_set,hlen,t0]
  ·simp only [sxZ,z5,z6,z7,z8,j4,j5,j6,j7,j8,j9,y3,y4,y5,y6,y7,reduceCtorEq,↓reduceIte,List.getElem?_set,hlen,t2]
  ·simp only [sxZ,z5,z6,z7,z8,j4,j5,j6,j7,j8,j9,y3,y4,y5,y6,y7,reduceCtorEq,↓reduceIte,List.getElem?_set,hlen,t7]
  ·simp only [sxZ,z5,z6,z7,z8,j4,j5,j6,j7,j8,j9,y3,y4,y5,y6,y7,reduceCtorEq,↓reduceIte,List.getElem?_set,hlen]
  ·simp only [sxZ,z5,z6,z7,z8,j4,j5,j6,j7,j8,j9,y3,y4,y5,y6,y7,reduceCtorEq,↓reduceIte,List.getElem?_set,hlen]; rfl
  clear t0 t2 t7 t9 hlen eV hE tm
  rintro m o tm ⟨i,hi,rfl,hE,eV,hall,hA,hlen,t0,t2,t7,t37,t38⟩
  obtain ⟨a10,t10⟩:∃ a,tm[10]? = some a:=⟨_,List.getElem?_eq_getElem (by omega)⟩
  rw [t10,Option.getD_some] at hA
  refine zaa fun W hW => ?_
  by_cases hlt:(i:Int) < (n:Int)
  ·have hi':i < x.items.length:=by omega
   have hk':i < x.keys.length:=by omega
   have hz':i < (x.keys.zip x.items).length:=by omega
   have kv:=zdp hi'
   have kk:(x.keys.map AV.s)[i * 1]? = some (.s x.keys[i]):=by rw [Nat.mul_one,List.getElem?_map,List.getElem?_eq_getElem hk']; rfl
   have hmem:(x.keys[i],x.items[i]) ∈ x.keys.zip x.items:=by rw [← List.getElem_zip (h:=hz')]; exact List.getElem_mem hz'
   have htk:(x.keys.zip x.items).take (i + 1)=(x.keys.zip x.items).take i ++ [(x.keys[i],x.items[i])]:=by rw [List.take_add_one,List.getElem?_eq_getElem hz',List.getElem_zip]; rfl
   have hfl:(((x.keys.zip x.items).take i).map (mkP null)).length=i:=by rw [List.length_map,List.length_take]; omega
   generalize x.items[i]=y at kv htk hmem
   generalize x.keys[i]=key at kk htk hmem
   rw [zad y] at kv
   simp only [sxZ,z5,z6,z7,z8,j4,j5,j6,j7,j8,j9,y3,y4,y5,y6,y7,reduceCtorEq,↓reduceIte,List.getElem?_set,hlen,t37,t38,hlt]
   subst hW
   refine zaa fun W hW => ?_
   simp only [sxZ,z5,z6,z7,z8,j4,j5,j6,j7,j8,j9,y3,y4,y5,y6,y7,reduceCtorEq,↓reduceIte,List.getElem?_set,hlen]
   subst hW
   refine zaa fun V hV => ?_
   rw [zaH]
   refine zaz (fun o3 t3 => Ext objs o3 b (zbG v e1) ∧ o3[q]? = some (.box 25 [.i .i64 x.kind,.s x.text,.row x.keys.length (x.keys.map .s),.row x.items.length (zab x.items)]) ∧ okP null (key,y)=true ∧ zjI objs.length (((x.keys.zip x.items).take i).map (mkP null) ++ [mkP null (key,y)]) o3 (t3[10]?.getD .u) ∧ t3.length=81 ∧ t3[0]? = some (.p b 0) ∧ t3[2]? = some (.b null) ∧ t3[7]? = some (.p q 0) ∧ t3[37]? = some (.i .i64 (n:Int)) ∧ t3[38]? = some (.i .i64 (i:Int))) ?_ ?_
   ·refine zaa fun W hW => ?_
    simp only [sxZ,z5,z6,z7,z8,j4,j5,j6,j7,j8,j9,y3,y4,y5,y6,y7,reduceCtorEq,↓reduceIte,List.getElem?_set,hlen,t38]
    subst hW
    refine zaa fun W hW => ?_
    simp only [sxZ,z5,z6,z7,z8,j4,j5,j6,j7,j8,j9,y3,y4,y5,y6,y7,reduceCtorEq,↓reduceIte,List.getElem?_set,hlen,t7,eV,kv]
    refine ⟨⟨by omega,by omega,by omega⟩,by omega,?_⟩
    simp only [sxZ,z5,z6,z7,z8,j4,j5,j6,j7,j8,j9,y3,y4,y5,y6,y7,reduceCtorEq,↓reduceIte,List.getElem?_set,hlen,gn1,sn1]
    subst hW
    have hE1:=hE.app (.box 25 [.i .i64 y.kind,.s y.text,.row y.keys.length (y.keys.map .s),.row y.items.length (zab y.items)])
    have hA1:=hA.mono (.box 25 [.i .i64 y.kind,.s y.text,.row y.keys.length (y.keys.map .s),.row y.items.length (zab y.items)])
    have eV1:(o ++ [.box 25 [.i .i64 y.kind,.s y.text,.row y.keys.length (y.keys.map .s),.row y.items.length (zab y.items)]])[q]? = some (.box 25 [.i .i64 x.kind,.s x.text,.row x.keys.length (x.keys.map .s),.row x.items.length (zab x.items)]):=by rw [List.getElem?_append_left (List.getElem?_eq_some_iff.1 eV).1]; exact eV
    have eY:(o ++ [.box 25 [.i .i64 y.kind,.s y.text,.row y.keys.length (y.keys.map .s),.row y.items.length (zab y.items)]])[o.length]? = some (.box 25 [.i .i64 y.kind,.s y.text,.row y.keys.length (y.keys.map .s),.row y.items.length (zab y.items)]):=gn1 _ _
    have hol:=hE.2.1
    have hqo:=(List.getElem?_eq_some_iff.1 eV).1
    generalize hpp:o.length=p at eY hol hqo ⊢
    generalize o ++ [.box 25 [.i .i64 y.kind,.s y.text,.row y.keys.length (y.keys.map .s),.row y.items.length (zab y.items)]]=o2 at hE1 hA1 eV1 eY ⊢
    refine zaY (fun t3 => t3.length=81 ∧ t3[0]? = some (.p b 0) ∧ t3[2]? = some (.b null) ∧ t3[7]? = some (.p q 0) ∧ t3[10]? = some a10 ∧ t3[11]? = some (.i .i64 (i:Int)) ∧ t3[12]? = some (.p p 0) ∧ t3[37]? = some (.i .i64 (n:Int)) ∧ t3[38]? = some (.i .i64 (i:Int))) ?_ ?_
    ·simp only [sxZ,z5,z6,z7,z8,j4,j5,j6,j7,j8,j9,y3,y4,y5,y6,y7,reduceCtorEq,↓reduceIte,List.length_set,List.getElem?_set,hlen,t0,t2,t7,t10,t37,t38,and_self]
    rintro tm2 ⟨hlen2,u0,u2,u7,u10,u11,u12,u37,u38⟩
    refine zaa fun W hW => ?_
    obtain ⟨nl,hnl⟩:∃ nl,(null && decide (y.kind=1))=nl:=⟨_,rfl⟩
    refine zaz (fun o3 t3 => o3=o2 ∧ t3.length=81 ∧ t3[0]? = some (.p b 0) ∧ t3[2]? = some (.b null) ∧ t3[7]? = some (.p q 0) ∧ t3[10]? = some a10 ∧ t3[11]? = some (.i .i64 (i:Int)) ∧ t3[12]? = some (.p p 0) ∧ t3[37]? = some (.i .i64 (n:Int)) ∧ t3[38]? = some (.i .i64 (i:Int)) ∧ t3[13]? = some (.b nl)) ?_ ?_
    ·cases null with
     | false =>
      rw [Bool.false_and] at hnl
      subst hnl
      simp only [sxZ,z5,z6,z7,z8,j4,j5,j6,j7,j8,j9,y3,y4,y5,y6,y7,reduceCtorEq,↓reduceIte,List.getElem?_set,hlen2,u0,u2,u7,u10,u11,u12,u37,u38,zac,and_self]
     | true =>
      rw [Bool.true_and] at hnl
      by_cases c:y.kind=1
      ·rw [decide_eq_true c] at hnl
       subst hnl
       simp only [sxZ,z5,z6,z7,z8,j4,j5,j6,j7,j8,j9,y3,y4,y5,y6,y7,reduceCtorEq,↓reduceIte,List.getElem?_set,hlen2,u0,u2,u7,u10,u11,u12,u37,u38,eY,c,zac,and_self,decide_true]
      ·rw [decide_eq_false c] at hnl
       subst hnl
       simp only [sxZ,z5,z6,z7,z8,j4,j5,j6,j7,j8,j9,y3,y4,y5,y6,y7,reduceCtorEq,↓reduceIte,List.getElem?_set,hlen2,u0,u2,u7,u10,u11,u12,u37,u38,eY,c,zac,and_self,decide_false]
    rintro o3 tm3 ⟨rfl,hlen3,w0,w2,w7,w10,w11,w12,w37,w38,w13⟩
    clear hlen2 u0 u2 u7 u10 u11 u12 u37 u38
    subst hW
    refine zaa fun W hW => ?_
    have hokd:okP null (key,y)=(decide (y.kind=5) || nl):=by unfold okP; rw [hnl]
    have hmk:mkP null (key,y)=⟨key,if nl=true then [] else y.text,nl⟩:=by unfold mkP; rw [hnl]
    rw [hmk,hokd]
    cases nl with
    | true =>
     simp only [sxZ,z5,z6,z7,z8,j4,j5,j6,j7,j8,j9,y3,y4,y5,y6,y7,reduceCtorEq,↓reduceIte,List.getElem?_set,hlen3,w0,w2,w7,w10,w11,w12,w37,w38,w13]
     subst hW
     refine zaa fun W hW => ?_
     simp only [sxZ,z5,z6,z7,z8,j4,j5,j6,j7,j8,j9,y3,y4,y5,y6,y7,reduceCtorEq,↓reduceIte,List.getElem?_set,hlen3,w0,w2,w7,w10,w11,w12,w37,w38,w13,eV1,kk,List.length_map]
     refine ⟨⟨by omega,by omega,by omega⟩,?_⟩
     simp only [sxZ,z5,z6,z7,z8,j4,j5,j6,j7,j8,j9,y3,y4,y5,y6,y7,reduceCtorEq,↓reduceIte,List.getElem?_set,hlen3,w0,w2,w7,w10,w11,w12,w37,w38,w13,gn1,sn1]
     have hE2:=hE1.app (.box 83 [.s key,.s [],.b true])
     have hA2:=hA1.mono (.box 83 [.s key,.s [],.b true])
     have eV2:(o3 ++ [.box 83 [.s key,.s [],.b true]])[q]? = some (.box 25 [.i .i64 x.kind,.s x.text,.row x.keys.length (x.keys.map .s),.row x.items.length (zab x.items)]):=by rw [List.getElem?_append_left (List.getElem?_eq_some_iff.1 eV1).1]; exact eV1
     have eP2:(o3 ++ [.box 83 [.s key,.s [],.b true]])[o3.length]? = some (.box 83 [.s key,.s [],.b true]):=gn1 _ _
     have eY2:∀ z,(o3 ++ [z])[p]? = some (.box 25 [.i .i64 y.kind,.s y.text,.row y.keys.length (y.keys.map .s),.row y.items.length (zab y.items)]):=fun z => by rw [List.getElem?_append_left (List.getElem?_eq_some_iff.1 eY).1]; exact eY
     have hqo3:=(List.getElem?_eq_some_iff.1 eV1).1
     have hpo3:=(List.getElem?_eq_some_iff.1 eY).1
     subst hW
     refine zaa fun W hW => ?_
     simp only [sxZ,z5,z6,z7,z8,j4,j5,j6,j7,j8,j9,y3,y4,y5,y6,y7,reduceCtorEq,↓reduceIte,List.getElem?_set,hlen3,w0,w2,w7,w10,w11,w12,w37,w38,w13]
     generalize o3 ++ [OB.box 83 [.s key,.s [],.b true]]=o4 at hE2 hA2 eV2 eP2 ⊢
     have hol4:=hE2.2.1
     subst hW
     generalize ((x.keys.zip x.items).take i).map (mkP null)=acc at hA2 hfl
     have hla:=zcP acc
     rcases hA2 with ⟨rfl,rfl⟩ | ⟨r,g,rfl,hr0,hr⟩
     ·simp only [sxZ,z5,z6,z7,z8,j4,j5,j6,j7,j8,j9,y3,y4,y5,y6,y7,reduceCtorEq,↓reduceIte,List.getElem?_set,hlen3,w0,w2,w7,w10,w11,w12,w37,w38,eP2,zac]
      refine ⟨hE2.app _,?_,by simp,.inr ⟨_,0,rfl,by omega,?_⟩⟩
      ·rw [List.getElem?_append_left (List.getElem?_eq_some_iff.1 eV2).1]; exact eV2
      ·rw [gn1]; rfl
     ·have hrl:=(List.getElem?_eq_some_iff.1 hr).1
      have hrq:r ≠ q:=fun h => by rw [h,eV2] at hr; cases hr
      simp only [sxZ,z5,z6,z7,z8,j4,j5,j6,j7,j8,j9,y3,y4,y5,y6,y7,reduceCtorEq,↓reduceIte,List.getElem?_set,hlen3,w0,w2,w7,w10,w11,w12,w37,w38,eP2,hr,zac]
      refine ⟨⟨by omega,by omega⟩,hE2.own r _ hr0 hbl,?_,by simp,.inr ⟨r,g + 1,rfl,hr0,?_⟩⟩
      ·rw [if_neg hrq]; exact eV2
      ·rw [List.getElem?_set_self hrl,zfI,List.length_append]; rfl
    | false =>
     by_cases c:y.kind=5
     ·simp only [sxZ,z5,z6,z7,z8,j4,j5,j6,j7,j8,j9,y3,y4,y5,y6,y7,reduceCtorEq,↓reduceIte,List.getElem?_set,hlen3,w0,w2,w7,w10,w11,w12,w37,w38,w13,eY,c]
      subst hW
      refine zaa fun W hW => ?_
      simp only [sxZ,z5,z6,z7,z8,j4,j5,j6,j7,j8,j9,y3,y4,y5,y6,y7,reduceCtorEq,↓reduceIte,List.getElem?_set,hlen3,w0,w2,w7,w10,w11,w12,w37,w38,w13,eV1,kk,List.length_map]
      refine ⟨⟨by omega,by omega,by omega⟩,?_⟩
      simp only [sxZ,z5,z6,z7,z8,j4,j5,j6,j7,j8,j9,y3,y4,y5,y6,y7,reduceCtorEq,↓reduceIte,List.getElem?_set,hlen3,w0,w2,w7,w10,w11,w12,w37,w38,w13,gn1,sn1]
      have hE2:=hE1.app (.box 83 [.s key,.s y.text,.b false])
      have hA2:=hA1.mono (.box 83 [.s key,.s y.text,.b false])
      have eV2:(o3 ++ [.box 83 [.s key,.s y.text,.b false]])[q]? = some (.box 25 [.i .i64 x.kind,.s x.text,.row x.keys.length (x.keys.map .s),.row x.items.length (zab x.items)]):=by rw [List.getElem?_append_left (List.getElem?_eq_some_iff.1 eV1).1]; exact eV1
      have eP2:(o3 ++ [.box 83 [.s key,.s y.text,.b false]])[o3.length]? = some (.box 83 [.s key,.s y.text,.b false]):=gn1 _ _
      have eY2:∀ z,(o3 ++ [z])[p]? = some (.box 25 [.i .i64 y.kind,.s y.text,.row y.keys.length (y.keys.map .s),.row y.items.length (zab y.items)]):=fun z => by rw [List.getElem?_append_left (List.getElem?_eq_some_iff.1 eY).1]; exact eY
      have hqo3:=(List.getElem?_eq_some_iff.1 eV1).1
      have hpo3:=(List.getElem?_eq_some_iff.1 eY).1
      subst hW
      refine zaa fun W hW => ?_
      simp only [sxZ,z5,z6,z7,z8,j4,j5,j6,j7,j8,j9,y3,y4,y5,y6,y7,reduceCtorEq,↓reduceIte,List.getElem?_set,hlen3,w0,w2,w7,w10,w11,w12,w37,w38,w13,eY2,gn1,sn1,c]
      generalize o3 ++ [OB.box 83 [.s key,.s y.text,.b false]]=o4 at hE2 hA2 eV2 eP2 ⊢
      have hol4:=hE2.2.1
      subst hW
      generalize ((x.keys.zip x.items).take i).map (mkP null)=acc at hA2 hfl
      have hla:=zcP acc
      rcases hA2 with ⟨rfl,rfl⟩ | ⟨r,g,rfl,hr0,hr⟩
      ·simp only [sxZ,z5,z6,z7,z8,j4,j5,j6,j7,j8,j9,y3,y4,y5,y6,y7,reduceCtorEq,↓reduceIte,List.getElem?_set,hlen3,w0,w2,w7,w10,w11,w12,w37,w38,eP2,zac]
       refine ⟨hE2.app _,?_,by simp,.inr ⟨_,0,rfl,by omega,?_⟩⟩
       ·rw [List.getElem?_append_left (List.getElem?_eq_some_iff.1 eV2).1]; exact eV2
       ·rw [gn1]; rfl
      ·have hrl:=(List.getElem?_eq_some_iff.1 hr).1
       have hrq:r ≠ q:=fun h => by rw [h,eV2] at hr; cases hr
       simp only [sxZ,z5,z6,z7,z8,j4,j5,j6,j7,j8,j9,y3,y4,y5,y6,y7,reduceCtorEq,↓reduceIte,List.getElem?_set,hlen3,w0,w2,w7,w10,w11,w12,w37,w38,eP2,hr,zac]
       refine ⟨⟨by omega,by omega⟩,hE2.own r _ hr0 hbl,?_,by simp,.inr ⟨r,g + 1,rfl,hr0,?_⟩⟩
       ·rw [if_neg hrq]; exact eV2
       ·rw [List.getElem?_set_self hrl,zfI,List.length_append]; rfl
     ·simp only [sxZ,z5,z6,z7,z8,j4,j5,j6,j7,j8,j9,y3,y4,y5,y6,y7,reduceCtorEq,↓reduceIte,List.getElem?_set,hlen3,w0,w2,w7,w10,w11,w12,w37,w38,w13,eY,c]
      refine zak (zdZ v e1 160 b hE1.1 ?_)
      have hE2:=hE1.set (zbG v (orE e1 160))
      have hno:¬ (x.keys.zip x.items).all (okP null)=true:=fun h => by
       have h2:=List.all_eq_true.1 h _ hmem
       rw [hokd,decide_eq_false c] at h2
       cases h2
      rw [if_neg hno] at hR2
      subst hR2
      generalize o3.set b (zbG v (orE e1 160))=o4 at hE2 ⊢
      simp only [sxZ,z5,z6,z7,z8,j4,j5,j6,j7,j8,j9,y3,y4,y5,y6,y7,reduceCtorEq,↓reduceIte,List.getElem?_set,hlen3,w0,w2,w7,w10,w11,w12,w37,w38,cutF_ret]
      exact .inl ⟨fun G I y hy => zaZ hy,hk _ hE2⟩
   rintro o3 tm2 ⟨hE3,eV3,hok,hA3,hlen2,k0,k2,k7,k37,k38⟩
   simp only [sxZ,z5,z6,z7,z8,j4,j5,j6,j7,j8,j9,y3,y4,y5,y6,y7,reduceCtorEq,↓reduceIte]
   subst hV
   simp only [sxZ,z5,z6,z7,z8,j4,j5,j6,j7,j8,j9,y3,y4,y5,y6,y7,reduceCtorEq,↓reduceIte,List.getElem?_set,hlen2,k0,k2,k7,k37,k38]
   refine ⟨by omega,n - (i + 1),by omega,i + 1,by omega,rfl,hE3,eV3,fun z hz => ?_,?_,rfl⟩
   ·rw [htk] at hz
    rcases List.mem_append.1 hz with hz | hz
    ·exact hall z hz
    ·rw [List.mem_singleton] at hz; rw [hz]; exact hok
   ·rw [htk,List.map_append]; exact hA3
  have hin:i=(x.keys.zip x.items).length:=by omega
  rw [hin,List.take_of_length_le (Nat.le_refl _)] at hA hall
  rw [if_pos (List.all_eq_true.2 hall)] at hR2
  subst hR2
  simp only [sxZ,z5,z6,z7,z8,j4,j5,j6,j7,j8,j9,y3,y4,y5,y6,y7,reduceCtorEq,↓reduceIte,List.getElem?_set,hlen,t37,t38,hlt]
  subst hW
  simp only [sxZ,z5,z6,z7,z8,j4,j5,j6,j7,j8,j9,y3,y4,y5,y6,y7,reduceCtorEq,↓reduceIte,List.getElem?_set,hlen]
  subst hZ
  rcases hA with ⟨h0,rfl⟩ | ⟨r,g,rfl,hr0,hr⟩
  ·simp only [sxZ,z5,z6,z7,z8,j4,j5,j6,j7,j8,j9,y3,y4,y5,y6,y7,reduceCtorEq,↓reduceIte,List.getElem?_set,hlen,t10]
   dsimp only at hk ⊢
   rw [h0] at hk ⊢
   exact .inl ⟨fun G I y hy => zaZ hy,hk _ hE⟩
  ·simp only [sxZ,z5,z6,z7,z8,j4,j5,j6,j7,j8,j9,y3,y4,y5,y6,y7,reduceCtorEq,↓reduceIte,List.getElem?_set,hlen,t10]
   refine .inr ⟨r,_,_,_,_,_,hr,fun G I y hy => ?_,hk _ (hE.pub (zf5 _ _) r g _ _ hr0 hbl)⟩
   simpa [zje,zbf] using hy
 by_cases c:ok=true ∧ 64 < n
 ·obtain ⟨rfl,c⟩:=c
  rw [if_pos ⟨rfl,c⟩] at hR
  subst hR
  have c':(64:Int) < (n:Int):=by omega
  simp only [sxZ,z5,z6,z7,z8,j4,j5,j6,j7,j8,j9,y3,y4,y5,y6,y7,reduceCtorEq,↓reduceIte,c']
  refine zak (zdZ v e1 161 b hE.1 ?_)
  have hE2:=hE.set (zbG v (orE e1 161))
  rw [hmo rfl,show orE 0 161=161 from rfl] at hE2 ⊢
  generalize o1.set b (zbG v 161)=o2 at hE2 ⊢
  simp only [sxZ,z5,z6,z7,z8,j4,j5,j6,j7,j8,j9,y3,y4,y5,y6,y7,reduceCtorEq,↓reduceIte]
  exact .inl ⟨fun G I y hy => zaZ hy,hk _ hE2⟩
 ·rw [if_neg c] at hR
  have main2:=main c hR.symm
  cases ok with
  | false =>
   simp only [sxZ,z5,z6,z7,z8,j4,j5,j6,j7,j8,j9,y3,y4,y5,y6,y7,reduceCtorEq,↓reduceIte]
   exact main2 _ rfl rfl rfl rfl rfl
  | true =>
   have c':¬ (64:Int) < (n:Int):=fun h => c ⟨rfl,by omega⟩
   simp only [sxZ,z5,z6,z7,z8,j4,j5,j6,j7,j8,j9,y3,y4,y5,y6,y7,reduceCtorEq,↓reduceIte,c']
   exact main2 _ rfl rfl rfl rfl rfl
end
end
section
attribute [local irreducible] run
section
variable [Tabs Try.prog] {objs:List OB} {K:List OB → AV → Prop}
theorem dlinks_k (v:JV) (e:Int) (name:List UInt8) (b:Nat) (hv:JOk v) (hj:JBd v) (hb:objs[b]? = some (zbG v e)) (hk:∀ o,Ext objs o b (zbG v (lsE v e name).1) → K o (.row (lsE v e name).2.length (zbH (lsE v e name).2))):zah Try.prog 30 [.p b 0,.s name] objs K:=by
 have hbl:=(List.getElem?_eq_some_iff.1 hb).1
 obtain ⟨R,hR⟩:∃ R,lsE v e name=R:=⟨_,rfl⟩
 rw [hR] at hk
 refine zd8 (.row R.2.length (zbH R.2)) ?_
 refine zbh ?_
 refine zbb is_jrd_decoder_links fun C _ => ?_
 rw [c_jrd_decoder_links]
 refine zaa fun Z hZ => ?_
 simp only [sxZ,z5,z6,z7,z8,j4,j5,j6,j7,j8,j9,y3,y4,y5,y6,y7,reduceCtorEq,↓reduceIte]
 subst hZ
 refine zaa fun Z hZ => ?_
 simp only [sxZ,z5,z6,z7,z8,j4,j5,j6,j7,j8,j9,y3,y4,y5,y6,y7,reduceCtorEq,↓reduceIte]
 subst hZ
 refine zaa fun Z hZ => ?_
 refine zaa fun W hW => ?_
 simp only [sxZ,z5,z6,z7,z8,j4,j5,j6,j7,j8,j9,y3,y4,y5,y6,y7,reduceCtorEq,↓reduceIte]
 refine zak (ziV v e name 64 b hv hj hb fun o ho => ?_)
 have hit:=zlI hj e name 64
 have hok:=itE_ok hv hj e name 64
 unfold lsE at hR
 generalize itE v e name 64=M at hR ho hit hok ⊢
 obtain ⟨e1,its⟩:=M
 dsimp only at hR ho hit hok ⊢
 have hl4:=zay its
 simp only [sxZ,z5,z6,z7,z8,j4,j5,j6,j7,j8,j9,y3,y4,y5,y6,y7,reduceCtorEq,↓reduceIte]
 subst hW
 rw [zaH]
 refine zaC (fun m o tm => ∃ (i:Nat),i ≤ its.length ∧ m=its.length - i ∧ Ext objs o b (zbG v e1) ∧ (∀ x ∈ its.take i,lk6 x=0) ∧ zga objs.length ((its.take i).map lkV) o (tm[5]?.getD .u) ∧ tm.length=52 ∧ tm[0]? = some (.p b 0) ∧ tm[11]? = some (.row its.length (zab its)) ∧ tm[12]? = some (.i .i64 (its.length:Int)) ∧ tm[13]? = some (.i .i64 (i:Int))) its.length ⟨0,Nat.zero_le _,rfl,ho,by simp,.inl ⟨rfl,rfl⟩,rfl,rfl,rfl,rfl,rfl⟩ ?_
 clear ho
 rintro m o tm ⟨i,hi,rfl,ho,hall,hA,hlen,t0,t11,t12,t13⟩
 obtain ⟨a5,t5⟩:∃ a,tm[5]? = some a:=⟨_,List.getElem?_eq_getElem (by omega)⟩
 rw [t5,Option.getD_some] at hA
 refine zaa fun W hW => ?_
 by_cases hlt:(i:Int) < (its.length:Int)
 ·have hi':i < its.length:=by omega
  have kv:=zdp hi'
  have hyok:=hok its[i] (List.getElem_mem hi')
  have hfi:=fiE_take hi' hall
  have htk:its.take (i + 1)=its.take i ++ [its[i]]:=by rw [List.take_add_one,List.getElem?_eq_getElem hi']; rfl
  have hfl:((its.take i).map lkV).length=i:=by rw [List.length_map,List.length_take]; omega
  generalize its[i]=y at kv htk hyok hfi
  obtain ⟨hy1,hy2⟩:=hyok
  have ejy:=zad y
  rw [ejy] at kv
  simp only [sxZ,z5,z6,z7,z8,j4,j5,j6,j7,j8,j9,y3,y4,y5,y6,y7,reduceCtorEq,↓reduceIte,List.getElem?_set,hlen,t11,t12,t13,hlt]
  subst hW
  refine zaa fun W hW => ?_
  simp only [sxZ,z5,z6,z7,z8,j4,j5,j6,j7,j8,j9,y3,y4,y5,y6,y7,reduceCtorEq,↓reduceIte,List.getElem?_set,hlen]
  subst hW
  refine zaa fun V hV => ?_
  rw [zaH]
  refine zaa fun W hW => ?_
  simp only [sxZ,z5,z6,z7,z8,j4,j5,j6,j7,j8,j9,y3,y4,y5,y6,y7,reduceCtorEq,↓reduceIte,List.getElem?_set,hlen,t11,t13,kv]
  refine ⟨⟨by omega,by omega,by omega⟩,by omega,?_⟩
  simp only [sxZ,z5,z6,z7,z8,j4,j5,j6,j7,j8,j9,y3,y4,y5,y6,y7,reduceCtorEq,↓reduceIte,List.getElem?_set,hlen,gn1,sn1]
  subst hW
  have hE:=ho.app (.box 25 [.i .i64 y.kind,.s y.text,.row y.keys.length (y.keys.map .s),.row y.items.length (zab y.items)])
  have hA2:=hA.mono (.box 25 [.i .i64 y.kind,.s y.text,.row y.keys.length (y.keys.map .s),.row y.items.length (zab y.items)])
  have eB:(o ++ [.box 25 [.i .i64 y.kind,.s y.text,.row y.keys.length (y.keys.map .s),.row y.items.length (zab y.items)]])[o.length]? = some (.box 25 [.i .i64 y.kind,.s y.text,.row y.keys.length (y.keys.map .s),.row y.items.length (zab y.items)]):=gn1 _ _
  have hol:=ho.2.1
  generalize o ++ [.box 25 [.i .i64 y.kind,.s y.text,.row y.keys.length (y.keys.map .s),.row y.items.length (zab y.items)]]=o1 at hE hA2 eB ⊢
  refine zaa fun W hW => ?_
  simp only [sxZ,z5,z6,z7,z8,j4,j5,j6,j7,j8,j9,y3,y4,y5,y6,y7,reduceCtorEq,↓reduceIte,List.getElem?_set,hlen,eB]
  rw [← ejy]
  refine zak (zic y fun o2 b2 hb2 n1 n2 n3 => ?_)
  have n1':o2[b2]? = some (zbG y (shE y)):=n1
  simp only [sxZ,z5,z6,z7,z8,j4,j5,j6,j7,j8,j9,y3,y4,y5,y6,y7,reduceCtorEq,↓reduceIte,List.getElem?_set,hlen]
  subst hW
  refine zaY (fun t3 => t3.length=52 ∧ t3[0]? = some (.p b 0) ∧ t3[5]? = some a5 ∧ t3[8]? = some (.p b2 0) ∧ t3[11]? = some (.row its.length (zab its)) ∧ t3[12]? = some (.i .i64 (its.length:Int)) ∧ t3[13]? = some (.i .i64 (i:Int))) ?_ ?_
  ·simp only [sxZ,z5,z6,z7,z8,j4,j5,j6,j7,j8,j9,y3,y4,y5,y6,y7,reduceCtorEq,↓reduceIte,List.length_set,List.getElem?_set,hlen,t0,t5,t11,t12,t13,and_self]
  rintro tm2 ⟨hlen2,u0,u5,u8,u11,u12,u13⟩
  refine zaa fun W hW => ?_
  refine zaz (fun o9 t3 => Ext objs o9 b (zbG v e1) ∧ o9[b2]? = some (zbG y (lk6 y)) ∧ zga objs.length (((its.take i).map lkV) ++ [lkV y]) o9 (t3[5]?.getD .u) ∧ t3.length=52 ∧ t3[0]? = some (.p b 0) ∧ t3[8]? = some (.p b2 0) ∧ t3[11]? = some (.row its.length (zab its)) ∧ t3[12]? = some (.i .i64 (its.length:Int)) ∧ t3[13]? = some (.i .i64 (i:Int))) ?_ ?_
  simp only [sxZ,z5,z6,z7,z8,j4,j5,j6,j7,j8,j9,y3,y4,y5,y6,y7,reduceCtorEq,↓reduceIte,List.getElem?_set,hlen2,u5,u8]
  refine zak (dreq_k y (shE y) zdw b2 hy1 hy2 n1' fun o3 x3 => ?_)
  simp only [sxZ,z5,z6,z7,z8,j4,j5,j6,j7,j8,j9,y3,y4,y5,y6,y7,reduceCtorEq,↓reduceIte,List.getElem?_set,hlen2,u5,u8]
  refine zak (zf0 y (lk1 y) zb0 b2 hy1 hy2 x3.1 fun o4 x4 => ?_)
  simp only [sxZ,z5,z6,z7,z8,j4,j5,j6,j7,j8,j9,y3,y4,y5,y6,y7,reduceCtorEq,↓reduceIte,List.getElem?_set,hlen2,u5,u8]
  refine zak (zf0 y (lk2 y) zbX b2 hy1 hy2 x4.1 fun o5 x5 => ?_)
  simp only [sxZ,z5,z6,z7,z8,j4,j5,j6,j7,j8,j9,y3,y4,y5,y6,y7,reduceCtorEq,↓reduceIte,List.getElem?_set,hlen2,u5,u8]
  refine zak (zf0 y (lk3 y) zcg b2 hy1 hy2 x5.1 fun o6 x6 => ?_)
  simp only [sxZ,z5,z6,z7,z8,j4,j5,j6,j7,j8,j9,y3,y4,y5,y6,y7,reduceCtorEq,↓reduceIte,List.getElem?_set,hlen2,u5,u8]
  refine zak (zf1 y (lk4 y) zbz false b2 hy1 hy2 x6.1 fun o7 x7 => ?_)
  simp only [sxZ,z5,z6,z7,z8,j4,j5,j6,j7,j8,j9,y3,y4,y5,y6,y7,reduceCtorEq,↓reduceIte,List.getElem?_set,hlen2,u5,u8]
  refine zak (zf1 y (lk5 y) zaQ true b2 hy1 hy2 x7.1 fun o8 x8 => ?_)
  simp only [sxZ,z5,z6,z7,z8,j4,j5,j6,j7,j8,j9,y3,y4,y5,y6,y7,reduceCtorEq,↓reduceIte,List.getElem?_set,hlen2,u5,u8]
  ·have x18:Ext o2 o8 b2 (zbG y (lk6 y)):=((((x3.trans x4).trans x5).trans x6).trans x7).trans x8
   have hE8:=hE.over (zf5 _ _) n3 n2 x18 hb2
   have hA8:=hA2.over n3 x18 hb2
   clear x3 x4 x5 x6 x7 x8
   have eb2:=x18.1
   have hbb:=(List.getElem?_eq_some_iff.1 hE.1).1
   have hlo:=hE8.2.1
   have hlv:lkc (lkV y)=[.s (zaM y (shE y) zdw 5).2.1.text,.s (zaM y (lk1 y) zb0 5).2.1.text,.s (zaM y (lk2 y) zbX 5).2.1.text,.s (zaM y (lk3 y) zcg 5).2.1.text,.row (prE y (lk4 y) zbz false).2.length (zaX (prE y (lk4 y) zbz false).2),.row (prE y (lk5 y) zaQ true).2.length (zaX (prE y (lk5 y) zaQ true).2)]:=rfl
   rw [← hlv]
   have hlk1:zbH [lkV y]=lkc (lkV y):=by unfold zbH; simp
   have hlk6:(lkc (lkV y)).length=6:=rfl
   generalize (its.take i).map lkV=acc at hA8 hfl ⊢
   have hla:=zcS acc
   rcases hA8 with ⟨rfl,rfl⟩ | ⟨r,g,rfl,hr0,hr⟩
   ·simp only [sxZ,z5,z6,z7,z8,j4,j5,j6,j7,j8,j9,y3,y4,y5,y6,y7,reduceCtorEq,↓reduceIte,List.getElem?_set,hlen2,u0,u5,u8,u11,u12,u13,zac]
    refine ⟨hlk6,hE8.app _,?_,.inr ⟨_,0,rfl,by omega,?_⟩⟩
    ·rw [List.getElem?_append_left (List.getElem?_eq_some_iff.1 eb2).1]; exact eb2
    ·rw [gn1,← hlk1]; rfl
   ·have hrl:=(List.getElem?_eq_some_iff.1 hr).1
    have hrb:r ≠ b2:=fun h => by rw [h,eb2] at hr; cases hr
    simp only [sxZ,z5,z6,z7,z8,j4,j5,j6,j7,j8,j9,y3,y4,y5,y6,y7,reduceCtorEq,↓reduceIte,List.getElem?_set,hlen2,u0,u5,u8,u11,u12,u13,hr,zac]
    refine ⟨⟨hlk6,by omega,by omega⟩,hE8.own r _ hr0 hbl,?_,.inr ⟨r,g + 1,rfl,hr0,?_⟩⟩
    ·rw [if_neg hrb]; exact eb2
    ·rw [List.getElem?_set_self hrl,zfR,List.length_append,hlk1]; rfl
  rintro o9 tm3 ⟨hE9,eb9,hA9,hlen3,k0,k8,k11,k12,k13⟩
  have eb9':=eb9
  unfold zbG at eb9'
  rw [ejy] at eb9'
  subst hW
  refine zaa fun W hW => ?_
  by_cases c:lk6 y=0
  ·simp only [sxZ,z5,z6,z7,z8,j4,j5,j6,j7,j8,j9,y3,y4,y5,y6,y7,reduceCtorEq,↓reduceIte,List.getElem?_set,hlen3,k0,k8,k11,k12,k13,eb9',c]
   subst hW
   simp only [sxZ,z5,z6,z7,z8,j4,j5,j6,j7,j8,j9,y3,y4,y5,y6,y7,reduceCtorEq,↓reduceIte,List.getElem?_set,hlen3,k0,k8,k11,k12,k13]
   subst hV
   simp only [sxZ,z5,z6,z7,z8,j4,j5,j6,j7,j8,j9,y3,y4,y5,y6,y7,reduceCtorEq,↓reduceIte,List.getElem?_set,hlen3,k0,k8,k11,k12,k13]
   refine ⟨by omega,its.length - (i + 1),by omega,i + 1,by omega,rfl,hE9,fun x hx => ?_,?_,rfl⟩
   ·rw [htk] at hx
    rcases List.mem_append.1 hx with hx | hx
    ·exact hall x hx
    ·rw [List.mem_singleton] at hx; rw [hx]; exact c
   ·rw [htk,List.map_append]; exact hA9
  ·have hf:=hfi c
   rw [if_neg (by rw [hf]; exact c),hf] at hR
   subst hR
   simp only [sxZ,z5,z6,z7,z8,j4,j5,j6,j7,j8,j9,y3,y4,y5,y6,y7,reduceCtorEq,↓reduceIte,List.getElem?_set,hlen3,k0,k8,k11,k12,k13,eb9',c]
   subst hW
   simp only [sxZ,z5,z6,z7,z8,j4,j5,j6,j7,j8,j9,y3,y4,y5,y6,y7,reduceCtorEq,↓reduceIte,List.getElem?_set,hlen3,k0,k8,k11,k12,k13,eb9']
   refine zak (zdZ v e1 (lk6 y) b hE9.1 ?_)
   have hE2:=hE9.set (zbG v (orE e1 (lk6 y)))
   generalize o9.set b (zbG v (orE e1 (lk6 y)))=o10 at hE2 ⊢
   simp only [sxZ,z5,z6,z7,z8,j4,j5,j6,j7,j8,j9,y3,y4,y5,y6,y7,reduceCtorEq,↓reduceIte,List.getElem?_set,hlen3,k0,k8,k11,k12,k13]
   exact .inl ⟨fun G I y hy => zaZ hy,hk _ hE2⟩
 have hn:i=its.length:=by omega
 rw [hn,List.take_of_length_le (Nat.le_refl _)] at hA hall
 rw [if_pos (fiE_all hall)] at hR
 subst hR
 simp only [sxZ,z5,z6,z7,z8,j4,j5,j6,j7,j8,j9,y3,y4,y5,y6,y7,reduceCtorEq,↓reduceIte,List.getElem?_set,hlen,t11,t12,t13,hlt]
 subst hW
 simp only [sxZ,z5,z6,z7,z8,j4,j5,j6,j7,j8,j9,y3,y4,y5,y6,y7,reduceCtorEq,↓reduceIte,List.getElem?_set,hlen]
 subst hZ
 rcases hA with ⟨h0,rfl⟩ | ⟨r,g,rfl,hr0,hr⟩
 ·simp only [sxZ,z5,z6,z7,z8,j4,j5,j6,j7,j8,j9,y3,y4,y5,y6,y7,reduceCtorEq,↓reduceIte,List.getElem?_set,hlen,t5]
  dsimp only at hk ⊢
  rw [h0] at hk ⊢
  exact .inl ⟨fun G I y hy => zaZ hy,hk _ ho⟩
 ·simp only [sxZ,z5,z6,z7,z8,j4,j5,j6,j7,j8,j9,y3,y4,y5,y6,y7,reduceCtorEq,↓reduceIte,List.getElem?_set,hlen,t5]
  refine .inr ⟨r,_,_,_,_,_,hr,fun G I y hy => ?_,hk _ (ho.pub (zf5 _ _) r g _ _ hr0 hbl)⟩
  simpa [zje,zbf] using hy
end
end
section
attribute [local irreducible] run
def jdV (v:JV):AV:=zdN (zaM v (shE v) zbT 5).2.1.text (tsE v (jd1 v) zbF).2 (prE v (jd2 v) zaQ true).2 (lsE v (jd3 v) zbC).2
def zjt (v:JV):AV:=if jd4 v=0 then jdV v else zdN [] [] [] []
theorem zhu {G:Gh} {I:Imm} {y:Value} {x:AV} (h:Den G I (.tup [.agg [.s [],.nil,.nil,.nil],x]) y):Den G I (.tup [zdN [] [] [] [],x]) y:=by
 unfold zdN
 have e1:(AV.row ([]:List (List UInt8)).length (([]:List (List UInt8)).map .s))=.row 0 []:=rfl
 have e2:(AV.row ([]:List PrP).length (zaX []))=.row 0 []:=rfl
 have e3:(AV.row ([]:List LkP).length (zbH []))=.row 0 []:=rfl
 rw [e1,e2,e3]
 simp only [zai,Den] at h ⊢
 obtain ⟨ys,h1,y0,l0,rfl,⟨zs,rfl,⟨z0,m0,rfl,q0,z1,m1,rfl,q1,z2,m2,rfl,q2,z3,m3,rfl,q3,q4⟩,hz⟩,h2⟩:=h
 refine ⟨_,h1,_,_,rfl,⟨_,rfl,⟨_,_,rfl,q0,_,_,rfl,?_,_,_,rfl,?_,_,_,rfl,?_,q4⟩,hz⟩,h2⟩
 ·exact ⟨none,0,[],q1,⟨Nat.le_refl _,fun ad h => by cases h⟩,rfl,by simp,by simp⟩
 ·exact ⟨none,0,[],q2,⟨Nat.le_refl _,fun ad h => by cases h⟩,rfl,by simp,by simp⟩
 ·exact ⟨none,0,[],q3,⟨Nat.le_refl _,fun ad h => by cases h⟩,rfl,by simp,by simp⟩
section
variable [Tabs Try.prog] {objs:List OB} {K:List OB → AV → Prop}
theorem zeC (v:JV) (hv:JOk v) (hj:JBd v) (hk:K objs (.tup [zjt v,.i .i64 (jd4 v)])):zah Try.prog 11 [.agg (zaj v)] objs K:=by
 refine zd8 (.tup [zjt v,.i .i64 (jd4 v)]) ?_
 refine zbm is_jrd_Decode (by simp only [zan,AV.plain,za9,Bool.and_self]) fun C _ => ?_
 rw [c_jrd_Decode]
 have ejv:=zad v
 rw [ejv]
 refine zaa fun Z hZ => ?_
 simp only [sxZ,z5,z6,z7,z8,j4,j5,j6,j7,j8,j9,y3,y4,y5,y6,y7,reduceCtorEq,↓reduceIte]
 subst hZ
 refine zaa fun Z hZ => ?_
 simp only [sxZ,z5,z6,z7,z8,j4,j5,j6,j7,j8,j9,y3,y4,y5,y6,y7,reduceCtorEq,↓reduceIte]
 rw [← ejv]
 refine zak (zic v fun o2 b hb n1 n2 n3 => ?_)
 have n1':o2[b]? = some (zbG v (shE v)):=n1
 have q1:o2[1]? = some (.box 34 [.s [],.nil,.nil,.nil]):=n3 1 (by simp)
 have hb2:2 ≤ b:=hb
 simp only [sxZ,z5,z6,z7,z8,j4,j5,j6,j7,j8,j9,y3,y4,y5,y6,y7,reduceCtorEq,↓reduceIte]
 subst hZ
 refine zaa fun Z hZ => ?_
 simp only [sxZ,z5,z6,z7,z8,j4,j5,j6,j7,j8,j9,y3,y4,y5,y6,y7,reduceCtorEq,↓reduceIte]
 refine zak (zf0 v (shE v) zbT b hv hj n1' fun o3 x3 => ?_)
 simp only [sxZ,z5,z6,z7,z8,j4,j5,j6,j7,j8,j9,y3,y4,y5,y6,y7,reduceCtorEq,↓reduceIte]
 refine zak (dtexts_k v (jd1 v) zbF b hv hj x3.1 fun o4 x4 => ?_)
 simp only [sxZ,z5,z6,z7,z8,j4,j5,j6,j7,j8,j9,y3,y4,y5,y6,y7,reduceCtorEq,↓reduceIte]
 refine zak (zf1 v (jd2 v) zaQ true b hv hj x4.1 fun o5 x5 => ?_)
 simp only [sxZ,z5,z6,z7,z8,j4,j5,j6,j7,j8,j9,y3,y4,y5,y6,y7,reduceCtorEq,↓reduceIte]
 refine zak (dlinks_k v (jd3 v) zbC b hv hj x5.1 fun o6 x6 => ?_)
 have x16:Ext o2 o6 b (zbG v (jd4 v)):=((x3.trans x4).trans x5).trans x6
 have q6:=x16.2.2 1 _ (by omega) q1 (PlO.m (by exact rfl) _)
 have e6:=x16.1
 have hl6:=(List.getElem?_eq_some_iff.1 q6).1
 clear x3 x4 x5 x6 x16 n1 n1' n2 n3 q1
 have e6':=e6
 unfold zbG at e6'
 rw [ejv] at e6'
 have r1:∀ z,(o6 ++ [z])[1]? = some (.box 34 [.s [],.nil,.nil,.nil]):=fun z => by rw [List.getElem?_append_left hl6]; exact q6
 have r2:∀ z,(o6 ++ [z])[b]? = some (.box 71 [.i .i64 (jd4 v),.i .i64 v.kind,.s v.text,.row v.keys.length (v.keys.map .s),.row v.items.length (zab v.items)]):=fun z => by rw [List.getElem?_append_left (List.getElem?_eq_some_iff.1 e6).1]; exact e6'
 have s1:∀ z X,((o6 ++ [z]).set 1 X)[1]? = some X:=fun z X => List.getElem?_set_self (by rw [List.length_append]; omega)
 simp only [sxZ,z5,z6,z7,z8,j4,j5,j6,j7,j8,j9,y3,y4,y5,y6,y7,reduceCtorEq,↓reduceIte,gn1,sn1]
 subst hZ
 refine zaa fun Z hZ => ?_
 by_cases c:jd4 v=0
 ·simp only [sxZ,z5,z6,z7,z8,j4,j5,j6,j7,j8,j9,y3,y4,y5,y6,y7,reduceCtorEq,↓reduceIte,r2,c]
  subst hZ
  simp only [sxZ,z5,z6,z7,z8,j4,j5,j6,j7,j8,j9,y3,y4,y5,y6,y7,reduceCtorEq,↓reduceIte,gn1,r1,s1,zbO,za1,zda,Bool.and_self]
  have e:zjt v=jdV v:=if_pos c
  rw [c] at hk
  rw [e] at hk ⊢
  exact ⟨fun G I y hy => hy,hk⟩
 ·simp only [sxZ,z5,z6,z7,z8,j4,j5,j6,j7,j8,j9,y3,y4,y5,y6,y7,reduceCtorEq,↓reduceIte,r1,s1,r2,c]
  have e:zjt v=zdN [] [] [] []:=if_neg c
  rw [e] at hk ⊢
  exact ⟨by omega,fun G I y hy => zhu hy,hk⟩
end
end
section
attribute [local irreducible] run
def rdB (e:Int):OB:=.box 74 [.i .i64 e]
theorem rdB_pl (e:Int):PlO (rdB e):=rfl
def rtB (v:JV) (key:List UInt8) (must:Bool):Bool:=((zba v key).2 && !decide ((zba v key).1.kind=5)) || (!(zba v key).2 && must)
def rtE (v:JV) (e:Int) (key:List UInt8) (must:Bool):Int:=if rtB v key must=true then orE e 160 else e
def rtT (v:JV) (key:List UInt8):List UInt8:=if (zba v key).1.kind=5 then (zba v key).1.text else []
section
variable [Tabs Try.prog] {objs:List OB} {K:List OB → AV → Prop}
theorem zbN (e x:Int) (b:Nat) (hb:objs[b]? = some (rdB e)) (hk:K (objs.set b (rdB (orE e x))) (.tup [])):zah Try.prog 35 [.p b 0,.i .i64 x] objs K:=by
 unfold rdB at hb hk
 refine zbb is_ref16_reader_stop fun C _ => ?_
 rw [c_ref16_reader_stop]
 unfold orE at hk
 by_cases c:e=0
 ·rw [if_pos c] at hk
  simp only [sxZ,z5,z6,z7,z8,j4,j5,j6,j7,j8,j9,y3,y4,y5,y6,y7,reduceCtorEq,↓reduceIte,hb,c]
  exact hk
 ·rw [if_neg c,set_same hb] at hk
  simp only [sxZ,z5,z6,z7,z8,j4,j5,j6,j7,j8,j9,y3,y4,y5,y6,y7,reduceCtorEq,↓reduceIte,hb,c]
  exact hk
theorem zj0 (v:JV) (e:Int) (key:List UInt8) (must:Bool) (b:Nat) (hv:JOk v) (hb:objs[b]? = some (rdB e)) (hk:∀ o,Ext objs o b (rdB (rtE v e key must)) → K o (.s (rtT v key))):zah Try.prog 31 [.p b 0,.agg (zaj v),.s key,.b must] objs K:=by
 have hbl:=(List.getElem?_eq_some_iff.1 hb).1
 refine zbb is_ref16_reader_text fun C _ => ?_
 rw [c_ref16_reader_text]
 have ejv:=zad v
 rw [ejv]
 refine zaa fun Z hZ => ?_
 simp only [sxZ,z5,z6,z7,z8,j4,j5,j6,j7,j8,j9,y3,y4,y5,y6,y7,reduceCtorEq,↓reduceIte]
 subst hZ
 refine zaa fun Z hZ => ?_
 simp only [sxZ,z5,z6,z7,z8,j4,j5,j6,j7,j8,j9,y3,y4,y5,y6,y7,reduceCtorEq,↓reduceIte,gn1]
 rw [← ejv]
 refine zak (ze4 v key hv ?_)
 unfold rtE rtB rtT at hk
 obtain ⟨⟨x,ok⟩,hx⟩:∃ R,zba v key=R:=⟨_,rfl⟩
 rw [hx] at hk ⊢
 unfold zco
 dsimp only at hk ⊢
 rw [zad x]
 simp only [sxZ,z5,z6,z7,z8,j4,j5,j6,j7,j8,j9,y3,y4,y5,y6,y7,reduceCtorEq,↓reduceIte,gn2,sn2,List.length_append,List.length_cons,List.length_nil]
 have hE:=((Ext.refl hb).app (.box 25 (zaj v))).app (.box 25 [.i .i64 x.kind,.s x.text,.row x.keys.length (x.keys.map .s),.row x.items.length (zab x.items)])
 have eB:(objs ++ [OB.box 25 (zaj v)] ++ [.box 25 [.i .i64 x.kind,.s x.text,.row x.keys.length (x.keys.map .s),.row x.items.length (zab x.items)]])[objs.length + 1]? = some (.box 25 [.i .i64 x.kind,.s x.text,.row x.keys.length (x.keys.map .s),.row x.items.length (zab x.items)]):=gn2 _ _ _
 generalize objs ++ [OB.box 25 (zaj v)] ++ [.box 25 [.i .i64 x.kind,.s x.text,.row x.keys.length (x.keys.map .s),.row x.items.length (zab x.items)]]=o1 at hE eB ⊢
 subst hZ
 refine zaa fun Z hZ => ?_
 have hol:=(List.getElem?_eq_some_iff.1 eB).1
 by_cases c:x.kind=5
 ·rw [if_pos c] at hk
  cases ok with
  | true =>
   have hk2:=hk o1 (by simpa [c] using hE)
   simp only [sxZ,z5,z6,z7,z8,j4,j5,j6,j7,j8,j9,y3,y4,y5,y6,y7,reduceCtorEq,↓reduceIte,eB,c]
   subst hZ
   simp only [sxZ,z5,z6,z7,z8,j4,j5,j6,j7,j8,j9,y3,y4,y5,y6,y7,reduceCtorEq,↓reduceIte,eB,c]
   exact hk2
  | false =>
   cases must with
   | false =>
    have hk2:=hk o1 (by simpa using hE)
    simp only [sxZ,z5,z6,z7,z8,j4,j5,j6,j7,j8,j9,y3,y4,y5,y6,y7,reduceCtorEq,↓reduceIte,eB,c]
    subst hZ
    simp only [sxZ,z5,z6,z7,z8,j4,j5,j6,j7,j8,j9,y3,y4,y5,y6,y7,reduceCtorEq,↓reduceIte,eB,c]
    exact hk2
   | true =>
    simp only [sxZ,z5,z6,z7,z8,j4,j5,j6,j7,j8,j9,y3,y4,y5,y6,y7,reduceCtorEq,↓reduceIte,eB,c]
    refine zak (zbN e 160 b hE.1 ?_)
    have hE2:=hE.set (rdB (orE e 160))
    have eB2:(o1.set b (rdB (orE e 160)))[objs.length + 1]? = some (.box 25 [.i .i64 x.kind,.s x.text,.row x.keys.length (x.keys.map .s),.row x.items.length (zab x.items)]):=by rw [List.getElem?_set_ne (by omega)]; exact eB
    have hk2:=hk _ (by simpa using hE2)
    generalize o1.set b (rdB (orE e 160))=o2 at hE2 eB2 hk2 ⊢
    simp only [sxZ,z5,z6,z7,z8,j4,j5,j6,j7,j8,j9,y3,y4,y5,y6,y7,reduceCtorEq,↓reduceIte]
    subst hZ
    simp only [sxZ,z5,z6,z7,z8,j4,j5,j6,j7,j8,j9,y3,y4,y5,y6,y7,reduceCtorEq,↓reduceIte,eB2,c]
    exact hk2
 ·rw [if_neg c] at hk
  cases ok with
  | true =>
   simp only [sxZ,z5,z6,z7,z8,j4,j5,j6,j7,j8,j9,y3,y4,y5,y6,y7,reduceCtorEq,↓reduceIte,eB,c]
   refine zak (zbN e 160 b hE.1 ?_)
   have hE2:=hE.set (rdB (orE e 160))
   have eB2:(o1.set b (rdB (orE e 160)))[objs.length + 1]? = some (.box 25 [.i .i64 x.kind,.s x.text,.row x.keys.length (x.keys.map .s),.row x.items.length (zab x.items)]):=by rw [List.getElem?_set_ne (by omega)]; exact eB
   have hk2:=hk _ (by simpa [c] using hE2)
   generalize o1.set b (rdB (orE e 160))=o2 at hE2 eB2 hk2 ⊢
   simp only [sxZ,z5,z6,z7,z8,j4,j5,j6,j7,j8,j9,y3,y4,y5,y6,y7,reduceCtorEq,↓reduceIte]
   subst hZ
   simp only [sxZ,z5,z6,z7,z8,j4,j5,j6,j7,j8,j9,y3,y4,y5,y6,y7,reduceCtorEq,↓reduceIte,eB2,c]
   exact hk2
  | false =>
   cases must with
   | false =>
    have hk2:=hk o1 (by simpa using hE)
    simp only [sxZ,z5,z6,z7,z8,j4,j5,j6,j7,j8,j9,y3,y4,y5,y6,y7,reduceCtorEq,↓reduceIte,eB,c]
    subst hZ
    simp only [sxZ,z5,z6,z7,z8,j4,j5,j6,j7,j8,j9,y3,y4,y5,y6,y7,reduceCtorEq,↓reduceIte,eB,c]
    exact hk2
   | true =>
    simp only [sxZ,z5,z6,z7,z8,j4,j5,j6,j7,j8,j9,y3,y4,y5,y6,y7,reduceCtorEq,↓reduceIte,eB,c]
    refine zak (zbN e 160 b hE.1 ?_)
    have hE2:=hE.set (rdB (orE e 160))
    have eB2:(o1.set b (rdB (orE e 160)))[objs.length + 1]? = some (.box 25 [.i .i64 x.kind,.s x.text,.row x.keys.length (x.keys.map .s),.row x.items.length (zab x.items)]):=by rw [List.getElem?_set_ne (by omega)]; exact eB
    have hk2:=hk _ (by simpa [c] using hE2)
    generalize o1.set b (rdB (orE e 160))=o2 at hE2 eB2 hk2 ⊢
    simp only [sxZ,z5,z6,z7,z8,j4,j5,j6,j7,j8,j9,y3,y4,y5,y6,y7,reduceCtorEq,↓reduceIte]
    subst hZ
    simp only [sxZ,z5,z6,z7,z8,j4,j5,j6,j7,j8,j9,y3,y4,y5,y6,y7,reduceCtorEq,↓reduceIte,eB2,c]
    exact hk2
end
end
end Go.Proofs.Ytceenajkieomoaa
namespace Go.Proofs.Ytceenajkieomoaa
open Go.RowKit Sx
section
attribute [local irreducible] run
def RowJ (m:Nat) (l:List JV) (o:List OB) (X:AV):Prop:=(l=[] ∧ X=.nil) ∨ ∃ r g,X=.orow r g ∧ m ≤ r ∧ o[r]? = some (.orow 25 4 g l.length (zab l))
def ObR (m b:Nat) (ks:List (List UInt8)) (its:List JV) (o:List OB):Prop:=∃ X Y,o[b]? = some (.box 85 [X,Y]) ∧ zmD m ks o X ∧ RowJ m its o Y
theorem RowJ.mono {m:Nat} {l:List JV} {o:List OB} {X:AV} (h:RowJ m l o X) (z:OB):RowJ m l (o ++ [z]) X:=by
 rcases h with h | ⟨r,g,h1,h0,h2⟩
 ·exact .inl h
 ·exact .inr ⟨r,g,h1,h0,by rw [List.getElem?_append_left (List.getElem?_eq_some_iff.1 h2).1]; exact h2⟩
theorem RowJ.set {m:Nat} {l:List JV} {o:List OB} {X:AV} (h:RowJ m l o X) {r:Nat} {Z:OB} (hz:o[r]? = some Z) (hne:∀ g n cs,Z ≠ .orow 25 4 g n cs) (W:OB):RowJ m l (o.set r W) X:=by
 rcases h with h | ⟨r',g,h1,h0,h2⟩
 ·exact .inl h
 ·refine .inr ⟨r',g,h1,h0,?_⟩
  rw [List.getElem?_set_ne (fun e => by rw [e,h2] at hz; injection hz with hz; exact hne _ _ _ hz.symm)]; exact h2
theorem zmD.set {m:Nat} {l:List (List UInt8)} {o:List OB} {X:AV} (h:zmD m l o X) {r:Nat} {Z:OB} (hz:o[r]? = some Z) (hne:∀ g n cs,Z ≠ .orow 9 1 g n cs) (W:OB):zmD m l (o.set r W) X:=by
 rcases h with h | ⟨r',g,h1,h0,h2⟩
 ·exact .inl h
 ·refine .inr ⟨r',g,h1,h0,?_⟩
  rw [List.getElem?_set_ne (fun e => by rw [e,h2] at hz; injection hz with hz; exact hne _ _ _ hz.symm)]; exact h2
theorem zht {k:Int} {t:List UInt8} {G:Gh} {I:Imm} {y:Value} (h:Den G I (.agg [.i .i64 k,.s t,.nil,.nil]) y):Den G I (.agg (zaj (.mk k t [] []))) y:=by
 rw [zaj,zaw]
 simp only [zai,Den] at h ⊢
 obtain ⟨zs,rfl,⟨z0,m0,rfl,q0,z1,m1,rfl,q1,z2,m2,rfl,q2,z3,m3,rfl,q3,q4⟩,hz⟩:=h
 refine ⟨_,rfl,⟨_,_,rfl,q0,_,_,rfl,q1,_,_,rfl,?_,_,_,rfl,?_,q4⟩,hz⟩
 ·exact ⟨none,0,[],q2,⟨Nat.le_refl _,fun ad h => by cases h⟩,rfl,by simp,by simp⟩
 ·exact ⟨none,0,[],q3,⟨Nat.le_refl _,fun ad h => by cases h⟩,rfl,by simp,by simp⟩
section
variable [Tabs Try.prog] {objs:List OB} {K:List OB → AV → Prop}
end
end
end Go.Proofs.Ytceenajkieomoaa
namespace Go.Proofs.Ytceenajkieomoaa
open Go.RowKit Sx
section
attribute [local irreducible] run
def fillB (v:JV):Bool:=!decide (v.text=[]) || decide (0 < v.items.length)
def addK (ks:List (List UInt8)) (key:List UInt8) (v:JV):List (List UInt8):=if fillB v=true then ks ++ [key] else ks
def addI (its:List JV) (v:JV):List JV:=if fillB v=true then its ++ [v] else its
def job (ks:List (List UInt8)) (its:List JV):JV:=.mk 7 [] ks its
theorem ObR.app {m b:Nat} {ks:List (List UInt8)} {its:List JV} {o:List OB} (h:ObR m b ks its o) (z:OB):ObR m b ks its (o ++ [z]):=by
 obtain ⟨X,Y,h1,h2,h3⟩:=h
 exact ⟨X,Y,by rw [List.getElem?_append_left (List.getElem?_eq_some_iff.1 h1).1]; exact h1,h2.mono z,h3.mono z⟩
section
variable [Tabs Try.prog] {objs:List OB} {K:List OB → AV → Prop}
end
theorem zgz {o:List OB} {r r' g n E sz g' n':Nat} {xs xs':List AV} (h:o[r']? = some (.orow E sz g' n' xs')) (hn:r' ≠ r):(zha o r g n xs)[r']? = some (.orow E sz g' n' xs'):=by
 unfold zha
 rw [List.getElem?_set_ne (fun e => hn e.symm),List.getElem?_map,h]; rfl
section
variable [Tabs Try.prog] {objs:List OB} {K:List OB → AV → Prop}
end
end
end Go.Proofs.Ytceenajkieomoaa
namespace Go.Proofs.Ytceenajkieomoaa
open Go.RowKit Sx
end Go.Proofs.Ytceenajkieomoaa
namespace Go.Proofs.Ytceenajkieomoaa
open Go.RowKit Sx
section
attribute [local irreducible] run
section
variable [Tabs Try.prog] {objs:List OB} {K:List OB → AV → Prop}
end
end
end Go.Proofs.Ytceenajkieomoaa
namespace Go.Proofs.Ytceenajkieomoaa
open Nat renaming reduceAdd → z5, reduceSub → z6, reduceLeDiff → z7, reduceLT → z8, reduceMul → j4, reduceEqDiff → j5
open Int renaming reduceToNat → j6, reduceAdd → j7, reduceSub → j8, reduceMul → j9, reduceNeg → y3, reduceLT → y4, reduceLE → y5, reduceEq → y6, reduceNe → y7
open Go.RowKit Sx
section
attribute [local irreducible] run
theorem prc_at:∀ {l:List PrP} {i:Nat} (hi:i < l.length),((zaX l).drop (i * 3)).take 3=[.s l[i].name,.s l[i].val,.b l[i].nul]
 | x :: l,0,hi => by
  rw [Nat.zero_mul,List.drop_zero]
  unfold zaX
  rw [List.flatMap_cons]; rfl
 | x :: l,i + 1,hi => by
  have h:=prc_at (l:=l) (i:=i) (by simpa using hi)
  rw [List.getElem_cons_succ,← h]
  have e:(zaX (x :: l)).drop ((i + 1) * 3)=(zaX l).drop (i * 3):=by
   unfold zaX
   rw [List.flatMap_cons,List.drop_append,List.drop_of_length_le (by simp only [List.length_cons,List.length_nil]; omega)]
   have:(i + 1) * 3 - [AV.s x.name,.s x.val,.b x.nul].length=i * 3:=by simp only [List.length_cons,List.length_nil]; omega
   rw [this,List.nil_append]
  rw [e]
section
variable [Tabs Try.prog] {objs:List OB} {K:List OB → AV → Prop}
theorem zc5 (l:List PrP) (hl:l.length ≤ 1099511627780) (hk:K objs (.b true)):zah Try.prog 36 [.row l.length (zaX l),.row l.length (zaX l)] objs K:=by
 have hlen3:=zcP l
 refine zbm is_ref16_sameProperties (by simp only [zan,AV.plain,za1,Bool.and_self]) fun C _ => ?_
 rw [c_ref16_sameProperties]
 refine zaa fun Y hY => ?_
 simp only [sxZ,z5,z6,z7,z8,j4,j5,j6,j7,j8,j9,y3,y4,y5,y6,y7,reduceCtorEq,↓reduceIte]
 subst hY
 refine zaa fun Y hY => ?_
 refine zaa fun Z hZ => ?_
 simp only [sxZ,z5,z6,z7,z8,j4,j5,j6,j7,j8,j9,y3,y4,y5,y6,y7,reduceCtorEq,↓reduceIte]
 subst hZ
 simp only [sxZ,z5,z6,z7,z8,j4,j5,j6,j7,j8,j9,y3,y4,y5,y6,y7,reduceCtorEq,↓reduceIte]
 subst hY
 refine zaa fun Y hY => ?_
 refine zaa fun Z hZ => ?_
 simp only [sxZ,z5,z6,z7,z8,j4,j5,j6,j7,j8,j9,y3,y4,y5,y6,y7,reduceCtorEq,↓reduceIte]
 subst hZ
 rw [zaH]
 refine zaC (fun n o tm => ∃ i:Nat,i ≤ l.length ∧ n=l.length - i ∧ o=[] ∧ tm.length=26 ∧ tm[0]? = some (.row l.length (zaX l)) ∧ tm[1]? = some (.row l.length (zaX l)) ∧ tm[12]? = some (.i .i64 (l.length:Int)) ∧ tm[13]? = some (.i .i64 (i:Int))) l.length ⟨0,Nat.zero_le _,rfl,rfl,rfl,rfl,rfl,rfl,rfl⟩ ?_
 rintro n _ tm ⟨i,hi,rfl,rfl,hlen,t0,t1,t12,t13⟩
 refine zaa fun Z hZ => ?_
 by_cases hlt:(i:Int) < (l.length:Int)
 ·have hi':i < l.length:=by omega
  have kv:=prc_at hi'
  generalize l[i]=y at kv
  simp only [sxZ,z5,z6,z7,z8,j4,j5,j6,j7,j8,j9,y3,y4,y5,y6,y7,reduceCtorEq,↓reduceIte,List.getElem?_set,hlen,t0,t1,t12,t13,hlt]
  subst hZ
  refine zaa fun Z hZ => ?_
  simp only [sxZ,z5,z6,z7,z8,j4,j5,j6,j7,j8,j9,y3,y4,y5,y6,y7,reduceCtorEq,↓reduceIte,List.getElem?_set,hlen]
  subst hZ
  refine zaa fun W hW => ?_
  rw [zaH]
  refine zaa fun Z hZ => ?_
  simp only [sxZ,z5,z6,z7,z8,j4,j5,j6,j7,j8,j9,y3,y4,y5,y6,y7,reduceCtorEq,↓reduceIte,List.getElem?_set,hlen,t13]
  subst hZ
  simp only [sxZ,z5,z6,z7,z8,j4,j5,j6,j7,j8,j9,y3,y4,y5,y6,y7,reduceCtorEq,↓reduceIte,List.getElem?_set,hlen,t0,t1,kv]
  (and_intros <;> try omega)
  subst hW
  simp only [sxZ,z5,z6,z7,z8,j4,j5,j6,j7,j8,j9,y3,y4,y5,y6,y7,reduceCtorEq,↓reduceIte,List.getElem?_set,hlen,t0,t1,t12,t13]
  exact ⟨by omega,l.length - (i + 1),by omega,i + 1,by omega,rfl,rfl⟩
 simp only [sxZ,z5,z6,z7,z8,j4,j5,j6,j7,j8,j9,y3,y4,y5,y6,y7,reduceCtorEq,↓reduceIte,List.getElem?_set,hlen,t0,t1,t12,t13,hlt]
 subst hZ
 subst hY
 simp only [sxZ,z5,z6,z7,z8,j4,j5,j6,j7,j8,j9,y3,y4,y5,y6,y7,reduceCtorEq,↓reduceIte,List.getElem?_set,hlen]
 exact hk
theorem zjf (x:LkP) (h1:x.tit.length ≤ 1099511627780) (h2:x.pro.length ≤ 1099511627780) (hk:K objs (.b true)):zah Try.prog 20 [.agg (lkc x),.agg (lkc x)] objs K:=by
 refine zbm is_ref16_SameLink (by unfold lkc; simp only [zan,AV.plain,za1,Bool.and_self]) fun C _ => ?_
 rw [c_ref16_SameLink]
 unfold lkc
 refine zaa fun Y hY => ?_
 simp only [sxZ,z5,z6,z7,z8,j4,j5,j6,j7,j8,j9,y3,y4,y5,y6,y7,reduceCtorEq,↓reduceIte]
 subst hY
 simp only [sxZ,z5,z6,z7,z8,j4,j5,j6,j7,j8,j9,y3,y4,y5,y6,y7,reduceCtorEq,↓reduceIte]
 refine zak (zc5 x.tit h1 ?_)
 simp only [sxZ,z5,z6,z7,z8,j4,j5,j6,j7,j8,j9,y3,y4,y5,y6,y7,reduceCtorEq,↓reduceIte]
 refine zak (zc5 x.pro h2 ?_)
 simp only [sxZ,z5,z6,z7,z8,j4,j5,j6,j7,j8,j9,y3,y4,y5,y6,y7,reduceCtorEq,↓reduceIte]
 exact hk
theorem same16_k (subj:List UInt8) (al:List (List UInt8)) (pr:List PrP) (lk:List LkP) (h1:al.length ≤ 1099511627780) (h2:pr.length ≤ 1099511627780) (h3:lk.length ≤ 1099511627780) (h4:∀ x ∈ lk,x.tit.length ≤ 1099511627780 ∧ x.pro.length ≤ 1099511627780) (hk:K objs (.b true)):zah Try.prog 13 [zdN subj al pr lk,zdN subj al pr lk] objs K:=by
 have hlen6:=zcS lk
 refine zbm is_ref16_Same (by unfold zdN; simp only [zan,AV.plain,zbO,za1,zda,Bool.and_self]) fun C _ => ?_
 rw [c_ref16_Same]
 unfold zdN
 refine zaa fun Y hY => ?_
 simp only [sxZ,z5,z6,z7,z8,j4,j5,j6,j7,j8,j9,y3,y4,y5,y6,y7,reduceCtorEq,↓reduceIte]
 subst hY
 refine zaa fun Y hY => ?_
 refine zaa fun Z hZ => ?_
 simp only [sxZ,z5,z6,z7,z8,j4,j5,j6,j7,j8,j9,y3,y4,y5,y6,y7,reduceCtorEq,↓reduceIte]
 refine zak (zc5 pr h2 ?_)
 simp only [sxZ,z5,z6,z7,z8,j4,j5,j6,j7,j8,j9,y3,y4,y5,y6,y7,reduceCtorEq,↓reduceIte]
 subst hZ
 simp only [sxZ,z5,z6,z7,z8,j4,j5,j6,j7,j8,j9,y3,y4,y5,y6,y7,reduceCtorEq,↓reduceIte]
 subst hY
 refine zaa fun Y hY => ?_
 refine zaa fun Z hZ => ?_
 simp only [sxZ,z5,z6,z7,z8,j4,j5,j6,j7,j8,j9,y3,y4,y5,y6,y7,reduceCtorEq,↓reduceIte]
 subst hZ
 rw [zaH]
 refine zaC (fun n o tm => ∃ i:Nat,i ≤ al.length ∧ n=al.length - i ∧ o[0]? = some (.box 34 [.s subj,.row al.length (al.map .s),.row pr.length (zaX pr),.row lk.length (zbH lk)]) ∧ o[1]? = some (.box 34 [.s subj,.row al.length (al.map .s),.row pr.length (zaX pr),.row lk.length (zbH lk)]) ∧ tm.length=75 ∧ tm[2]? = some (.p 0 0) ∧ tm[3]? = some (.p 1 0) ∧ tm[40]? = some (.i .i64 (al.length:Int)) ∧ tm[41]? = some (.i .i64 (i:Int))) al.length ⟨0,Nat.zero_le _,rfl,rfl,rfl,rfl,rfl,rfl,rfl,rfl⟩ ?_
 rintro n o tm ⟨i,hi,rfl,e0,e1,hlen,t2,t3,t40,t41⟩
 refine zaa fun Z hZ => ?_
 by_cases hlt:(i:Int) < (al.length:Int)
 ·have hi':i < al.length:=by omega
  have kv:(al.map AV.s)[i * 1]? = some (.s al[i]):=by rw [Nat.mul_one,List.getElem?_map,List.getElem?_eq_getElem hi']; rfl
  generalize al[i]=y at kv
  simp only [sxZ,z5,z6,z7,z8,j4,j5,j6,j7,j8,j9,y3,y4,y5,y6,y7,reduceCtorEq,↓reduceIte,List.getElem?_set,hlen,t40,t41,hlt]
  subst hZ
  refine zaa fun Z hZ => ?_
  simp only [sxZ,z5,z6,z7,z8,j4,j5,j6,j7,j8,j9,y3,y4,y5,y6,y7,reduceCtorEq,↓reduceIte,List.getElem?_set,hlen]
  subst hZ
  refine zaa fun W hW => ?_
  rw [zaH]
  refine zaa fun Z hZ => ?_
  simp only [sxZ,z5,z6,z7,z8,j4,j5,j6,j7,j8,j9,y3,y4,y5,y6,y7,reduceCtorEq,↓reduceIte,List.getElem?_set,hlen,t41]
  subst hZ
  simp only [sxZ,z5,z6,z7,z8,j4,j5,j6,j7,j8,j9,y3,y4,y5,y6,y7,reduceCtorEq,↓reduceIte,List.getElem?_set,hlen,t2,t3,e0,e1,kv,List.length_map]
  (and_intros <;> try omega)
  subst hW
  simp only [sxZ,z5,z6,z7,z8,j4,j5,j6,j7,j8,j9,y3,y4,y5,y6,y7,reduceCtorEq,↓reduceIte,List.getElem?_set,hlen,t2,t3,t40,t41]
  exact ⟨by omega,al.length - (i + 1),by omega,i + 1,by omega,rfl,e0,e1,rfl⟩
 simp only [sxZ,z5,z6,z7,z8,j4,j5,j6,j7,j8,j9,y3,y4,y5,y6,y7,reduceCtorEq,↓reduceIte,List.getElem?_set,hlen,t40,t41,hlt]
 subst hZ
 simp only [sxZ,z5,z6,z7,z8,j4,j5,j6,j7,j8,j9,y3,y4,y5,y6,y7,reduceCtorEq,↓reduceIte,List.getElem?_set,hlen]
 subst hY
 refine zaa fun Y hY => ?_
 refine zaa fun Z hZ => ?_
 simp only [sxZ,z5,z6,z7,z8,j4,j5,j6,j7,j8,j9,y3,y4,y5,y6,y7,reduceCtorEq,↓reduceIte,List.getElem?_set,hlen,t2,e0]
 subst hZ
 rw [zaH]
 refine zaC (fun n o tm => ∃ i:Nat,i ≤ lk.length ∧ n=lk.length - i ∧ o[0]? = some (.box 34 [.s subj,.row al.length (al.map .s),.row pr.length (zaX pr),.row lk.length (zbH lk)]) ∧ o[1]? = some (.box 34 [.s subj,.row al.length (al.map .s),.row pr.length (zaX pr),.row lk.length (zbH lk)]) ∧ tm.length=75 ∧ tm[2]? = some (.p 0 0) ∧ tm[3]? = some (.p 1 0) ∧ tm[58]? = some (.i .i64 (lk.length:Int)) ∧ tm[59]? = some (.i .i64 (i:Int))) lk.length ⟨0,Nat.zero_le _,rfl,e0,e1,?_⟩ ?_
 ·simp only [sxZ,z5,z6,z7,z8,j4,j5,j6,j7,j8,j9,y3,y4,y5,y6,y7,reduceCtorEq,↓reduceIte,List.length_set,List.getElem?_set,hlen,t2,t3,Int.cast_ofNat_Int,and_self]
 clear hlen t2 t3 t40 t41 e0 e1 hlt hi
 rintro n o tm ⟨i,hi,rfl,e0,e1,hlen,t2,t3,t58,t59⟩
 refine zaa fun Z hZ => ?_
 by_cases hlt:(i:Int) < (lk.length:Int)
 ·have hi':i < lk.length:=by omega
  have kv:=lk_at hi'
  have hm:=h4 lk[i] (List.getElem_mem hi')
  generalize lk[i]=y at kv hm
  simp only [sxZ,z5,z6,z7,z8,j4,j5,j6,j7,j8,j9,y3,y4,y5,y6,y7,reduceCtorEq,↓reduceIte,List.getElem?_set,hlen,t58,t59,hlt]
  subst hZ
  refine zaa fun Z hZ => ?_
  simp only [sxZ,z5,z6,z7,z8,j4,j5,j6,j7,j8,j9,y3,y4,y5,y6,y7,reduceCtorEq,↓reduceIte,List.getElem?_set,hlen]
  subst hZ
  refine zaa fun W hW => ?_
  rw [zaH]
  refine zaa fun Z hZ => ?_
  simp only [sxZ,z5,z6,z7,z8,j4,j5,j6,j7,j8,j9,y3,y4,y5,y6,y7,reduceCtorEq,↓reduceIte,List.getElem?_set,hlen,t59]
  subst hZ
  refine zaa fun Z hZ => ?_
  simp only [sxZ,z5,z6,z7,z8,j4,j5,j6,j7,j8,j9,y3,y4,y5,y6,y7,reduceCtorEq,↓reduceIte,List.getElem?_set,hlen,t2,t3,e0,e1,kv]
  (and_intros <;> try omega)
  refine zih (zjf y hm.1 hm.2 ⟨rfl,rfl⟩) ?_
  simp only [sxZ,z5,z6,z7,z8,j4,j5,j6,j7,j8,j9,y3,y4,y5,y6,y7,reduceCtorEq,↓reduceIte,List.getElem?_set,hlen]
  subst hZ
  simp only [sxZ,z5,z6,z7,z8,j4,j5,j6,j7,j8,j9,y3,y4,y5,y6,y7,reduceCtorEq,↓reduceIte,List.getElem?_set,hlen]
  subst hW
  simp only [sxZ,z5,z6,z7,z8,j4,j5,j6,j7,j8,j9,y3,y4,y5,y6,y7,reduceCtorEq,↓reduceIte,List.getElem?_set,hlen,t2,t3,t58,t59]
  exact ⟨by omega,lk.length - (i + 1),by omega,i + 1,by omega,rfl,e0,e1,rfl⟩
 simp only [sxZ,z5,z6,z7,z8,j4,j5,j6,j7,j8,j9,y3,y4,y5,y6,y7,reduceCtorEq,↓reduceIte,List.getElem?_set,hlen,t58,t59,hlt]
 subst hZ
 subst hY
 simp only [sxZ,z5,z6,z7,z8,j4,j5,j6,j7,j8,j9,y3,y4,y5,y6,y7,reduceCtorEq,↓reduceIte,List.getElem?_set,hlen]
 exact hk
end
end
end Go.Proofs.Ytceenajkieomoaa
namespace Go.Proofs.Ytceenajkieomoaa
open Go.RowKit Sx
section
attribute [local irreducible] run
section
variable [Tabs Try.prog] {objs:List OB} {K:List OB → AV → Prop}
end
end
end Go.Proofs.Ytceenajkieomoaa
namespace Go.Proofs.Ytceenajkieomoaa
open Go.RowKit Sx
section
attribute [local irreducible] run
section
variable [Tabs Try.prog] {objs:List OB} {K:List OB → AV → Prop}
end
end
end Go.Proofs.Ytceenajkieomoaa
namespace Go.Proofs.Ytceenajkieomoaa
open Go.RowKit Sx
section
attribute [local irreducible] run
theorem ObR.pub {m b:Nat} {ks:List (List UInt8)} {its:List JV} {oS o:List OB} (h:ObR m b ks its oS) (hfr:∀ i,i < oS.length → o[i]? = oS[i]?) (r g n:Nat) (xs:List AV) (hr:oS.length ≤ r):ObR m b ks its (zha o r g n xs):=by
 obtain ⟨X,Y,h1,h2,h3⟩:=h
 have hb:=(List.getElem?_eq_some_iff.1 h1).1
 have eX:zbf r g n xs X=X:=by
  rcases h2 with ⟨_,rfl⟩ | ⟨r1,g1,rfl,_,hr1⟩
  ·rfl
  ·have:=(List.getElem?_eq_some_iff.1 hr1).1
   simp only [zbf]; rw [if_neg (by omega)]
 have eY:zbf r g n xs Y=Y:=by
  rcases h3 with ⟨_,rfl⟩ | ⟨r1,g1,rfl,_,hr1⟩
  ·rfl
  ·have:=(List.getElem?_eq_some_iff.1 hr1).1
   simp only [zbf]; rw [if_neg (by omega)]
 refine ⟨X,Y,?_,?_,?_⟩
 ·unfold zha
  rw [List.getElem?_set_ne (by omega),List.getElem?_map,hfr b hb,h1]
  simp only [Option.map_some,zgi,List.map_cons,List.map_nil,eX,eY]
 ·rcases h2 with h | ⟨r1,g1,e,h0,hr1⟩
  ·exact .inl h
  ·have:=(List.getElem?_eq_some_iff.1 hr1).1
   exact .inr ⟨r1,g1,e,h0,zgz (by rw [hfr r1 this]; exact hr1) (by omega)⟩
 ·rcases h3 with h | ⟨r1,g1,e,h0,hr1⟩
  ·exact .inl h
  ·have:=(List.getElem?_eq_some_iff.1 hr1).1
   exact .inr ⟨r1,g1,e,h0,zgz (by rw [hfr r1 this]; exact hr1) (by omega)⟩
section
variable [Tabs Try.prog] {objs:List OB} {K:List OB → AV → Prop}
end
end
end Go.Proofs.Ytceenajkieomoaa
namespace Go.Proofs.Ytceenajkieomoaa
open Go.RowKit Sx
section
attribute [local irreducible] run
end
end Go.Proofs.Ytceenajkieomoaa
namespace Go.Proofs.Ytceenajkieomoaa
open Go.RowKit Sx
section
attribute [local irreducible] run
def PrOk (null:Bool) (p:PrP):Prop:=p.nul=true → null=true ∧ p.val=[]
theorem mkP_ok (null:Bool) (z:List UInt8 × JV):PrOk null (mkP null z):=by
 intro h
 unfold mkP at h ⊢
 dsimp only at h ⊢
 rw [if_pos h]
 rw [Bool.and_eq_true] at h
 exact ⟨h.1,rfl⟩
theorem memE_at {v x:JV} {name:List UInt8} {kind:Int} (h:zba v name=(x,true)) (hk:x.kind=kind):zaM v 0 name kind=(0,x,true):=by
 unfold zaM
 rw [if_neg (by simp),h,if_neg (by simp [hk])]
 simp [hk]
theorem memE_no {v:JV} {name:List UInt8} {kind:Int} (h:zba v name=(jvZ,false)):zaM v 0 name kind=(0,jvZ,false):=by
 unfold zaM
 rw [if_neg (by simp),h,if_neg (by simp)]
 simp
end
end Go.Proofs.Ytceenajkieomoaa
namespace Go.Proofs.Ytceenajkieomoaa
open Go.RowKit Sx
section
attribute [local irreducible] run
theorem zcR {s:List UInt8} (hs:s.length ≤ 1048576) (ρ:Rs):(zaf s ρ).1.2.1.length ≤ 1048576:=by
 unfold zaf
 split
 ·exact Nat.zero_le _
 split
 ·exact Nat.zero_le _
 ·rename_i h
  have h:(za7 s ρ.pos).2.2=0:=by simpa using h
  by_cases h0:0 ≤ ρ.pos
  ·have:=(zfP h0 h).2.1
   show (za7 s ρ.pos).1.2.1.length ≤ _
   omega
  ·exfalso
   unfold za7 at h
   rw [if_pos (.inl (by omega))] at h
   exact absurd h (by decide)
theorem zbw {k:Int} {t:List UInt8} (hk:(Lit.int .i64 k).wf=true) (ht:t.length ≤ 1048576):JOk (.mk k t [] []):=by
 rw [JOk]; exact ⟨hk,by omega,by simp,by simp,by simp,by rw [zcr]; trivial⟩
theorem zef:∀ {a b:List JV},zcr a → zcr b → zcr (a ++ b)
 | [],b,_,hb => hb
 | v :: l,b,ha,hb => by
  rw [zcr] at ha
  rw [List.cons_append,zcr]
  exact ⟨ha.1,zef ha.2 hb⟩
def OkV (val:Rs → Tk → JV × Rs):Prop:=∀ ρ t,t.2.1.length ≤ 1048576 → JOk (val ρ t).1
theorem zh1 {s:List UInt8} (hs:s.length ≤ 1048576) {val:Rs → Tk → JV × Rs} (hv:OkV val):∀ (n:Nat) (ρ:Rs) (t:Tk) (acc:List JV),t.2.1.length ≤ 1048576 → zcr acc → zcr (zck s val n ρ t acc).1
 | 0,ρ,t,acc,_,h => h
 | n + 1,ρ,t,acc,ht,h => by
  rw [zck]
  split
  ·exact h
  dsimp only
  have h1:=hv ρ t ht
  generalize val ρ t=a at h1 ⊢
  have h2:zcr (acc ++ [a.1]):=zef h (by rw [zcr,zcr]; exact ⟨h1,trivial⟩)
  split
  ·exact h2
  ·exact zh1 hs hv n _ _ _ (zcR hs _) h2
theorem zhO {s:List UInt8} (hs:s.length ≤ 1048576) {val:Rs → Tk → JV × Rs} (hv:OkV val):∀ (n:Nat) (ρ:Rs) (t:Tk) (ks:List (List UInt8)) (its:List JV),t.2.1.length ≤ 1048576 → (∀ k ∈ ks,k.length ≤ 1048576) → zcr its → zcr (zbA s val n ρ t ks its).1.2 ∧ ∀ k ∈ (zbA s val n ρ t ks its).1.1,k.length ≤ 1048576
 | 0,ρ,t,ks,its,_,hk,h => ⟨h,hk⟩
 | n + 1,ρ,t,ks,its,ht,hk,h => by
  rw [zbA]
  split
  ·exact ⟨h,hk⟩
  dsimp only
  generalize zaf s (zjl ρ t ks)=a
  have hb:=zcR hs (zaP a.2 a.1 58)
  generalize zaf s (zaP a.2 a.1 58)=b at hb ⊢
  have h1:=hv b.2 b.1 hb
  generalize val b.2 b.1=v at h1 ⊢
  have h2:zcr (its ++ [v.1]):=zef h (by rw [zcr,zcr]; exact ⟨h1,trivial⟩)
  have hk2:∀ k ∈ ks ++ [t.2.1],k.length ≤ 1048576:=by
   intro k hm
   rcases List.mem_append.1 hm with hm | hm
   ·exact hk k hm
   ·rw [List.mem_singleton] at hm; subst hm; exact ht
  generalize zaf s v.2=c
  split
  ·exact ⟨h2,hk2⟩
  ·exact zhO hs hv n _ _ _ _ (zcR hs _) hk2 h2
theorem word_wf (l:List UInt8):(Lit.int .i64 (zd4 l)).wf=true:=by
 unfold zd4
 split
 ·decide
 split
 ·decide
 ·decide
theorem numE_len (l:List UInt8):(zb9 l).2.length ≤ 100:=by
 unfold zb9
 split
 ·exact Nat.zero_le _
 ·exact can_len _ _
theorem zeu {s:List UInt8} (hs:s.length ≤ 1048576):∀ (f d:Nat),OkV (fun ρ t => zat s f ρ t d)
 | 0,d => fun ρ t _ => zbw (by decide) (Nat.zero_le _)
 | f + 1,d => fun ρ t ht => by
  dsimp only
  rw [zat]
  split
  ·exact zbw (by decide) (Nat.zero_le _)
  split
  ·exact zbw (by decide) (Nat.zero_le _)
  split
  ·exact zbw (by decide) (Nat.zero_le _)
  split
  ·exact zbw (word_wf _) (Nat.zero_le _)
  split
  ·unfold zeP
   dsimp only
   split
   ·exact zbw (by decide) (Nat.zero_le _)
   ·have h1:=zh1 hs (zeu hs f (d + 1)) (s.length + 2) (zaf s (zaN ρ t)).2 (zaf s (zaN ρ t)).1 [] (zcR hs _) (by rw [zcr]; trivial)
    have h2:=(zfF (s:=s) (zcB hs f (d + 1)) (s.length + 2) (zaf s (zaN ρ t)).2 (zaf s (zaN ρ t)).1 [] (by rw [zcc]; trivial)).2
    rw [JOk]
    simp only [List.length_nil] at h2
    exact ⟨by decide,by simp,by simp,by simp,by omega,h1⟩
  split
  ·unfold zeY
   dsimp only
   split
   ·exact zbw (by decide) (Nat.zero_le _)
   ·obtain ⟨h1,h3⟩:=zhO hs (zeu hs f (d + 1)) (s.length + 2) (zaf s (zaN ρ t)).2 (zaf s (zaN ρ t)).1 [] [] (zcR hs _) (by simp) (by rw [zcr]; trivial)
    have h2:=(zfy (s:=s) (zcB hs f (d + 1)) (s.length + 2) (zaf s (zaN ρ t)).2 (zaf s (zaN ρ t)).1 [] [] (by rw [zcc]; trivial)).2
    rw [JOk]
    simp only [List.length_nil] at h2
    exact ⟨by decide,by simp,by have:=h2.2; omega,fun k hm => by have:=h3 k hm; omega,by have:=h2.1; omega,h1⟩
  split
  ·exact zbw (by decide) (by have:=numE_len t.2.1; omega)
  ·exact zbw (by decide) ht
theorem zj2 {s:List UInt8} (hs:s.length ≤ 1048576):JOk (zbW s).1:=by
 unfold zbW
 rw [if_neg (by omega)]
 dsimp only
 generalize hρ:(if (zaf s (zat s 65 (zaf s rs0).2 (zaf s rs0).1 0).2).2.fail=0 ∧ ¬ (zaf s (zat s 65 (zaf s rs0).2 (zaf s rs0).1 0).2).1.1=1 then zaK (zaf s (zat s 65 (zaf s rs0).2 (zaf s rs0).1 0).2).2 (zaf s (zat s 65 (zaf s rs0).2 (zaf s rs0).1 0).2).1.2.2 140 else (zaf s (zat s 65 (zaf s rs0).2 (zaf s rs0).1 0).2).2)=ρ
 by_cases c:¬ ρ.fail=0
 ·rw [if_pos c]; exact zbw (by decide) (Nat.zero_le _)
 ·rw [if_neg c]; exact zeu hs 65 0 _ _ (zcR hs _)
end
end Go.Proofs.Ytceenajkieomoaa
namespace Go.Proofs.Ytceenajkieomoaa
open Go.RowKit Sx
section
attribute [local irreducible] run
def PrF (null:Bool) (p:PrP):Prop:=PrOk null p ∧ p.name.length ≤ 140737488351232 ∧ p.val.length ≤ 140737488351232
def PsF (null:Bool) (l:List PrP):Prop:=l.length ≤ 64 ∧ ∀ p ∈ l,PrF null p
structure LkF (x:LkP):Prop where
 rel:x.rel.length ≤ 140737488351232
 typ:x.typ.length ≤ 140737488351232
 href:x.href.length ≤ 140737488351232
 tmp:x.tmp.length ≤ 140737488351232
 tit:PsF false x.tit
 pro:PsF true x.pro
structure JrF (subj:List UInt8) (al:List (List UInt8)) (pr:List PrP) (lk:List LkP):Prop where
 sl:subj.length ≤ 140737488351232
 aln:al.length ≤ 64
 alb:∀ a ∈ al,a.length ≤ 140737488351232
 prf:PsF true pr
 lkn:lk.length ≤ 64
 lkf:∀ x ∈ lk,LkF x
theorem PsF.ok {null:Bool} {l:List PrP} (h:PsF null l):∀ p ∈ l,PrOk null p:=fun p hp => (h.2 p hp).1
/-! what a decoder gives is as it should be, if there was no error -/
theorem zbv {v:JV} {e kind:Int} {name:List UInt8} (h:e ≠ 0):zaM v e name kind=(e,jvZ,false):=by
 unfold zaM; rw [if_pos h]
theorem zhn {v:JV} {e:Int} {name:List UInt8} {most:Nat} (h:e ≠ 0):itE v e name most=(e,[]):=by
 unfold itE; rw [zbv h]; rfl
theorem zgW {v:JV} {e:Int} {name:List UInt8} (h:e ≠ 0):tsE v e name=(e,[]):=by
 unfold tsE; rw [zhn h]; rfl
theorem zc9 {v:JV} {e:Int} {name:List UInt8} {null:Bool} (h:e ≠ 0):prE v e name null=(e,[]):=by
 unfold prE; rw [zbv h]; rfl
theorem lsE_err {v:JV} {e:Int} {name:List UInt8} (h:e ≠ 0):lsE v e name=(e,[]):=by
 unfold lsE; rw [zhn h]; rfl
theorem ze6 {a:Int} {b:Int} (hb:b ≠ 0):orE a b ≠ 0:=by
 unfold orE; split <;> assumption
theorem zb4 {v:JV} {key:List UInt8} (h:(zba v key).2=false):(zba v key).1=jvZ:=by
 unfold zba at h ⊢
 split
 ·rename_i c
  rw [if_pos c] at h
  split
  ·rename_i x hx; rw [hx] at h; cases h
  ·rfl
 ·rfl
theorem zcE {v:JV} {e kind:Int} {name:List UInt8} (h:(zaM v e name kind).1=0):e=0 ∧ ((zaM v e name kind).2.2=true ∨ (zaM v e name kind).2.1=jvZ):=by
 by_cases he:e=0
 ·refine ⟨he,?_⟩
  unfold zaM at h ⊢
  rw [if_neg (fun c => c he)] at h ⊢
  by_cases c:(zba v name).2=true ∧ (zba v name).1.kind ≠ kind
  ·rw [if_pos c] at h; exact absurd (show (160:Int)=0 from h) (by decide)
  ·rw [if_neg c]
   by_cases c2:(zba v name).2=true
   ·left
    have c3:(zba v name).1.kind=kind:=by
     by_cases c4:(zba v name).1.kind=kind
     ·exact c4
     ·exact absurd ⟨c2,c4⟩ c
    show ((zba v name).2 && decide _)=true
    rw [c2,decide_eq_true c3]; rfl
   ·right; exact zb4 (by simpa using c2)
 ·rw [zbv he] at h; exact absurd h he
theorem zfU {v:JV} {e:Int} {name:List UInt8} {most:Nat} (h:(itE v e name most).1=0):e=0 ∧ (itE v e name most).2.length ≤ most:=by
 unfold itE at h ⊢
 by_cases c:(zaM v e name 6).2.2=true ∧ most < (zaM v e name 6).2.1.items.length
 ·rw [if_pos c] at h; exact absurd (show (161:Int)=0 from h) (by decide)
 ·rw [if_neg c] at h ⊢
  obtain ⟨h1,h2⟩:=zcE h
  refine ⟨h1,?_⟩
  rcases h2 with h2 | h2
  ·show (zaM v e name 6).2.1.items.length ≤ most
   rcases Nat.lt_or_ge most (zaM v e name 6).2.1.items.length with h3 | h3
   ·exact absurd ⟨h2,h3⟩ c
   ·exact h3
  ·show (zaM v e name 6).2.1.items.length ≤ most
   rw [h2]; exact Nat.zero_le _
theorem JOk.txt {v:JV} (h:JOk v):v.text.length ≤ 140737488351232:=h.lens.2.2.1
theorem zlJ {v:JV} (hv:JOk v) (e:Int) (name:List UInt8) (most:Nat):∀ y ∈ (itE v e name most).2,JOk y:=by
 unfold itE
 split
 ·intro y hy; cases hy
 ·intro y hy
  obtain ⟨i,hi,rfl⟩:=List.mem_iff_getElem.1 hy
  exact (zb2 hv e 6 name).its hi
theorem tsE_zero {v:JV} {e:Int} {name:List UInt8} (hv:JOk v) (h:(tsE v e name).1=0):e=0 ∧ (tsE v e name).2.length ≤ 64 ∧ ∀ a ∈ (tsE v e name).2,a.length ≤ 140737488351232:=by
 unfold tsE at h ⊢
 split at h
 ·rename_i c
  rw [if_pos c]
  obtain ⟨h1,h2⟩:=zfU h
  refine ⟨h1,by show (List.map _ _).length ≤ _; rw [List.length_map]; exact h2,fun a ha => ?_⟩
  obtain ⟨y,hy,rfl⟩:=List.mem_map.1 ha
  exact (zlJ hv e name 64 y hy).txt
 ·exact absurd h (ze6 (by decide))
theorem zfJ {v:JV} {e:Int} {name:List UInt8} {null:Bool} (hv:JOk v) (h:(prE v e name null).1=0):e=0 ∧ PsF null (prE v e name null).2:=by
 have hm:=zb2 hv e 7 name
 unfold prE at h ⊢
 by_cases c:(zaM v e name 7).2.2=true ∧ 64 < min (zaM v e name 7).2.1.keys.length (zaM v e name 7).2.1.items.length
 ·rw [if_pos c] at h; exact absurd (show (161:Int)=0 from h) (by decide)
 rw [if_neg c] at h ⊢
 split at h
 ·rename_i c2
  rw [if_pos c2]
  obtain ⟨h1,h2⟩:=zcE h
  refine ⟨h1,?_,fun p hp => ?_⟩
  ·show (List.map _ _).length ≤ 64
   rw [List.length_map,List.length_zip]
   rcases h2 with h2 | h2
   ·rcases Nat.lt_or_ge 64 (min (zaM v e name 7).2.1.keys.length (zaM v e name 7).2.1.items.length) with h3 | h3
    ·exact absurd ⟨h2,h3⟩ c
    ·exact h3
   ·rw [h2]; exact Nat.zero_le _
  ·obtain ⟨z,hz,rfl⟩:=List.mem_map.1 hp
   have hz1:=(List.of_mem_zip (a:=z.1) (b:=z.2) hz)
   refine ⟨mkP_ok null z,hm.lens.2.2.2 _ hz1.1,?_⟩
   show (if _ then [] else z.2.text).length ≤ _
   split
   ·exact Nat.zero_le _
   ·obtain ⟨i,hi,e⟩:=List.mem_iff_getElem.1 hz1.2
    rw [← e]; exact (hm.its hi).txt
 ·exact absurd h (ze6 (by decide))
theorem lk_fit {y:JV} (hv:JOk y) (h:lk6 y=0):LkF (lkV y):=by
 obtain ⟨h5,p5⟩:=zfJ (v:=y) (e:=lk5 y) (name:=zaQ) (null:=true) hv h
 obtain ⟨h4,p4⟩:=zfJ (v:=y) (e:=lk4 y) (name:=zbz) (null:=false) hv h5
 exact ⟨(zb2 hv _ 5 _).txt,(zb2 hv _ 5 _).txt,(zb2 hv _ 5 _).txt,(zb2 hv _ 5 _).txt,p4,p5⟩
theorem zfX:∀ {l:List JV},fiE l=0 → ∀ y ∈ l,lk6 y=0
 | [],_,y,hy => by cases hy
 | a :: l,h,y,hy => by
  rw [fiE] at h
  by_cases c:lk6 a=0
  ·rw [if_pos c] at h
   rcases List.mem_cons.1 hy with rfl | hy
   ·exact c
   ·exact zfX h y hy
  ·rw [if_neg c] at h; exact absurd h c
theorem lsE_zero {v:JV} {e:Int} {name:List UInt8} (hv:JOk v) (h:(lsE v e name).1=0):e=0 ∧ (lsE v e name).2.length ≤ 64 ∧ ∀ x ∈ (lsE v e name).2,LkF x:=by
 unfold lsE at h ⊢
 by_cases c:fiE (itE v e name 64).2=0
 ·rw [if_pos c] at h ⊢
  obtain ⟨h1,h2⟩:=zfU h
  refine ⟨h1,by show (List.map _ _).length ≤ _; rw [List.length_map]; exact h2,fun x hx => ?_⟩
  obtain ⟨y,hy,rfl⟩:=List.mem_map.1 hx
  exact lk_fit (zlJ hv e name 64 y hy) (zfX c y hy)
 ·rw [if_neg c] at h; exact absurd h (ze6 c)
def jdF (v:JV):Prop:=JrF (zaM v (shE v) zbT 5).2.1.text (tsE v (jd1 v) zbF).2 (prE v (jd2 v) zaQ true).2 (lsE v (jd3 v) zbC).2
theorem jd_fit {v:JV} (hv:JOk v) (h:jd4 v=0):jdF v:=by
 obtain ⟨h3,a3,b3⟩:=lsE_zero (v:=v) (e:=jd3 v) (name:=zbC) hv h
 obtain ⟨h2,a2⟩:=zfJ (v:=v) (e:=jd2 v) (name:=zaQ) (null:=true) hv h3
 obtain ⟨h1,a1,b1⟩:=tsE_zero (v:=v) (e:=jd1 v) (name:=zbF) hv h2
 exact ⟨(zb2 hv _ 5 _).txt,a1,b1,a2,a3,b3⟩
/-! the value that was made is a value that may be decoded -/
structure ObF (ks:List (List UInt8)) (its:List JV) (n:Nat):Prop where
 kl:ks.length ≤ n
 il:its.length ≤ n
 kb:∀ k ∈ ks,k.length ≤ 140737488351232
 ok:zcr its
 bd:zcc its
theorem ObF.nil:ObF [] [] 0:=⟨Nat.le_refl 0,Nat.le_refl 0,by simp,by rw [zcr]; trivial,by rw [zcc]; trivial⟩
theorem ObF.snoc {ks:List (List UInt8)} {its:List JV} {n:Nat} {key:List UInt8} {v:JV} (h:ObF ks its n) (hk:key.length ≤ 140737488351232) (hv:JOk v ∧ JBd v):ObF (ks ++ [key]) (its ++ [v]) (n + 1) :=
 ⟨by have:=h.kl; simp; exact this,by have:=h.il; simp; exact this,fun k hm => by
  rcases List.mem_append.1 hm with hm | hm
  ·exact h.kb k hm
  ·rw [List.mem_singleton] at hm; subst hm; exact hk,zef h.ok (by rw [zcr,zcr]; exact ⟨hv.1,trivial⟩),zeh h.bd (by rw [zcc,zcc]; exact ⟨hv.2,trivial⟩)⟩
theorem ObF.add {ks:List (List UInt8)} {its:List JV} {n:Nat} {key:List UInt8} {v:JV} (h:ObF ks its n) (hk:key.length ≤ 140737488351232) (hv:JOk v ∧ JBd v):ObF (addK ks key v) (addI its v) (n + 1):=by
 unfold addK addI
 by_cases c:fillB v=true
 ·rw [if_pos c,if_pos c]; exact h.snoc hk hv
 ·rw [if_neg c,if_neg c]; exact ⟨Nat.le_succ_of_le h.kl,Nat.le_succ_of_le h.il,h.kb,h.ok,h.bd⟩
theorem ObF.val {ks:List (List UInt8)} {its:List JV} {n:Nat} (h:ObF ks its n) (hn:n ≤ 1000000):JOk (job ks its) ∧ JBd (job ks its):=by
 have h1:=h.kl
 have h2:=h.il
 unfold job
 rw [JOk,JBd]
 exact ⟨⟨by decide,by simp,by omega,h.kb,by omega,h.ok⟩,by omega,by omega,h.bd⟩
def PsB (l:List PrP):Prop:=l.length ≤ 1000000 ∧ ∀ p ∈ l,p.name.length ≤ 140737488351232 ∧ p.val.length ≤ 140737488351232
theorem PsF.b {null:Bool} {l:List PrP} (h:PsF null l):PsB l:=⟨Nat.le_trans h.1 (by decide),fun p hp => (h.2 p hp).2⟩
structure LkB (x:LkP):Prop where
 rel:x.rel.length ≤ 140737488351232
 typ:x.typ.length ≤ 140737488351232
 href:x.href.length ≤ 140737488351232
 tmp:x.tmp.length ≤ 140737488351232
 tit:PsB x.tit
 pro:PsB x.pro
theorem LkF.b {x:LkP} (h:LkF x):LkB x:=⟨h.rel,h.typ,h.href,h.tmp,h.tit.b,h.pro.b⟩
structure JrBd (subj:List UInt8) (al:List (List UInt8)) (pr:List PrP) (lk:List LkP):Prop where
 sl:subj.length ≤ 140737488351232
 aln:al.length ≤ 1000000
 alb:∀ a ∈ al,a.length ≤ 140737488351232
 prf:PsB pr
 lkn:lk.length ≤ 1000000
 lkf:∀ x ∈ lk,LkB x
theorem JrF.b {subj:List UInt8} {al:List (List UInt8)} {pr:List PrP} {lk:List LkP} (h:JrF subj al pr lk):JrBd subj al pr lk :=
 ⟨h.sl,Nat.le_trans h.aln (by decide),h.alb,h.prf.b,Nat.le_trans h.lkn (by decide),fun x hx => (h.lkf x hx).b⟩
end
end Go.Proofs.Ytceenajkieomoaa
namespace Go.Proofs.Ytceenajkieomoaa
open Go.RowKit Sx
section
attribute [local irreducible] run
theorem zcl {e x:Int} (h:e ≠ 0):orE e x=e:=by unfold orE; rw [if_neg h]
theorem zkQ (x:Int):orE 0 x=x:=by unfold orE; rw [if_pos rfl]
theorem zkR (e x y:Int):orE (orE e x) y=orE e (orE x y):=by
 unfold orE
 by_cases h:e=0
 ·rw [if_pos h,if_pos h]
 ·rw [if_neg h,if_neg h,if_neg h]
theorem orE_zero (e:Int):orE e 0=e:=by unfold orE; split <;> simp_all
def zjG (x:JV) (kind:Int):JV:=if kind=7 then .mk x.kind x.text (x.keys.take (min x.keys.length x.items.length)) (x.items.take (min x.keys.length x.items.length)) else x
def ze3 (v:JV) (e:Int) (key:List UInt8) (kind:Int) (most:Nat):Int :=
 if (zba v key).2=false then e else if (zba v key).1.kind ≠ kind then orE e 160 else if most < (zjG (zba v key).1 kind).items.length then orE e 161 else e
def zcq (v:JV) (key:List UInt8) (kind:Int) (most:Nat):JV :=
 if (zba v key).2=false then jvZ else if (zba v key).1.kind ≠ kind then jvZ else if most < (zjG (zba v key).1 kind).items.length then jvZ else zjG (zba v key).1 kind
def rtsE (v:JV) (e:Int) (key:List UInt8):Int:=if (zcq v key 6 64).items.all (fun x => decide (x.kind=5))=true then ze3 v e key 6 64 else orE (ze3 v e key 6 64) 160
def zeb (v:JV) (key:List UInt8):List (List UInt8):=(zcq v key 6 64).items.map JV.text
def zkp (z:List UInt8 × JV):PrP:=⟨z.1,if z.2.kind=1 then [] else z.2.text,decide (z.2.kind=1)⟩
def zeN (v:JV) (e:Int) (key:List UInt8) (null:Bool):Int:=if ((zcq v key 7 64).keys.zip (zcq v key 7 64).items).all (okP null)=true then ze3 v e key 7 64 else orE (ze3 v e key 7 64) 160
def zcd (v:JV) (key:List UInt8):List PrP:=((zcq v key 7 64).keys.zip (zcq v key 7 64).items).map zkp
def rlkE (e:Int) (y:JV):Int:=if y.kind ≠ 7 then orE e 160 else zeN y (zeN y (rtE y (rtE y (rtE y (rtE y e zdw true) zb0 false) zbX false) zcg false) zbz false) zaQ true
def rlkV (y:JV):LkP:=⟨rtT y zdw,rtT y zb0,rtT y zbX,rtT y zcg,zcd y zbz,zcd y zaQ⟩
/-! an error stays -/
theorem zdF {v:JV} {e:Int} {key:List UInt8} {must:Bool} (h:e ≠ 0):rtE v e key must=e:=by unfold rtE; split; exact zcl h; rfl
theorem zfE {v:JV} {e:Int} {key:List UInt8} {kind:Int} {most:Nat} (h:e ≠ 0):ze3 v e key kind most=e:=by
 unfold ze3; split; rfl; split; exact zcl h; split; exact zcl h; rfl
theorem rtsE_err {v:JV} {e:Int} {key:List UInt8} (h:e ≠ 0):rtsE v e key=e:=by
 unfold rtsE; rw [zfE h]; split; rfl; exact zcl h
theorem zfw {v:JV} {e:Int} {key:List UInt8} {null:Bool} (h:e ≠ 0):zeN v e key null=e:=by
 unfold zeN; rw [zfE h]; split; rfl; exact zcl h
/-! without an error, it is what the program reads -/
theorem rtE_z (v:JV) (key:List UInt8):rtE v 0 key false=(zaM v 0 key 5).1 ∧ rtE v 0 key true=rqE v 0 key ∧ ((zaM v 0 key 5).1=0 → rtT v key=(zaM v 0 key 5).2.1.text):=by
 have hm:=zb4 (v:=v) (key:=key)
 unfold rtE rtB rqE rtT zaM orE
 obtain ⟨⟨x,ok⟩,hx⟩:∃ R,zba v key=R:=⟨_,rfl⟩
 rw [hx] at hm ⊢
 dsimp only at hm ⊢
 cases ok with
 | false =>
  have:=hm rfl
  subst this
  refine ⟨by simp,by simp,fun _ => by simp [jvZ,JV.kind,JV.text]⟩
 | true =>
  by_cases c:x.kind=5
  ·simp [c]
  ·simp [c]
theorem ritE_z (v:JV) (key:List UInt8) (most:Nat):ze3 v 0 key 6 most=(itE v 0 key most).1 ∧ ((itE v 0 key most).1=0 → (zcq v key 6 most).items=(itE v 0 key most).2):=by
 have hm:=zb4 (v:=v) (key:=key)
 unfold ze3 zcq itE zaM orE zjG
 obtain ⟨⟨x,ok⟩,hx⟩:∃ R,zba v key=R:=⟨_,rfl⟩
 rw [hx] at hm ⊢
 dsimp only at hm ⊢
 cases ok with
 | false =>
  have:=hm rfl
  subst this
  simp [jvZ,JV.items]
 | true =>
  by_cases c:x.kind=6
  ·by_cases c2:most < x.items.length
   ·simp [c,c2]
   ·simp [c,c2]
  ·simp [c]
theorem rtsE_z (v:JV) (key:List UInt8):rtsE v 0 key=(tsE v 0 key).1 ∧ ((tsE v 0 key).1=0 → zeb v key=(tsE v 0 key).2):=by
 obtain ⟨h1,h2⟩:=ritE_z v key 64
 unfold rtsE zeb tsE
 rw [h1]
 by_cases c:(itE v 0 key 64).1=0
 ·rw [h2 c]
  by_cases c2:(itE v 0 key 64).2.all (fun x => decide (x.kind=5))=true
  ·rw [if_pos c2,if_pos c2]; exact ⟨rfl,fun _ => rfl⟩
  ·rw [if_neg c2,if_neg c2]; exact ⟨rfl,fun h => absurd h (ze6 (by decide))⟩
 ·rw [zcl c,ite_self]
  by_cases c2:(itE v 0 key 64).2.all (fun x => decide (x.kind=5))=true
  ·rw [if_pos c2]; exact ⟨rfl,fun h => absurd h c⟩
  ·rw [if_neg c2]; exact ⟨rfl,fun h => absurd h c⟩
theorem zhF {α β:Type}:∀ (a:List α) (b:List β) (n:Nat),n=min a.length b.length → (a.take n).zip (b.take n)=a.zip b
 | [],b,n,h => by simp
 | a :: l,[],n,h => by simp
 | a :: l,b :: m,n,h => by
  obtain ⟨k,rfl⟩:∃ k,n=k + 1:=⟨min l.length m.length,by simp at h; omega⟩
  rw [List.take_succ_cons,List.take_succ_cons,List.zip_cons_cons,List.zip_cons_cons,zhF l m k (by simp at h; omega)]
theorem rprE_z (v:JV) (key:List UInt8) (null:Bool):zeN v 0 key null=(prE v 0 key null).1 ∧ ((prE v 0 key null).1=0 → zcd v key=(prE v 0 key null).2):=by
 have hm:=zb4 (v:=v) (key:=key)
 unfold zeN zcd ze3 zcq prE zjG
 obtain ⟨⟨x,ok⟩,hx⟩:∃ R,zba v key=R:=⟨_,rfl⟩
 rw [hx] at hm ⊢
 dsimp only at hm ⊢
 cases ok with
 | false =>
  have:=hm rfl
  subst this
  rw [memE_no hx]
  simp [jvZ,JV.items,JV.keys]
 | true =>
  by_cases c:x.kind=7
  ·rw [memE_at (kind:=7) hx c]
   have hl:(x.items.take (min x.keys.length x.items.length)).length=min x.keys.length x.items.length:=by rw [List.length_take]; omega
   have hi:(JV.mk x.kind x.text (x.keys.take (min x.keys.length x.items.length)) (x.items.take (min x.keys.length x.items.length))).items=x.items.take (min x.keys.length x.items.length):=rfl
   have hkk:(JV.mk x.kind x.text (x.keys.take (min x.keys.length x.items.length)) (x.items.take (min x.keys.length x.items.length))).keys=x.keys.take (min x.keys.length x.items.length):=rfl
   have n1:¬ (true=false):=by decide
   have n2:¬ (x.kind ≠ 7):=fun h => h c
   rw [if_neg n1,if_neg n1,if_neg n2,if_neg n2,if_pos (show (7:Int)=7 from rfl),hi,hl]
   dsimp only
   by_cases c2:64 < min x.keys.length x.items.length
   ·have d1:(true=true ∧ 64 < min x.keys.length x.items.length):=⟨rfl,c2⟩
    rw [if_pos c2,if_pos c2,if_pos d1]
    exact ⟨by simp [jvZ,JV.items,JV.keys,orE],fun h => absurd (show (161:Int)=0 from h) (by decide)⟩
   ·have d1:¬ (true=true ∧ 64 < min x.keys.length x.items.length):=fun h => c2 h.2
    rw [if_neg c2,if_neg c2,if_neg d1,hi,hkk,zhF _ _ _ rfl]
    by_cases c3:(x.keys.zip x.items).all (okP null)=true
    ·rw [if_pos c3,if_pos c3]
     refine ⟨rfl,fun _ => List.map_congr_left fun z hz => ?_⟩
     have h5:=List.all_eq_true.1 c3 z hz
     unfold okP at h5
     unfold zkp mkP
     rw [Bool.or_eq_true,Bool.and_eq_true] at h5
     by_cases c4:z.2.kind=1
     ·rcases h5 with h5 | h5
      ·exact absurd (of_decide_eq_true h5) (by rw [c4]; decide)
      ·rw [h5.1,decide_eq_true c4,if_pos c4]; rfl
     ·rw [decide_eq_false c4,if_neg c4,Bool.and_false]; rfl
    ·rw [if_neg c3,if_neg c3]
     exact ⟨rfl,fun h => absurd (show orE 0 160=0 from h) (by decide)⟩
  ·have hm2:zaM v 0 key 7=(160,x,false):=by unfold zaM; rw [hx]; simp [c]
   rw [hm2]
   have n1:¬ (true=false):=by decide
   have n3:¬ (false=true ∧ 64 < min x.keys.length x.items.length):=fun h => by cases h.1
   rw [if_neg n1,if_neg n1,if_pos c,if_pos c,if_neg n3,zkQ]
   have e1:(if (jvZ.keys.zip jvZ.items).all (okP null)=true then (160:Int) else orE 160 160)=160:=by split; rfl; rfl
   rw [e1]
   split
   ·exact ⟨rfl,fun h => absurd (show (160:Int)=0 from h) (by decide)⟩
   ·exact ⟨rfl,fun h => absurd (show orE 160 160=0 from h) (by decide)⟩
/-! with any error -/
theorem zgn (v:JV) (e:Int) (key:List UInt8):rtE v e key false=(zaM v e key 5).1 ∧ ((zaM v e key 5).1=0 → rtT v key=(zaM v e key 5).2.1.text):=by
 by_cases h:e=0
 ·subst h; exact ⟨(rtE_z v key).1,(rtE_z v key).2.2⟩
 ·rw [zdF h,zbv h]; exact ⟨rfl,fun h2 => absurd h2 h⟩
theorem rq_eq (v:JV) (e:Int) (key:List UInt8):rtE v e key true=rqE v e key ∧ (rqE v e key=0 → rtT v key=(zaM v e key 5).2.1.text):=by
 by_cases h:e=0
 ·subst h
  refine ⟨(rtE_z v key).2.1,fun h2 => (rtE_z v key).2.2 ?_⟩
  unfold rqE at h2
  split at h2
  ·exact h2
  ·exact absurd h2 (ze6 (by decide))
 ·rw [zdF h]
  unfold rqE
  rw [zbv h]
  exact ⟨by rw [if_neg (by simp),zcl h],fun h2 => by rw [if_neg (by simp),zcl h] at h2; exact absurd h2 h⟩
theorem rts_eq (v:JV) (e:Int) (key:List UInt8):rtsE v e key=(tsE v e key).1 ∧ ((tsE v e key).1=0 → zeb v key=(tsE v e key).2):=by
 by_cases h:e=0
 ·subst h; exact rtsE_z v key
 ·rw [rtsE_err h,zgW h]; exact ⟨rfl,fun h2 => absurd h2 h⟩
theorem zeX (v:JV) (e:Int) (key:List UInt8) (null:Bool):zeN v e key null=(prE v e key null).1 ∧ ((prE v e key null).1=0 → zcd v key=(prE v e key null).2):=by
 by_cases h:e=0
 ·subst h; exact rprE_z v key null
 ·rw [zfw h,zc9 h]; exact ⟨rfl,fun h2 => absurd h2 h⟩
theorem rit_eq (v:JV) (e:Int) (key:List UInt8) (most:Nat):ze3 v e key 6 most=(itE v e key most).1 ∧ ((itE v e key most).1=0 → (zcq v key 6 most).items=(itE v e key most).2):=by
 by_cases h:e=0
 ·subst h; exact ritE_z v key most
 ·rw [zfE h,zhn h]; exact ⟨rfl,fun h2 => absurd h2 h⟩
theorem lk6_sh {y:JV} (h:y.kind ≠ 7):lk6 y=160:=by
 have h0:shE y=160:=if_neg h
 have n:(160:Int) ≠ 0:=by decide
 have h1:lk1 y=160:=by unfold lk1 rqE; rw [h0,zbv n,if_neg (by simp),zcl n]
 have h2:lk2 y=160:=by unfold lk2; rw [h1,zbv n]
 have h3:lk3 y=160:=by unfold lk3; rw [h2,zbv n]
 have h4:lk4 y=160:=by unfold lk4; rw [h3,zbv n]
 have h5:lk5 y=160:=by unfold lk5; rw [h4,zc9 n]
 unfold lk6; rw [h5,zc9 n]
theorem rlk_eq (e:Int) (y:JV):rlkE e y=orE e (lk6 y):=by
 unfold rlkE
 by_cases c:y.kind=7
 ·rw [if_neg (by simp [c])]
  by_cases h:e=0
  ·subst h
   have h0:shE y=0:=if_pos c
   rw [zkQ]
   have a1:rtE y 0 zdw true=lk1 y:=by rw [(rq_eq y 0 zdw).1]; unfold lk1; rw [h0]
   rw [a1,(zgn y _ zb0).1]
   show zeN y (zeN y (rtE y (rtE y (lk2 y) zbX false) zcg false) zbz false) zaQ true=_
   rw [(zgn y _ zbX).1]
   show zeN y (zeN y (rtE y (lk3 y) zcg false) zbz false) zaQ true=_
   rw [(zgn y _ zcg).1]
   show zeN y (zeN y (lk4 y) zbz false) zaQ true=_
   rw [(zeX y _ zbz false).1]
   show zeN y (lk5 y) zaQ true=_
   rw [(zeX y _ zaQ true).1]; rfl
  ·rw [zdF h,zdF h,zdF h,zdF h,zfw h,zfw h,zcl h]
 ·rw [if_pos c,lk6_sh c]
theorem zkr {y:JV} (h:lk6 y=0):y.kind=7 ∧ rlkV y=lkV y:=by
 have c:y.kind=7:=by
  by_cases c:y.kind=7
  ·exact c
  ·rw [lk6_sh c] at h; exact absurd h (by decide)
 have h0:shE y=0:=if_pos c
 have h6:(prE y (lk5 y) zaQ true).1=0:=h
 have h5:lk5 y=0:=by by_cases e:lk5 y=0; exact e; rw [zc9 e] at h6; exact absurd h6 e
 have h5':(prE y (lk4 y) zbz false).1=0:=h5
 have h4:lk4 y=0:=by by_cases e:lk4 y=0; exact e; rw [zc9 e] at h5'; exact absurd h5' e
 have h4':(zaM y (lk3 y) zcg 5).1=0:=h4
 have h3:lk3 y=0:=(zcE h4').1
 have h3':(zaM y (lk2 y) zbX 5).1=0:=h3
 have h2:lk2 y=0:=(zcE h3').1
 have h2':(zaM y (lk1 y) zb0 5).1=0:=h2
 have h1:lk1 y=0:=(zcE h2').1
 refine ⟨c,?_⟩
 unfold rlkV lkV
 rw [(zeX y _ zaQ true).2 h6,(zeX y _ zbz false).2 h5',(zgn y _ zcg).2 h4',(zgn y _ zbX).2 h3',(zgn y _ zb0).2 h2',(rq_eq y (shE y) zdw).2 h1]
def zf9 (l:List JV):List LkP:=(l.filter fun y => decide (y.kind=7)).map rlkV
theorem zkq (l:List JV) (y:JV):zf9 (l ++ [y])=if y.kind=7 then zf9 l ++ [rlkV y] else zf9 l:=by
 unfold zf9
 rw [List.filter_append]
 by_cases c:y.kind=7
 ·rw [if_pos c]; simp [c]
 ·rw [if_neg c]; simp [c]
theorem ziC:∀ (l:List JV) (y:JV),fiE (l ++ [y])=orE (fiE l) (lk6 y)
 | [],y => by
  rw [List.nil_append,fiE,fiE,zkQ]
  split
  ·rename_i h; exact h.symm
  ·rfl
 | a :: l,y => by
  rw [List.cons_append,fiE,fiE]
  by_cases c:lk6 a=0
  ·rw [if_pos c,if_pos c]; exact ziC l y
  ·rw [if_neg c,if_neg c,zcl c]
theorem rlsL_ok {l:List JV} (h:fiE l=0):zf9 l=l.map lkV:=by
 have h2:=zfX h
 unfold zf9
 rw [List.filter_eq_self.2 (fun y hy => decide_eq_true (zkr (h2 y hy)).1)]
 exact List.map_congr_left fun y hy => (zkr (h2 y hy)).2
def rdL (v:JV):List JV:=(zcq v zbC 6 64).items
def rd3 (v:JV):Int:=zeN v (rtsE v (rtE v 0 zbT false) zbF) zaQ true
def rd4 (v:JV):Int:=orE (ze3 v (rd3 v) zbC 6 64) (fiE (rdL v))
def rdV (v:JV):AV:=zdN (rtT v zbT) (zeb v zbF) (zcd v zaQ) (zf9 (rdL v))
theorem rd_eq {v:JV} (hk:v.kind=7):rd4 v=jd4 v ∧ (jd4 v=0 → rdV v=jdV v):=by
 have h0:shE v=0:=if_pos hk
 have e1:rtE v 0 zbT false=jd1 v:=by rw [(zgn v 0 zbT).1]; unfold jd1; rw [h0]
 have e3:rd3 v=jd3 v:=by
  unfold rd3
  rw [e1,(rts_eq v _ zbF).1]
  show zeN v (jd2 v) zaQ true=_
  rw [(zeX v _ zaQ true).1]; rfl
 obtain ⟨i1,i2⟩:=rit_eq v (jd3 v) zbC 64
 have e4:rd4 v=jd4 v:=by
  unfold rd4 jd4 lsE rdL
  rw [e3,i1]
  by_cases c:(itE v (jd3 v) zbC 64).1=0
  ·rw [i2 c,c,zkQ]
   split
   ·rename_i h; exact h
   ·exact (zkQ _).symm
  ·rw [zcl c]
   split
   ·rfl
   ·exact (zcl c).symm
 refine ⟨e4,fun h => ?_⟩
 have hl:(lsE v (jd3 v) zbC).1=0:=h
 have hf:fiE (itE v (jd3 v) zbC 64).2=0:=by
  unfold lsE at hl
  by_cases c:fiE (itE v (jd3 v) zbC 64).2=0
  ·exact c
  ·rw [if_neg c] at hl; exact absurd hl (ze6 c)
 have hi:(itE v (jd3 v) zbC 64).1=0:=by unfold lsE at hl; rw [if_pos hf] at hl; exact hl
 have z3:jd3 v=0:=(zfU hi).1
 have z3':(prE v (jd2 v) zaQ true).1=0:=z3
 have z2:jd2 v=0:=by by_cases e:jd2 v=0; exact e; rw [zc9 e] at z3'; exact absurd z3' e
 have z2':(tsE v (jd1 v) zbF).1=0:=z2
 have z1:jd1 v=0:=by by_cases e:jd1 v=0; exact e; rw [zgW e] at z2'; exact absurd z2' e
 have z1':(zaM v (shE v) zbT 5).1=0:=z1
 unfold rdV jdV rdL
 rw [(zgn v _ zbT).2 z1',(rts_eq v _ zbF).2 z2',(zeX v _ zaQ true).2 z3',i2 hi,rlsL_ok hf]
 unfold lsE
 rw [if_pos hf]
theorem jd4_sh {v:JV} (h:v.kind ≠ 7):jd4 v=160:=by
 have h0:shE v=160:=if_neg h
 have n:(160:Int) ≠ 0:=by decide
 have h1:jd1 v=160:=by unfold jd1; rw [h0,zbv n]
 have h2:jd2 v=160:=by unfold jd2; rw [h1,zgW n]
 have h3:jd3 v=160:=by unfold jd3; rw [h2,zc9 n]
 unfold jd4; rw [h3,lsE_err n]
end
end Go.Proofs.Ytceenajkieomoaa
namespace Go.Proofs.Ytceenajkieomoaa
open Go.RowKit Sx
section
attribute [local irreducible] run
theorem jc_mk (k:Int) (t:List UInt8) (ks:List (List UInt8)) (its:List JV):zaj (.mk k t ks its)=[.i .i64 k,.s t,.row ks.length (ks.map .s),.row its.length (zab its)]:=zad _
mutual
theorem pub_pl {o:List OB}:∀ {d:Nat} {x:AV},x.plain=true → pub o d x=some x
 | d,.agg cs,h => by
  simp only [pub]
  rw [zfH (show zan cs=true from h)]; rfl
 | d,.tup cs,h => by
  simp only [pub]
  rw [zfH (show zan cs=true from h)]; rfl
 | d,.s l,h => by cases d <;> (simp only [pub]; rfl)
 | d,.i k n,h => by cases d <;> (simp only [pub]; rfl)
 | d,.b x,h => by cases d <;> (simp only [pub]; rfl)
 | d,.nil,h => by cases d <;> (simp only [pub]; rfl)
 | d,.zn x,h => by cases d <;> (simp only [pub]; rfl)
 | d,.o v,h => by cases d <;> (simp only [pub]; rfl)
 | d,.u,h => by cases d <;> (simp only [pub]; rfl)
 | d,.row n xs,h => by cases d <;> (simp only [pub]; rw [if_pos h])
 | d,.crow n xs,h => by cases d <;> (simp only [pub]; rw [if_pos h])
 | d,.prow xs j,h => by cases d <;> (simp only [pub]; rw [if_pos h])
 | d,.fn f fs cs,h => by cases d <;> (simp only [pub]; rw [if_pos h])
 | d,.p b off,h => by simp [AV.plain] at h
 | d,.orow b g,h => by simp [AV.plain] at h
 | d,.porow b g j,h => by simp [AV.plain] at h
 | d,.bsl b off n,h => by simp [AV.plain] at h
 | d,.m b,h => by simp [AV.plain] at h
theorem zfH {o:List OB}:∀ {d:Nat} {xs:List AV},zan xs=true → zc8 o d xs=some xs
 | d,[],h => by simp only [zc8]
 | d,x :: xs,h => by
  simp only [zan,Bool.and_eq_true] at h
  simp only [zc8]
  rw [pub_pl h.1,zfH h.2]
end
section
variable [Tabs Try.prog] {objs:List OB} {K:List OB → AV → Prop}
def ObX (k:Int) (t:List UInt8) (ks:List (List UInt8)) (its:List JV) (X:List AV):Prop:=X=zaj (.mk k t ks its) ∨ (ks=[] ∧ its=[] ∧ X=[.i .i64 k,.s t,.nil,.nil])
omit [Tabs Try.prog] in
theorem zkE {o:List OB} {d n:Nat} {xs:List AV} (h:zan xs=true):pub o d (.row n xs)=some (.row n xs):=by
 have h2:(AV.row n xs).plain=true:=h
 cases d <;> (simp only [pub]; rw [if_pos h2])
omit [Tabs Try.prog] in
theorem zkF {o:List OB} {d:Nat}:pub o d .nil=some .nil:=by cases d <;> (simp only [pub]; rfl)
omit [Tabs Try.prog] in
theorem ObX.sh {k:Int} {t:List UInt8} {ks:List (List UInt8)} {its:List JV} {X:List AV} (h:ObX k t ks its X):∃ A B,X=[.i .i64 k,.s t,A,B] ∧ A.plain=true ∧ B.plain=true ∧ (∀ o d,pub o d A=some A) ∧ ∀ o d,pub o d B=some B:=by
 rcases h with rfl | ⟨_,_,rfl⟩
 ·rw [jc_mk]
  exact ⟨_,_,rfl,zaO ks,zbD its,fun o d => zkE (zaO ks),fun o d => zkE (zbD its)⟩
 ·exact ⟨_,_,rfl,rfl,rfl,fun o d => zkF,fun o d => zkF⟩
end
end
end Go.Proofs.Ytceenajkieomoaa
namespace Go.Proofs.Ytceenajkieomoaa
open Go.RowKit Sx
section
attribute [local irreducible] run
section
variable [Tabs Try.prog] {objs:List OB} {K:List OB → AV → Prop}
end
end
end Go.Proofs.Ytceenajkieomoaa
namespace Go.Proofs.Ytceenajkieomoaa.Sx
open Go.RowKit
end Go.Proofs.Ytceenajkieomoaa.Sx
namespace Go.Proofs.Ytceenajkieomoaa
open Go.RowKit Sx
section
attribute [local irreducible] run
section
variable [Tabs Try.prog] {objs:List OB} {K:List OB → AV → Prop}
end
end
end Go.Proofs.Ytceenajkieomoaa
namespace Go.Proofs.Ytceenajkieomoaa
open Nat renaming reduceAdd → z5, reduceSub → z6, reduceLeDiff → z7, reduceLT → z8, reduceMul → j4, reduceEqDiff → j5
open Int renaming reduceToNat → j6, reduceAdd → j7, reduceSub → j8, reduceMul → j9, reduceNeg → y3, reduceLT → y4, reduceLE → y5, reduceEq → y6, reduceNe → y7
open Go.RowKit Sx
section
attribute [local irreducible] run
def vB14 (X Y:AV):OB:=.box 25 [.i .i64 7,.s [],X,Y]
section
variable [Tabs Try.prog] {objs:List OB} {K:List OB → AV → Prop} {L:List (Nat × OB)}
theorem zkv {X Y:AV} {R1 R2:List (Nat × OB)} (ks:List (List UInt8)) (its:List JV) (key:List UInt8) (hl:its.length=ks.length) (hlen0:ks.length ≤ 10000000) (hX:SlO 9 1 ks.length (ks.map .s) X R1) (hY:SlO 25 4 its.length (zab its) Y R2) (hO:zaE (R1 ++ (R2 ++ L)) objs)
  (h1:key ∈ ks → ∀ o w,zaE (R1 ++ (R2 ++ L)) o → K o (.tup [.agg (zaj w),.b true])) (h2:¬ key ∈ ks → ∀ o,zaE (R1 ++ (R2 ++ L)) o → K o (.tup [.agg [.i .i64 0,.s [],.nil,.nil],.b false])):zah Try.prog 59 [.agg [.i .i64 7,.s [],X,Y],.s key] objs K:=by
 refine zbb is_ref14_Get fun C _ => ?_
 rw [c_ref14_Get]
 have hO2:=(hO.new (vB14 X Y)).new zvB
 unfold vB14 zvB at hO2
 refine zaa fun Z hZ => ?_
 have flatX:X.flat=true:=by rcases hX with ⟨_,_,rfl,_⟩ | ⟨_,_,rfl,_⟩ <;> rfl
 have flatY:Y.flat=true:=by rcases hY with ⟨_,_,rfl,_⟩ | ⟨_,_,rfl,_⟩ <;> rfl
 have flatV:(AV.agg [.i .i64 7,.s [],X,Y]).flat=true:=by
  rcases hX with ⟨_,_,rfl,_⟩ | ⟨_,_,rfl,_⟩ <;> rcases hY with ⟨_,_,rfl,_⟩ | ⟨_,_,rfl,_⟩ <;> rfl
 simp only [sxZ,z5,z6,z7,z8,j4,j5,j6,j7,j8,j9,y3,y4,y5,y6,y7,reduceCtorEq,↓reduceIte,flatV]
 have elen:(objs ++ [OB.box 25 [.i .i64 7,.s [],X,Y]]).length=objs.length + 1:=by simp
 rw [elen] at hO2
 generalize objs.length=qv at hO2 ⊢
 generalize objs ++ [OB.box 25 [.i .i64 7,.s [],X,Y]] ++ [OB.box 25 [.i .i64 0,.s [],.nil,.nil]]=o at hO2 ⊢
 have e0:=hO2.get (i:=qv) (x:=.box 25 [.i .i64 7,.s [],X,Y]) (by simp)
 have e1:=hO2.get (i:=qv + 1) (x:=.box 25 [.i .i64 0,.s [],.nil,.nil]) (by simp)
 have gs:∀ x,(o.set (qv + 1) x)[qv + 1]? = some x:=fun x => List.getElem?_set_self (hO2.lt (i:=qv + 1) (x:=.box 25 [.i .i64 0,.s [],.nil,.nil]) (by simp))
 have fin:∀ x,zaE (R1 ++ (R2 ++ L)) (o.set (qv + 1) x):=fun x => (zaE.set (A:=[]) x hO2).sub ((List.sublist_cons_self _ _).trans (List.sublist_cons_self _ _))
 subst hZ
 refine zaa fun Z hZ => ?_
 simp only [sxZ,z5,z6,z7,z8,j4,j5,j6,j7,j8,j9,y3,y4,y5,y6,y7,reduceCtorEq,↓reduceIte,e0,decide_true,Bool.not_true]
 subst hZ
 refine zaa fun Z hZ => ?_
 refine zaa fun W hW => ?_
 refine zaz (fun o' tm => o=o' ∧ tm.length=38 ∧ tm[1]? = some (.s key) ∧ tm[2]? = some (.p qv 0) ∧ tm[4]? = some (.p (qv + 1) 0) ∧ tm[13]? = some (.i .i64 (ks.length:Int)) ∧ tm[14]? = some (.i .i64 0)) ?_ ?_
 ·rcases id hX with ⟨z1,z2,rfl,_⟩ | ⟨b1,g1,rfl,rfl⟩
  ·simp only [sxZ,z5,z6,z7,z8,j4,j5,j6,j7,j8,j9,y3,y4,y5,y6,y7,reduceCtorEq,↓reduceIte,zac,e0,z1,Int.cast_ofNat_Int,and_self]
  ·have eb1:=hO2.get (i:=b1) (x:=.orow 9 1 g1 ks.length (ks.map .s)) (by simp)
   simp only [sxZ,z5,z6,z7,z8,j4,j5,j6,j7,j8,j9,y3,y4,y5,y6,y7,reduceCtorEq,↓reduceIte,zac,e0,eb1,and_self]
 rintro _ tm ⟨rfl,hlen,t1,t2,t4,t13,t14⟩
 subst hW
 rw [zaH]
 refine zaC (fun n o' tm => ∃ i:Nat,i ≤ ks.length ∧ n=ks.length - i ∧ o=o' ∧ (∀ j,j < i → ks[j]? ≠ some key) ∧ tm.length=38 ∧ tm[1]? = some (.s key) ∧ tm[2]? = some (.p qv 0) ∧ tm[4]? = some (.p (qv + 1) 0) ∧ tm[13]? = some (.i .i64 (ks.length:Int)) ∧ tm[14]? = some (.i .i64 (i:Int))) ks.length ⟨0,Nat.zero_le _,rfl,rfl,fun j h => by omega,hlen,t1,t2,t4,t13,t14⟩ ?_
 clear hlen t1 t2 t4 t13 t14
 rintro n _ tm ⟨i,hi,rfl,rfl,hall,hlen,t1,t2,t4,t13,t14⟩
 refine zaa fun W hW => ?_
 by_cases hlt:(i:Int) < (ks.length:Int)
 ·have hi':i < ks.length:=by omega
  have hi2:i < its.length:=by omega
  rcases hX with ⟨z1,_⟩ | ⟨b1,g1,rfl,rfl⟩
  ·omega
  rcases hY with ⟨z1,_⟩ | ⟨b2,g2,rfl,rfl⟩
  ·omega
  have eb1:=hO2.get (i:=b1) (x:=.orow 9 1 g1 ks.length (ks.map .s)) (by simp)
  have eb2:=hO2.get (i:=b2) (x:=.orow 25 4 g2 its.length (zab its)) (by simp)
  have kv:(ks.map AV.s)[i * 1]? = some (.s ks[i]):=by rw [Nat.mul_one,List.getElem?_map,List.getElem?_eq_getElem hi']; rfl
  have kv2:ks[i]? = some ks[i]:=List.getElem?_eq_getElem hi'
  have kv3:ks[i] ∈ ks:=List.getElem_mem hi'
  generalize ks[i]=x at kv kv2 kv3
  simp only [sxZ,z5,z6,z7,z8,j4,j5,j6,j7,j8,j9,y3,y4,y5,y6,y7,reduceCtorEq,↓reduceIte,List.getElem?_set,hlen,t1,t2,t4,t13,t14,hlt]
  subst hW
  refine zaa fun W hW => ?_
  simp only [sxZ,z5,z6,z7,z8,j4,j5,j6,j7,j8,j9,y3,y4,y5,y6,y7,reduceCtorEq,↓reduceIte,List.getElem?_set,hlen]
  subst hW
  refine zaa fun V hV => ?_
  rw [zaH]
  refine zaa fun W hW => ?_
  simp only [sxZ,z5,z6,z7,z8,j4,j5,j6,j7,j8,j9,y3,y4,y5,y6,y7,reduceCtorEq,↓reduceIte,List.getElem?_set,hlen,t14]
  subst hW
  refine zaa fun W hW => ?_
  by_cases c2:x=key
  ·have hlt2:(i:Int) < (its.length:Int):=by omega
   have jv:=zdp hi2
   have jvl:=zay its
   have hw:=fun o ho => h1 (by rw [← c2]; exact kv3) o its[i] ho
   have hq:=zad its[i]
   rw [hq] at jv
   simp only [sxZ,z5,z6,z7,z8,j4,j5,j6,j7,j8,j9,y3,y4,y5,y6,y7,reduceCtorEq,↓reduceIte,List.getElem?_set,hlen,t1,t2,e0,eb1,eb2,kv,List.length_map,c2,hlt2,decide_true]
   refine ⟨⟨by omega,by omega⟩,?_⟩
   subst hW
   simp only [sxZ,z5,z6,z7,z8,j4,j5,j6,j7,j8,j9,y3,y4,y5,y6,y7,reduceCtorEq,↓reduceIte,List.getElem?_set,hlen,t1,t2,t4,e0,e1,eb2,jv,gs]
   refine ⟨⟨by omega,by omega⟩,by omega,?_⟩
   rw [← hq]
   exact hw _ (fin _)
  ·simp only [sxZ,z5,z6,z7,z8,j4,j5,j6,j7,j8,j9,y3,y4,y5,y6,y7,reduceCtorEq,↓reduceIte,List.getElem?_set,hlen,t1,t2,e0,eb1,kv,List.length_map,c2,decide_false]
   refine ⟨⟨by omega,by omega⟩,?_⟩
   subst hW
   simp only [sxZ,z5,z6,z7,z8,j4,j5,j6,j7,j8,j9,y3,y4,y5,y6,y7,reduceCtorEq,↓reduceIte,List.getElem?_set,hlen,t1,t2,t4]
   subst hV
   simp only [sxZ,z5,z6,z7,z8,j4,j5,j6,j7,j8,j9,y3,y4,y5,y6,y7,reduceCtorEq,↓reduceIte,List.getElem?_set,hlen,t1,t2,t4,t13,t14]
   refine ⟨by omega,ks.length - (i + 1),by omega,i + 1,by omega,rfl,fun j hj => ?_,rfl⟩
   by_cases e:j=i
   ·subst e
    rw [kv2]; intro h; injection h with h; exact c2 h
   ·exact hall j (by omega)
 simp only [sxZ,z5,z6,z7,z8,j4,j5,j6,j7,j8,j9,y3,y4,y5,y6,y7,reduceCtorEq,↓reduceIte,List.getElem?_set,hlen,t1,t2,t4,t13,t14,hlt]
 subst hW
 subst hZ
 simp only [sxZ,z5,z6,z7,z8,j4,j5,j6,j7,j8,j9,y3,y4,y5,y6,y7,reduceCtorEq,↓reduceIte,List.getElem?_set,hlen,t1,t2,t4,t13,t14,hlt,e1,gs]
 refine h2 (fun h => ?_) _ (fin _)
 obtain ⟨j,hj⟩:=List.mem_iff_getElem?.1 h
 exact hall j (by have:=(List.getElem?_eq_some_iff.1 hj).1; omega) hj
end
end
section
attribute [local irreducible] run
theorem zhz {i:Nat} {T T':Nat} {cs cs':List AV} {L:List (Nat × OB)} (h:zaD ((i,.box T cs) :: L)) (hp:zan cs'=true):zaD ((i,.box T' cs') :: L):=by
 intro y hy b g n xs hb
 rcases List.mem_cons.1 hy with rfl | hy
 ·show OB.box T' _=_; rw [zc3 hp]
 ·exact h y (List.mem_cons_of_mem _ hy) b g n xs fun y hy => by
   rcases List.mem_cons.1 hy with rfl | hy
   ·exact hb (i,.box T' cs') (by simp)
   ·exact hb y (List.mem_cons_of_mem _ hy)
theorem zeL {p:Nat} {s:List UInt8} {ρ ρ':Rs} {L:List (Nat × OB)} (h:zaD ((p,zaB s ρ) :: L)):zaD ((p,zaB s ρ') :: L):=zhz h rfl
theorem zff {E1 s1 n1 E2 s2 n2:Nat} {x1 x2:List AV} {X Y:AV} {R1 R2 L:List (Nat × OB)} {p qt qv qr:Nat} {s:List UInt8} {ρ ρ':Rs} {T:Tk} {k:Int} (h1:SlO E1 s1 n1 x1 X R1) (h2:SlO E2 s2 n2 x2 Y R2) (h:zaD ((p,zaB s ρ) :: L)):zaD ((p,zaB s ρ') :: (qt,zaL T) :: (qv,jvB k X Y) :: (qr,zvB) :: (R1 ++ (R2 ++ L))):=by
 intro y hy b g m ys hb
 simp only [List.mem_cons,List.mem_append] at hy
 rcases hy with rfl | rfl | rfl | rfl | hy | hy | hy
 ·exact congrArg (OB.box _) (zc3 rfl)
 ·exact congrArg (OB.box _) (zc3 rfl)
 ·have q1:=zg1 h1 (b:=b) (g:=g) (m:=m) (ys:=ys) fun y hy => hb y (by simp [hy])
  have q2:=zg1 h2 (b:=b) (g:=g) (m:=m) (ys:=ys) fun y hy => hb y (by simp [hy])
  show OB.box _ _=_
  simp only [List.map_cons,List.map_nil,q1,q2]
  rfl
 ·exact congrArg (OB.box _) (zc3 rfl)
 ·rcases h1 with ⟨_,_,_,rfl⟩ | ⟨b',g',_,rfl⟩
  ·cases hy
  ·simp only [List.mem_cons,List.not_mem_nil,or_false] at hy
   subst hy; rfl
 ·rcases h2 with ⟨_,_,_,rfl⟩ | ⟨b',g',_,rfl⟩
  ·cases hy
  ·simp only [List.mem_cons,List.not_mem_nil,or_false] at hy
   subst hy; rfl
 ·refine h y (List.mem_cons_of_mem _ hy) b g m ys fun z hz => ?_
  rcases List.mem_cons.1 hz with rfl | hz
  ·exact hb (p,zaB s ρ') (by simp)
  ·exact hb z (by simp [hz])
section
variable [Tabs Try.prog] [Utf Try.prog] {objs:List OB} {K:List OB → AV → Prop} {L:List (Nat × OB)} {p:Nat} {s:List UInt8} {ρ:Rs}
def ValK (s:List UInt8) (p:Nat) (d:Nat) (val:Rs → Tk → JV × Rs):Prop :=
 ∀ {objs:List OB} {K:List OB → AV → Prop} {L:List (Nat × OB)} {ρ:Rs} (t:Tk),GB s ρ → GT ρ t → t.2.1.length ≤ s.length → zaD ((p,zaB s ρ) :: L) → zaE ((p,zaB s ρ) :: L) objs → (∀ o,zaE ((p,zaB s (val ρ t).2) :: L) o → K o (.agg (zaj (val ρ t).1))) → zah Try.prog 23 [.p p 0,zgd t,.i .i64 (d:Int)] objs K
omit [Tabs Try.prog] [Utf Try.prog] in
theorem zbp (h:GB s ρ):(zaf s ρ).1.2.1.length ≤ s.length:=by
 unfold zaf
 split
 ·exact Nat.zero_le _
 split
 ·exact Nat.zero_le _
 ·rename_i h1 h2
  have:=zfP (s:=s) h.p0 (by simpa using h2)
  exact this.2.1
theorem array_k {val:Rs → Tk → JV × Rs} {d:Nat} (hv:ValK s p d val) (hg:GV s val) (hn:∀ ρ t,(val ρ t).2.fail=0 → ρ.nodes + 1 ≤ (val ρ t).2.nodes) (hs:s.length ≤ 1048576) (hB:GB s ρ) (hC:zaD ((p,zaB s ρ) :: L)) (hO:zaE ((p,zaB s ρ) :: L) objs)
  (hk:∀ o,zaE ((p,zaB s (zeP s val ρ).2) :: L) o → K o (.agg (zaj (zeP s val ρ).1))):zah Try.prog 52 [.p p 0,.i .i64 (d:Int)] objs K:=by
 refine zkt (E1:=9) (s1:=1) (E2:=25) (s2:=4) (zeP s val ρ).1 (zeL hC) hk ?_
 refine zbb is_ref14_parser_array fun C _ => ?_
 have fin:∀ {o:List OB} {ρ':Rs} {acc:List JV} {X:AV} {R:List (Nat × OB)} {qt qv qr:Nat} {T V W:OB},zeP s val ρ=(.mk 6 [] [] acc,ρ') → SlO 25 4 acc.length (zab acc) X R → zaE ((p,zaB s ρ') :: (qt,T) :: (qv,V) :: (qr,W) :: (R ++ L)) o →
   ∃ X' R1 Y R2,SlO 9 1 (zeP s val ρ).1.keys.length ((zeP s val ρ).1.keys.map .s) X' R1 ∧ SlO 25 4 (zeP s val ρ).1.items.length (zab (zeP s val ρ).1.items) Y R2 ∧ zaE ((p,zaB s (zeP s val ρ).2) :: (R1 ++ (R2 ++ L))) (o.set qr (jvB 6 .nil X)) ∧ AV.agg [.i .i64 6,.s [],.nil,X]=.agg [.i .i64 (zeP s val ρ).1.kind,.s (zeP s val ρ).1.text,X',Y]:=by
  intro o ρ' acc X R qt qv qr T V W he hS hO
  rw [he]
  refine ⟨.nil,[],X,R,.inl ⟨rfl,rfl,rfl,rfl⟩,hS,?_,rfl⟩
  exact (zaE.set (A:=[(p,zaB s ρ'),(qt,T),(qv,V)]) (jvB 6 .nil X) hO).sub ((((List.sublist_cons_self _ _).trans (List.sublist_cons_self _ _)).trans (List.sublist_cons_self _ _)).cons_cons _)
 rw [c_ref14_parser_array]
 refine zaa fun Y hY => ?_
 simp only [sxZ,z5,z6,z7,z8,j4,j5,j6,j7,j8,j9,y3,y4,y5,y6,y7,reduceCtorEq,↓reduceIte]
 have hO1:=hO.new zvB
 unfold zvB at hO1
 generalize hqr:objs.length=qr at hO1 ⊢
 generalize objs ++ [OB.box 25 [.i .i64 0,.s [],.nil,.nil]]=o1 at hO1 ⊢
 subst hY
 refine zaa fun Y hY => ?_
 simp only [sxZ,z5,z6,z7,z8,j4,j5,j6,j7,j8,j9,y3,y4,y5,y6,y7,reduceCtorEq,↓reduceIte,gn1,sn1]
 have hO2:=hO1.new (jvB 6 .nil .nil)
 unfold jvB at hO2
 generalize hqv:o1.length=qv at hO2 ⊢
 generalize o1 ++ [OB.box 25 [.i .i64 6,.s [],.nil,.nil]]=o2 at hO2 ⊢
 subst hY
 refine zaa fun Y hY => ?_
 simp only [sxZ,z5,z6,z7,z8,j4,j5,j6,j7,j8,j9,y3,y4,y5,y6,y7,reduceCtorEq,↓reduceIte]
 have hO2':zaE ((p,zaB s ρ) :: (qv,jvB 6 .nil .nil) :: (qr,zvB) :: L) o2:=hO2.perm ((List.Perm.cons _ (List.Perm.swap _ _ _)).trans (List.Perm.swap _ _ _))
 refine zak (zb8 (by omega) hO2' fun o3 hO3 => ?_)
 have hB1:=za8 hB
 have hT1:=zbp hB
 have hrarr:zeP s val ρ=if isP (zaf s ρ).1 93=true then (.mk 6 [] [] [],(zaf s ρ).2) else (.mk 6 [] [] (zck s val (s.length + 2) (zaf s ρ).2 (zaf s ρ).1 []).1,(zck s val (s.length + 2) (zaf s ρ).2 (zaf s ρ).1 []).2):=rfl
 have hn0:=za0 s ρ
 generalize zaf s ρ=N at hO3 hB1 hT1 hrarr hn0 ⊢
 obtain ⟨T,ρ1⟩:=N
 simp only at hO3 hB1 hT1 hrarr hn0 ⊢
 unfold zgd tkC
 simp only [sxZ,z5,z6,z7,z8,j4,j5,j6,j7,j8,j9,y3,y4,y5,y6,y7,reduceCtorEq,↓reduceIte,gn1,sn1]
 have f1:∀ x y z,OB.box 59 [.i .i64 x,.s y,.i .i64 z]=zaL (x,y,z):=fun _ _ _ => rfl
 rw [f1]
 have hO4:=hO3.new (zaL T)
 have hO4:zaE ((p,zaB s ρ1) :: (o3.length,zaL T) :: (qv,jvB 6 .nil .nil) :: (qr,zvB) :: ([] ++ L)) (o3 ++ [zaL T]):=hO4.perm (List.Perm.swap _ _ _)
 generalize o3.length=qt at hO4 ⊢
 generalize o3 ++ [zaL (T.1,T.2.1,T.2.2)]=o4 at hO4 ⊢
 have st:∀ (o:List OB) (ρ':Rs) (T':Tk) (X:AV) (R:List (Nat × OB)),zaE ((p,zaB s ρ') :: (qt,zaL T') :: (qv,jvB 6 .nil X) :: (qr,zvB) :: (R ++ L)) o → o[p]? = some (.box 56 [.s s,.i .i64 ρ'.pos,.i .i64 (ρ'.nodes:Int),.i .i64 ρ'.fail,.i .i64 ρ'.wh]) ∧ o[qt]? = some (.box 59 [.i .i64 T'.1,.s T'.2.1,.i .i64 T'.2.2]) ∧ o[qv]? = some (.box 25 [.i .i64 6,.s [],.nil,X]) ∧ o[qr]? = some (.box 25 [.i .i64 0,.s [],.nil,.nil]) ∧ (∀ x,(o.set qr x)[qr]? = some x) ∧ (∀ x,(o.set qt x)[qt]? = some x) ∧ (∀ x,(o.set qv x)[qv]? = some x) :=
  fun o ρ' T' X R h => ⟨h.get (by simp [zaB]),h.get (by simp [zaL,tkC]),h.get (by simp [jvB]),h.get (by simp [zvB]),fun x => List.getElem?_set_self (h.lt (i:=qr) (x:=zvB) (by simp)),fun x => List.getElem?_set_self (h.lt (i:=qt) (x:=zaL T') (by simp)),fun x => List.getElem?_set_self (h.lt (i:=qv) (x:=jvB 6 .nil X) (by simp))⟩
 subst hY
 refine zaa fun Y hY => ?_
 obtain ⟨e1,e2,e3,e4,s1,s2,s3⟩:=st _ _ _ _ _ hO4
 simp only [sxZ,z5,z6,z7,z8,j4,j5,j6,j7,j8,j9,y3,y4,y5,y6,y7,reduceCtorEq,↓reduceIte,e2]
 refine zak (zew T 93 ?_)
 cases hcl:isP T 93 with
 | true =>
  rw [hcl,if_pos rfl] at hrarr
  simp only [sxZ,z5,z6,z7,z8,j4,j5,j6,j7,j8,j9,y3,y4,y5,y6,y7,reduceCtorEq,↓reduceIte,e3,e4,s1]
  exact fin hrarr (.inl ⟨rfl,by rw [zaw],rfl,rfl⟩) hO4
 | false =>
  rw [hcl,if_neg Bool.false_ne_true] at hrarr
  simp only [sxZ,z5,z6,z7,z8,j4,j5,j6,j7,j8,j9,y3,y4,y5,y6,y7,reduceCtorEq,↓reduceIte]
  subst hY
  refine zaa fun Y hY => ?_
  clear e1 e2 e3 e4 s1 s2 s3
  have last:∀ (o:List OB) (ρ':Rs) (T':Tk) (acc:List JV) (X:AV) (R:List (Nat × OB)) (tm:List AV),zeP s val ρ=(.mk 6 [] [] acc,ρ') → SlO 25 4 acc.length (zab acc) X R → zaE ((p,zaB s ρ') :: (qt,zaL T') :: (qv,jvB 6 .nil X) :: (qr,zvB) :: (R ++ L)) o → True:=fun _ _ _ _ _ _ _ _ _ _ => trivial
  simp only [sxZ,z5,z6,z7,z8,j4,j5,j6,j7,j8,j9,y3,y4,y5,y6,y7,reduceCtorEq,↓reduceIte]
  refine zaC (fun n o tm => ∃ (i:Nat) (ρ':Rs) (T':Tk) (acc:List JV) (X:AV) (R:List (Nat × OB)),n=s.length + 2 - i ∧ acc.length=i ∧ zeP s val ρ=(.mk 6 [] [] (zck s val n ρ' T' acc).1,(zck s val n ρ' T' acc).2) ∧ GB s ρ' ∧ GT ρ' T' ∧ T'.2.1.length ≤ s.length ∧ (ρ'.fail=0 → i ≤ ρ'.nodes) ∧ SlO 25 4 acc.length (zab acc) X R ∧ zaE ((p,zaB s ρ') :: (qt,zaL T') :: (qv,jvB 6 .nil X) :: (qr,zvB) :: (R ++ L)) o ∧
    tm.length=49 ∧ tm[0]? = some (.p p 0) ∧ tm[1]? = some (.i .i64 (d:Int)) ∧ tm[4]? = some (.p qr 0) ∧ tm[5]? = some (.p qv 0) ∧ tm[6]? = some (.p qt 0)) (s.length + 2) ⟨0,ρ1,T,[],.nil,[],rfl,rfl,hrarr,hB1.1,hB1.2,hT1,fun _ => Nat.zero_le _,.inl ⟨rfl,by rw [zaw],rfl,rfl⟩,hO4,rfl,rfl,rfl,rfl,rfl,rfl⟩ ?_
  clear hO hO1 hO2 hO2' hO3 hO4 hrarr hB1 hT1 hcl hn0
  rintro n o tm ⟨i,ρ',T',acc,X,R,rfl,hi,hrarr,hGB,hGT,hTx,hnd,hS,hO,hlen,t0,t1,t4,t5,t6⟩
  obtain ⟨e1,e2,e3,e4,s1,s2,s3⟩:=st _ _ _ _ _ hO
  refine zaa fun Z hZ => ?_
  by_cases c1:ρ'.fail=0
  rotate_left
  ·have he:zck s val (s.length + 2 - i) ρ' T' acc=(acc,ρ'):=by
    cases s.length + 2 - i with
    | zero => rw [zck]
    | succ m => rw [zck,if_pos c1]
   rw [he] at hrarr
   simp only [sxZ,z5,z6,z7,z8,j4,j5,j6,j7,j8,j9,y3,y4,y5,y6,y7,reduceCtorEq,↓reduceIte,List.getElem?_set,hlen,t0,e1,c1]
   subst hZ
   subst hY
   simp only [sxZ,z5,z6,z7,z8,j4,j5,j6,j7,j8,j9,y3,y4,y5,y6,y7,reduceCtorEq,↓reduceIte,List.getElem?_set,hlen,t4,t5,e3,e4,s1]
   exact fin hrarr hS hO
  have hil:i ≤ s.length:=by
   have h1:=hnd c1
   have h2:=hGB.n0 c1
   have h3:=hGB.p1
   omega
  obtain ⟨m,hm⟩:∃ m,s.length + 2 - i=m + 1:=⟨s.length + 1 - i,by omega⟩
  rw [hm,zck,if_neg (fun h => h c1)] at hrarr
  simp only at hrarr
  simp only [sxZ,z5,z6,z7,z8,j4,j5,j6,j7,j8,j9,y3,y4,y5,y6,y7,reduceCtorEq,↓reduceIte,List.getElem?_set,hlen,t0,e1,c1]
  subst hZ
  rw [zaH]
  refine zaa fun Z hZ => ?_
  have hvc:=fun {objs:List OB} {K:List OB → AV → Prop} {L:List (Nat × OB)} (h1) (h2) (h3) => hv (objs:=objs) (K:=K) (L:=L) (ρ:=ρ') T' hGB hGT hTx h1 h2 h3
  have hg1:=hg ρ' T' hGB hGT
  have hn1:=hn ρ' T'
  generalize val ρ' T'=a at hvc hg1 hn1 hrarr
  obtain ⟨v,ρ2⟩:=a
  simp only at hvc hg1 hn1 hrarr
  obtain ⟨c0,c1',c2,c3,hcv⟩:∃ c0 c1 c2 c3,zaj v=[c0,c1,c2,c3]:=⟨_,_,_,_,zad v⟩
  have hCL:zaD ((p,zaB s ρ') :: (qt,zaL T') :: (qv,jvB 6 .nil X) :: (qr,zvB) :: (R ++ L)):=zff (E1:=0) (s1:=0) (R1:=[]) (.inl ⟨rfl,rfl,rfl,rfl⟩) hS hC
  refine zaz (fun o tm => ∃ X' R',SlO 25 4 (acc ++ [v]).length (zab (acc ++ [v])) X' R' ∧ zaE ((p,zaB s ρ2) :: (qt,zaL T') :: (qv,jvB 6 .nil X') :: (qr,zvB) :: (R' ++ L)) o ∧ tm.length=49 ∧ tm[0]? = some (.p p 0) ∧ tm[1]? = some (.i .i64 (d:Int)) ∧ tm[4]? = some (.p qr 0) ∧ tm[5]? = some (.p qv 0) ∧ tm[6]? = some (.p qt 0)) ?_ ?_
  ·simp only [sxZ,z5,z6,z7,z8,j4,j5,j6,j7,j8,j9,y3,y4,y5,y6,y7,reduceCtorEq,↓reduceIte,List.getElem?_set,hlen,t0,t1,t5,t6,e2,e3]
   refine zak (hvc hCL hO fun o2 hO2 => ?_)
   obtain ⟨e1',e2',e3',e4',s1',s2',s3'⟩:=st _ _ _ _ _ hO2
   rw [hcv]
   rcases hS with ⟨z1,z2,rfl,rfl⟩ | ⟨b,g,rfl,rfl⟩
   ·have a0:acc=[]:=List.eq_nil_of_length_eq_zero z1
    have hlt:=hO2.lt (i:=qv) (x:=jvB 6 .nil .nil) (by simp)
    have hne:¬ o2.length=qv:=by omega
    have gx:∀ x,(o2 ++ [x])[qv]? = some (.box 25 [.i .i64 6,.s [],.nil,.nil]):=fun x => by rw [List.getElem?_append_left hlt]; exact e3'
    simp only [sxZ,z5,z6,z7,z8,j4,j5,j6,j7,j8,j9,y3,y4,y5,y6,y7,reduceCtorEq,↓reduceIte,List.getElem?_set,hlen,t0,t1,t5,t6,e2',e3',gn1,sn1,gx,hne,zac,List.length_set,t4,and_self,and_true]
    have hN:=hO2.new (.orow 25 4 0 1 [c0,c1',c2,c3])
    have hR:=hN.set (A:=[(o2.length,OB.orow 25 4 0 1 [c0,c1',c2,c3]),(p,zaB s ρ2),(qt,zaL T')]) (jvB 6 .nil (.orow o2.length 0))
    refine ⟨_,[(o2.length,.orow 25 4 0 1 [c0,c1',c2,c3])],.inr ⟨_,_,rfl,by rw [a0,List.nil_append,zaA,zaw,hcv]; rfl⟩,hR.perm ?_⟩
    exact List.perm_middle (l₁:=[(p,zaB s ρ2),(qt,zaL T'),(qv,jvB 6 .nil (.orow o2.length 0)),(qr,zvB)]).symm
   ·have e5:=hO2.get (i:=b) (x:=.orow 25 4 g acc.length (zab acc)) (by simp)
    have hlt:=hO2.lt (i:=qv) (x:=jvB 6 .nil (.orow b g)) (by simp)
    have hlt4:=hO2.lt (i:=b) (x:=.orow 25 4 g acc.length (zab acc)) (by simp)
    have hne:¬ b=qv:=by
     intro h
     have:=hO2.1
     simp only [List.map_cons,List.map_append,List.nodup_cons] at this
     exact this.2.2.1 (by simp [h])
    have gs:∀ x,(o2.set b x)[b]? = some x:=fun x => List.getElem?_set_self hlt4
    have gx:∀ x,(o2.set b x)[qv]? = some (.box 25 [.i .i64 6,.s [],.nil,.orow b g]):=fun x => by rw [List.getElem?_set_ne hne]; exact e3'
    have hjl:=zay acc
    simp only [sxZ,z5,z6,z7,z8,j4,j5,j6,j7,j8,j9,y3,y4,y5,y6,y7,reduceCtorEq,↓reduceIte,List.getElem?_set,hlen,t0,t1,t5,t6,e2',e3',e5,gs,gx,hne,zac,List.length_set,t4,and_self,and_true]
    refine ⟨⟨by omega,by omega⟩,?_⟩
    have hN:=hO2.set (A:=[(p,zaB s ρ2),(qt,zaL T'),(qv,jvB 6 .nil (.orow b g)),(qr,zvB)]) (.orow 25 4 (g + 1) (acc.length + 1) (zab acc ++ [c0,c1',c2,c3]))
    have hR:=hN.set (A:=[(p,zaB s ρ2),(qt,zaL T')]) (jvB 6 .nil (.orow b (g + 1)))
    exact ⟨_,[(b,.orow 25 4 (g + 1) (acc.length + 1) (zab acc ++ [c0,c1',c2,c3]))],.inr ⟨_,_,rfl,by rw [zdb,zaA,zaw,hcv]; rfl⟩,hR⟩
  ·clear hO hS hlen t0 t1 t4 t5 t6 e1 e2 e3 e4 s1 s2 s3 hCL hvc hv hg hn
   rintro o5 tm ⟨X',R',hS,hO5,hlen,t0,t1,t4,t5,t6⟩
   subst hZ
   refine zaa fun Z hZ => ?_
   simp only [sxZ,z5,z6,z7,z8,j4,j5,j6,j7,j8,j9,y3,y4,y5,y6,y7,reduceCtorEq,↓reduceIte,List.getElem?_set,hlen,t0]
   refine zak (zb8 (by omega) hO5 fun o6 hO6 => ?_)
   have hB2:=za8 hg1
   have hT2:=zbp hg1
   have hn2:=za0 s ρ2
   have hfz:=zbQ s ρ2
   generalize zaf s ρ2=N at hO6 hB2 hT2 hn2 hfz hrarr ⊢
   obtain ⟨T2,ρ3⟩:=N
   simp only at hO6 hB2 hT2 hn2 hfz hrarr ⊢
   obtain ⟨e1,e2,e3,e4,s1,s2,s3⟩:=st _ _ _ _ _ hO6
   unfold zgd tkC
   simp only [sxZ,z5,z6,z7,z8,j4,j5,j6,j7,j8,j9,y3,y4,y5,y6,y7,reduceCtorEq,↓reduceIte,List.getElem?_set,hlen,t6,e2,s2]
   rw [f1]
   have hO7:=zaE.set (A:=[(p,zaB s ρ3)]) (zaL T2) hO6
   have hO7:zaE ((p,zaB s ρ3) :: (qt,zaL T2) :: (qv,jvB 6 .nil X') :: (qr,zvB) :: (R' ++ L)) (o6.set qt (zaL (T2.1,T2.2.1,T2.2.2))):=hO7
   generalize o6.set qt (zaL (T2.1,T2.2.1,T2.2.2))=o7 at hO7 ⊢
   refine zaY (fun t => t.length=49 ∧ t[0]? = some (.p p 0) ∧ t[1]? = some (.i .i64 (d:Int)) ∧ t[4]? = some (.p qr 0) ∧ t[5]? = some (.p qv 0) ∧ t[6]? = some (.p qt 0)) ?_ ?_
   ·simp only [sxZ,z5,z6,z7,z8,j4,j5,j6,j7,j8,j9,y3,y4,y5,y6,y7,reduceCtorEq,↓reduceIte,List.length_set,List.getElem?_set,hlen,t0,t1,t4,t5,t6,and_self]
   clear hO6 hO5 hlen t0 t1 t4 t5 t6 e1 e2 e3 e4 s1 s2 s3
   rintro tm ⟨hlen,t0,t1,t4,t5,t6⟩
   obtain ⟨e1,e2,e3,e4,s1,s2,s3⟩:=st _ _ _ _ _ hO7
   subst hZ
   refine zaa fun Z hZ => ?_
   simp only [sxZ,z5,z6,z7,z8,j4,j5,j6,j7,j8,j9,y3,y4,y5,y6,y7,reduceCtorEq,↓reduceIte,List.getElem?_set,hlen,t6,e2]
   refine zak (zew T2 93 ?_)
   cases hcl:isP T2 93 with
   | true =>
    rw [hcl,if_pos rfl] at hrarr
    simp only [sxZ,z5,z6,z7,z8,j4,j5,j6,j7,j8,j9,y3,y4,y5,y6,y7,reduceCtorEq,↓reduceIte,List.getElem?_set,hlen,t4,t5,e3,e4,s1]
    exact fin hrarr hS hO7
   | false =>
    rw [hcl,if_neg Bool.false_ne_true] at hrarr
    simp only [sxZ,z5,z6,z7,z8,j4,j5,j6,j7,j8,j9,y3,y4,y5,y6,y7,reduceCtorEq,↓reduceIte,List.getElem?_set,hlen]
    subst hZ
    refine zaa fun Z hZ => ?_
    refine zaz (fun o tm => zaE ((p,zaB s (zaP ρ3 T2 44)) :: (qt,zaL T2) :: (qv,jvB 6 .nil X') :: (qr,zvB) :: (R' ++ L)) o ∧ tm.length=49 ∧ tm[0]? = some (.p p 0) ∧ tm[1]? = some (.i .i64 (d:Int)) ∧ tm[4]? = some (.p qr 0) ∧ tm[5]? = some (.p qv 0) ∧ tm[6]? = some (.p qt 0)) ?_ ?_
    ·refine zaa fun W hW => ?_
     by_cases c3:ρ3.fail=0
     rotate_left
     ·have hw:zaP ρ3 T2 44=ρ3:=by unfold zaP; rw [if_neg (fun h => c3 h.1)]
      simp only [sxZ,z5,z6,z7,z8,j4,j5,j6,j7,j8,j9,y3,y4,y5,y6,y7,reduceCtorEq,↓reduceIte,List.getElem?_set,hlen,t0,e1,c3]
      subst hW
      simp only [sxZ,z5,z6,z7,z8,j4,j5,j6,j7,j8,j9,y3,y4,y5,y6,y7,reduceCtorEq,↓reduceIte,zac,List.length_set,List.getElem?_set,hlen,t0,t1,t4,t5,t6,hw,and_self,and_true]
      exact hO7
     ·simp only [sxZ,z5,z6,z7,z8,j4,j5,j6,j7,j8,j9,y3,y4,y5,y6,y7,reduceCtorEq,↓reduceIte,List.getElem?_set,hlen,t0,t6,e1,e2,c3]
      refine zak (zew T2 44 ?_)
      cases h44:isP T2 44 with
      | true =>
       have hw:zaP ρ3 T2 44=ρ3:=by unfold zaP; rw [if_neg (fun h => by rw [h44] at h; cases h.2)]
       simp only [sxZ,z5,z6,z7,z8,j4,j5,j6,j7,j8,j9,y3,y4,y5,y6,y7,reduceCtorEq,↓reduceIte,List.getElem?_set,hlen]
       subst hW
       simp only [sxZ,z5,z6,z7,z8,j4,j5,j6,j7,j8,j9,y3,y4,y5,y6,y7,reduceCtorEq,↓reduceIte,zac,List.length_set,List.getElem?_set,hlen,t0,t1,t4,t5,t6,hw,and_self,and_true]
       exact hO7
      | false =>
       have hw:zaP ρ3 T2 44=zaK ρ3 T2.2.2 140:=by unfold zaP; rw [if_pos ⟨c3,h44⟩]
       simp only [sxZ,z5,z6,z7,z8,j4,j5,j6,j7,j8,j9,y3,y4,y5,y6,y7,reduceCtorEq,↓reduceIte,List.getElem?_set,hlen]
       subst hW
       simp only [sxZ,z5,z6,z7,z8,j4,j5,j6,j7,j8,j9,y3,y4,y5,y6,y7,reduceCtorEq,↓reduceIte,List.getElem?_set,hlen,t0,t6,e2]
       refine zak (zbV hO7 T2.2.2 140 fun o8 hO8 => ?_)
       simp only [sxZ,z5,z6,z7,z8,j4,j5,j6,j7,j8,j9,y3,y4,y5,y6,y7,reduceCtorEq,↓reduceIte,zac,List.length_set,List.getElem?_set,hlen,t0,t1,t4,t5,t6,hw,and_self,and_true]
       exact hO8
    ·clear hO7 hlen t0 t1 t4 t5 t6 e1 e2 e3 e4 s1 s2 s3
     rintro o8 tm ⟨hO8,hlen,t0,t1,t4,t5,t6⟩
     subst hZ
     have hB3:=zdP hB2.1 T2 44
     have hn3:=zdA ρ3 T2 44
     have hfz3:=zdB ρ3 T2 44
     generalize zaP ρ3 T2 44=ρ4 at hO8 hB3 hn3 hfz3 hrarr
     simp only [sxZ,z5,z6,z7,z8,j4,j5,j6,j7,j8,j9,y3,y4,y5,y6,y7,reduceCtorEq,↓reduceIte,List.getElem?_set,hlen,t0]
     refine zak (zb8 (by omega) hO8 fun o9 hO9 => ?_)
     have hB4:=za8 hB3
     have hT4:=zbp hB3
     have hn4:=za0 s ρ4
     have hfz4:=zbQ s ρ4
     generalize zaf s ρ4=N at hO9 hB4 hT4 hn4 hfz4 hrarr ⊢
     obtain ⟨T5,ρ5⟩:=N
     simp only at hO9 hB4 hT4 hn4 hfz4 hrarr ⊢
     obtain ⟨e1,e2,e3,e4,s1,s2,s3⟩:=st _ _ _ _ _ hO9
     unfold zgd tkC
     simp only [sxZ,z5,z6,z7,z8,j4,j5,j6,j7,j8,j9,y3,y4,y5,y6,y7,reduceCtorEq,↓reduceIte,List.getElem?_set,hlen,t6,e2,s2]
     rw [f1]
     have hO10:zaE ((p,zaB s ρ5) :: (qt,zaL T5) :: (qv,jvB 6 .nil X') :: (qr,zvB) :: (R' ++ L)) (o9.set qt (zaL (T5.1,T5.2.1,T5.2.2))):=zaE.set (A:=[(p,zaB s ρ5)]) (zaL T5) hO9
     generalize o9.set qt (zaL (T5.1,T5.2.1,T5.2.2))=o10 at hO10 ⊢
     refine ⟨m,by omega,i + 1,ρ5,T5,acc ++ [v],X',R',by omega,by rw [List.length_append,hi]; rfl,hrarr,hB4.1,hB4.2,hT4,fun hf => ?_,hS,hO10,?_⟩
     ·have q4:ρ4.fail=0:=by
       by_cases c:ρ4.fail=0
       ·exact c
       ·exact absurd ((hfz4 c).1.symm.trans hf) c
      have q3:ρ3.fail=0:=by
       by_cases c:ρ3.fail=0
       ·exact c
       ·exact absurd ((hfz3 c).1.symm.trans q4) c
      have q2:ρ2.fail=0:=by
       by_cases c:ρ2.fail=0
       ·exact c
       ·exact absurd ((hfz c).1.symm.trans q3) c
      have:=hn1 q2
      have:=hnd c1
      omega
     ·simp only [sxZ,z5,z6,z7,z8,j4,j5,j6,j7,j8,j9,y3,y4,y5,y6,y7,reduceCtorEq,↓reduceIte,List.length_set,List.getElem?_set,hlen,t0,t1,t4,t5,t6,and_self]
end
end
section
attribute [local irreducible] run
def SlP (ks:List (List UInt8)) (its:List JV) (X:AV) (R1:List (Nat × OB)) (Y:AV) (R2:List (Nat × OB)):Prop :=
 (ks=[] ∧ its=[] ∧ X=.nil ∧ R1=[] ∧ Y=.nil ∧ R2=[]) ∨ ∃ b1 g1 b2 g2,X=.orow b1 g1 ∧ R1=[(b1,.orow 9 1 g1 ks.length (ks.map .s))] ∧ Y=.orow b2 g2 ∧ R2=[(b2,.orow 25 4 g2 its.length (zab its))]
theorem SlP.k {ks:List (List UInt8)} {its:List JV} {X Y:AV} {R1 R2:List (Nat × OB)} (h:SlP ks its X R1 Y R2):SlO 9 1 ks.length (ks.map .s) X R1:=by
 rcases h with ⟨rfl,rfl,rfl,rfl,rfl,rfl⟩ | ⟨b1,g1,b2,g2,rfl,rfl,rfl,rfl⟩
 ·exact .inl ⟨rfl,rfl,rfl,rfl⟩
 ·exact .inr ⟨_,_,rfl,rfl⟩
theorem SlP.i {ks:List (List UInt8)} {its:List JV} {X Y:AV} {R1 R2:List (Nat × OB)} (h:SlP ks its X R1 Y R2):SlO 25 4 its.length (zab its) Y R2:=by
 rcases h with ⟨rfl,rfl,rfl,rfl,rfl,rfl⟩ | ⟨b1,g1,b2,g2,rfl,rfl,rfl,rfl⟩
 ·exact .inl ⟨rfl,zaw,rfl,rfl⟩
 ·exact .inr ⟨_,_,rfl,rfl⟩
theorem SlP.flat {ks:List (List UInt8)} {its:List JV} {X Y:AV} {R1 R2:List (Nat × OB)} (h:SlP ks its X R1 Y R2):X.flat=true ∧ Y.flat=true:=by
 rcases h with ⟨rfl,rfl,rfl,rfl,rfl,rfl⟩ | ⟨b1,g1,b2,g2,rfl,rfl,rfl,rfl⟩ <;> exact ⟨rfl,rfl⟩
section
variable [Tabs Try.prog] [Utf Try.prog] {objs:List OB} {K:List OB → AV → Prop} {L:List (Nat × OB)} {p:Nat} {s:List UInt8} {ρ:Rs}
theorem object_k {val:Rs → Tk → JV × Rs} {d:Nat} (hv:ValK s p d val) (hg:GV s val) (hn:∀ ρ t,(val ρ t).2.fail=0 → ρ.nodes + 1 ≤ (val ρ t).2.nodes) (hvz:ValFroz val) (hs:s.length ≤ 1048576) (hB:GB s ρ) (hC:zaD ((p,zaB s ρ) :: L)) (hO:zaE ((p,zaB s ρ) :: L) objs)
  (hk:∀ o,zaE ((p,zaB s (zeY s val ρ).2) :: L) o → K o (.agg (zaj (zeY s val ρ).1))):zah Try.prog 53 [.p p 0,.i .i64 (d:Int)] objs K:=by
 refine zkt (E1:=9) (s1:=1) (E2:=25) (s2:=4) (zeY s val ρ).1 (zeL hC) hk ?_
 refine zbb is_ref14_parser_object fun C _ => ?_
 have fin:∀ {o:List OB} {ρ':Rs} {ks:List (List UInt8)} {its:List JV} {X Y:AV} {R1 R2:List (Nat × OB)} {qt qv qr:Nat} {T V W:OB},zeY s val ρ=(.mk 7 [] ks its,ρ') → SlP ks its X R1 Y R2 → zaE ((p,zaB s ρ') :: (qt,T) :: (qv,V) :: (qr,W) :: (R1 ++ (R2 ++ L))) o →
   ∃ X' R1 Y' R2,SlO 9 1 (zeY s val ρ).1.keys.length ((zeY s val ρ).1.keys.map .s) X' R1 ∧ SlO 25 4 (zeY s val ρ).1.items.length (zab (zeY s val ρ).1.items) Y' R2 ∧ zaE ((p,zaB s (zeY s val ρ).2) :: (R1 ++ (R2 ++ L))) (o.set qr (jvB 7 X Y)) ∧ AV.agg [.i .i64 7,.s [],X,Y]=.agg [.i .i64 (zeY s val ρ).1.kind,.s (zeY s val ρ).1.text,X',Y']:=by
  intro o ρ' ks its X Y R1 R2 qt qv qr T V W he hS hO
  rw [he]
  refine ⟨X,R1,Y,R2,hS.k,hS.i,?_,rfl⟩
  exact (zaE.set (A:=[(p,zaB s ρ'),(qt,T),(qv,V)]) (jvB 7 X Y) hO).sub ((((List.sublist_cons_self _ _).trans (List.sublist_cons_self _ _)).trans (List.sublist_cons_self _ _)).cons_cons _)
 rw [c_ref14_parser_object]
 refine zaa fun Z0 hZ0 => ?_
 simp only [sxZ,z5,z6,z7,z8,j4,j5,j6,j7,j8,j9,y3,y4,y5,y6,y7,reduceCtorEq,↓reduceIte]
 have hO1:=hO.new zvB
 unfold zvB at hO1
 generalize hqr:objs.length=qr at hO1 ⊢
 generalize objs ++ [OB.box 25 [.i .i64 0,.s [],.nil,.nil]]=o1 at hO1 ⊢
 subst hZ0
 refine zaa fun Z0 hZ0 => ?_
 simp only [sxZ,z5,z6,z7,z8,j4,j5,j6,j7,j8,j9,y3,y4,y5,y6,y7,reduceCtorEq,↓reduceIte,gn1,sn1]
 have hO2:=hO1.new (jvB 7 .nil .nil)
 unfold jvB at hO2
 generalize hqv:o1.length=qv at hO2 ⊢
 generalize o1 ++ [OB.box 25 [.i .i64 7,.s [],.nil,.nil]]=o2 at hO2 ⊢
 subst hZ0
 refine zaa fun Z0 hZ0 => ?_
 simp only [sxZ,z5,z6,z7,z8,j4,j5,j6,j7,j8,j9,y3,y4,y5,y6,y7,reduceCtorEq,↓reduceIte]
 have hO2':zaE ((p,zaB s ρ) :: (qv,jvB 7 .nil .nil) :: (qr,zvB) :: L) o2:=hO2.perm ((List.Perm.cons _ (List.Perm.swap _ _ _)).trans (List.Perm.swap _ _ _))
 refine zak (zb8 (by omega) hO2' fun o3 hO3 => ?_)
 have hB1:=za8 hB
 have hT1:=zbp hB
 have hrobj:zeY s val ρ=if isP (zaf s ρ).1 125=true then (.mk 7 [] [] [],(zaf s ρ).2) else (.mk 7 [] (zbA s val (s.length + 2) (zaf s ρ).2 (zaf s ρ).1 [] []).1.1 (zbA s val (s.length + 2) (zaf s ρ).2 (zaf s ρ).1 [] []).1.2,(zbA s val (s.length + 2) (zaf s ρ).2 (zaf s ρ).1 [] []).2):=rfl
 generalize zaf s ρ=N at hO3 hB1 hT1 hrobj ⊢
 obtain ⟨T,ρ1⟩:=N
 simp only at hO3 hB1 hT1 hrobj ⊢
 unfold zgd tkC
 simp only [sxZ,z5,z6,z7,z8,j4,j5,j6,j7,j8,j9,y3,y4,y5,y6,y7,reduceCtorEq,↓reduceIte,gn1,sn1]
 have f1:∀ x y z,OB.box 59 [.i .i64 x,.s y,.i .i64 z]=zaL (x,y,z):=fun _ _ _ => rfl
 rw [f1]
 have hO4:=hO3.new (zaL T)
 have hO4:zaE ((p,zaB s ρ1) :: (o3.length,zaL T) :: (qv,jvB 7 .nil .nil) :: (qr,zvB) :: ([] ++ ([] ++ L))) (o3 ++ [zaL T]):=hO4.perm (List.Perm.swap _ _ _)
 generalize o3.length=qt at hO4 ⊢
 generalize o3 ++ [zaL (T.1,T.2.1,T.2.2)]=o4 at hO4 ⊢
 have st:∀ (o:List OB) (ρ':Rs) (T':Tk) (X:AV) (R1:List (Nat × OB)) (Y:AV) (R2:List (Nat × OB)),zaE ((p,zaB s ρ') :: (qt,zaL T') :: (qv,jvB 7 X Y) :: (qr,zvB) :: (R1 ++ (R2 ++ L))) o → o[p]? = some (.box 56 [.s s,.i .i64 ρ'.pos,.i .i64 (ρ'.nodes:Int),.i .i64 ρ'.fail,.i .i64 ρ'.wh]) ∧ o[qt]? = some (.box 59 [.i .i64 T'.1,.s T'.2.1,.i .i64 T'.2.2]) ∧ o[qv]? = some (.box 25 [.i .i64 7,.s [],X,Y]) ∧ o[qr]? = some (.box 25 [.i .i64 0,.s [],.nil,.nil]) ∧ (∀ x,(o.set qr x)[qr]? = some x) ∧ (∀ x,(o.set qt x)[qt]? = some x) ∧ (∀ x,(o.set qv x)[qv]? = some x) :=
  fun o ρ' T' X R1 Y R2 h => ⟨h.get (by simp [zaB]),h.get (by simp [zaL,tkC]),h.get (by simp [jvB]),h.get (by simp [zvB]),fun x => List.getElem?_set_self (h.lt (i:=qr) (x:=zvB) (by simp)),fun x => List.getElem?_set_self (h.lt (i:=qt) (x:=zaL T') (by simp)),fun x => List.getElem?_set_self (h.lt (i:=qv) (x:=jvB 7 X Y) (by simp))⟩
 subst hZ0
 refine zaa fun Z0 hZ0 => ?_
 obtain ⟨e1,e2,e3,e4,s1,s2,s3⟩:=st _ _ _ _ _ _ _ hO4
 simp only [sxZ,z5,z6,z7,z8,j4,j5,j6,j7,j8,j9,y3,y4,y5,y6,y7,reduceCtorEq,↓reduceIte,e2]
 refine zak (zew T 125 ?_)
 cases hcl:isP T 125 with
 | true =>
  rw [hcl,if_pos rfl] at hrobj
  simp only [sxZ,z5,z6,z7,z8,j4,j5,j6,j7,j8,j9,y3,y4,y5,y6,y7,reduceCtorEq,↓reduceIte,e3,e4,s1]
  exact fin hrobj (.inl ⟨rfl,rfl,rfl,rfl,rfl,rfl⟩) hO4
 | false =>
  rw [hcl,if_neg Bool.false_ne_true] at hrobj
  simp only [sxZ,z5,z6,z7,z8,j4,j5,j6,j7,j8,j9,y3,y4,y5,y6,y7,reduceCtorEq,↓reduceIte]
  subst hZ0
  refine zaa fun Z0 hZ0 => ?_
  clear e1 e2 e3 e4 s1 s2 s3
  simp only [sxZ,z5,z6,z7,z8,j4,j5,j6,j7,j8,j9,y3,y4,y5,y6,y7,reduceCtorEq,↓reduceIte]
  refine zaC (fun n o tm => ∃ (i:Nat) (ρ':Rs) (T':Tk) (ks:List (List UInt8)) (its:List JV) (X:AV) (R1:List (Nat × OB)) (Y:AV) (R2:List (Nat × OB)),n=s.length + 2 - i ∧ ks.length=i ∧ its.length=i ∧ zeY s val ρ=(.mk 7 [] (zbA s val n ρ' T' ks its).1.1 (zbA s val n ρ' T' ks its).1.2,(zbA s val n ρ' T' ks its).2) ∧ GB s ρ' ∧ T'.2.1.length ≤ s.length ∧ (ρ'.fail=0 → i ≤ ρ'.nodes) ∧ SlP ks its X R1 Y R2 ∧ zaE ((p,zaB s ρ') :: (qt,zaL T') :: (qv,jvB 7 X Y) :: (qr,zvB) :: (R1 ++ (R2 ++ L))) o ∧
    tm.length=98 ∧ tm[0]? = some (.p p 0) ∧ tm[1]? = some (.i .i64 (d:Int)) ∧ tm[4]? = some (.p qr 0) ∧ tm[5]? = some (.p qv 0) ∧ tm[6]? = some (.p qt 0)) (s.length + 2) ⟨0,ρ1,T,[],[],.nil,[],.nil,[],rfl,rfl,rfl,hrobj,hB1.1,hT1,fun _ => Nat.zero_le _,.inl ⟨rfl,rfl,rfl,rfl,rfl,rfl⟩,hO4,rfl,rfl,rfl,rfl,rfl,rfl⟩ ?_
  clear hO hO1 hO2 hO2' hO3 hO4 hrobj hB1 hT1 hcl
  rintro n o tm ⟨i,ρ',T',ks,its,X,R1,Y,R2,rfl,hi,hi2,hrobj,hGB,hTx,hnd,hS,hO,hlen,t0,t1,t4,t5,t6⟩
  obtain ⟨e1,e2,e3,e4,s1,s2,s3⟩:=st _ _ _ _ _ _ _ hO
  refine zaa fun Z hZ => ?_
  by_cases c1:ρ'.fail=0
  rotate_left
  ·have he:zbA s val (s.length + 2 - i) ρ' T' ks its=((ks,its),ρ'):=by
    cases s.length + 2 - i with
    | zero => rw [zbA]
    | succ m => rw [zbA,if_pos c1]
   rw [he] at hrobj
   simp only [sxZ,z5,z6,z7,z8,j4,j5,j6,j7,j8,j9,y3,y4,y5,y6,y7,reduceCtorEq,↓reduceIte,List.getElem?_set,hlen,t0,e1,c1]
   subst hZ
   subst hZ0
   simp only [sxZ,z5,z6,z7,z8,j4,j5,j6,j7,j8,j9,y3,y4,y5,y6,y7,reduceCtorEq,↓reduceIte,List.getElem?_set,hlen,t4,t5,e3,e4,s1,hS.flat.1,hS.flat.2]
   exact fin hrobj hS hO
  have hil:i ≤ s.length:=by
   have h1:=hnd c1
   have h2:=hGB.n0 c1
   have h3:=hGB.p1
   omega
  obtain ⟨m,hm⟩:∃ m,s.length + 2 - i=m + 1:=⟨s.length + 1 - i,by omega⟩
  rw [hm,zbA,if_neg (fun h => h c1)] at hrobj
  simp only at hrobj
  simp only [sxZ,z5,z6,z7,z8,j4,j5,j6,j7,j8,j9,y3,y4,y5,y6,y7,reduceCtorEq,↓reduceIte,List.getElem?_set,hlen,t0,e1,c1]
  subst hZ
  rw [zaH]
  clear s1 s2 s3 e1 e4
  refine zaa fun Z hZ => ?_
  have hk1:∀ t,t=ks → zjl ρ' T' t=(if T'.2.1 ∈ ks then zaK (if ¬ T'.1=3 then zaK ρ' T'.2.2 140 else ρ') T'.2.2 143 else if ¬ T'.1=3 then zaK ρ' T'.2.2 140 else ρ'):=fun t h => by rw [h]; rfl
  have hk1:=hk1 ks rfl
  have hGk:=gb_key hGB T' ks
  have hnk:=rkey_n ρ' T' ks
  generalize hρa:(if ¬ T'.1=3 then zaK ρ' T'.2.2 140 else ρ')=ρa at hk1
  refine zaz (fun o tm => zaE ((p,zaB s ρa) :: (qt,zaL T') :: (qv,jvB 7 X Y) :: (qr,zvB) :: (R1 ++ (R2 ++ L))) o ∧ tm.length=98 ∧ tm[0]? = some (.p p 0) ∧ tm[1]? = some (.i .i64 (d:Int)) ∧ tm[4]? = some (.p qr 0) ∧ tm[5]? = some (.p qv 0) ∧ tm[6]? = some (.p qt 0)) ?_ ?_
  ·refine zaa fun W hW => ?_
   by_cases c3:T'.1=3
   ·rw [if_neg (fun h => h c3)] at hρa
    subst hρa
    simp only [sxZ,z5,z6,z7,z8,j4,j5,j6,j7,j8,j9,y3,y4,y5,y6,y7,reduceCtorEq,↓reduceIte,List.getElem?_set,hlen,t6,e2,c3]
    subst hW
    simp only [sxZ,z5,z6,z7,z8,j4,j5,j6,j7,j8,j9,y3,y4,y5,y6,y7,reduceCtorEq,↓reduceIte,zac,List.length_set,List.getElem?_set,hlen,t0,t1,t4,t5,t6,and_self,and_true]
    exact hO
   ·rw [if_pos c3] at hρa
    simp only [sxZ,z5,z6,z7,z8,j4,j5,j6,j7,j8,j9,y3,y4,y5,y6,y7,reduceCtorEq,↓reduceIte,List.getElem?_set,hlen,t6,e2,c3]
    subst hW
    simp only [sxZ,z5,z6,z7,z8,j4,j5,j6,j7,j8,j9,y3,y4,y5,y6,y7,reduceCtorEq,↓reduceIte,List.getElem?_set,hlen,t0,t6,e2]
    refine zak (zbV hO T'.2.2 140 fun o8 hO8 => ?_)
    rw [hρa] at hO8
    simp only [sxZ,z5,z6,z7,z8,j4,j5,j6,j7,j8,j9,y3,y4,y5,y6,y7,reduceCtorEq,↓reduceIte,zac,List.length_set,List.getElem?_set,hlen,t0,t1,t4,t5,t6,and_self,and_true]
    exact hO8
  clear hO hlen t0 t1 t4 t5 t6 e2 e3
  rintro oa tm ⟨hO,hlen,t0,t1,t4,t5,t6⟩
  subst hZ
  refine zaa fun Z hZ => ?_
  refine zaz (fun o tm => zaE ((p,zaB s (zjl ρ' T' ks)) :: (qt,zaL T') :: (qv,jvB 7 X Y) :: (qr,zvB) :: (R1 ++ (R2 ++ L))) o ∧ tm.length=98 ∧ tm[0]? = some (.p p 0) ∧ tm[1]? = some (.i .i64 (d:Int)) ∧ tm[4]? = some (.p qr 0) ∧ tm[5]? = some (.p qv 0) ∧ tm[6]? = some (.p qt 0)) ?_ ?_
  ·obtain ⟨e1,e2,e3,e4,s1,s2,s3⟩:=st _ _ _ _ _ _ _ hO
   refine zaa fun W hW => ?_
   have hPerm:((p,zaB s ρa) :: (qt,zaL T') :: (qv,jvB 7 X Y) :: (qr,zvB) :: (R1 ++ (R2 ++ L))).Perm (R1 ++ (R2 ++ ((p,zaB s ρa) :: (qt,zaL T') :: (qv,jvB 7 X Y) :: (qr,zvB) :: L))):=by
    have h0:∀ (A B C:List (Nat × OB)),(A ++ (B ++ C)).Perm (B ++ (A ++ C)):=fun A B C => by
     rw [← List.append_assoc,← List.append_assoc]
     exact List.Perm.append_right C List.perm_append_comm
    refine (h0 [(p,zaB s ρa),(qt,zaL T'),(qv,jvB 7 X Y),(qr,zvB)] R1 (R2 ++ L)).trans ?_
    exact List.Perm.append_left R1 (h0 [(p,zaB s ρa),(qt,zaL T'),(qv,jvB 7 X Y),(qr,zvB)] R2 L)
   simp only [sxZ,z5,z6,z7,z8,j4,j5,j6,j7,j8,j9,y3,y4,y5,y6,y7,reduceCtorEq,↓reduceIte,List.getElem?_set,hlen,t5,t6,e2,e3]
   refine zak (zkv ks its T'.2.1 (by omega) (by omega) hS.k hS.i (hO.perm hPerm) (fun hm o w ho => ?_) (fun hm o ho => ?_))
   ·have ho:=ho.perm hPerm.symm
    rw [if_pos hm] at hk1
    rw [zad]
    simp only [sxZ,z5,z6,z7,z8,j4,j5,j6,j7,j8,j9,y3,y4,y5,y6,y7,reduceCtorEq,↓reduceIte,List.getElem?_set,hlen,gn1,sn1]
    have ho2:=ho.app [OB.box 25 [.i .i64 w.kind,.s w.text,.row w.keys.length (w.keys.map .s),.row w.items.length (zab w.items)]]
    obtain ⟨e1',e2',e3',_,_,_,_⟩:=st _ _ _ _ _ _ _ ho2
    subst hW
    simp only [sxZ,z5,z6,z7,z8,j4,j5,j6,j7,j8,j9,y3,y4,y5,y6,y7,reduceCtorEq,↓reduceIte,List.getElem?_set,hlen,t0,t6,e2']
    refine zak (zbV ho2 T'.2.2 143 fun o8 hO8 => ?_)
    rw [← hk1] at hO8
    simp only [sxZ,z5,z6,z7,z8,j4,j5,j6,j7,j8,j9,y3,y4,y5,y6,y7,reduceCtorEq,↓reduceIte,zac,List.length_set,List.getElem?_set,hlen,t0,t1,t4,t5,t6,and_self,and_true]
    exact hO8
   ·have ho:=ho.perm hPerm.symm
    rw [if_neg hm] at hk1
    simp only [sxZ,z5,z6,z7,z8,j4,j5,j6,j7,j8,j9,y3,y4,y5,y6,y7,reduceCtorEq,↓reduceIte,List.getElem?_set,hlen,gn1,sn1]
    have ho2:=ho.app [OB.box 25 [.i .i64 0,.s [],.nil,.nil]]
    subst hW
    rw [← hk1] at ho2
    simp only [sxZ,z5,z6,z7,z8,j4,j5,j6,j7,j8,j9,y3,y4,y5,y6,y7,reduceCtorEq,↓reduceIte,zac,List.length_set,List.getElem?_set,hlen,t0,t1,t4,t5,t6,and_self,and_true]
    exact ho2
  clear hO hlen t0 t1 t4 t5 t6 hk1 hρa
  generalize zjl ρ' T' ks=ρk at hrobj hGk hnk
  rintro ob tm ⟨hO,hlen,t0,t1,t4,t5,t6⟩
  subst hZ
  refine zaa fun Z hZ => ?_
  obtain ⟨e1,e2,e3,e4,s1,s2,s3⟩:=st _ _ _ _ _ _ _ hO
  simp only [sxZ,z5,z6,z7,z8,j4,j5,j6,j7,j8,j9,y3,y4,y5,y6,y7,reduceCtorEq,↓reduceIte,List.getElem?_set,hlen,t6,e2]
  refine zaY (fun tm => tm.length=98 ∧ tm[0]? = some (.p p 0) ∧ tm[1]? = some (.i .i64 (d:Int)) ∧ tm[4]? = some (.p qr 0) ∧ tm[5]? = some (.p qv 0) ∧ tm[6]? = some (.p qt 0) ∧ tm[9]? = some (.s T'.2.1)) ?_ ?_
  ·simp only [sxZ,z5,z6,z7,z8,j4,j5,j6,j7,j8,j9,y3,y4,y5,y6,y7,reduceCtorEq,↓reduceIte,List.length_set,List.getElem?_set,hlen,t0,t1,t4,t5,t6,and_self]
  clear hlen t0 t1 t4 t5 t6
  rintro tm ⟨hlen,t0,t1,t4,t5,t6,t9⟩
  subst hZ
  refine zaa fun Z hZ => ?_
  refine zaa fun W0 hW0 => ?_
  simp only [sxZ,z5,z6,z7,z8,j4,j5,j6,j7,j8,j9,y3,y4,y5,y6,y7,reduceCtorEq,↓reduceIte,List.getElem?_set,hlen,t0]
  refine zak (zb8 (by omega) hO fun o6 hO6 => ?_)
  have hB_ρ2:=za8 hGk
  have hT_ρ2:=zbp hGk
  have hn_ρ2:=za0 s ρk
  have hz_ρ2:=zbQ s ρk
  generalize zaf s ρk=N at hO6 hB_ρ2 hT_ρ2 hn_ρ2 hz_ρ2 hrobj ⊢
  obtain ⟨T2,ρ2⟩:=N
  simp only at hO6 hB_ρ2 hT_ρ2 hn_ρ2 hz_ρ2 hrobj ⊢
  obtain ⟨e1,e2,e3,e4,s1,s2,s3⟩:=st _ _ _ _ _ _ _ hO6
  unfold zgd tkC
  simp only [sxZ,z5,z6,z7,z8,j4,j5,j6,j7,j8,j9,y3,y4,y5,y6,y7,reduceCtorEq,↓reduceIte,List.getElem?_set,hlen,t6,e2,s2]
  rw [f1]
  have hO7:zaE ((p,zaB s ρ2) :: (qt,zaL T2) :: (qv,jvB 7 X Y) :: (qr,zvB) :: (R1 ++ (R2 ++ L))) (o6.set qt (zaL (T2.1,T2.2.1,T2.2.2))):=zaE.set (A:=[(p,zaB s ρ2)]) (zaL T2) hO6
  generalize o6.set qt (zaL (T2.1,T2.2.1,T2.2.2))=o7 at hO7 ⊢
  refine zaY (fun tm => tm.length=98 ∧ tm[0]? = some (.p p 0) ∧ tm[1]? = some (.i .i64 (d:Int)) ∧ tm[4]? = some (.p qr 0) ∧ tm[5]? = some (.p qv 0) ∧ tm[6]? = some (.p qt 0) ∧ tm[9]? = some (.s T'.2.1)) ?_ ?_
  ·simp only [sxZ,z5,z6,z7,z8,j4,j5,j6,j7,j8,j9,y3,y4,y5,y6,y7,reduceCtorEq,↓reduceIte,List.length_set,List.getElem?_set,hlen,t0,t1,t4,t5,t6,t9,and_self]
  clear hO6 hO hlen t0 t1 t4 t5 t6 t9 e1 e2 e3 e4 s1 s2 s3
  rintro tm ⟨hlen,t0,t1,t4,t5,t6,t9⟩
  have hO:=hO7
  clear hO7
  subst hW0
  refine zaz (fun o tm => zaE ((p,zaB s (zaP ρ2 T2 58)) :: (qt,zaL T2) :: (qv,jvB 7 X Y) :: (qr,zvB) :: (R1 ++ (R2 ++ L))) o ∧ tm.length=98 ∧ tm[0]? = some (.p p 0) ∧ tm[1]? = some (.i .i64 (d:Int)) ∧ tm[4]? = some (.p qr 0) ∧ tm[5]? = some (.p qv 0) ∧ tm[6]? = some (.p qt 0) ∧ tm[9]? = some (.s T'.2.1)) ?_ ?_
  ·obtain ⟨e1,e2,e3,e4,s1,s2,s3⟩:=st _ _ _ _ _ _ _ hO
   refine zaa fun W hW => ?_
   by_cases c3:ρ2.fail=0
   rotate_left
   ·have hw:zaP ρ2 T2 58=ρ2:=by unfold zaP; rw [if_neg (fun h => c3 h.1)]
    simp only [sxZ,z5,z6,z7,z8,j4,j5,j6,j7,j8,j9,y3,y4,y5,y6,y7,reduceCtorEq,↓reduceIte,List.getElem?_set,hlen,t0,e1,c3]
    subst hW
    simp only [sxZ,z5,z6,z7,z8,j4,j5,j6,j7,j8,j9,y3,y4,y5,y6,y7,reduceCtorEq,↓reduceIte,zac,List.length_set,List.getElem?_set,hlen,t0,t1,t4,t5,t6,t9,hw,and_self,and_true]
    exact hO
   ·simp only [sxZ,z5,z6,z7,z8,j4,j5,j6,j7,j8,j9,y3,y4,y5,y6,y7,reduceCtorEq,↓reduceIte,List.getElem?_set,hlen,t0,t6,e1,e2,c3]
    refine zak (zew T2 58 ?_)
    cases h44:isP T2 58 with
    | true =>
     have hw:zaP ρ2 T2 58=ρ2:=by unfold zaP; rw [if_neg (fun h => by rw [h44] at h; cases h.2)]
     simp only [sxZ,z5,z6,z7,z8,j4,j5,j6,j7,j8,j9,y3,y4,y5,y6,y7,reduceCtorEq,↓reduceIte,List.getElem?_set,hlen]
     subst hW
     simp only [sxZ,z5,z6,z7,z8,j4,j5,j6,j7,j8,j9,y3,y4,y5,y6,y7,reduceCtorEq,↓reduceIte,zac,List.length_set,List.getElem?_set,hlen,t0,t1,t4,t5,t6,t9,hw,and_self,and_true]
     exact hO
    | false =>
     have hw:zaP ρ2 T2 58=zaK ρ2 T2.2.2 140:=by unfold zaP; rw [if_pos ⟨c3,h44⟩]
     simp only [sxZ,z5,z6,z7,z8,j4,j5,j6,j7,j8,j9,y3,y4,y5,y6,y7,reduceCtorEq,↓reduceIte,List.getElem?_set,hlen]
     subst hW
     simp only [sxZ,z5,z6,z7,z8,j4,j5,j6,j7,j8,j9,y3,y4,y5,y6,y7,reduceCtorEq,↓reduceIte,List.getElem?_set,hlen,t0,t6,e2]
     refine zak (zbV hO T2.2.2 140 fun o8 hO8 => ?_)
     simp only [sxZ,z5,z6,z7,z8,j4,j5,j6,j7,j8,j9,y3,y4,y5,y6,y7,reduceCtorEq,↓reduceIte,zac,List.length_set,List.getElem?_set,hlen,t0,t1,t4,t5,t6,t9,hw,and_self,and_true]
     exact hO8
  clear hO hlen t0 t1 t4 t5 t6 t9
  rintro oc tm ⟨hO,hlen,t0,t1,t4,t5,t6,t9⟩
  have hG3:=zdP hB_ρ2.1 T2 58
  have hn3:=zdA ρ2 T2 58
  have hz3:=zdB ρ2 T2 58
  generalize zaP ρ2 T2 58=ρ3 at hO hG3 hn3 hz3 hrobj
  subst hZ
  refine zaa fun Z hZ => ?_
  simp only [sxZ,z5,z6,z7,z8,j4,j5,j6,j7,j8,j9,y3,y4,y5,y6,y7,reduceCtorEq,↓reduceIte,List.getElem?_set,hlen,t0]
  refine zak (zb8 (by omega) hO fun o6 hO6 => ?_)
  have hB4:=za8 hG3
  have hT4:=zbp hG3
  have hn4:=za0 s ρ3
  have hz4:=zbQ s ρ3
  generalize zaf s ρ3=N at hO6 hB4 hT4 hn4 hz4 hrobj ⊢
  obtain ⟨T4,ρ4⟩:=N
  simp only at hO6 hB4 hT4 hn4 hz4 hrobj ⊢
  have hvc:=fun {objs:List OB} {K:List OB → AV → Prop} {L:List (Nat × OB)} (h1) (h2) (h3) => hv (objs:=objs) (K:=K) (L:=L) (ρ:=ρ4) T4 hB4.1 hB4.2 hT4 h1 h2 h3
  have hg5:=hg ρ4 T4 hB4.1 hB4.2
  have hn5:=hn ρ4 T4
  have hz5:=hvz ρ4 T4
  generalize val ρ4 T4=a at hvc hg5 hn5 hz5 hrobj
  obtain ⟨v,ρ5⟩:=a
  simp only at hvc hg5 hn5 hz5 hrobj
  obtain ⟨c0,c1',c2,c3,hcv⟩:∃ c0 c1 c2 c3,zaj v=[c0,c1,c2,c3]:=⟨_,_,_,_,zad v⟩
  have hcf:(AV.agg [c0,c1',c2,c3]).flat=true:=by
   have:=zad v
   rw [hcv] at this
   injection this with q0 this
   injection this with q1 this
   injection this with q2 this
   injection this with q3 _
   subst q0 q1 q2 q3
   rfl
  have hCL:zaD ((p,zaB s ρ4) :: (qt,zaL T2) :: (qv,jvB 7 X Y) :: (qr,zvB) :: (R1 ++ (R2 ++ L))):=zff hS.k hS.i hC
  unfold zgd tkC
  simp only [sxZ,z5,z6,z7,z8,j4,j5,j6,j7,j8,j9,y3,y4,y5,y6,y7,reduceCtorEq,↓reduceIte,List.getElem?_set,hlen,t0,t1]
  refine zak (hvc hCL hO6 fun o7 hO7 => ?_)
  rw [hcv]
  simp only [sxZ,z5,z6,z7,z8,j4,j5,j6,j7,j8,j9,y3,y4,y5,y6,y7,reduceCtorEq,↓reduceIte,List.getElem?_set,hlen,gn1,sn1,hcf]
  have hO8:=hO7.new (.box 25 [c0,c1',c2,c3])
  generalize o7.length=qi at hO8 ⊢
  generalize o7 ++ [OB.box 25 [c0,c1',c2,c3]]=o8 at hO8 ⊢
  refine zaY (fun tm => tm.length=98 ∧ tm[0]? = some (.p p 0) ∧ tm[1]? = some (.i .i64 (d:Int)) ∧ tm[4]? = some (.p qr 0) ∧ tm[5]? = some (.p qv 0) ∧ tm[6]? = some (.p qt 0) ∧ tm[9]? = some (.s T'.2.1) ∧ tm[10]? = some (.p qi 0)) ?_ ?_
  ·simp only [sxZ,z5,z6,z7,z8,j4,j5,j6,j7,j8,j9,y3,y4,y5,y6,y7,reduceCtorEq,↓reduceIte,List.length_set,List.getElem?_set,hlen,t0,t1,t4,t5,t6,t9,and_self]
  clear hO hO6 hO7 hlen t0 t1 t4 t5 t6 t9
  rintro tm ⟨hlen,t0,t1,t4,t5,t6,t9,t10⟩
  subst hZ
  refine zaa fun Z hZ => ?_
  have hO8p:zaE ((p,zaB s ρ5) :: (qt,zaL T2) :: (qv,jvB 7 X Y) :: (qr,zvB) :: (R1 ++ (R2 ++ L))) o8:=hO8.sub (List.sublist_cons_self _ _)
  obtain ⟨e1,e2,e3,e4,s1,s2,s3⟩:=st _ _ _ _ _ _ _ hO8p
  have ei:=hO8.get (i:=qi) (x:=.box 25 [c0,c1',c2,c3]) (by simp)
  refine zaz (fun o tm => ∃ X' R1' Y' R2',SlP (ks ++ [T'.2.1]) (its ++ [v]) X' R1' Y' R2' ∧ zaE ((p,zaB s ρ5) :: (qt,zaL T2) :: (qv,jvB 7 X' Y') :: (qr,zvB) :: (R1' ++ (R2' ++ L))) o ∧ tm.length=98 ∧ tm[0]? = some (.p p 0) ∧ tm[1]? = some (.i .i64 (d:Int)) ∧ tm[4]? = some (.p qr 0) ∧ tm[5]? = some (.p qv 0) ∧ tm[6]? = some (.p qt 0)) ?_ ?_
  ·rcases hS with ⟨z1,z2,rfl,rfl,rfl,rfl⟩ | ⟨b1,g1,b2,g2,rfl,rfl,rfl,rfl⟩
   ·have hlq:=(List.getElem?_eq_some_iff.1 e3).1
    have hli:=(List.getElem?_eq_some_iff.1 ei).1
    have n1:¬ qv=o8.length:=by omega
    have n2:¬ qi=o8.length:=by omega
    have h1:∀ x,(o8 ++ [x])[qv]? = some (.box 25 [.i .i64 7,.s [],.nil,.nil]):=fun x => by rw [List.getElem?_append_left hlq]; exact e3
    have h2:∀ x,(o8 ++ [x])[qi]? = some (.box 25 [c0,c1',c2,c3]):=fun x => by rw [List.getElem?_append_left hli]; exact ei
    have h3:∀ x y,(o8 ++ [x] ++ [y])[qv]? = some (.box 25 [.i .i64 7,.s [],.nil,.nil]):=fun x y => by rw [List.getElem?_append_left (by simp; omega)]; exact h1 x
    have h4:∀ x y z,((o8 ++ [x] ++ [y]).set qv z)[qv]? = some z:=fun x y z => List.getElem?_set_self (by simp; omega)
    subst z1 z2
    simp only [sxZ,z5,z6,z7,z8,j4,j5,j6,j7,j8,j9,y3,y4,y5,y6,y7,reduceCtorEq,↓reduceIte,List.getElem?_set,hlen,t5,t9,t10,e3,ei,gn1,sn1,h1,h2,h3,h4,n1,n2,zac,List.length_set,List.set_set,t0,t1,t4,t6,and_self,and_true,not_false_eq_true,true_and]
    have hN:=(hO8p.new (.orow 9 1 0 1 [AV.s T'.2.1])).new (.orow 25 4 0 1 [c0,c1',c2,c3])
    have elen:(o8 ++ [OB.orow 9 1 0 1 [AV.s T'.2.1]]).length=o8.length + 1:=by simp
    rw [elen] at hN
    have hR:=hN.set (A:=[(o8.length + 1,OB.orow 25 4 0 1 [c0,c1',c2,c3]),(o8.length,OB.orow 9 1 0 1 [AV.s T'.2.1]),(p,zaB s ρ5),(qt,zaL T2)]) (jvB 7 (.orow o8.length 0) (.orow (o8.length + 1) 0))
    refine ⟨_,[(o8.length,OB.orow 9 1 0 1 [AV.s T'.2.1])],_,[(o8.length + 1,OB.orow 25 4 0 1 [c0,c1',c2,c3])],.inr ⟨_,_,_,_,rfl,rfl,rfl,by rw [zaA,zaw,hcv]; rfl⟩,hR.perm ?_⟩
    refine (List.perm_append_comm (l₁:=[(o8.length + 1,OB.orow 25 4 0 1 [c0,c1',c2,c3]),(o8.length,OB.orow 9 1 0 1 [AV.s T'.2.1])]) (l₂:=[(p,zaB s ρ5),(qt,zaL T2),(qv,jvB 7 (.orow o8.length 0) (.orow (o8.length + 1) 0)),(qr,zvB)])).append_right L |>.trans ?_
    exact List.Perm.cons _ (List.Perm.cons _ (List.Perm.cons _ (List.Perm.cons _ (List.Perm.swap _ _ _))))
   ·have eb1:=hO8.get (i:=b1) (x:=.orow 9 1 g1 ks.length (ks.map .s)) (by simp)
    have eb2:=hO8.get (i:=b2) (x:=.orow 25 4 g2 its.length (zab its)) (by simp)
    have hlq:=(List.getElem?_eq_some_iff.1 e3).1
    have hl1:=(List.getElem?_eq_some_iff.1 eb1).1
    have hl2:=(List.getElem?_eq_some_iff.1 eb2).1
    have hnd8:=hO8.1
    simp only [List.map_cons,List.map_append,List.map_nil,List.nodup_cons,List.cons_append,List.nil_append,List.mem_cons,List.mem_append,List.not_mem_nil,or_false,not_or] at hnd8
    have n1:¬ qv=b1:=hnd8.2.2.2.1.2.1
    have n2:¬ qi=b1:=hnd8.1.2.2.2.2.1
    have n3:¬ b1=b2:=hnd8.2.2.2.2.2.1.1
    have n4:¬ qv=b2:=hnd8.2.2.2.1.2.2.1
    have n1':¬ b1=qv:=fun h => n1 h.symm
    have n2':¬ b1=qi:=fun h => n2 h.symm
    have n4':¬ b2=qv:=fun h => n4 h.symm
    have h0:∀ x,(o8.set b1 x)[b1]? = some x:=fun x => List.getElem?_set_self hl1
    have h1:∀ x,(o8.set b1 x)[qv]? = some (.box 25 [.i .i64 7,.s [],.orow b1 g1,.orow b2 g2]):=fun x => by rw [List.getElem?_set_ne n1']; exact e3
    have h2:∀ x,(o8.set b1 x)[qi]? = some (.box 25 [c0,c1',c2,c3]):=fun x => by rw [List.getElem?_set_ne n2']; exact ei
    have h5:∀ x,(o8.set b1 x)[b2]? = some (.orow 25 4 g2 its.length (zab its)):=fun x => by rw [List.getElem?_set_ne n3]; exact eb2
    have h3:∀ x y,((o8.set b1 x).set b2 y)[qv]? = some (.box 25 [.i .i64 7,.s [],.orow b1 g1,.orow b2 g2]):=fun x y => by rw [List.getElem?_set_ne n4']; exact h1 x
    have h4:∀ x y z,(((o8.set b1 x).set b2 y).set qv z)[qv]? = some z:=fun x y z => List.getElem?_set_self (by simp; omega)
    have hjl:=zay its
    simp only [sxZ,z5,z6,z7,z8,j4,j5,j6,j7,j8,j9,y3,y4,y5,y6,y7,reduceCtorEq,↓reduceIte,List.getElem?_set,hlen,t5,t9,t10,e3,ei,eb1,h0,h1,h2,h3,h4,h5,n1,n2,zac,List.length_set,List.set_set,t0,t1,t4,t6,and_self,and_true,not_false_eq_true,true_and]
    refine ⟨⟨by omega,by omega⟩,⟨by omega,by omega⟩,?_⟩
    have hN:=hO8p.set (A:=[(p,zaB s ρ5),(qt,zaL T2),(qv,jvB 7 (.orow b1 g1) (.orow b2 g2)),(qr,zvB)]) (.orow 9 1 (g1 + 1) (ks.length + 1) (ks.map AV.s ++ [AV.s T'.2.1]))
    have hN:=hN.set (A:=[(p,zaB s ρ5),(qt,zaL T2),(qv,jvB 7 (.orow b1 g1) (.orow b2 g2)),(qr,zvB),(b1,OB.orow 9 1 (g1 + 1) (ks.length + 1) (ks.map AV.s ++ [AV.s T'.2.1]))]) (.orow 25 4 (g2 + 1) (its.length + 1) (zab its ++ [c0,c1',c2,c3]))
    have hR:=hN.set (A:=[(p,zaB s ρ5),(qt,zaL T2)]) (jvB 7 (.orow b1 (g1 + 1)) (.orow b2 (g2 + 1)))
    exact ⟨_,[(b1,OB.orow 9 1 (g1 + 1) (ks.length + 1) (ks.map AV.s ++ [AV.s T'.2.1]))],_,[(b2,OB.orow 25 4 (g2 + 1) (its.length + 1) (zab its ++ [c0,c1',c2,c3]))],.inr ⟨_,_,_,_,rfl,by rw [List.map_append,List.length_append]; rfl,rfl,by rw [zdb,zaA,zaw,hcv,List.length_append]; rfl⟩,hR⟩
  clear hO8 hO8p hS hlen t0 t1 t4 t5 t6 t9 t10 e1 e2 e3 e4 s1 s2 s3 ei hCL hvc hv hg hn hcf hB hGB hTx
  rintro oc tm ⟨X',R1',Y',R2',hS,hO,hlen,t0,t1,t4,t5,t6⟩
  subst hZ
  refine zaa fun Z hZ => ?_
  simp only [sxZ,z5,z6,z7,z8,j4,j5,j6,j7,j8,j9,y3,y4,y5,y6,y7,reduceCtorEq,↓reduceIte,List.getElem?_set,hlen,t0]
  refine zak (zb8 (by omega) hO fun o6 hO6 => ?_)
  have hB_ρ6:=za8 hg5
  have hT_ρ6:=zbp hg5
  have hn_ρ6:=za0 s ρ5
  have hz_ρ6:=zbQ s ρ5
  generalize zaf s ρ5=N at hO6 hB_ρ6 hT_ρ6 hn_ρ6 hz_ρ6 hrobj ⊢
  obtain ⟨T6,ρ6⟩:=N
  simp only at hO6 hB_ρ6 hT_ρ6 hn_ρ6 hz_ρ6 hrobj ⊢
  obtain ⟨e1,e2,e3,e4,s1,s2,s3⟩:=st _ _ _ _ _ _ _ hO6
  unfold zgd tkC
  simp only [sxZ,z5,z6,z7,z8,j4,j5,j6,j7,j8,j9,y3,y4,y5,y6,y7,reduceCtorEq,↓reduceIte,List.getElem?_set,hlen,t6,e2,s2]
  rw [f1]
  have hO7:zaE ((p,zaB s ρ6) :: (qt,zaL T6) :: (qv,jvB 7 X' Y') :: (qr,zvB) :: (R1' ++ (R2' ++ L))) (o6.set qt (zaL (T6.1,T6.2.1,T6.2.2))):=zaE.set (A:=[(p,zaB s ρ6)]) (zaL T6) hO6
  generalize o6.set qt (zaL (T6.1,T6.2.1,T6.2.2))=o7 at hO7 ⊢
  refine zaY (fun tm => tm.length=98 ∧ tm[0]? = some (.p p 0) ∧ tm[1]? = some (.i .i64 (d:Int)) ∧ tm[4]? = some (.p qr 0) ∧ tm[5]? = some (.p qv 0) ∧ tm[6]? = some (.p qt 0)) ?_ ?_
  ·simp only [sxZ,z5,z6,z7,z8,j4,j5,j6,j7,j8,j9,y3,y4,y5,y6,y7,reduceCtorEq,↓reduceIte,List.length_set,List.getElem?_set,hlen,t0,t1,t4,t5,t6,and_self]
  clear hO6 hO hlen t0 t1 t4 t5 t6 e1 e2 e3 e4 s1 s2 s3
  rintro tm ⟨hlen,t0,t1,t4,t5,t6⟩
  have hO:=hO7
  clear hO7
  subst hZ
  refine zaa fun Z hZ => ?_
  obtain ⟨e1,e2,e3,e4,s1,s2,s3⟩:=st _ _ _ _ _ _ _ hO
  simp only [sxZ,z5,z6,z7,z8,j4,j5,j6,j7,j8,j9,y3,y4,y5,y6,y7,reduceCtorEq,↓reduceIte,List.getElem?_set,hlen,t6,e2]
  refine zak (zew T6 125 ?_)
  cases hcl:isP T6 125 with
  | true =>
   rw [hcl,if_pos rfl] at hrobj
   simp only [sxZ,z5,z6,z7,z8,j4,j5,j6,j7,j8,j9,y3,y4,y5,y6,y7,reduceCtorEq,↓reduceIte,List.getElem?_set,hlen,t4,t5,e3,e4,s1,hS.flat.1,hS.flat.2]
   exact fin hrobj hS hO
  | false =>
  rw [hcl,if_neg Bool.false_ne_true] at hrobj
  simp only [sxZ,z5,z6,z7,z8,j4,j5,j6,j7,j8,j9,y3,y4,y5,y6,y7,reduceCtorEq,↓reduceIte,List.getElem?_set,hlen]
  refine zaY (fun tm => tm.length=98 ∧ tm[0]? = some (.p p 0) ∧ tm[1]? = some (.i .i64 (d:Int)) ∧ tm[4]? = some (.p qr 0) ∧ tm[5]? = some (.p qv 0) ∧ tm[6]? = some (.p qt 0)) ?_ ?_
  ·simp only [sxZ,z5,z6,z7,z8,j4,j5,j6,j7,j8,j9,y3,y4,y5,y6,y7,reduceCtorEq,↓reduceIte,List.length_set,List.getElem?_set,hlen,t0,t1,t4,t5,t6,and_self]
  clear hlen t0 t1 t4 t5 t6 e1 e2 e3 e4 s1 s2 s3
  rintro tm ⟨hlen,t0,t1,t4,t5,t6⟩
  subst hZ
  refine zaa fun Z hZ => ?_
  refine zaz (fun o tm => zaE ((p,zaB s (zaP ρ6 T6 44)) :: (qt,zaL T6) :: (qv,jvB 7 X' Y') :: (qr,zvB) :: (R1' ++ (R2' ++ L))) o ∧ tm.length=98 ∧ tm[0]? = some (.p p 0) ∧ tm[1]? = some (.i .i64 (d:Int)) ∧ tm[4]? = some (.p qr 0) ∧ tm[5]? = some (.p qv 0) ∧ tm[6]? = some (.p qt 0)) ?_ ?_
  ·obtain ⟨e1,e2,e3,e4,s1,s2,s3⟩:=st _ _ _ _ _ _ _ hO
   refine zaa fun W hW => ?_
   by_cases c3:ρ6.fail=0
   rotate_left
   ·have hw:zaP ρ6 T6 44=ρ6:=by unfold zaP; rw [if_neg (fun h => c3 h.1)]
    simp only [sxZ,z5,z6,z7,z8,j4,j5,j6,j7,j8,j9,y3,y4,y5,y6,y7,reduceCtorEq,↓reduceIte,List.getElem?_set,hlen,t0,e1,c3]
    subst hW
    simp only [sxZ,z5,z6,z7,z8,j4,j5,j6,j7,j8,j9,y3,y4,y5,y6,y7,reduceCtorEq,↓reduceIte,zac,List.length_set,List.getElem?_set,hlen,t0,t1,t4,t5,t6,hw,and_self,and_true]
    exact hO
   ·simp only [sxZ,z5,z6,z7,z8,j4,j5,j6,j7,j8,j9,y3,y4,y5,y6,y7,reduceCtorEq,↓reduceIte,List.getElem?_set,hlen,t0,t6,e1,e2,c3]
    refine zak (zew T6 44 ?_)
    cases h44:isP T6 44 with
    | true =>
     have hw:zaP ρ6 T6 44=ρ6:=by unfold zaP; rw [if_neg (fun h => by rw [h44] at h; cases h.2)]
     simp only [sxZ,z5,z6,z7,z8,j4,j5,j6,j7,j8,j9,y3,y4,y5,y6,y7,reduceCtorEq,↓reduceIte,List.getElem?_set,hlen]
     subst hW
     simp only [sxZ,z5,z6,z7,z8,j4,j5,j6,j7,j8,j9,y3,y4,y5,y6,y7,reduceCtorEq,↓reduceIte,zac,List.length_set,List.getElem?_set,hlen,t0,t1,t4,t5,t6,hw,and_self,and_true]
     exact hO
    | false =>
     have hw:zaP ρ6 T6 44=zaK ρ6 T6.2.2 140:=by unfold zaP; rw [if_pos ⟨c3,h44⟩]
     simp only [sxZ,z5,z6,z7,z8,j4,j5,j6,j7,j8,j9,y3,y4,y5,y6,y7,reduceCtorEq,↓reduceIte,List.getElem?_set,hlen]
     subst hW
     simp only [sxZ,z5,z6,z7,z8,j4,j5,j6,j7,j8,j9,y3,y4,y5,y6,y7,reduceCtorEq,↓reduceIte,List.getElem?_set,hlen,t0,t6,e2]
     refine zak (zbV hO T6.2.2 140 fun o8 hO8 => ?_)
     simp only [sxZ,z5,z6,z7,z8,j4,j5,j6,j7,j8,j9,y3,y4,y5,y6,y7,reduceCtorEq,↓reduceIte,zac,List.length_set,List.getElem?_set,hlen,t0,t1,t4,t5,t6,hw,and_self,and_true]
     exact hO8
  clear hO hlen t0 t1 t4 t5 t6
  rintro oc tm ⟨hO,hlen,t0,t1,t4,t5,t6⟩
  have hG7:=zdP hB_ρ6.1 T6 44
  have hn7:=zdA ρ6 T6 44
  have hz7:=zdB ρ6 T6 44
  generalize zaP ρ6 T6 44=ρ7 at hO hG7 hn7 hz7 hrobj
  subst hZ
  simp only [sxZ,z5,z6,z7,z8,j4,j5,j6,j7,j8,j9,y3,y4,y5,y6,y7,reduceCtorEq,↓reduceIte,List.getElem?_set,hlen,t0]
  refine zak (zb8 (by omega) hO fun o9 hO9 => ?_)
  have hB8:=za8 hG7
  have hT8:=zbp hG7
  have hn8:=za0 s ρ7
  have hz8:=zbQ s ρ7
  generalize zaf s ρ7=N at hO9 hB8 hT8 hn8 hz8 hrobj ⊢
  obtain ⟨T8,ρ8⟩:=N
  simp only at hO9 hB8 hT8 hn8 hz8 hrobj ⊢
  obtain ⟨e1,e2,e3,e4,s1,s2,s3⟩:=st _ _ _ _ _ _ _ hO9
  unfold zgd tkC
  simp only [sxZ,z5,z6,z7,z8,j4,j5,j6,j7,j8,j9,y3,y4,y5,y6,y7,reduceCtorEq,↓reduceIte,List.getElem?_set,hlen,t6,e2,s2]
  rw [f1]
  have hO10:zaE ((p,zaB s ρ8) :: (qt,zaL T8) :: (qv,jvB 7 X' Y') :: (qr,zvB) :: (R1' ++ (R2' ++ L))) (o9.set qt (zaL (T8.1,T8.2.1,T8.2.2))):=zaE.set (A:=[(p,zaB s ρ8)]) (zaL T8) hO9
  generalize o9.set qt (zaL (T8.1,T8.2.1,T8.2.2))=o10 at hO10 ⊢
  have zz:∀ {a b:Rs},zjF a b → b.fail=0 → a.fail=0:=fun {a b} h hb => by
   by_cases c:a.fail=0
   ·exact c
   ·exact absurd ((h c).1.symm.trans hb) c
  refine ⟨m,by omega,i + 1,ρ8,T8,ks ++ [T'.2.1],its ++ [v],X',R1',Y',R2',by omega,by rw [List.length_append,hi]; rfl,by rw [List.length_append,hi2]; rfl,hrobj,hB8.1,hT8,fun hf => ?_,hS,hO10,?_⟩
  ·have q7:=zz hz8 hf
   have q6:=zz hz7 q7
   have q5:=zz hz_ρ6 q6
   have q4:=zz hz5 q5
   have:=hn5 q5
   have:=hnd c1
   omega
  ·simp only [sxZ,z5,z6,z7,z8,j4,j5,j6,j7,j8,j9,y3,y4,y5,y6,y7,reduceCtorEq,↓reduceIte,List.length_set,List.getElem?_set,hlen,t0,t1,t4,t5,t6,and_self]
end
end
section
attribute [local irreducible] run
theorem zjy {L L':List (Nat × OB)} (h:zaD L) (hm:∀ y,y ∈ L' ↔ y ∈ L):zaD L':=fun y hy b g n xs hb => h y ((hm y).1 hy) b g n xs fun z hz => hb z ((hm z).2 hz)
theorem zdQ {x:Nat × OB} {i T:Nat} {cs:List AV} {L:List (Nat × OB)} (h:zaD (x :: L)) (hp:zan cs=true):zaD (x :: (i,.box T cs) :: L) :=
 zjy (zcK (i:=i) (T:=T) h hp) fun y => by simp only [List.mem_cons]; exact ⟨fun h => by rcases h with h | h | h <;> simp [h],fun h => by rcases h with h | h | h <;> simp [h]⟩
theorem den_leaf {k:Int} {x:List UInt8} {G:Gh} {I:Imm} {y:Value} (h:Den G I (.agg [.i .i64 k,.s x,.nil,.nil]) y):Den G I (.agg (zaj (.mk k x [] []))) y:=by
 rw [zaj,zaw]
 simp only [zai,Den] at h ⊢
 obtain ⟨zs,rfl,⟨z0,m0,rfl,q0,z1,m1,rfl,q1,z2,m2,rfl,q2,z3,m3,rfl,q3,q4⟩,hz⟩:=h
 refine ⟨_,rfl,⟨_,_,rfl,q0,_,_,rfl,q1,_,_,rfl,?_,_,_,rfl,?_,q4⟩,hz⟩
 ·exact ⟨none,0,[],q2,⟨Nat.le_refl _,fun ad h => by cases h⟩,rfl,by simp,by simp⟩
 ·exact ⟨none,0,[],q3,⟨Nat.le_refl _,fun ad h => by cases h⟩,rfl,by simp,by simp⟩
def Res (K:List OB → AV → Prop) (v:JV) (o:List OB) (r:AV):Prop:=(∀ G I y,Den G I r y → Den G I (.agg (zaj v)) y) ∧ K o (.agg (zaj v))
theorem zdk {K:List OB → AV → Prop} {k:Int} {x:List UInt8} {o:List OB} (h:K o (.agg (zaj (.mk k x [] [])))):Res K (.mk k x [] []) o (.agg [.i .i64 k,.s x,.nil,.nil]):=⟨fun _ _ _ hy => den_leaf hy,h⟩
section
variable [Tabs Try.prog] [Utf Try.prog] {p:Nat} {s:List UInt8}
theorem value_k (hs:s.length ≤ 1048576):∀ f d,f + d=65 → d ≤ 64 → ValK s p d (fun ρ t => zat s f ρ t d):=by
 intro f
 induction f with
 | zero => intro d hd hd2; omega
 | succ f ih =>
  intro d hd hd2
  unfold ValK
  intro objs K L ρ t hB hT hTx hC hO hk
  dsimp only at hk
  refine jres (.agg (zaj (zat s (f + 1) ρ t d).1)) ?_
  show zah _ _ _ _ (Res K (zat s (f + 1) ρ t d).1)
  refine zbb is_ref14_parser_value fun C _ => ?_
  obtain ⟨k5,k4,kw,k6,k7,kw2⟩:=vk_kind (t:=t)
  rw [c_ref14_parser_value]
  refine zaa fun Z hZ => ?_
  unfold zgd tkC
  simp only [sxZ,z5,z6,z7,z8,j4,j5,j6,j7,j8,j9,y3,y4,y5,y6,y7,reduceCtorEq,↓reduceIte]
  have hO1:=(hO.new (zaL t)).new zvB
  have elen:(objs ++ [zaL t]).length=objs.length + 1:=by simp
  rw [elen] at hO1
  unfold zaL tkC zvB at hO1
  generalize objs.length=qt at hO1 ⊢
  generalize objs ++ [OB.box 59 [.i .i64 t.1,.s t.2.1,.i .i64 t.2.2]] ++ [OB.box 25 [.i .i64 0,.s [],.nil,.nil]]=o at hO1 ⊢
  have hO1:zaE ((p,zaB s ρ) :: (qt,zaL t) :: (qt + 1,zvB) :: L) o:=hO1.perm ((List.reverse_perm [(p,zaB s ρ),(qt,zaL t),(qt + 1,zvB)]).append_right L)
  generalize qt + 1=qr at hO1 ⊢
  have fin:∀ (o:List OB) (ρ':Rs) (x:OB) (M:List (Nat × OB)),zaE ((p,zaB s ρ') :: (qt,zaL t) :: (qr,zvB) :: (M ++ L)) o → zaE ((p,zaB s ρ') :: L) (o.set qr x):=fun o ρ' x M h => (zaE.set (A:=[(p,zaB s ρ'),(qt,zaL t)]) x h).sub ((((List.sublist_append_right M L).trans (List.sublist_cons_self _ _)).trans (List.sublist_cons_self _ _)).cons_cons _)
  have st:∀ (o:List OB) (ρ':Rs) (M:List (Nat × OB)),zaE ((p,zaB s ρ') :: (qt,zaL t) :: (qr,zvB) :: (M ++ L)) o → o[p]? = some (.box 56 [.s s,.i .i64 ρ'.pos,.i .i64 (ρ'.nodes:Int),.i .i64 ρ'.fail,.i .i64 ρ'.wh]) ∧ o[qt]? = some (.box 59 [.i .i64 t.1,.s t.2.1,.i .i64 t.2.2]) ∧ o[qr]? = some (.box 25 [.i .i64 0,.s [],.nil,.nil]) ∧ (∀ x,(o.set qr x)[qr]? = some x) :=
   fun o ρ' M h => ⟨h.get (by simp [zaB]),h.get (by simp [zaL,tkC]),h.get (by simp [zvB]),fun x => List.getElem?_set_self (h.lt (i:=qr) (x:=zvB) (by simp))⟩
  have hO1:zaE ((p,zaB s ρ) :: (qt,zaL t) :: (qr,zvB) :: ([] ++ L)) o:=hO1
  obtain ⟨e1,e2,e3,s1⟩:=st _ _ _ hO1
  subst hZ
  refine zaa fun Z hZ => ?_
  refine zaz (fun o' tm => o=o' ∧ tm.length=117 ∧ tm[0]? = some (.p p 0) ∧ tm[2]? = some (.i .i64 (d:Int)) ∧ tm[4]? = some (.p qt 0) ∧ tm[6]? = some (.p qr 0) ∧ tm[7]? = some (.b (!decide (vkE t=0)))) ?_ ?_
  ·by_cases a3:t.1=3
   ·have hv:¬ vkE t=0:=by have:=k5.2 a3; omega
    simp only [sxZ,z5,z6,z7,z8,j4,j5,j6,j7,j8,j9,y3,y4,y5,y6,y7,reduceCtorEq,↓reduceIte,e2,a3,zac,hv,decide_false,Bool.not_false,and_self]
   by_cases a4:t.1=4
   ·have hv:¬ vkE t=0:=by have:=k4.2 a4; omega
    simp only [sxZ,z5,z6,z7,z8,j4,j5,j6,j7,j8,j9,y3,y4,y5,y6,y7,reduceCtorEq,↓reduceIte,e2,a3,a4,zac,hv,decide_false,Bool.not_false,and_self]
   by_cases a5:t.1=5
   ·have hv:¬ vkE t=0:=by have:=kw.2 a5; omega
    simp only [sxZ,z5,z6,z7,z8,j4,j5,j6,j7,j8,j9,y3,y4,y5,y6,y7,reduceCtorEq,↓reduceIte,e2,a3,a4,a5,zac,hv,decide_false,Bool.not_false,and_self]
   simp only [sxZ,z5,z6,z7,z8,j4,j5,j6,j7,j8,j9,y3,y4,y5,y6,y7,reduceCtorEq,↓reduceIte,e2,a3,a4,a5]
   refine zak (zew t 91 ?_)
   cases h91:isP t 91 with
   | true =>
    have hv:¬ vkE t=0:=by have:=k6.2 h91; omega
    simp only [sxZ,z5,z6,z7,z8,j4,j5,j6,j7,j8,j9,y3,y4,y5,y6,y7,reduceCtorEq,↓reduceIte,zac,hv,decide_false,Bool.not_false,and_self]
   | false =>
    simp only [sxZ,z5,z6,z7,z8,j4,j5,j6,j7,j8,j9,y3,y4,y5,y6,y7,reduceCtorEq,↓reduceIte,e2]
    refine zak (zew t 123 ?_)
    cases h123:isP t 123 with
    | true =>
     have hv:¬ vkE t=0:=by have:=k7.2 h123; omega
     simp only [sxZ,z5,z6,z7,z8,j4,j5,j6,j7,j8,j9,y3,y4,y5,y6,y7,reduceCtorEq,↓reduceIte,zac,hv,decide_false,Bool.not_false,and_self]
    | false =>
     have hv:vkE t=0:=by
      have n5:¬ vkE t=5:=fun h => a3 (k5.1 h)
      have n4:¬ vkE t=4:=fun h => a4 (k4.1 h)
      have nw:¬ (vkE t=1 ∨ vkE t=2 ∨ vkE t=3):=fun h => a5 (kw.1 h)
      have n6:¬ vkE t=6:=fun h => by rw [k6.1 h] at h91; cases h91
      have n7:¬ vkE t=7:=fun h => by rw [k7.1 h] at h123; cases h123
      have:=vk_val t
      omega
     simp only [sxZ,z5,z6,z7,z8,j4,j5,j6,j7,j8,j9,y3,y4,y5,y6,y7,reduceCtorEq,↓reduceIte,zac,hv,decide_true,Bool.not_true,and_self]
  rintro o' tm ⟨rfl,hlen,t0,t2,t4,t6,t7⟩
  subst hZ
  refine zaa fun Z hZ => ?_
  by_cases c0:ρ.fail=0
  rotate_left
  ·rw [zat,if_pos c0] at hk ⊢
   simp only [sxZ,z5,z6,z7,z8,j4,j5,j6,j7,j8,j9,y3,y4,y5,y6,y7,reduceCtorEq,↓reduceIte,List.getElem?_set,hlen,t0,t6,e1,e3,c0,s1]
   exact zdk (hk _ (fin _ _ _ _ hO1))
  rw [zat,if_neg (fun h => h c0)] at hk ⊢
  simp only [sxZ,z5,z6,z7,z8,j4,j5,j6,j7,j8,j9,y3,y4,y5,y6,y7,reduceCtorEq,↓reduceIte,List.getElem?_set,hlen,t0,e1,c0]
  subst hZ
  refine zaa fun Z hZ => ?_
  by_cases cv:vkE t=0
  ·rw [if_pos cv] at hk ⊢
   simp only [cv,decide_true,Bool.not_true] at t7
   simp only [sxZ,z5,z6,z7,z8,j4,j5,j6,j7,j8,j9,y3,y4,y5,y6,y7,reduceCtorEq,↓reduceIte,List.getElem?_set,hlen,t0,t4,t7,e2]
   refine zak (zbV hO1 t.2.2 140 fun o2 hO2 => ?_)
   obtain ⟨e1,e2,e3,s1⟩:=st _ _ _ hO2
   simp only [sxZ,z5,z6,z7,z8,j4,j5,j6,j7,j8,j9,y3,y4,y5,y6,y7,reduceCtorEq,↓reduceIte,List.getElem?_set,hlen,t6,e3,s1]
   exact zdk (hk _ (fin _ _ _ _ hO2))
  rw [if_neg cv] at hk ⊢
  simp only [cv,decide_false,Bool.not_false] at t7
  simp only [sxZ,z5,z6,z7,z8,j4,j5,j6,j7,j8,j9,y3,y4,y5,y6,y7,reduceCtorEq,↓reduceIte,List.getElem?_set,hlen,t7]
  subst hZ
  refine zaa fun Z hZ => ?_
  by_cases c2:t.1=2 ∧ d=64
  ·rw [if_pos c2] at hk ⊢
   have c2b:(d:Int)=64:=by omega
   have c2a:=c2.1
   simp only [sxZ,z5,z6,z7,z8,j4,j5,j6,j7,j8,j9,y3,y4,y5,y6,y7,reduceCtorEq,↓reduceIte,List.getElem?_set,hlen,t0,t2,t4,e2,c2a,c2b]
   refine zak (zbV hO1 t.2.2 141 fun o2 hO2 => ?_)
   obtain ⟨e1,e2,e3,s1⟩:=st _ _ _ hO2
   simp only [sxZ,z5,z6,z7,z8,j4,j5,j6,j7,j8,j9,y3,y4,y5,y6,y7,reduceCtorEq,↓reduceIte,List.getElem?_set,hlen,t6,e3,s1]
   exact zdk (hk _ (fin _ _ _ _ hO2))
  rw [if_neg c2] at hk ⊢
  refine zaz (fun o' tm => o=o' ∧ tm.length=117 ∧ tm[0]? = some (.p p 0) ∧ tm[2]? = some (.i .i64 (d:Int)) ∧ tm[4]? = some (.p qt 0) ∧ tm[6]? = some (.p qr 0)) ?_ ?_
  ·by_cases c2a:t.1=2
   ·have c2b:¬ (d:Int)=64:=fun h => c2 ⟨c2a,by omega⟩
    simp only [sxZ,z5,z6,z7,z8,j4,j5,j6,j7,j8,j9,y3,y4,y5,y6,y7,reduceCtorEq,↓reduceIte,List.getElem?_set,hlen,t0,t2,t4,t6,e2,c2a,c2b,zac,List.length_set,and_self]
   ·simp only [sxZ,z5,z6,z7,z8,j4,j5,j6,j7,j8,j9,y3,y4,y5,y6,y7,reduceCtorEq,↓reduceIte,List.getElem?_set,hlen,t0,t2,t4,t6,e2,c2a,zac,List.length_set,and_self]
  clear hlen t0 t2 t4 t6 t7
  rintro o' tm ⟨rfl,hlen,t0,t2,t4,t6⟩
  subst hZ
  refine zaa fun Z hZ => ?_
  have hO2:=hO1.new (.box 25 [.i .i64 5,.s t.2.1,.nil,.nil])
  have hO2:zaE ((p,zaB s ρ) :: (qt,zaL t) :: (qr,zvB) :: ([(o.length,.box 25 [.i .i64 5,.s t.2.1,.nil,.nil])] ++ L)) (o ++ [.box 25 [.i .i64 5,.s t.2.1,.nil,.nil]]):=hO2.perm (List.perm_middle (l₁:=[(p,zaB s ρ),(qt,zaL t),(qr,zvB)])).symm
  simp only [sxZ,z5,z6,z7,z8,j4,j5,j6,j7,j8,j9,y3,y4,y5,y6,y7,reduceCtorEq,↓reduceIte,List.getElem?_set,hlen,t4,e2,gn1,sn1]
  have hqv:¬ o.length=qt ∧ ¬ o.length=p:=by
   have h1:=hO1.lt (i:=qt) (x:=zaL t) (by simp)
   have h2:=hO1.lt (i:=p) (x:=zaB s ρ) (by simp)
   omega
  generalize o.length=qv at hO2 hqv ⊢
  generalize o ++ [OB.box 25 [.i .i64 5,.s t.2.1,.nil,.nil]]=o2 at hO2 ⊢
  refine zaY (fun tm => tm.length=117 ∧ tm[0]? = some (.p p 0) ∧ tm[2]? = some (.i .i64 (d:Int)) ∧ tm[4]? = some (.p qt 0) ∧ tm[6]? = some (.p qr 0) ∧ tm[8]? = some (.p qv 0)) ?_ ?_
  ·simp only [sxZ,z5,z6,z7,z8,j4,j5,j6,j7,j8,j9,y3,y4,y5,y6,y7,reduceCtorEq,↓reduceIte,List.length_set,List.getElem?_set,hlen,t0,t2,t4,t6,and_self]
  clear hlen t0 t2 t4 t6 e1 e2 e3 s1 hO1
  rintro tm ⟨hlen,t0,t2,t4,t6,t8⟩
  subst hZ
  refine zaa fun Z hZ => ?_
  have hcnt:zaN ρ t=(if 20000 < (if t.1=4 ∧ ¬ (zb9 t.2.1).1=0 then zaK ρ t.2.2 (zb9 t.2.1).1 else ρ).nodes + 1 then zaK ⟨(if t.1=4 ∧ ¬ (zb9 t.2.1).1=0 then zaK ρ t.2.2 (zb9 t.2.1).1 else ρ).pos,(if t.1=4 ∧ ¬ (zb9 t.2.1).1=0 then zaK ρ t.2.2 (zb9 t.2.1).1 else ρ).nodes + 1,(if t.1=4 ∧ ¬ (zb9 t.2.1).1=0 then zaK ρ t.2.2 (zb9 t.2.1).1 else ρ).fail,(if t.1=4 ∧ ¬ (zb9 t.2.1).1=0 then zaK ρ t.2.2 (zb9 t.2.1).1 else ρ).wh⟩ t.2.2 142 else ⟨(if t.1=4 ∧ ¬ (zb9 t.2.1).1=0 then zaK ρ t.2.2 (zb9 t.2.1).1 else ρ).pos,(if t.1=4 ∧ ¬ (zb9 t.2.1).1=0 then zaK ρ t.2.2 (zb9 t.2.1).1 else ρ).nodes + 1,(if t.1=4 ∧ ¬ (zb9 t.2.1).1=0 then zaK ρ t.2.2 (zb9 t.2.1).1 else ρ).fail,(if t.1=4 ∧ ¬ (zb9 t.2.1).1=0 then zaK ρ t.2.2 (zb9 t.2.1).1 else ρ).wh⟩):=rfl
  have hxn:(if t.1=4 ∧ ¬ (zb9 t.2.1).1=0 then zaK ρ t.2.2 (zb9 t.2.1).1 else ρ).nodes=ρ.nodes:=by
   split
   ·exact zc6 _ _ _
   ·rfl
  generalize hx:(if t.1=4 ∧ ¬ (zb9 t.2.1).1=0 then zaK ρ t.2.2 (zb9 t.2.1).1 else ρ)=x at hcnt hxn
  refine zaz (fun o tm => zaE ((p,zaB s x) :: (qt,zaL t) :: (qr,zvB) :: ([(qv,.box 25 [.i .i64 (if t.1=4 then 4 else 5),.s (if t.1=4 then (zb9 t.2.1).2 else t.2.1),.nil,.nil])] ++ L)) o ∧ tm.length=117 ∧ tm[0]? = some (.p p 0) ∧ tm[2]? = some (.i .i64 (d:Int)) ∧ tm[4]? = some (.p qt 0) ∧ tm[6]? = some (.p qr 0) ∧ tm[8]? = some (.p qv 0)) ?_ ?_
  ·obtain ⟨e1,e2,e3,s1⟩:=st _ _ _ hO2
   by_cases a4:t.1=4
   rotate_left
   ·rw [if_neg (fun h => a4 h.1)] at hx
    subst hx
    simp only [sxZ,z5,z6,z7,z8,j4,j5,j6,j7,j8,j9,y3,y4,y5,y6,y7,reduceCtorEq,↓reduceIte,List.getElem?_set,hlen,t0,t2,t4,t6,t8,e2,a4,zac,List.length_set,and_self,and_true,if_false]
    exact hO2
   have eqv:=hO2.get (i:=qv) (x:=.box 25 [.i .i64 5,.s t.2.1,.nil,.nil]) (by simp)
   simp only [sxZ,z5,z6,z7,z8,j4,j5,j6,j7,j8,j9,y3,y4,y5,y6,y7,reduceCtorEq,↓reduceIte,List.getElem?_set,hlen,t4,e2,a4]
   refine zak (zj6 t.2.1 (by omega) ?_)
   by_cases cn:(zb9 t.2.1).1=0
   ·rw [if_neg (fun h => h.2 cn)] at hx
    subst hx
    simp only [sxZ,z5,z6,z7,z8,j4,j5,j6,j7,j8,j9,y3,y4,y5,y6,y7,reduceCtorEq,↓reduceIte,List.getElem?_set,hlen,t0,t2,t4,t6,t8,cn,eqv,zac,List.length_set,and_self,and_true,if_pos]
    exact zaE.set (A:=[(p,zaB s ρ),(qt,zaL t),(qr,zvB)]) (.box 25 [.i .i64 4,.s (zb9 t.2.1).2,.nil,.nil]) hO2
   ·rw [if_pos ⟨a4,cn⟩] at hx
    simp only [sxZ,z5,z6,z7,z8,j4,j5,j6,j7,j8,j9,y3,y4,y5,y6,y7,reduceCtorEq,↓reduceIte,List.getElem?_set,hlen,t0,t4,e2,cn]
    refine zak (zbV hO2 t.2.2 (zb9 t.2.1).1 fun o3 hO3 => ?_)
    rw [hx] at hO3
    have eqv:=hO3.get (i:=qv) (x:=.box 25 [.i .i64 5,.s t.2.1,.nil,.nil]) (by simp)
    simp only [sxZ,z5,z6,z7,z8,j4,j5,j6,j7,j8,j9,y3,y4,y5,y6,y7,reduceCtorEq,↓reduceIte,List.getElem?_set,hlen,t0,t2,t4,t6,t8,eqv,zac,List.length_set,and_self,and_true,if_pos]
    exact zaE.set (A:=[(p,zaB s x),(qt,zaL t),(qr,zvB)]) (.box 25 [.i .i64 4,.s (zb9 t.2.1).2,.nil,.nil]) hO3
  clear hlen t0 t2 t4 t6 t8 hO2 hx
  generalize hkk:(if t.1=4 then (4:Int) else 5)=kk
  generalize hxx:(if t.1=4 then (zb9 t.2.1).2 else t.2.1)=xx
  rintro o3 tm ⟨hO3,hlen,t0,t2,t4,t6,t8⟩
  subst hZ
  refine zaa fun Z hZ => ?_
  have f2:∀ b:Rs,OB.box 56 [.s s,.i .i64 b.pos,.i .i64 ((b.nodes:Int) + 1),.i .i64 b.fail,.i .i64 b.wh]=zaB s ⟨b.pos,b.nodes + 1,b.fail,b.wh⟩:=fun _ => rfl
  have hnb:=hB.n1
  refine zaz (fun o tm => zaE ((p,zaB s (zaN ρ t)) :: (qt,zaL t) :: (qr,zvB) :: ([(qv,.box 25 [.i .i64 kk,.s xx,.nil,.nil])] ++ L)) o ∧ tm.length=117 ∧ tm[0]? = some (.p p 0) ∧ tm[2]? = some (.i .i64 (d:Int)) ∧ tm[4]? = some (.p qt 0) ∧ tm[6]? = some (.p qr 0) ∧ tm[8]? = some (.p qv 0)) ?_ ?_
  ·obtain ⟨e1,e2,e3,s1⟩:=st _ _ _ hO3
   refine zaa fun W hW => ?_
   simp only [sxZ,z5,z6,z7,z8,j4,j5,j6,j7,j8,j9,y3,y4,y5,y6,y7,reduceCtorEq,↓reduceIte,List.getElem?_set,hlen,t0,e1]
   refine ⟨⟨by omega,by omega⟩,?_⟩
   rw [f2]
   have hO4:=zaE.set (A:=[]) (zaB s ⟨x.pos,x.nodes + 1,x.fail,x.wh⟩) hO3
   have hO4:zaE ((p,zaB s ⟨x.pos,x.nodes + 1,x.fail,x.wh⟩) :: (qt,zaL t) :: (qr,zvB) :: ([(qv,.box 25 [.i .i64 kk,.s xx,.nil,.nil])] ++ L)) (o3.set p (zaB s ⟨x.pos,x.nodes + 1,x.fail,x.wh⟩)):=hO4
   generalize o3.set p (zaB s ⟨x.pos,x.nodes + 1,x.fail,x.wh⟩)=o4 at hO4 ⊢
   obtain ⟨e1,e2,e3,s1⟩:=st _ _ _ hO4
   subst hW
   by_cases c7:20000 < x.nodes + 1
   ·rw [if_pos c7] at hcnt
    have c7':(20000:Int) < ((x.nodes + 1:Nat):Int):=by omega
    simp only [sxZ,z5,z6,z7,z8,j4,j5,j6,j7,j8,j9,y3,y4,y5,y6,y7,reduceCtorEq,↓reduceIte,List.getElem?_set,hlen,t0,t2,t4,t6,e1,e2,c7']
    refine zak (zbV hO4 t.2.2 142 fun o5 hO5 => ?_)
    rw [← hcnt] at hO5
    simp only [sxZ,z5,z6,z7,z8,j4,j5,j6,j7,j8,j9,y3,y4,y5,y6,y7,reduceCtorEq,↓reduceIte,List.getElem?_set,hlen,t0,t2,t4,t6,t8,zac,List.length_set,and_self,and_true]
    exact hO5
   ·rw [if_neg c7] at hcnt
    have c7':¬ (20000:Int) < ((x.nodes + 1:Nat):Int):=by omega
    rw [← hcnt] at hO4
    simp only [sxZ,z5,z6,z7,z8,j4,j5,j6,j7,j8,j9,y3,y4,y5,y6,y7,reduceCtorEq,↓reduceIte,List.getElem?_set,hlen,t0,t2,t4,t6,t8,e1,c7',zac,List.length_set,and_self,and_true]
    exact hO4
  clear hO3 hlen t0 t2 t4 t6 t8 hcnt hxn x
  rintro o4 tm ⟨hO4,hlen,t0,t2,t4,t6,t8⟩
  have hGc:=ziA hB hT (vk_end cv) c0
  have hGv:GV s (fun ρ t => zat s f ρ t (d + 1)):=zei s f (d + 1)
  generalize zaN ρ t=ρc at hO4 hGc hk ⊢
  obtain ⟨e1,e2,e3,s1⟩:=st _ _ _ hO4
  subst hZ
  refine zaa fun Z hZ => ?_
  rw [zaH]
  have hCa:zaD ((p,zaB s ρc) :: (qt,zaL t) :: (qr,zvB) :: ([(qv,.box 25 [.i .i64 kk,.s xx,.nil,.nil])] ++ L)):=zdQ (zdQ (zdQ (zeL hC) rfl) rfl) rfl
  by_cases a5:t.1=5
  ·rw [if_pos a5] at hk ⊢
   simp only [sxZ,z5,z6,z7,z8,j4,j5,j6,j7,j8,j9,y3,y4,y5,y6,y7,reduceCtorEq,↓reduceIte,List.getElem?_set,hlen,t4,e2,a5]
   refine zak (rword_k t.2.1 ?_)
   simp only [sxZ,z5,z6,z7,z8,j4,j5,j6,j7,j8,j9,y3,y4,y5,y6,y7,reduceCtorEq,↓reduceIte,List.getElem?_set,hlen,t6,e3,s1]
   exact zdk (hk _ (fin _ _ _ _ hO4))
  rw [if_neg a5] at hk ⊢
  simp only [sxZ,z5,z6,z7,z8,j4,j5,j6,j7,j8,j9,y3,y4,y5,y6,y7,reduceCtorEq,↓reduceIte,List.getElem?_set,hlen,t4,e2,a5]
  refine zak (zew t 91 ?_)
  cases h91:isP t 91 with
  | true =>
   have h2:=(ziy h91).1
   have hd3:d < 64:=by
    rcases Nat.lt_or_ge d 64 with h | h
    ·exact h
    ·exact absurd ⟨h2,by omega⟩ c2
   have hval:ValK s p (d + 1) (fun ρ t => zat s f ρ t (d + 1)):=ih (d + 1) (by omega) (by omega)
   have hn1:=fun ρ t => (zfu s f (d + 1)).2 ρ t (by omega)
   rw [h91] at hk
   rw [if_pos rfl] at hk ⊢
   simp only [sxZ,z5,z6,z7,z8,j4,j5,j6,j7,j8,j9,y3,y4,y5,y6,y7,reduceCtorEq,↓reduceIte,List.getElem?_set,hlen,t0,t2]
   refine ⟨⟨by omega,by omega⟩,?_⟩
   rw [show ((d:Int) + 1)=((d + 1:Nat):Int) from rfl]
   refine zak (array_k hval hGv hn1 hs hGc hCa hO4 fun o9 hO9 => ?_)
   obtain ⟨e1,e2,e3,s1⟩:=st _ _ _ hO9
   generalize (zeP s (fun ρ t => zat s f ρ t (d + 1)) ρc).1=v at hk ⊢
   have hk2:=hk _ (fin _ _ (.box 25 (zaj v)) _ hO9)
   have hjc:=zad v
   rw [hjc] at hk2 ⊢
   simp only [sxZ,z5,z6,z7,z8,j4,j5,j6,j7,j8,j9,y3,y4,y5,y6,y7,reduceCtorEq,↓reduceIte,List.getElem?_set,hlen,t6,e3,s1]
   exact ⟨fun G I y hy => by rw [hjc]; exact hy,by rw [hjc]; exact hk2⟩
  | false =>
  rw [h91] at hk
  rw [if_neg Bool.false_ne_true] at hk ⊢
  simp only [sxZ,z5,z6,z7,z8,j4,j5,j6,j7,j8,j9,y3,y4,y5,y6,y7,reduceCtorEq,↓reduceIte,List.getElem?_set,hlen,t4,e2]
  refine zak (zew t 123 ?_)
  cases h123:isP t 123 with
  | true =>
   have h2:=(ziy h123).1
   have hd3:d < 64:=by
    rcases Nat.lt_or_ge d 64 with h | h
    ·exact h
    ·exact absurd ⟨h2,by omega⟩ c2
   have hval:ValK s p (d + 1) (fun ρ t => zat s f ρ t (d + 1)):=ih (d + 1) (by omega) (by omega)
   have hn1:=fun ρ t => (zfu s f (d + 1)).2 ρ t (by omega)
   rw [h123] at hk
   rw [if_pos rfl] at hk ⊢
   simp only [sxZ,z5,z6,z7,z8,j4,j5,j6,j7,j8,j9,y3,y4,y5,y6,y7,reduceCtorEq,↓reduceIte,List.getElem?_set,hlen,t0,t2]
   refine ⟨⟨by omega,by omega⟩,?_⟩
   rw [show ((d:Int) + 1)=((d + 1:Nat):Int) from rfl]
   refine zak (object_k hval hGv hn1 (fun ρ t => zg3 s f ρ t (d + 1)) hs hGc hCa hO4 fun o9 hO9 => ?_)
   obtain ⟨e1,e2,e3,s1⟩:=st _ _ _ hO9
   generalize (zeY s (fun ρ t => zat s f ρ t (d + 1)) ρc).1=v at hk ⊢
   have hk2:=hk _ (fin _ _ (.box 25 (zaj v)) _ hO9)
   have hjc:=zad v
   rw [hjc] at hk2 ⊢
   simp only [sxZ,z5,z6,z7,z8,j4,j5,j6,j7,j8,j9,y3,y4,y5,y6,y7,reduceCtorEq,↓reduceIte,List.getElem?_set,hlen,t6,e3,s1]
   exact ⟨fun G I y hy => by rw [hjc]; exact hy,by rw [hjc]; exact hk2⟩
  | false =>
  rw [h123] at hk
  rw [if_neg Bool.false_ne_true] at hk ⊢
  have eqv:=hO4.get (i:=qv) (x:=.box 25 [.i .i64 kk,.s xx,.nil,.nil]) (by simp)
  simp only [sxZ,z5,z6,z7,z8,j4,j5,j6,j7,j8,j9,y3,y4,y5,y6,y7,reduceCtorEq,↓reduceIte,List.getElem?_set,hlen]
  subst hZ
  simp only [sxZ,z5,z6,z7,z8,j4,j5,j6,j7,j8,j9,y3,y4,y5,y6,y7,reduceCtorEq,↓reduceIte,List.getElem?_set,hlen,t6,t8,eqv,e3,s1]
  have hkv:(if t.1=4 then (JV.mk 4 (zb9 t.2.1).2 [] [],ρc) else (JV.mk 5 t.2.1 [] [],ρc))=(JV.mk kk xx [] [],ρc):=by
   rw [← hkk,← hxx]
   split <;> rfl
  rw [hkv] at hk ⊢
  exact zdk (hk _ (fin _ _ _ _ hO4))
end
end
section
attribute [local irreducible] run
section
variable [Tabs Try.prog] [Utf Try.prog] {objs:List OB} {K:List OB → AV → Prop}
theorem zfG (s:List UInt8) (hs:s.length ≤ 1048576) (hk:K objs (zeQ (zbW s))):zah Try.prog 10 [.s s] objs K:=by
 refine jres (zeQ (zbW s)) ?_
 refine zbm is_ref14_Parse rfl fun C _ => ?_
 have hr:zbW s=(if 1048576 < s.length then (jvZ,0,142) else
   if ¬ (if (zaf s (zat s 65 (zaf s rs0).2 (zaf s rs0).1 0).2).2.fail=0 ∧ ¬ (zaf s (zat s 65 (zaf s rs0).2 (zaf s rs0).1 0).2).1.1=1 then zaK (zaf s (zat s 65 (zaf s rs0).2 (zaf s rs0).1 0).2).2 (zaf s (zat s 65 (zaf s rs0).2 (zaf s rs0).1 0).2).1.2.2 140 else (zaf s (zat s 65 (zaf s rs0).2 (zaf s rs0).1 0).2).2).fail=0 then (jvZ,(if (zaf s (zat s 65 (zaf s rs0).2 (zaf s rs0).1 0).2).2.fail=0 ∧ ¬ (zaf s (zat s 65 (zaf s rs0).2 (zaf s rs0).1 0).2).1.1=1 then zaK (zaf s (zat s 65 (zaf s rs0).2 (zaf s rs0).1 0).2).2 (zaf s (zat s 65 (zaf s rs0).2 (zaf s rs0).1 0).2).1.2.2 140 else (zaf s (zat s 65 (zaf s rs0).2 (zaf s rs0).1 0).2).2).wh,(if (zaf s (zat s 65 (zaf s rs0).2 (zaf s rs0).1 0).2).2.fail=0 ∧ ¬ (zaf s (zat s 65 (zaf s rs0).2 (zaf s rs0).1 0).2).1.1=1 then zaK (zaf s (zat s 65 (zaf s rs0).2 (zaf s rs0).1 0).2).2 (zaf s (zat s 65 (zaf s rs0).2 (zaf s rs0).1 0).2).1.2.2 140 else (zaf s (zat s 65 (zaf s rs0).2 (zaf s rs0).1 0).2).2).fail) else ((zat s 65 (zaf s rs0).2 (zaf s rs0).1 0).1,(s.length:Int),0)):=rfl
 rw [if_neg (by omega)] at hr
 have finE:∀ {a e:Int},zbW s=(jvZ,a,e) → ((∀ G I y,Den G I (.tup [.agg zvC,.i .i64 a,.i .i64 e]) y → Den G I (zeQ (zbW s)) y) ∧ K objs (zeQ (zbW s))):=fun {a e} h => ⟨fun G I y hy => by rw [h]; exact den_zv hy,hk⟩
 have c1:¬ (1048576:Int) < s.length:=by omega
 rw [c_ref14_Parse]
 refine zaa fun Z hZ => ?_
 simp only [sxZ,z5,z6,z7,z8,j4,j5,j6,j7,j8,j9,y3,y4,y5,y6,y7,reduceCtorEq,↓reduceIte]
 subst hZ
 refine zaa fun Z hZ => ?_
 simp only [sxZ,z5,z6,z7,z8,j4,j5,j6,j7,j8,j9,y3,y4,y5,y6,y7,reduceCtorEq,↓reduceIte,c1]
 subst hZ
 refine zaa fun Z hZ => ?_
 simp only [sxZ,z5,z6,z7,z8,j4,j5,j6,j7,j8,j9,y3,y4,y5,y6,y7,reduceCtorEq,↓reduceIte]
 have hO:zaE ((1,zaB s rs0) :: [(0,zvB)]) [zvB,zaB s rs0]:=⟨by simp,fun x hx => by
  simp only [List.mem_cons,List.not_mem_nil,or_false] at hx
  rcases hx with rfl | rfl <;> rfl⟩
 have hCn:zaD []:=fun y hy => by cases hy
 have hC:∀ ρ,zaD ((1,zaB s ρ) :: [(0,zvB)]):=fun ρ => zcK (zcK hCn rfl) rfl
 have hB:GB s rs0:=⟨by decide,by show (0:Int) ≤ _; omega,fun _ => by decide,by show (0:Int) ≤ _; omega⟩
 have f0:[OB.box 25 [.i .i64 0,.s [],.nil,.nil],OB.box 56 [.s s,.i .i64 0,.i .i64 0,.i .i64 0,.i .i64 0]]=[zvB,zaB s rs0]:=rfl
 rw [f0]
 generalize [zvB,zaB s rs0]=o0 at hO ⊢
 subst hZ
 refine zaa fun Z hZ => ?_
 simp only [sxZ,z5,z6,z7,z8,j4,j5,j6,j7,j8,j9,y3,y4,y5,y6,y7,reduceCtorEq,↓reduceIte]
 refine zak (zb8 (by omega) hO fun o1 hO1 => ?_)
 have hB1:=za8 hB
 have hT1:=zbp hB
 generalize zaf s rs0=N at hO1 hB1 hT1 hr ⊢
 obtain ⟨T1,ρ1⟩:=N
 simp only at hO1 hB1 hT1 hr ⊢
 have hval:ValK s 1 0 (fun ρ t => zat s 65 ρ t 0):=value_k hs 65 0 rfl (by decide)
 have hvc:=fun {objs:List OB} {K:List OB → AV → Prop} {L:List (Nat × OB)} (h1) (h2) (h3) => hval (objs:=objs) (K:=K) (L:=L) (ρ:=ρ1) T1 hB1.1 hB1.2 hT1 h1 h2 h3
 have hg2:=zei s 65 0 ρ1 T1 hB1.1 hB1.2
 simp only at hvc hg2
 generalize zat s 65 ρ1 T1 0=R at hvc hg2 hr
 obtain ⟨v,ρ2⟩:=R
 simp only at hvc hg2 hr
 unfold zgd tkC
 simp only [sxZ,z5,z6,z7,z8,j4,j5,j6,j7,j8,j9,y3,y4,y5,y6,y7,reduceCtorEq,↓reduceIte]
 refine zak (hvc (hC _) hO1 fun o2 hO2 => ?_)
 have hjc:=zad v
 rw [hjc]
 simp only [sxZ,z5,z6,z7,z8,j4,j5,j6,j7,j8,j9,y3,y4,y5,y6,y7,reduceCtorEq,↓reduceIte,gn1,sn1]
 have hO3:=hO2.new (.box 25 (zaj v))
 rw [hjc] at hO3
 have hO3:zaE ((1,zaB s ρ2) :: (o2.length,.box 25 [.i .i64 v.kind,.s v.text,.row v.keys.length (v.keys.map .s),.row v.items.length (zab v.items)]) :: [(0,zvB)]) (o2 ++ [.box 25 [.i .i64 v.kind,.s v.text,.row v.keys.length (v.keys.map .s),.row v.items.length (zab v.items)]]):=hO3.perm (List.Perm.swap _ _ _)
 generalize o2.length=qv at hO3 ⊢
 generalize o2 ++ [OB.box 25 [.i .i64 v.kind,.s v.text,.row v.keys.length (v.keys.map .s),.row v.items.length (zab v.items)]]=o3 at hO3 ⊢
 subst hZ
 refine zaa fun Z hZ => ?_
 refine zaa fun W hW => ?_
 simp only [sxZ,z5,z6,z7,z8,j4,j5,j6,j7,j8,j9,y3,y4,y5,y6,y7,reduceCtorEq,↓reduceIte]
 refine zak (zb8 (by omega) hO3 fun o4 hO4 => ?_)
 generalize zaf s ρ2=N at hO4 hr ⊢
 obtain ⟨T3,ρ3⟩:=N
 simp only at hO4 hr ⊢
 unfold zgd tkC
 simp only [sxZ,z5,z6,z7,z8,j4,j5,j6,j7,j8,j9,y3,y4,y5,y6,y7,reduceCtorEq,↓reduceIte,gn1,sn1]
 have f1:∀ x y z,OB.box 59 [.i .i64 x,.s y,.i .i64 z]=zaL (x,y,z):=fun _ _ _ => rfl
 rw [f1]
 have hO5:=hO4.new (zaL T3)
 have hO5:zaE ((1,zaB s ρ3) :: (o4.length,zaL T3) :: (qv,.box 25 [.i .i64 v.kind,.s v.text,.row v.keys.length (v.keys.map .s),.row v.items.length (zab v.items)]) :: [(0,zvB)]) (o4 ++ [zaL (T3.1,T3.2.1,T3.2.2)]):=hO5.perm (List.Perm.swap _ _ _)
 generalize o4.length=qt at hO5 ⊢
 generalize o4 ++ [zaL (T3.1,T3.2.1,T3.2.2)]=o5 at hO5 ⊢
 subst hW
 have e1:=hO5.get (i:=1) (x:=zaB s ρ3) (by simp)
 have e2:=hO5.get (i:=qt) (x:=zaL T3) (by simp)
 unfold zaB at e1
 unfold zaL tkC at e2
 generalize hρ:(if ρ3.fail=0 ∧ ¬ T3.1=1 then zaK ρ3 T3.2.2 140 else ρ3)=ρ4 at hr
 refine zaz (fun o tm => zaE ((1,zaB s ρ4) :: (qt,zaL T3) :: (qv,.box 25 [.i .i64 v.kind,.s v.text,.row v.keys.length (v.keys.map .s),.row v.items.length (zab v.items)]) :: [(0,zvB)]) o ∧ tm.length=52 ∧ tm[0]? = some (.s s) ∧ tm[2]? = some (.p 0 0) ∧ tm[5]? = some (.p 1 0) ∧ tm[6]? = some (.p qv 0)) ?_ ?_
 ·by_cases c3:ρ3.fail=0
  ·by_cases c4:T3.1=1
   ·rw [if_neg (fun h => h.2 c4)] at hρ
    subst hρ
    simp only [sxZ,z5,z6,z7,z8,j4,j5,j6,j7,j8,j9,y3,y4,y5,y6,y7,reduceCtorEq,↓reduceIte,e1,e2,c3,c4,zac,and_self,and_true]
    exact hO5
   ·rw [if_pos ⟨c3,c4⟩] at hρ
    simp only [sxZ,z5,z6,z7,z8,j4,j5,j6,j7,j8,j9,y3,y4,y5,y6,y7,reduceCtorEq,↓reduceIte,e1,e2,c3,c4]
    refine zak (zbV hO5 T3.2.2 140 fun o6 hO6 => ?_)
    rw [hρ] at hO6
    simp only [sxZ,z5,z6,z7,z8,j4,j5,j6,j7,j8,j9,y3,y4,y5,y6,y7,reduceCtorEq,↓reduceIte,zac,and_self,and_true]
    exact hO6
  ·rw [if_neg (fun h => c3 h.1)] at hρ
   subst hρ
   simp only [sxZ,z5,z6,z7,z8,j4,j5,j6,j7,j8,j9,y3,y4,y5,y6,y7,reduceCtorEq,↓reduceIte,e1,e2,c3,zac,and_self,and_true]
   exact hO5
 clear hO5 e1 e2
 rintro o6 tm ⟨hO6,hlen,t0,t2,t5,t6⟩
 have e1:=hO6.get (i:=1) (x:=zaB s ρ4) (by simp)
 have e0:=hO6.get (i:=0) (x:=zvB) (by simp)
 have ev:=hO6.get (i:=qv) (x:=.box 25 [.i .i64 v.kind,.s v.text,.row v.keys.length (v.keys.map .s),.row v.items.length (zab v.items)]) (by simp)
 have hlt:=(List.getElem?_eq_some_iff.1 e0).1
 have gs:∀ x,(o6.set 0 x)[0]? = some x:=fun x => List.getElem?_set_self hlt
 unfold zaB at e1
 unfold zvB at e0
 subst hZ
 refine zaa fun Z hZ => ?_
 by_cases c5:ρ4.fail=0
 ·rw [if_neg (fun h => h c5)] at hr
  simp only [sxZ,z5,z6,z7,z8,j4,j5,j6,j7,j8,j9,y3,y4,y5,y6,y7,reduceCtorEq,↓reduceIte,List.getElem?_set,hlen,t5,e1,c5]
  subst hZ
  simp only [sxZ,z5,z6,z7,z8,j4,j5,j6,j7,j8,j9,y3,y4,y5,y6,y7,reduceCtorEq,↓reduceIte,List.getElem?_set,hlen,t0,t2,t6,e0,ev,gs]
  simp only [pub,AV.plain,zaO,zbD,sxZ,z5,z6,z7,z8,j4,j5,j6,j7,j8,j9,y3,y4,y5,y6,y7,reduceCtorEq,↓reduceIte]
  exact ⟨fun G I y hy => by rw [hr,zeQ,hjc]; exact hy,hk⟩
 ·rw [if_pos c5] at hr
  simp only [sxZ,z5,z6,z7,z8,j4,j5,j6,j7,j8,j9,y3,y4,y5,y6,y7,reduceCtorEq,↓reduceIte,List.getElem?_set,hlen,t2,t5,e0,e1,c5,gs]
  exact finE hr
end
section
variable [Tabs Try.prog] [Pow Try.prog] [Utf Try.prog]
end
end
section
attribute [local irreducible] run
def sA16:List UInt8:=[123,34,115,117,98,106,101,99,116,34,58,34,97,99,99,116,58,97,64,98,46,101,120,97,109,112,108,101,34,44,34,108,105,110,107,115,34,58,91,123,34,114,101,108,34,58,34,115,101,108,102,34,44,34,104,114,101,102,34,58,34,104,116,116,112,115,58,47,47,98,46,101,120,97,109,112,108,101,47,97,34,125,93,125]
def sB16:List UInt8:=[123,34,108,105,110,107,115,34,58,91,123,125,93,125]
def jB16:JV:=.mk 7 [] [zbC] [.mk 6 [] [] [.mk 7 [] [] []]]
def zlH:JV:=.mk 7 [] [zbT,zbC] [.mk 5 [97,99,99,116,58,97,64,98,46,101,120,97,109,112,108,101] [] [],.mk 6 [] [] [.mk 7 [] [zdw,zbX] [.mk 5 [115,101,108,102] [] [],.mk 5 [104,116,116,112,115,58,47,47,98,46,101,120,97,109,112,108,101,47,97] [] []]]]
theorem eA16:(zbW sA16).1=zlH:=by kernel_rfl
theorem eB16:(zbW sB16).1=jB16:=by kernel_rfl
theorem dA16:jd4 zlH=0:=by decide +kernel
theorem dB16:jd4 jB16=160:=by decide +kernel
def lA16:LkP:=⟨[115,101,108,102],[],[104,116,116,112,115,58,47,47,98,46,101,120,97,109,112,108,101,47,97],[],[],[]⟩
theorem vA16:jdV zlH=zdN [97,99,99,116,58,97,64,98,46,101,120,97,109,112,108,101] [] [] [lA16]:=by kernel_rfl
theorem fA16:zde [115,101,108,102] [lA16]=[lA16]:=by kernel_rfl
theorem okA16:JOk zlH ∧ JBd zlH:=by
 unfold zlH
 simp [JOk,zcr,JBd,zcc,Lit.wf,IntKind.min,IntKind.max,IntKind.signed,IntKind.bits,zbT,zbC,zdw,zbX]
theorem okB16:JOk jB16 ∧ JBd jB16:=by
 unfold jB16
 simp [JOk,zcr,JBd,zcc,Lit.wf,IntKind.min,IntKind.max,IntKind.signed,IntKind.bits,zbC]
section
variable [Tabs Try.prog] [Utf Try.prog] {objs:List OB} {K:List OB → AV → Prop}
theorem sane16_k (hk:K objs (.b true)):zah Try.prog 8 [] objs K:=by
 refine zbm is_law16_sane rfl fun C _ => ?_
 rw [c_law16_sane]
 refine zaa fun Z hZ => ?_
 simp only [sxZ,z5,z6,z7,z8,j4,j5,j6,j7,j8,j9,y3,y4,y5,y6,y7,reduceCtorEq,↓reduceIte]
 subst hZ
 refine zaa fun Z hZ => ?_
 simp only [sxZ,z5,z6,z7,z8,j4,j5,j6,j7,j8,j9,y3,y4,y5,y6,y7,reduceCtorEq,↓reduceIte]
 refine zak (zfG sA16 (by decide) ?_)
 have e1:=eA16
 obtain ⟨⟨x,a,e⟩,hx⟩:∃ R,zbW sA16=R:=⟨_,rfl⟩
 rw [hx] at e1 ⊢
 dsimp only at e1
 subst e1
 unfold zeQ
 obtain ⟨a0,a1,a2,a3,hA⟩:∃ a0 a1 a2 a3,zaj zlH=[a0,a1,a2,a3]:=⟨_,_,_,_,zad zlH⟩
 rw [hA]
 simp only [sxZ,z5,z6,z7,z8,j4,j5,j6,j7,j8,j9,y3,y4,y5,y6,y7,reduceCtorEq,↓reduceIte,gn1,sn1]
 subst hZ
 refine zaa fun Z hZ => ?_
 simp only [sxZ,z5,z6,z7,z8,j4,j5,j6,j7,j8,j9,y3,y4,y5,y6,y7,reduceCtorEq,↓reduceIte]
 refine zak (zfG sB16 (by decide) ?_)
 have e2:=eB16
 obtain ⟨⟨y,b,f⟩,hy⟩:∃ R,zbW sB16=R:=⟨_,rfl⟩
 rw [hy] at e2 ⊢
 dsimp only at e2
 subst e2
 unfold zeQ
 obtain ⟨b0,b1,b2,b3,hB⟩:∃ b0 b1 b2 b3,zaj jB16=[b0,b1,b2,b3]:=⟨_,_,_,_,zad jB16⟩
 rw [hB]
 simp only [sxZ,z5,z6,z7,z8,j4,j5,j6,j7,j8,j9,y3,y4,y5,y6,y7,reduceCtorEq,↓reduceIte,gn1,sn1]
 subst hZ
 refine zaa fun Z hZ => ?_
 simp only [sxZ,z5,z6,z7,z8,j4,j5,j6,j7,j8,j9,y3,y4,y5,y6,y7,reduceCtorEq,↓reduceIte]
 rw [← hA]
 refine zak (zeC zlH okA16.1 okA16.2 ?_)
 rw [show zjt zlH=jdV zlH from if_pos dA16,vA16,dA16]
 unfold zdN
 simp only [sxZ,z5,z6,z7,z8,j4,j5,j6,j7,j8,j9,y3,y4,y5,y6,y7,reduceCtorEq,↓reduceIte]
 subst hZ
 refine zaa fun Z hZ => ?_
 simp only [sxZ,z5,z6,z7,z8,j4,j5,j6,j7,j8,j9,y3,y4,y5,y6,y7,reduceCtorEq,↓reduceIte]
 rw [← hB]
 refine zak (zeC jB16 okB16.1 okB16.2 ?_)
 rw [show zjt jB16=zdN [] [] [] [] from if_neg (by rw [dB16]; decide),dB16]
 unfold zdN
 simp only [sxZ,z5,z6,z7,z8,j4,j5,j6,j7,j8,j9,y3,y4,y5,y6,y7,reduceCtorEq,↓reduceIte]
 subst hZ
 refine zaa fun Z hZ => ?_
 have hlk:zbH [lA16]=[.s [115,101,108,102],.s [],.s [104,116,116,112,115,58,47,47,98,46,101,120,97,109,112,108,101,47,97],.s [],.row 0 [],.row 0 []]:=rfl
 have n1:(((1:Nat):Int)=1)=True:=by simp
 simp only [sxZ,z5,z6,z7,z8,j4,j5,j6,j7,j8,j9,y3,y4,y5,y6,y7,reduceCtorEq,↓reduceIte,hlk,n1,decide_true]
 refine ⟨by decide,?_⟩
 refine zak (jFind_k [97,99,99,116,58,97,64,98,46,101,120,97,109,112,108,101] [] [] [lA16] [115,101,108,102] (by decide) (by intro x hx; rw [List.mem_singleton] at hx; subst hx; decide) ?_)
 rw [fA16]
 simp only [sxZ,z5,z6,z7,z8,j4,j5,j6,j7,j8,j9,y3,y4,y5,y6,y7,reduceCtorEq,↓reduceIte,n1,decide_true,List.length_cons,List.length_nil]
 subst hZ
 simp only [sxZ,z5,z6,z7,z8,j4,j5,j6,j7,j8,j9,y3,y4,y5,y6,y7,reduceCtorEq,↓reduceIte]
 exact hk
end
end
end Go.Proofs.Ytceenajkieomoaa
namespace Go.Proofs.Ytceenajkieomoaa
open Go.RowKit Sx
section
attribute [local irreducible] run
section
variable [Tabs Try.prog] {objs:List OB} {K:List OB → AV → Prop}
end
end
end Go.Proofs.Ytceenajkieomoaa
namespace Go.Proofs.Ytceenajkieomoaa
open Go.RowKit Sx
section
attribute [local irreducible] run
section
variable [Tabs Try.prog] {objs:List OB} {K:List OB → AV → Prop}
end
section
variable [Tabs Try.prog] [Utf Try.prog]
end
end
end Go.Proofs.Ytceenajkieomoaa
namespace Go.Proofs.Ytceenajkieomoaa
open Go.RowKit Sx
section
attribute [local irreducible] run
theorem zhm {l:List JV} {k:Nat} (hk:k ≤ l.length):(zab l).drop (k * 4)=zab (l.drop k) ∧ (zab l).take (k * 4)=zab (l.take k):=by
 have h1:zab l=zab (l.take k) ++ zab (l.drop k):=by rw [← zdb,List.take_append_drop]
 have h2:(zab (l.take k)).length=k * 4:=by rw [zay,List.length_take,Nat.min_eq_left hk]
 constructor
 ·rw [h1,List.drop_left' h2]
 ·rw [h1,List.take_left' h2]
theorem zmi {v:JV} (hv:JOk v):∃ S A P L,zjt v=zdN S A P L ∧ JrF S A P L:=by
 by_cases h:jd4 v=0
 ·exact ⟨_,_,_,_,if_pos h,jd_fit hv h⟩
 ·exact ⟨[],[],[],[],if_neg h,⟨by simp,by simp,by simp,⟨by simp,by simp⟩,by simp,by simp⟩⟩
section
variable [Tabs Try.prog] [Utf Try.prog]
end
end
end Go.Proofs.Ytceenajkieomoaa
namespace Go.Proofs.Ytceenajkieomoaa
open Nat renaming reduceAdd → z5, reduceSub → z6, reduceLeDiff → z7, reduceLT → z8, reduceMul → j4, reduceEqDiff → j5
open Int renaming reduceToNat → j6, reduceAdd → j7, reduceSub → j8, reduceMul → j9, reduceNeg → y3, reduceLT → y4, reduceLE → y5, reduceEq → y6, reduceNe → y7
open Go.RowKit Sx
section
attribute [local irreducible] run
def st5 (e:Int) (b:Bool):Int:=if b=true then e else orE e 160
theorem st5_t (e:Int) (a:Bool):st5 e (a && true)=st5 e a:=by rw [Bool.and_true]
theorem st5_f (e:Int) (a:Bool):st5 e (a && false)=orE (st5 e a) 160:=by
 rw [Bool.and_false]
 unfold st5
 cases a with
 | true => rfl
 | false => rw [if_neg (by decide),zkR]; unfold orE; simp
theorem zfD (v:JV) (key:List UInt8) (kind:Int) (most:Nat):(zcq v key kind most).items.length ≤ most:=by
 unfold zcq
 split
 ·exact Nat.zero_le _
 split
 ·exact Nat.zero_le _
 split
 ·exact Nat.zero_le _
 ·rename_i h; omega
theorem ze2 (v:JV) (key:List UInt8) (kind:Int) (most:Nat):zcq v key kind most=jvZ ∨ zcq v key kind most=zjG (zba v key).1 kind:=by
 unfold zcq
 by_cases a1:(zba v key).2=false
 ·rw [if_pos a1]; exact .inl rfl
 rw [if_neg a1]
 by_cases a2:(zba v key).1.kind ≠ kind
 ·rw [if_pos a2]; exact .inl rfl
 rw [if_neg a2]
 by_cases a3:most < (zjG (zba v key).1 kind).items.length
 ·rw [if_pos a3]; exact .inl rfl
 ·rw [if_neg a3]; exact .inr rfl
theorem ritV_it {v:JV} (hv:JOk v) (hj:JBd v) (key:List UInt8) (kind:Int) (most:Nat):∀ y ∈ (zcq v key kind most).items,JOk y ∧ JBd y:=by
 have h1:=zfS hv key
 have h2:=zeg hj key
 have h3:∀ y ∈ (zba v key).1.items,JOk y ∧ JBd y:=fun y hy => by
  obtain ⟨i,hi,rfl⟩:=List.mem_iff_getElem.1 hy
  exact ⟨h1.its hi,h2.its hi⟩
 rcases ze2 v key kind most with h | h
 ·rw [h]; intro y hy; cases hy
 ·rw [h]
  unfold zjG
  by_cases a:kind=7
  ·rw [if_pos a]; intro y hy; exact h3 y (List.mem_of_mem_take hy)
  ·rw [if_neg a]; exact h3
theorem zks (v:JV) (key:List UInt8) (most:Nat):(zcq v key 7 most).keys.length=(zcq v key 7 most).items.length:=by
 rcases ze2 v key 7 most with h | h
 ·rw [h]; rfl
 ·rw [h]
  unfold zjG
  rw [if_pos rfl]
  show (List.take _ _).length=(List.take _ _).length
  rw [List.length_take,List.length_take]; omega
section
variable [Tabs Try.prog] {objs:List OB} {K:List OB → AV → Prop}
theorem zfC (v:JV) (e:Int) (key:List UInt8) (kind:Int) (most b:Nat) (hv:JOk v) (hj:JBd v) (hb:objs[b]? = some (rdB e)) (hk:∀ o,Ext objs o b (rdB (ze3 v e key kind most)) → K o (.agg (zaj (zcq v key kind most)))):zah Try.prog 34 [.p b 0,.agg (zaj v),.s key,.i .i64 kind,.i .i64 (most:Int)] objs K:=by
 have hbl:=(List.getElem?_eq_some_iff.1 hb).1
 refine zd8 (.agg (zaj (zcq v key kind most))) ?_
 refine zbb is_ref16_reader_items fun C _ => ?_
 rw [c_ref16_reader_items]
 have ejv:=zad v
 rw [ejv]
 refine zaa fun Z hZ => ?_
 simp only [sxZ,z5,z6,z7,z8,j4,j5,j6,j7,j8,j9,y3,y4,y5,y6,y7,reduceCtorEq,↓reduceIte]
 have hE0:=((Ext.refl hb).app (OB.box 25 [.i .i64 v.kind,.s v.text,.row v.keys.length (v.keys.map .s),.row v.items.length (zab v.items)])).app (OB.box 25 [.i .i64 0,.s [],.nil,.nil])
 have eV:(objs ++ [OB.box 25 [.i .i64 v.kind,.s v.text,.row v.keys.length (v.keys.map .s),.row v.items.length (zab v.items)]] ++ [OB.box 25 [.i .i64 0,.s [],.nil,.nil]])[objs.length]? = some (.box 25 [.i .i64 v.kind,.s v.text,.row v.keys.length (v.keys.map .s),.row v.items.length (zab v.items)]):=by rw [List.getElem?_append_left (by simp)]; exact gn1 _ _
 have eR:(objs ++ [OB.box 25 [.i .i64 v.kind,.s v.text,.row v.keys.length (v.keys.map .s),.row v.items.length (zab v.items)]] ++ [OB.box 25 [.i .i64 0,.s [],.nil,.nil]])[objs.length + 1]? = some (.box 25 [.i .i64 0,.s [],.nil,.nil]):=gn2 _ _ _
 have hl0:(objs ++ [OB.box 25 [.i .i64 v.kind,.s v.text,.row v.keys.length (v.keys.map .s),.row v.items.length (zab v.items)]] ++ [OB.box 25 [.i .i64 0,.s [],.nil,.nil]]).length=objs.length + 2:=by simp
 generalize objs ++ [OB.box 25 [.i .i64 v.kind,.s v.text,.row v.keys.length (v.keys.map .s),.row v.items.length (zab v.items)]] ++ [OB.box 25 [.i .i64 0,.s [],.nil,.nil]]=o2 at hE0 eV eR hl0 ⊢
 subst hZ
 refine zaa fun Z hZ => ?_
 simp only [sxZ,z5,z6,z7,z8,j4,j5,j6,j7,j8,j9,y3,y4,y5,y6,y7,reduceCtorEq,↓reduceIte,eV]
 rw [← ejv]
 refine zak (ze4 v key hv ?_)
 have hjx:=zeg hj key
 unfold ze3 zcq at hk
 unfold zcq
 obtain ⟨⟨x,ok⟩,hx⟩:∃ R,zba v key=R:=⟨_,rfl⟩
 rw [hx] at hk hjx ⊢
 unfold zco
 dsimp only at hk hjx ⊢
 obtain ⟨bd1,bd2⟩:=hjx.lens
 rw [zad x]
 simp only [sxZ,z5,z6,z7,z8,j4,j5,j6,j7,j8,j9,y3,y4,y5,y6,y7,reduceCtorEq,↓reduceIte,gn1,sn1]
 have hE:=hE0.app (.box 25 [.i .i64 x.kind,.s x.text,.row x.keys.length (x.keys.map .s),.row x.items.length (zab x.items)])
 have eX:(o2 ++ [OB.box 25 [.i .i64 x.kind,.s x.text,.row x.keys.length (x.keys.map .s),.row x.items.length (zab x.items)]])[o2.length]? = some (.box 25 [.i .i64 x.kind,.s x.text,.row x.keys.length (x.keys.map .s),.row x.items.length (zab x.items)]):=gn1 _ _
 have eR:(o2 ++ [OB.box 25 [.i .i64 x.kind,.s x.text,.row x.keys.length (x.keys.map .s),.row x.items.length (zab x.items)]])[objs.length + 1]? = some (.box 25 [.i .i64 0,.s [],.nil,.nil]):=by rw [List.getElem?_append_left (by omega)]; exact eR
 generalize hq:o2.length=q at eX ⊢
 generalize o2 ++ [OB.box 25 [.i .i64 x.kind,.s x.text,.row x.keys.length (x.keys.map .s),.row x.items.length (zab x.items)]]=o3 at hE eX eR ⊢
 have hol:=(List.getElem?_eq_some_iff.1 eX).1
 have hro:=(List.getElem?_eq_some_iff.1 eR).1
 have ejz:zaj jvZ=zaj (.mk 0 [] [] []):=rfl
 subst hZ
 refine zaa fun Z hZ => ?_
 have fin:∀ e2:Int,Ext objs (o3.set b (rdB e2)) b (rdB e2):=fun e2 => hE.set _
 cases ok with
 | false =>
  rw [if_pos rfl] at hk ⊢
  rw [if_pos rfl] at hk
  have hk2:=hk _ (hE.own (objs.length + 1) (.box 25 [.i .i64 0,.s [],.nil,.nil]) (by omega) hbl)
  simp only [sxZ,z5,z6,z7,z8,j4,j5,j6,j7,j8,j9,y3,y4,y5,y6,y7,reduceCtorEq,↓reduceIte,eR,hro,List.getElem?_set]
  exact ⟨fun G I y hy => zht (k:=0) (t:=[]) hy,hk2⟩
 | true =>
  have n1:¬ (true=false):=by decide
  rw [if_neg n1] at hk ⊢
  rw [if_neg n1] at hk
  by_cases c:x.kind=kind
  rotate_left
  ·rw [if_pos c] at hk ⊢
   rw [if_pos c] at hk
   simp only [sxZ,z5,z6,z7,z8,j4,j5,j6,j7,j8,j9,y3,y4,y5,y6,y7,reduceCtorEq,↓reduceIte,eX,c]
   refine zak (zbN e 160 b hE.1 ?_)
   have eR4:(o3.set b (rdB (orE e 160)))[objs.length + 1]? = some (.box 25 [.i .i64 0,.s [],.nil,.nil]):=by rw [List.getElem?_set_ne (by omega)]; exact eR
   have hE4:=fin (orE e 160)
   have hk2:=hk _ (hE4.own (objs.length + 1) (.box 25 [.i .i64 0,.s [],.nil,.nil]) (by omega) hbl)
   have hro4:objs.length + 1 < (o3.set b (rdB (orE e 160))).length:=by rw [List.length_set]; exact hro
   generalize o3.set b (rdB (orE e 160))=o4 at eR4 hE4 hk2 hro4 ⊢
   simp only [sxZ,z5,z6,z7,z8,j4,j5,j6,j7,j8,j9,y3,y4,y5,y6,y7,reduceCtorEq,↓reduceIte,eR4,hro4,List.getElem?_set]
   exact ⟨fun G I y hy => zht (k:=0) (t:=[]) hy,hk2⟩
  ·have n2:¬ (x.kind ≠ kind):=fun h => h c
   rw [if_neg n2] at hk ⊢
   rw [if_neg n2] at hk
   simp only [sxZ,z5,z6,z7,z8,j4,j5,j6,j7,j8,j9,y3,y4,y5,y6,y7,reduceCtorEq,↓reduceIte,eX,c]
   subst hZ
   refine zaa fun Z hZ => ?_
   rw [← c] at hk ⊢
   generalize hkx:x.kind=kx at hk eX c ⊢
   refine zaz (fun o t => ∃ Y:JV,Y=zjG x kx ∧ Ext objs o b (rdB e) ∧ o[q]? = some (.box 25 (zaj Y)) ∧ o[objs.length + 1]? = some (.box 25 [.i .i64 0,.s [],.nil,.nil]) ∧ t.length=60 ∧ t[0]? = some (.p b 0) ∧ t[4]? = some (.i .i64 (most:Int)) ∧ t[10]? = some (.p (objs.length + 1) 0) ∧ t[11]? = some (.p q 0)) ?_ ?_
   ·by_cases c7:kx=7
    ·subst c7
     have hmn:(if (x.items.length:Int) < (x.keys.length:Int) then (x.items.length:Int) else (x.keys.length:Int))=((min x.keys.length x.items.length:Nat):Int):=by split <;> omega
     have hn1:min x.keys.length x.items.length ≤ x.keys.length ∧ min x.keys.length x.items.length ≤ x.items.length:=by omega
     have eY:zjG x 7=.mk x.kind x.text (x.keys.take (min x.keys.length x.items.length)) (x.items.take (min x.keys.length x.items.length)):=if_pos rfl
     generalize min x.keys.length x.items.length=n at hmn hn1 eY
     have g1:(0 ≤ (n:Int) ∧ (n:Int) ≤ (x.keys.length:Int))=True:=by simp; exact hn1.1
     have g2:(0 ≤ (n:Int) ∧ (n:Int) ≤ (x.items.length:Int))=True:=by simp; exact hn1.2
     have k1:(x.keys.map AV.s).take (n * 1)=(x.keys.take n).map AV.s:=by rw [Nat.mul_one,List.map_take]
     have k2:=(zhm hn1.2).2
     simp only [sxZ,z5,z6,z7,z8,j4,j5,j6,j7,j8,j9,y3,y4,y5,y6,y7,reduceCtorEq,↓reduceIte,eX,hmn,g1,g2,Int.toNat_natCast,k1,k2,List.getElem?_set,hol,zac]
     refine ⟨_,rfl,(hE.own q _ (by omega) hbl).own q _ (by omega) hbl,?_,?_⟩
     ·rw [eY,jc_mk,List.length_take,List.length_take,Nat.min_eq_left hn1.1,Nat.min_eq_left hn1.2,hkx]
     ·rw [if_neg (by omega),if_neg (by omega)]; exact eR
    ·simp only [sxZ,z5,z6,z7,z8,j4,j5,j6,j7,j8,j9,y3,y4,y5,y6,y7,reduceCtorEq,↓reduceIte,eX,c7,zac]
     exact ⟨x,by unfold zjG; rw [if_neg c7],hE,by rw [zad x,hkx],eR⟩
   rintro o4 tm ⟨Y,hY,hE4,eX4,eR4,hlen,t0,t4,t10,t11⟩
   rw [← hY] at hk ⊢
   have hro4:=(List.getElem?_eq_some_iff.1 eR4).1
   rw [zad Y] at eX4
   subst hZ
   refine zaa fun Z hZ => ?_
   by_cases c:most < Y.items.length
   ·rw [if_pos c] at hk ⊢
    rw [if_pos c] at hk
    have cc:((most:Int) < (Y.items.length:Int))=True:=by simp; exact c
    simp only [sxZ,z5,z6,z7,z8,j4,j5,j6,j7,j8,j9,y3,y4,y5,y6,y7,reduceCtorEq,↓reduceIte,List.getElem?_set,hlen,t0,t4,t10,t11,eX4,cc,decide_true]
    refine zak (zbN e 161 b hE4.1 ?_)
    have eR5:(o4.set b (rdB (orE e 161)))[objs.length + 1]? = some (.box 25 [.i .i64 0,.s [],.nil,.nil]):=by rw [List.getElem?_set_ne (by omega)]; exact eR4
    have hE5:=hE4.set (rdB (orE e 161))
    have hk2:=hk _ (hE5.own (objs.length + 1) (.box 25 [.i .i64 0,.s [],.nil,.nil]) (by omega) hbl)
    have hro5:objs.length + 1 < (o4.set b (rdB (orE e 161))).length:=by rw [List.length_set]; exact hro4
    generalize o4.set b (rdB (orE e 161))=o5 at eR5 hE5 hk2 hro5 ⊢
    simp only [sxZ,z5,z6,z7,z8,j4,j5,j6,j7,j8,j9,y3,y4,y5,y6,y7,reduceCtorEq,↓reduceIte,List.getElem?_set,hlen,t0,t4,t10,t11,eR5,hro5]
    exact ⟨fun G I y hy => zht (k:=0) (t:=[]) hy,hk2⟩
   ·rw [if_neg c] at hk ⊢
    rw [if_neg c] at hk
    have cc:((most:Int) < (Y.items.length:Int))=False:=by simp; omega
    simp only [sxZ,z5,z6,z7,z8,j4,j5,j6,j7,j8,j9,y3,y4,y5,y6,y7,reduceCtorEq,↓reduceIte,List.getElem?_set,hlen,t0,t4,t10,t11,eX4,cc,decide_false]
    subst hZ
    have hk2:=hk _ (hE4.own (objs.length + 1) (.box 25 (zaj Y)) (by omega) hbl)
    rw [zad Y] at hk2 ⊢
    simp only [sxZ,z5,z6,z7,z8,j4,j5,j6,j7,j8,j9,y3,y4,y5,y6,y7,reduceCtorEq,↓reduceIte,List.getElem?_set,hlen,t0,t4,t10,t11,eX4,eR4,hro4]
    exact ⟨fun G I y hy => hy,hk2⟩
theorem rtexts_k (v:JV) (e:Int) (key:List UInt8) (b:Nat) (hv:JOk v) (hj:JBd v) (hb:objs[b]? = some (rdB e)) (hk:∀ o,Ext objs o b (rdB (rtsE v e key)) → K o (.row (zeb v key).length ((zeb v key).map .s))):zah Try.prog 32 [.p b 0,.agg (zaj v),.s key] objs K:=by
 have hbl:=(List.getElem?_eq_some_iff.1 hb).1
 refine zd8 (.row (zeb v key).length ((zeb v key).map .s)) ?_
 refine zbh ?_
 refine zbb is_ref16_reader_texts fun C _ => ?_
 rw [c_ref16_reader_texts]
 have ejv:=zad v
 rw [ejv]
 refine zaa fun Z hZ => ?_
 simp only [sxZ,z5,z6,z7,z8,j4,j5,j6,j7,j8,j9,y3,y4,y5,y6,y7,reduceCtorEq,↓reduceIte]
 have hE0:=(Ext.refl hb).app (.box 25 [.i .i64 v.kind,.s v.text,.row v.keys.length (v.keys.map .s),.row v.items.length (zab v.items)])
 have eV:(objs ++ [OB.box 25 [.i .i64 v.kind,.s v.text,.row v.keys.length (v.keys.map .s),.row v.items.length (zab v.items)]])[objs.length]? = some (.box 25 [.i .i64 v.kind,.s v.text,.row v.keys.length (v.keys.map .s),.row v.items.length (zab v.items)]):=gn1 _ _
 generalize objs ++ [OB.box 25 [.i .i64 v.kind,.s v.text,.row v.keys.length (v.keys.map .s),.row v.items.length (zab v.items)]]=o0 at hE0 eV ⊢
 subst hZ
 refine zaa fun Z hZ => ?_
 simp only [sxZ,z5,z6,z7,z8,j4,j5,j6,j7,j8,j9,y3,y4,y5,y6,y7,reduceCtorEq,↓reduceIte]
 subst hZ
 refine zaa fun Z hZ => ?_
 refine zaa fun W hW => ?_
 simp only [sxZ,z5,z6,z7,z8,j4,j5,j6,j7,j8,j9,y3,y4,y5,y6,y7,reduceCtorEq,↓reduceIte,eV]
 rw [← ejv]
 refine zak (zfC v e key 6 64 b hv hj hE0.1 fun o ho => ?_)
 have ho:=hE0.trans ho
 have hit:=zfD v key 6 64
 rw [zad (zcq v key 6 64)]
 unfold rtsE zeb at hk
 unfold zeb
 have hk:∀ o,Ext objs o b (rdB (st5 (ze3 v e key 6 64) ((zcq v key 6 64).items.all fun x => decide (x.kind=5)))) → K o (.row (((zcq v key 6 64).items.map JV.text).length) (((zcq v key 6 64).items.map JV.text).map .s)):=hk
 generalize ze3 v e key 6 64=e1 at ho hk
 simp only [sxZ,z5,z6,z7,z8,j4,j5,j6,j7,j8,j9,y3,y4,y5,y6,y7,reduceCtorEq,↓reduceIte]
 generalize (zcq v key 6 64).items=its at hit hk ⊢
 have hl4:=zay its
 subst hW
 rw [zaH]
 refine zaC (fun m o tm => ∃ (i:Nat),i ≤ its.length ∧ m=its.length - i ∧ Ext objs o b (rdB (st5 e1 ((its.take i).all fun x => decide (x.kind=5)))) ∧ zmD objs.length ((its.take i).map JV.text) o (tm[7]?.getD .u) ∧ tm.length=32 ∧ tm[0]? = some (.p b 0) ∧ tm[14]? = some (.row its.length (zab its)) ∧ tm[15]? = some (.i .i64 (its.length:Int)) ∧ tm[16]? = some (.i .i64 (i:Int))) its.length ⟨0,Nat.zero_le _,rfl,ho,.inl ⟨rfl,rfl⟩,rfl,rfl,rfl,rfl,rfl⟩ ?_
 clear ho
 rintro m o tm ⟨i,hi,rfl,ho,hA,hlen,t0,t14,t15,t16⟩
 obtain ⟨a7,t7⟩:∃ a,tm[7]? = some a:=⟨_,List.getElem?_eq_getElem (by omega)⟩
 rw [t7,Option.getD_some] at hA
 refine zaa fun W hW => ?_
 by_cases hlt:(i:Int) < (its.length:Int)
 ·have hi':i < its.length:=by omega
  have kv:=zdp hi'
  have htk:its.take (i + 1)=its.take i ++ [its[i]]:=by rw [List.take_add_one,List.getElem?_eq_getElem hi']; rfl
  have hfl:((its.take i).map JV.text).length=i:=by rw [List.length_map,List.length_take]; omega
  generalize its[i]=y at kv htk
  rw [zad y] at kv
  simp only [sxZ,z5,z6,z7,z8,j4,j5,j6,j7,j8,j9,y3,y4,y5,y6,y7,reduceCtorEq,↓reduceIte,List.getElem?_set,hlen,t14,t15,t16,hlt]
  subst hW
  refine zaa fun W hW => ?_
  simp only [sxZ,z5,z6,z7,z8,j4,j5,j6,j7,j8,j9,y3,y4,y5,y6,y7,reduceCtorEq,↓reduceIte,List.getElem?_set,hlen]
  subst hW
  refine zaa fun V hV => ?_
  rw [zaH]
  refine zaa fun W hW => ?_
  simp only [sxZ,z5,z6,z7,z8,j4,j5,j6,j7,j8,j9,y3,y4,y5,y6,y7,reduceCtorEq,↓reduceIte,List.getElem?_set,hlen,t14,t16,kv]
  refine ⟨⟨by omega,by omega,by omega⟩,by omega,?_⟩
  simp only [sxZ,z5,z6,z7,z8,j4,j5,j6,j7,j8,j9,y3,y4,y5,y6,y7,reduceCtorEq,↓reduceIte,List.getElem?_set,hlen,gn1,sn1]
  subst hW
  have hE:=ho.app (.box 25 [.i .i64 y.kind,.s y.text,.row y.keys.length (y.keys.map .s),.row y.items.length (zab y.items)])
  have hA2:=hA.mono (.box 25 [.i .i64 y.kind,.s y.text,.row y.keys.length (y.keys.map .s),.row y.items.length (zab y.items)])
  have eB:(o ++ [OB.box 25 [.i .i64 y.kind,.s y.text,.row y.keys.length (y.keys.map .s),.row y.items.length (zab y.items)]])[o.length]? = some (.box 25 [.i .i64 y.kind,.s y.text,.row y.keys.length (y.keys.map .s),.row y.items.length (zab y.items)]):=gn1 _ _
  have hol:=ho.2.1
  generalize hpp:o.length=p at eB hol ⊢
  generalize o ++ [OB.box 25 [.i .i64 y.kind,.s y.text,.row y.keys.length (y.keys.map .s),.row y.items.length (zab y.items)]]=o1 at hE hA2 eB ⊢
  have hal:(its.take (i + 1)).all (fun x => decide (x.kind=5))=((its.take i).all (fun x => decide (x.kind=5)) && decide (y.kind=5)):=by rw [htk,List.all_append]; simp
  refine zaa fun W hW => ?_
  refine zaz (fun o3 t3 => Ext objs o3 b (rdB (st5 e1 ((its.take (i + 1)).all fun x => decide (x.kind=5)))) ∧ zmD objs.length ((its.take i).map JV.text) o3 a7 ∧ o3[p]? = some (.box 25 [.i .i64 y.kind,.s y.text,.row y.keys.length (y.keys.map .s),.row y.items.length (zab y.items)]) ∧ t3.length=32 ∧ t3[0]? = some (.p b 0) ∧ t3[7]? = some a7 ∧ t3[9]? = some (.p p 0) ∧ t3[14]? = some (.row its.length (zab its)) ∧ t3[15]? = some (.i .i64 (its.length:Int)) ∧ t3[16]? = some (.i .i64 (i:Int))) ?_ ?_
  ·rw [hal]
   by_cases c:y.kind=5
   ·simp only [sxZ,z5,z6,z7,z8,j4,j5,j6,j7,j8,j9,y3,y4,y5,y6,y7,reduceCtorEq,↓reduceIte,List.getElem?_set,hlen,eB,c,t0,t7,t14,t15,t16,zac]
    exact ⟨hE,hA2⟩
   ·simp only [sxZ,z5,z6,z7,z8,j4,j5,j6,j7,j8,j9,y3,y4,y5,y6,y7,reduceCtorEq,↓reduceIte,List.getElem?_set,hlen,eB,c,t0]
    refine zak (zbN _ 160 b hE.1 ?_)
    simp only [sxZ,z5,z6,z7,z8,j4,j5,j6,j7,j8,j9,y3,y4,y5,y6,y7,reduceCtorEq,↓reduceIte,List.getElem?_set,hlen,t0,t7,t14,t15,t16,zac]
    have e9:st5 e1 false=orE (st5 e1 ((its.take i).all fun x => decide (x.kind=5))) 160:=by rw [← st5_f,Bool.and_false]
    refine ⟨by rw [e9]; exact hE.set _,hA2.set hE.1 (by intro _ _ _ h; cases h) _,?_⟩
    rw [if_neg (by omega)]; exact eB
  rintro o3 tm2 ⟨hE3,hA3,eB3,hlen2,k0,k7,k9,k14,k15,k16⟩
  subst hW
  generalize hacc:(its.take i).map JV.text=acc at hA3 hfl
  have hol3:=hE3.2.1
  rcases hA3 with ⟨rfl,rfl⟩ | ⟨r,g,rfl,hr0,hr⟩
  ·simp only [sxZ,z5,z6,z7,z8,j4,j5,j6,j7,j8,j9,y3,y4,y5,y6,y7,reduceCtorEq,↓reduceIte,List.getElem?_set,hlen2,k0,k7,k9,eB3]
   subst hV
   simp only [sxZ,z5,z6,z7,z8,j4,j5,j6,j7,j8,j9,y3,y4,y5,y6,y7,reduceCtorEq,↓reduceIte,List.getElem?_set,hlen2,k0,k14,k15,k16]
   refine ⟨by omega,its.length - (i + 1),by omega,i + 1,by omega,rfl,hE3.app _,?_,rfl⟩
   rw [htk,List.map_append,hacc]
   exact .inr ⟨o3.length,0,rfl,hol3,by rw [gn1]; rfl⟩
  ·have hrl:=(List.getElem?_eq_some_iff.1 hr).1
   simp only [sxZ,z5,z6,z7,z8,j4,j5,j6,j7,j8,j9,y3,y4,y5,y6,y7,reduceCtorEq,↓reduceIte,List.getElem?_set,hlen2,k0,k7,k9,eB3,hr]
   refine ⟨⟨by omega,by omega⟩,?_⟩
   subst hV
   simp only [sxZ,z5,z6,z7,z8,j4,j5,j6,j7,j8,j9,y3,y4,y5,y6,y7,reduceCtorEq,↓reduceIte,List.getElem?_set,hlen2,k0,k14,k15,k16]
   refine ⟨by omega,its.length - (i + 1),by omega,i + 1,by omega,rfl,hE3.own r _ hr0 hbl,?_,rfl⟩
   rw [htk,List.map_append,hacc]
   exact .inr ⟨r,g + 1,rfl,hr0,by rw [List.getElem?_set_self hrl,List.length_append,List.map_append]; rfl⟩
 have hn:i=its.length:=by omega
 rw [hn,List.take_of_length_le (Nat.le_refl _)] at hA ho
 simp only [sxZ,z5,z6,z7,z8,j4,j5,j6,j7,j8,j9,y3,y4,y5,y6,y7,reduceCtorEq,↓reduceIte,List.getElem?_set,hlen,t14,t15,t16,hlt]
 subst hW
 simp only [sxZ,z5,z6,z7,z8,j4,j5,j6,j7,j8,j9,y3,y4,y5,y6,y7,reduceCtorEq,↓reduceIte,List.getElem?_set,hlen]
 subst hZ
 rcases hA with ⟨h0,rfl⟩ | ⟨r,g,rfl,hr0,hr⟩
 ·simp only [sxZ,z5,z6,z7,z8,j4,j5,j6,j7,j8,j9,y3,y4,y5,y6,y7,reduceCtorEq,↓reduceIte,List.getElem?_set,hlen,t7]
  rw [h0] at hk ⊢
  exact .inl ⟨fun G I y hy => zaZ hy,hk _ ho⟩
 ·simp only [sxZ,z5,z6,z7,z8,j4,j5,j6,j7,j8,j9,y3,y4,y5,y6,y7,reduceCtorEq,↓reduceIte,List.getElem?_set,hlen,t7]
  refine .inr ⟨r,_,_,_,_,_,hr,fun G I y hy => ?_,hk _ (ho.pub (rdB_pl _) r g _ _ hr0 hbl)⟩
  simpa [zje,zbf] using hy
end
end
section
attribute [local irreducible] run
theorem zjI.set {m:Nat} {l:List PrP} {o:List OB} {X:AV} (h:zjI m l o X) {r:Nat} {Z:OB} (hz:o[r]? = some Z) (hne:∀ g n cs,Z ≠ .orow 83 3 g n cs) (W:OB):zjI m l (o.set r W) X:=by
 rcases h with h | ⟨r1,g,h1,h0,h2⟩
 ·exact .inl h
 ·refine .inr ⟨r1,g,h1,h0,?_⟩
  rw [List.getElem?_set_ne (fun e => by subst e; rw [h2] at hz; injection hz with hz; exact hne _ _ _ hz.symm)]
  exact h2
section
variable [Tabs Try.prog] {objs:List OB} {K:List OB → AV → Prop}
theorem zhL (v:JV) (e:Int) (key:List UInt8) (null:Bool) (b:Nat) (hv:JOk v) (hj:JBd v) (hb:objs[b]? = some (rdB e)) (hk:∀ o,Ext objs o b (rdB (zeN v e key null)) → K o (.row (zcd v key).length (zaX (zcd v key)))):zah Try.prog 33 [.p b 0,.agg (zaj v),.s key,.b null] objs K:=by
 have hbl:=(List.getElem?_eq_some_iff.1 hb).1
 refine zd8 (.row (zcd v key).length (zaX (zcd v key))) ?_
 refine zbh ?_
 refine zbb is_ref16_reader_properties fun C _ => ?_
 rw [c_ref16_reader_properties]
 have ejv:=zad v
 rw [ejv]
 refine zaa fun Z hZ => ?_
 simp only [sxZ,z5,z6,z7,z8,j4,j5,j6,j7,j8,j9,y3,y4,y5,y6,y7,reduceCtorEq,↓reduceIte]
 have hE0:=(Ext.refl hb).app (.box 25 [.i .i64 v.kind,.s v.text,.row v.keys.length (v.keys.map .s),.row v.items.length (zab v.items)])
 have eV:(objs ++ [OB.box 25 [.i .i64 v.kind,.s v.text,.row v.keys.length (v.keys.map .s),.row v.items.length (zab v.items)]])[objs.length]? = some (.box 25 [.i .i64 v.kind,.s v.text,.row v.keys.length (v.keys.map .s),.row v.items.length (zab v.items)]):=gn1 _ _
 generalize objs ++ [OB.box 25 [.i .i64 v.kind,.s v.text,.row v.keys.length (v.keys.map .s),.row v.items.length (zab v.items)]]=o0 at hE0 eV ⊢
 subst hZ
 refine zaa fun Z hZ => ?_
 simp only [sxZ,z5,z6,z7,z8,j4,j5,j6,j7,j8,j9,y3,y4,y5,y6,y7,reduceCtorEq,↓reduceIte,eV]
 rw [← ejv]
 refine zak (zfC v e key 7 64 b hv hj hE0.1 fun o ho => ?_)
 have ho:=hE0.trans ho
 have hit:=zfD v key 7 64
 have hkl:=zks v key 64
 unfold zeN zcd at hk
 unfold zcd
 have hk:∀ o,Ext objs o b (rdB (st5 (ze3 v e key 7 64) (((zcq v key 7 64).keys.zip (zcq v key 7 64).items).all (okP null)))) → K o (.row (((zcq v key 7 64).keys.zip (zcq v key 7 64).items).map zkp).length (zaX (((zcq v key 7 64).keys.zip (zcq v key 7 64).items).map zkp))):=hk
 generalize ze3 v e key 7 64=e1 at ho hk
 generalize zcq v key 7 64=x at hit hkl hk ⊢
 rw [zad x]
 simp only [sxZ,z5,z6,z7,z8,j4,j5,j6,j7,j8,j9,y3,y4,y5,y6,y7,reduceCtorEq,↓reduceIte,gn1,sn1]
 have hE:=ho.app (.box 25 [.i .i64 x.kind,.s x.text,.row x.keys.length (x.keys.map .s),.row x.items.length (zab x.items)])
 have eX:(o ++ [.box 25 [.i .i64 x.kind,.s x.text,.row x.keys.length (x.keys.map .s),.row x.items.length (zab x.items)]])[o.length]? = some (.box 25 [.i .i64 x.kind,.s x.text,.row x.keys.length (x.keys.map .s),.row x.items.length (zab x.items)]):=gn1 _ _
 have hq:=ho.2.1
 generalize hqq:o.length=q at eX hq ⊢
 generalize o ++ [.box 25 [.i .i64 x.kind,.s x.text,.row x.keys.length (x.keys.map .s),.row x.items.length (zab x.items)]]=o1 at hE eX ⊢
 clear ho hqq
 subst hZ
 refine zaa fun Z hZ => ?_
 simp only [sxZ,z5,z6,z7,z8,j4,j5,j6,j7,j8,j9,y3,y4,y5,y6,y7,reduceCtorEq,↓reduceIte]
 subst hZ
 refine zaa fun Z hZ => ?_
 refine zaa fun W hW => ?_
 simp only [sxZ,z5,z6,z7,z8,j4,j5,j6,j7,j8,j9,y3,y4,y5,y6,y7,reduceCtorEq,↓reduceIte,eX]
 have hl4:=zay x.items
 have hzl:(x.keys.zip x.items).length=x.items.length:=by rw [List.length_zip]; omega
 subst hW
 rw [zaH]
 refine zaC (fun m o tm => ∃ (i:Nat),i ≤ x.items.length ∧ m=x.items.length - i ∧ Ext objs o b (rdB (st5 e1 (((x.keys.zip x.items).take i).all (okP null)))) ∧ o[q]? = some (.box 25 [.i .i64 x.kind,.s x.text,.row x.keys.length (x.keys.map .s),.row x.items.length (zab x.items)]) ∧ zjI objs.length (((x.keys.zip x.items).take i).map zkp) o (tm[10]?.getD .u) ∧ tm.length=59 ∧ tm[0]? = some (.p b 0) ∧ tm[3]? = some (.b null) ∧ tm[9]? = some (.p q 0) ∧ tm[19]? = some (.row x.items.length (zab x.items)) ∧ tm[20]? = some (.i .i64 (x.items.length:Int)) ∧ tm[21]? = some (.i .i64 (i:Int))) x.items.length ⟨0,Nat.zero_le _,rfl,hE,eX,.inl ⟨rfl,rfl⟩,rfl,rfl,rfl,rfl,rfl,rfl,rfl⟩ ?_
 clear hE eX
 rintro m o tm ⟨i,hi,rfl,hE,eX,hA,hlen,t0,t3,t9,t19,t20,t21⟩
 obtain ⟨a10,t10⟩:∃ a,tm[10]? = some a:=⟨_,List.getElem?_eq_getElem (by omega)⟩
 rw [t10,Option.getD_some] at hA
 refine zaa fun W hW => ?_
 by_cases hlt:(i:Int) < (x.items.length:Int)
 ·have hi':i < x.items.length:=by omega
  have hk':i < x.keys.length:=by omega
  have hz':i < (x.keys.zip x.items).length:=by omega
  have kv:=zdp hi'
  have kk:(x.keys.map AV.s)[i * 1]? = some (.s x.keys[i]):=by rw [Nat.mul_one,List.getElem?_map,List.getElem?_eq_getElem hk']; rfl
  have htk:(x.keys.zip x.items).take (i + 1)=(x.keys.zip x.items).take i ++ [(x.keys[i],x.items[i])]:=by rw [List.take_add_one,List.getElem?_eq_getElem hz',List.getElem_zip]; rfl
  have hfl:(((x.keys.zip x.items).take i).map zkp).length=i:=by rw [List.length_map,List.length_take]; omega
  generalize x.items[i]=y at kv htk
  generalize x.keys[i]=ky at kk htk
  rw [zad y] at kv
  simp only [sxZ,z5,z6,z7,z8,j4,j5,j6,j7,j8,j9,y3,y4,y5,y6,y7,reduceCtorEq,↓reduceIte,List.getElem?_set,hlen,t19,t20,t21,hlt]
  subst hW
  refine zaa fun W hW => ?_
  simp only [sxZ,z5,z6,z7,z8,j4,j5,j6,j7,j8,j9,y3,y4,y5,y6,y7,reduceCtorEq,↓reduceIte,List.getElem?_set,hlen]
  subst hW
  refine zaa fun V hV => ?_
  rw [zaH]
  refine zaa fun W hW => ?_
  simp only [sxZ,z5,z6,z7,z8,j4,j5,j6,j7,j8,j9,y3,y4,y5,y6,y7,reduceCtorEq,↓reduceIte,List.getElem?_set,hlen,t19,t21,kv]
  refine ⟨⟨by omega,by omega,by omega⟩,by omega,?_⟩
  simp only [sxZ,z5,z6,z7,z8,j4,j5,j6,j7,j8,j9,y3,y4,y5,y6,y7,reduceCtorEq,↓reduceIte,List.getElem?_set,hlen,gn1,sn1]
  subst hW
  have hE1:=hE.app (.box 25 [.i .i64 y.kind,.s y.text,.row y.keys.length (y.keys.map .s),.row y.items.length (zab y.items)])
  have hA1:=hA.mono (.box 25 [.i .i64 y.kind,.s y.text,.row y.keys.length (y.keys.map .s),.row y.items.length (zab y.items)])
  have eX1:(o ++ [.box 25 [.i .i64 y.kind,.s y.text,.row y.keys.length (y.keys.map .s),.row y.items.length (zab y.items)]])[q]? = some (.box 25 [.i .i64 x.kind,.s x.text,.row x.keys.length (x.keys.map .s),.row x.items.length (zab x.items)]):=by rw [List.getElem?_append_left (List.getElem?_eq_some_iff.1 eX).1]; exact eX
  have eY:(o ++ [.box 25 [.i .i64 y.kind,.s y.text,.row y.keys.length (y.keys.map .s),.row y.items.length (zab y.items)]])[o.length]? = some (.box 25 [.i .i64 y.kind,.s y.text,.row y.keys.length (y.keys.map .s),.row y.items.length (zab y.items)]):=gn1 _ _
  have hol:=hE.2.1
  have hqo:=(List.getElem?_eq_some_iff.1 eX).1
  generalize hpp:o.length=p at eY hol hqo ⊢
  generalize o ++ [.box 25 [.i .i64 y.kind,.s y.text,.row y.keys.length (y.keys.map .s),.row y.items.length (zab y.items)]]=o2 at hE1 hA1 eX1 eY ⊢
  have hal:((x.keys.zip x.items).take (i + 1)).all (okP null)=(((x.keys.zip x.items).take i).all (okP null) && okP null (ky,y)):=by rw [htk,List.all_append]; simp
  refine zaY (fun t3 => t3.length=59 ∧ t3[0]? = some (.p b 0) ∧ t3[3]? = some (.b null) ∧ t3[9]? = some (.p q 0) ∧ t3[10]? = some a10 ∧ t3[11]? = some (.i .i64 (i:Int)) ∧ t3[12]? = some (.p p 0) ∧ t3[19]? = some (.row x.items.length (zab x.items)) ∧ t3[20]? = some (.i .i64 (x.items.length:Int)) ∧ t3[21]? = some (.i .i64 (i:Int))) ?_ ?_
  ·simp only [sxZ,z5,z6,z7,z8,j4,j5,j6,j7,j8,j9,y3,y4,y5,y6,y7,reduceCtorEq,↓reduceIte,List.length_set,List.getElem?_set,hlen,t0,t3,t9,t10,t19,t20,t21,and_self]
  rintro tm2 ⟨hlen2,u0,u3,u9,u10,u11,u12,u19,u20,u21⟩
  refine zaa fun W hW => ?_
  refine zaz (fun o3 t3 => Ext objs o3 b (rdB (st5 e1 (((x.keys.zip x.items).take (i + 1)).all (okP null)))) ∧ zjI objs.length (((x.keys.zip x.items).take i).map zkp) o3 a10 ∧ o3[p]? = some (.box 25 [.i .i64 y.kind,.s y.text,.row y.keys.length (y.keys.map .s),.row y.items.length (zab y.items)]) ∧ o3[q]? = some (.box 25 [.i .i64 x.kind,.s x.text,.row x.keys.length (x.keys.map .s),.row x.items.length (zab x.items)]) ∧ t3.length=59 ∧ t3[0]? = some (.p b 0) ∧ t3[3]? = some (.b null) ∧ t3[9]? = some (.p q 0) ∧ t3[10]? = some a10 ∧ t3[11]? = some (.i .i64 (i:Int)) ∧ t3[12]? = some (.p p 0) ∧ t3[19]? = some (.row x.items.length (zab x.items)) ∧ t3[20]? = some (.i .i64 (x.items.length:Int)) ∧ t3[21]? = some (.i .i64 (i:Int))) ?_ ?_
  ·rw [hal]
   have good:okP null (ky,y)=true → Ext objs o2 b (rdB (st5 e1 (((x.keys.zip x.items).take i).all (okP null) && okP null (ky,y)))):=fun h => by rw [h,st5_t]; exact hE1
   have bad:okP null (ky,y)=false → Ext objs (o2.set b (rdB (orE (st5 e1 (((x.keys.zip x.items).take i).all (okP null))) 160))) b (rdB (st5 e1 (((x.keys.zip x.items).take i).all (okP null) && okP null (ky,y)))):=fun h => by rw [h,st5_f]; exact hE1.set _
   have bA:zjI objs.length (((x.keys.zip x.items).take i).map zkp) (o2.set b (rdB (orE (st5 e1 (((x.keys.zip x.items).take i).all (okP null))) 160))) a10:=hA1.set hE1.1 (by intro _ _ _ h; cases h) _
   have bY:(o2.set b (rdB (orE (st5 e1 (((x.keys.zip x.items).take i).all (okP null))) 160)))[p]? = some (.box 25 [.i .i64 y.kind,.s y.text,.row y.keys.length (y.keys.map .s),.row y.items.length (zab y.items)]):=by rw [List.getElem?_set_ne (by omega)]; exact eY
   have bX:(o2.set b (rdB (orE (st5 e1 (((x.keys.zip x.items).take i).all (okP null))) 160)))[q]? = some (.box 25 [.i .i64 x.kind,.s x.text,.row x.keys.length (x.keys.map .s),.row x.items.length (zab x.items)]):=by rw [List.getElem?_set_ne (by omega)]; exact eX1
   by_cases c5:y.kind=5
   ·have g:=good (by unfold okP; simp [c5])
    simp only [sxZ,z5,z6,z7,z8,j4,j5,j6,j7,j8,j9,y3,y4,y5,y6,y7,reduceCtorEq,↓reduceIte,List.getElem?_set,hlen2,u0,u3,u9,u10,u11,u12,u19,u20,u21,eY,c5,zac]
    exact ⟨g,hA1,eX1⟩
   ·by_cases c1:y.kind=1
    ·cases null with
     | true =>
      have g:=good (by unfold okP; simp [c1])
      simp only [sxZ,z5,z6,z7,z8,j4,j5,j6,j7,j8,j9,y3,y4,y5,y6,y7,reduceCtorEq,↓reduceIte,List.getElem?_set,hlen2,u0,u3,u9,u10,u11,u12,u19,u20,u21,eY,c5,c1,zac]
      exact ⟨g,hA1,eX1⟩
     | false =>
      have g:=bad (by unfold okP; simp [c1])
      simp only [sxZ,z5,z6,z7,z8,j4,j5,j6,j7,j8,j9,y3,y4,y5,y6,y7,reduceCtorEq,↓reduceIte,List.getElem?_set,hlen2,u0,u3,u9,u10,u11,u12,u19,u20,u21,eY,c5,c1]
      refine zak (zbN _ 160 b hE1.1 ?_)
      simp only [sxZ,z5,z6,z7,z8,j4,j5,j6,j7,j8,j9,y3,y4,y5,y6,y7,reduceCtorEq,↓reduceIte,List.getElem?_set,hlen2,u0,u3,u9,u10,u11,u12,u19,u20,u21,zac]
      refine ⟨g,bA,?_,?_⟩
      ·rw [if_neg (by omega),eY,c1]
      ·rw [if_neg (by omega)]; exact eX1
    ·have g:=bad (by unfold okP; simp [c5,c1])
     simp only [sxZ,z5,z6,z7,z8,j4,j5,j6,j7,j8,j9,y3,y4,y5,y6,y7,reduceCtorEq,↓reduceIte,List.getElem?_set,hlen2,u0,u3,u9,u10,u11,u12,u19,u20,u21,eY,c5,c1]
     refine zak (zbN _ 160 b hE1.1 ?_)
     simp only [sxZ,z5,z6,z7,z8,j4,j5,j6,j7,j8,j9,y3,y4,y5,y6,y7,reduceCtorEq,↓reduceIte,List.getElem?_set,hlen2,u0,u3,u9,u10,u11,u12,u19,u20,u21,zac]
     refine ⟨g,bA,?_,?_⟩
     ·rw [if_neg (by omega)]; exact eY
     ·rw [if_neg (by omega)]; exact eX1
  clear hE1 hA1 eX1 eY hlen2 u0 u3 u9 u10 u11 u12 u19 u20 u21 tm2
  rintro o3 tm2 ⟨hE3,hA3,eY3,eX3,hlen2,u0,u3,u9,u10,u11,u12,u19,u20,u21⟩
  have hpo3:=(List.getElem?_eq_some_iff.1 eY3).1
  have hqo3:=(List.getElem?_eq_some_iff.1 eX3).1
  subst hW
  refine zaa fun W hW => ?_
  simp only [sxZ,z5,z6,z7,z8,j4,j5,j6,j7,j8,j9,y3,y4,y5,y6,y7,reduceCtorEq,↓reduceIte,List.getElem?_set,hlen2,u0,u3,u9,u10,u11,u12,u19,u20,u21,eX3,eY3,kk,List.length_map]
  refine ⟨⟨by omega,by omega,by omega⟩,?_⟩
  simp only [sxZ,z5,z6,z7,z8,j4,j5,j6,j7,j8,j9,y3,y4,y5,y6,y7,reduceCtorEq,↓reduceIte,List.getElem?_set,hlen2,u0,u3,u9,u10,u11,u12,u19,u20,u21,gn1,sn1]
  refine ⟨⟨by omega,by omega⟩,?_⟩
  have hE4:=hE3.app (OB.box 83 [.s ky,.s y.text,.b false])
  have hA4:=hA3.mono (OB.box 83 [.s ky,.s y.text,.b false])
  have eY4:(o3 ++ [OB.box 83 [.s ky,.s y.text,.b false]])[p]? = some (.box 25 [.i .i64 y.kind,.s y.text,.row y.keys.length (y.keys.map .s),.row y.items.length (zab y.items)]):=by rw [List.getElem?_append_left hpo3]; exact eY3
  have eX4:(o3 ++ [OB.box 83 [.s ky,.s y.text,.b false]])[q]? = some (.box 25 [.i .i64 x.kind,.s x.text,.row x.keys.length (x.keys.map .s),.row x.items.length (zab x.items)]):=by rw [List.getElem?_append_left hqo3]; exact eX3
  have eP4:(o3 ++ [OB.box 83 [.s ky,.s y.text,.b false]])[o3.length]? = some (OB.box 83 [.s ky,.s y.text,.b false]):=gn1 _ _
  have hl3:=hE3.2.1
  generalize hm3:o3.length=m3 at eP4 hl3 hpo3 hqo3 ⊢
  generalize o3 ++ [OB.box 83 [.s ky,.s y.text,.b false]]=o4 at hE4 hA4 eY4 eX4 eP4 ⊢
  have hmo4:=(List.getElem?_eq_some_iff.1 eP4).1
  subst hW
  refine zaY (fun t3 => t3.length=59 ∧ t3[0]? = some (.p b 0) ∧ t3[3]? = some (.b null) ∧ t3[9]? = some (.p q 0) ∧ t3[10]? = some a10 ∧ t3[12]? = some (.p p 0) ∧ t3[13]? = some (.p m3 0) ∧ t3[19]? = some (.row x.items.length (zab x.items)) ∧ t3[20]? = some (.i .i64 (x.items.length:Int)) ∧ t3[21]? = some (.i .i64 (i:Int))) ?_ ?_
  ·simp only [sxZ,z5,z6,z7,z8,j4,j5,j6,j7,j8,j9,y3,y4,y5,y6,y7,reduceCtorEq,↓reduceIte,List.length_set,List.getElem?_set,hlen2,u0,u3,u9,u10,u12,u19,u20,u21,and_self]
  clear hlen2 u0 u3 u9 u10 u11 u12 u19 u20 u21 tm2 hE3 hA3 eY3 eX3
  rintro tm2 ⟨hlen2,u0,u3,u9,u10,u12,u13,u19,u20,u21⟩
  refine zaa fun W hW => ?_
  obtain ⟨P,hP⟩:∃ P,zkp (ky,y)=P:=⟨_,rfl⟩
  refine zaz (fun o5 t3 => Ext objs o5 b (rdB (st5 e1 (((x.keys.zip x.items).take (i + 1)).all (okP null)))) ∧ zjI objs.length (((x.keys.zip x.items).take i).map zkp) o5 a10 ∧ o5[m3]? = some (.box 83 [.s P.name,.s P.val,.b P.nul]) ∧ o5[q]? = some (.box 25 [.i .i64 x.kind,.s x.text,.row x.keys.length (x.keys.map .s),.row x.items.length (zab x.items)]) ∧ t3.length=59 ∧ t3[0]? = some (.p b 0) ∧ t3[3]? = some (.b null) ∧ t3[9]? = some (.p q 0) ∧ t3[10]? = some a10 ∧ t3[13]? = some (.p m3 0) ∧ t3[19]? = some (.row x.items.length (zab x.items)) ∧ t3[20]? = some (.i .i64 (x.items.length:Int)) ∧ t3[21]? = some (.i .i64 (i:Int))) ?_ ?_
  ·have p1:P.name=ky:=by rw [← hP]; rfl
   have p2:P.val=if y.kind=1 then [] else y.text:=by rw [← hP]; rfl
   have p3:P.nul=decide (y.kind=1):=by rw [← hP]; rfl
   rw [p1,p2,p3]
   by_cases c1:y.kind=1
   ·simp only [sxZ,z5,z6,z7,z8,j4,j5,j6,j7,j8,j9,y3,y4,y5,y6,y7,reduceCtorEq,↓reduceIte,List.getElem?_set,hlen2,u0,u3,u9,u10,u12,u13,u19,u20,u21,eY4,eP4,hmo4,c1,zac,decide_true]
    refine ⟨(hE4.own m3 _ hl3 hbl).own m3 _ hl3 hbl,(hA4.set eP4 (by intro _ _ _ h; cases h) _).set (List.getElem?_set_self hmo4) (by intro _ _ _ h; cases h) _,?_⟩
    rw [if_neg (by omega),if_neg (by omega)]; exact eX4
   ·simp only [sxZ,z5,z6,z7,z8,j4,j5,j6,j7,j8,j9,y3,y4,y5,y6,y7,reduceCtorEq,↓reduceIte,List.getElem?_set,hlen2,u0,u3,u9,u10,u12,u13,u19,u20,u21,eY4,eP4,c1,zac,decide_false]
    exact ⟨hE4,hA4,eX4⟩
  clear hE4 hA4 eY4 eX4 eP4 hlen2 u0 u3 u9 u10 u12 u13 u19 u20 u21 tm2
  rintro o5 tm2 ⟨hE5,hA5,eP5,eX5,hlen2,u0,u3,u9,u10,u13,u19,u20,u21⟩
  subst hW
  generalize hacc:((x.keys.zip x.items).take i).map zkp=acc at hA5 hfl
  have hla:=zcP acc
  have hl5:=hE5.2.1
  have hqo5:=(List.getElem?_eq_some_iff.1 eX5).1
  rcases hA5 with ⟨rfl,rfl⟩ | ⟨r,g,rfl,hr0,hr⟩
  ·simp only [sxZ,z5,z6,z7,z8,j4,j5,j6,j7,j8,j9,y3,y4,y5,y6,y7,reduceCtorEq,↓reduceIte,List.getElem?_set,hlen2,u0,u10,u13,eP5]
   subst hV
   simp only [sxZ,z5,z6,z7,z8,j4,j5,j6,j7,j8,j9,y3,y4,y5,y6,y7,reduceCtorEq,↓reduceIte,List.getElem?_set,hlen2,u0,u3,u9,u10,u13,u19,u20,u21]
   refine ⟨by omega,x.items.length - (i + 1),by omega,i + 1,by omega,rfl,hE5.app _,by rw [List.getElem?_append_left hqo5]; exact eX5,?_,rfl⟩
   rw [htk,List.map_append,hacc,List.map_cons,List.map_nil,hP]
   exact .inr ⟨o5.length,0,rfl,hl5,by rw [gn1]; rfl⟩
  ·have hrl:=(List.getElem?_eq_some_iff.1 hr).1
   have hrq:r ≠ q:=fun h => by rw [h,eX5] at hr; cases hr
   simp only [sxZ,z5,z6,z7,z8,j4,j5,j6,j7,j8,j9,y3,y4,y5,y6,y7,reduceCtorEq,↓reduceIte,List.getElem?_set,hlen2,u0,u10,u13,eP5,hr]
   refine ⟨⟨by omega,by omega⟩,?_⟩
   subst hV
   simp only [sxZ,z5,z6,z7,z8,j4,j5,j6,j7,j8,j9,y3,y4,y5,y6,y7,reduceCtorEq,↓reduceIte,List.getElem?_set,hlen2,u0,u3,u9,u10,u13,u19,u20,u21]
   refine ⟨by omega,x.items.length - (i + 1),by omega,i + 1,by omega,rfl,hE5.own r _ hr0 hbl,by rw [if_neg hrq]; exact eX5,?_,rfl⟩
   rw [htk,List.map_append,hacc,List.map_cons,List.map_nil,hP]
   exact .inr ⟨r,g + 1,rfl,hr0,by rw [List.getElem?_set_self hrl,List.length_append,zfI]; rfl⟩
 have hn:i=x.items.length:=by omega
 rw [hn,List.take_of_length_le (by omega)] at hA hE
 simp only [sxZ,z5,z6,z7,z8,j4,j5,j6,j7,j8,j9,y3,y4,y5,y6,y7,reduceCtorEq,↓reduceIte,List.getElem?_set,hlen,t19,t20,t21,hlt]
 subst hW
 simp only [sxZ,z5,z6,z7,z8,j4,j5,j6,j7,j8,j9,y3,y4,y5,y6,y7,reduceCtorEq,↓reduceIte,List.getElem?_set,hlen]
 subst hZ
 rcases hA with ⟨h0,rfl⟩ | ⟨r,g,rfl,hr0,hr⟩
 ·simp only [sxZ,z5,z6,z7,z8,j4,j5,j6,j7,j8,j9,y3,y4,y5,y6,y7,reduceCtorEq,↓reduceIte,List.getElem?_set,hlen,t10]
  rw [h0] at hk ⊢
  exact .inl ⟨fun G I y hy => zaZ hy,hk _ hE⟩
 ·simp only [sxZ,z5,z6,z7,z8,j4,j5,j6,j7,j8,j9,y3,y4,y5,y6,y7,reduceCtorEq,↓reduceIte,List.getElem?_set,hlen,t10]
  refine .inr ⟨r,_,_,_,_,_,hr,fun G I y hy => ?_,hk _ (hE.pub (rdB_pl _) r g _ _ hr0 hbl)⟩
  simpa [zje,zbf] using hy
end
end
end Go.Proofs.Ytceenajkieomoaa
