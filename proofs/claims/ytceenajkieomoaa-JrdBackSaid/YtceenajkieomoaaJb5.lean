/- The texts that the proofs of these statements reach, in their order, as few files. -/
import Derived.Test.YtceenajkieomoaaProg
import Derived.Test.YtceenajkieomoaaJb4
set_option linter.unusedVariables false
set_option linter.unusedSimpArgs false
set_option maxRecDepth 100000
namespace Go.Proofs.Ytceenajkieomoaa
open Nat renaming reduceAdd → z5, reduceSub → z6, reduceLeDiff → z7, reduceLT → z8, reduceMul → j4, reduceEqDiff → j5
open Int renaming reduceToNat → j6, reduceAdd → j7, reduceSub → j8, reduceMul → j9, reduceNeg → x9, reduceLT → y3, reduceLE → y4, reduceEq → y5, reduceNe → y6
open Go.RowKit Sx
section
attribute [local irreducible] run
section
variable [Tabs Try.prog] {objs:List OB} {K:List OB → AV → Prop}
theorem zfP (v:JV) (e:Int) (name:List UInt8) (null:Bool) (b:Nat) (hv:JOk v) (hj:JBd v) (hb:objs[b]? = some (zby v e)) (hk:∀ o,Ext objs o b (zby v (prE v e name null).1) → K o (.row (prE v e name null).2.length (zaT (prE v e name null).2))):zag Try.prog 29 [.p b 0,.s name,.b null] objs K:=by
 have hbl:=(List.getElem?_eq_some_iff.1 hb).1
 obtain ⟨R,hR⟩:∃ R,prE v e name null=R:=⟨_,rfl⟩
 rw [hR] at hk
 refine zey (.row R.2.length (zaT R.2)) ?_
 refine zbd ?_
 refine zbg is_jrd_decoder_properties fun C _ => ?_
 rw [c_jrd_decoder_properties]
 refine zaa fun Z hZ => ?_
 simp only [sxZ,z5,z6,z7,z8,j4,j5,j6,j7,j8,j9,x9,y3,y4,y5,y6,reduceCtorEq,↓reduceIte]
 subst hZ
 refine zaa fun Z hZ => ?_
 simp only [sxZ,z5,z6,z7,z8,j4,j5,j6,j7,j8,j9,x9,y3,y4,y5,y6,reduceCtorEq,↓reduceIte]
 refine zai (zd8 v e 7 name b hv hj hb fun o ho => ?_)
 have hbd:=(zg7 hj e 7 name).lens
 have hmo:=zkK (v:=v) (e:=e) (kind:=7) (name:=name)
 unfold prE at hR
 generalize zaQ v e name 7=M at hR ho hbd hmo ⊢
 obtain ⟨e1,x,ok⟩:=M
 dsimp only at hR ho hbd hmo ⊢
 obtain ⟨bd1,bd2⟩:=hbd
 rw [zal x]
 simp only [sxZ,z5,z6,z7,z8,j4,j5,j6,j7,j8,j9,x9,y3,y4,y5,y6,reduceCtorEq,↓reduceIte,gn1,sn1]
 have hE:=ho.app (.box 25 [.i .i64 x.kind,.s x.text,.row x.keys.length (x.keys.map .s),.row x.items.length (zac x.items)])
 have eV:(o ++ [.box 25 [.i .i64 x.kind,.s x.text,.row x.keys.length (x.keys.map .s),.row x.items.length (zac x.items)]])[o.length]? = some (.box 25 [.i .i64 x.kind,.s x.text,.row x.keys.length (x.keys.map .s),.row x.items.length (zac x.items)]):=gn1 _ _
 have hq:=ho.2.1
 generalize hqq:o.length=q at eV hq ⊢
 generalize o ++ [.box 25 [.i .i64 x.kind,.s x.text,.row x.keys.length (x.keys.map .s),.row x.items.length (zac x.items)]]=o1 at hE eV ⊢
 clear ho hqq
 subst hZ
 refine zaa fun Z hZ => ?_
 simp only [sxZ,z5,z6,z7,z8,j4,j5,j6,j7,j8,j9,x9,y3,y4,y5,y6,reduceCtorEq,↓reduceIte,eV]
 have hmn:(if (x.items.length:Int) < (x.keys.length:Int) then (x.items.length:Int) else (x.keys.length:Int))=((min x.keys.length x.items.length:Nat):Int):=by split <;> omega
 rw [hmn]
 have hzl:(x.keys.zip x.items).length=min x.keys.length x.items.length:=List.length_zip
 generalize hn:min x.keys.length x.items.length=n at hR hzl ⊢
 have hn1:n ≤ x.keys.length ∧ n ≤ x.items.length:=by omega
 subst hZ
 refine zaa fun Z hZ => ?_
 have main:¬ (ok=true ∧ 64 < n) → R=(if (x.keys.zip x.items).all (okP null)=true then (e1,(x.keys.zip x.items).map (mkP null)) else (orE e1 160,[])) → ∀ tm:List AV,tm.length=81 → tm[0]? = some (.p b 0) → tm[2]? = some (.b null) → tm[7]? = some (.p q 0) → tm[9]? = some (.i .i64 (n:Int)) → run Try.prog C [.code Z] o1 tm (endI [SRes.tmp 6] fun o r => ((∀ (G:Gh) (I:Imm) (y:Value),Den G I r y → Den G I (.row R.2.length (zaT R.2)) y) ∧ K o (.row R.2.length (zaT R.2))) ∨ ∃ b E sz gen n xs,o[b]? = some (.orow E sz gen n xs) ∧ (∀ (G:Gh) (I:Imm) (y:Value),Den G I (zht b gen n xs r) y → Den G I (.row R.2.length (zaT R.2)) y) ∧ K (zdB o b gen n xs) (.row R.2.length (zaT R.2))):=by
  intro _ hR2 tm hlen t0 t2 t7 t9
  have hl4:=zaH x.items
  subst hZ
  refine zaa fun Z hZ => ?_
  simp only [sxZ,z5,z6,z7,z8,j4,j5,j6,j7,j8,j9,x9,y3,y4,y5,y6,reduceCtorEq,↓reduceIte,List.getElem?_set,hlen]
  subst hZ
  refine zaa fun Z hZ => ?_
  refine zaa fun W hW => ?_
  simp only [sxZ,z5,z6,z7,z8,j4,j5,j6,j7,j8,j9,x9,y3,y4,y5,y6,reduceCtorEq,↓reduceIte,List.getElem?_set,hlen,t9]
  subst hW
  rw [zaN]
  refine zaK (fun m o tm => ∃ (i:Nat),i ≤ n ∧ m=n - i ∧ Ext objs o b (zby v e1) ∧ o[q]? = some (.box 25 [.i .i64 x.kind,.s x.text,.row x.keys.length (x.keys.map .s),.row x.items.length (zac x.items)]) ∧ (∀ z ∈ (x.keys.zip x.items).take i,okP null z=true) ∧ RowP objs.length (((x.keys.zip x.items).take i).map (mkP null)) o (tm[10]?.getD .u) ∧ tm.length=81 ∧ tm[0]? = some (.p b 0) ∧ tm[2]? = some (.b null) ∧ tm[7]? = some (.p q 0) ∧ tm[37]? = some (.i .i64 (n:Int)) ∧ tm[38]? = some (.i .i64 (i:Int))) n ⟨0,Nat.zero_le _,rfl,hE,eV,by simp,.inl ⟨rfl,?_⟩,?_,?_,?_,?_,?_,?_⟩ ?_
  ·simp only [sxZ,z5,z6,z7,z8,j4,j5,j6,j7,j8,j9,x9,y3,y4,y5,y6,reduceCtorEq,↓reduceIte,List.getElem?_set,hlen,Option.getD_some]
  ·simp only [List.length_set,hlen]
  ·simp only [sxZ,z5,z6,z7,z8,j4,j5,j6,j7,j8,j9,x9,y3,y4,y5,y6,reduceCtorEq,↓reduceIte,List.getElem?_set,hlen,t0]
  ·simp only [sxZ,z5,z6,z7,z8,j4,j5,j6,j7,j8,j9,x9,y3,y4,y5,y6,reduceCtorEq,↓reduceIte,List.getElem?_set,hlen,t2]
  ·simp only [sxZ,z5,z6,z7,z8,j4,j5,j6,j7,j8,j9,x9,y3,y4,y5,y6,reduceCtorEq,↓reduceIte,List.getElem?_set,hlen,t7]
  ·simp only [sxZ,z5,z6,z7,z8,j4,j5,j6,j7,j8,j9,x9,y3,y4,y5,y6,reduceCtorEq,↓reduceIte,List.getElem?_set,hlen]
  ·simp only [sxZ,z5,z6,z7,z8,j4,j5,j6,j7,j8,j9,x9,y3,y4,y5,y6,reduceCtorEq,↓reduceIte,List.getElem?_set,hlen]; rfl
  clear t0 t2 t7 t9 hlen eV hE tm
  rintro m o tm ⟨i,hi,rfl,hE,eV,hall,hA,hlen,t0,t2,t7,t37,t38⟩
  obtain ⟨a10,t10⟩:∃ a,tm[10]? = some a:=⟨_,List.getElem?_eq_getElem (by omega)⟩
  rw [t10,Option.getD_some] at hA
  refine zaa fun W hW => ?_
  by_cases hlt:(i:Int) < (n:Int)
  ·have hi':i < x.items.length:=by omega
   have hk':i < x.keys.length:=by omega
   have hz':i < (x.keys.zip x.items).length:=by omega
   have kv:=zgq hi'
   have kk:(x.keys.map AV.s)[i * 1]? = some (.s x.keys[i]):=by rw [Nat.mul_one,List.getElem?_map,List.getElem?_eq_getElem hk']; rfl
   have hmem:(x.keys[i],x.items[i]) ∈ x.keys.zip x.items:=by rw [← List.getElem_zip (h:=hz')]; exact List.getElem_mem hz'
   have htk:(x.keys.zip x.items).take (i + 1)=(x.keys.zip x.items).take i ++ [(x.keys[i],x.items[i])]:=by rw [List.take_add_one,List.getElem?_eq_getElem hz',List.getElem_zip]; rfl
   have hfl:(((x.keys.zip x.items).take i).map (mkP null)).length=i:=by rw [List.length_map,List.length_take]; omega
   generalize x.items[i]=y at kv htk hmem
   generalize x.keys[i]=key at kk htk hmem
   rw [zal y] at kv
   simp only [sxZ,z5,z6,z7,z8,j4,j5,j6,j7,j8,j9,x9,y3,y4,y5,y6,reduceCtorEq,↓reduceIte,List.getElem?_set,hlen,t37,t38,hlt]
   subst hW
   refine zaa fun W hW => ?_
   simp only [sxZ,z5,z6,z7,z8,j4,j5,j6,j7,j8,j9,x9,y3,y4,y5,y6,reduceCtorEq,↓reduceIte,List.getElem?_set,hlen]
   subst hW
   refine zaa fun V hV => ?_
   rw [zaN]
   refine zay (fun o3 t3 => Ext objs o3 b (zby v e1) ∧ o3[q]? = some (.box 25 [.i .i64 x.kind,.s x.text,.row x.keys.length (x.keys.map .s),.row x.items.length (zac x.items)]) ∧ okP null (key,y)=true ∧ RowP objs.length (((x.keys.zip x.items).take i).map (mkP null) ++ [mkP null (key,y)]) o3 (t3[10]?.getD .u) ∧ t3.length=81 ∧ t3[0]? = some (.p b 0) ∧ t3[2]? = some (.b null) ∧ t3[7]? = some (.p q 0) ∧ t3[37]? = some (.i .i64 (n:Int)) ∧ t3[38]? = some (.i .i64 (i:Int))) ?_ ?_
   ·refine zaa fun W hW => ?_
    simp only [sxZ,z5,z6,z7,z8,j4,j5,j6,j7,j8,j9,x9,y3,y4,y5,y6,reduceCtorEq,↓reduceIte,List.getElem?_set,hlen,t38]
    subst hW
    refine zaa fun W hW => ?_
    simp only [sxZ,z5,z6,z7,z8,j4,j5,j6,j7,j8,j9,x9,y3,y4,y5,y6,reduceCtorEq,↓reduceIte,List.getElem?_set,hlen,t7,eV,kv]
    refine ⟨⟨by omega,by omega,by omega⟩,by omega,?_⟩
    simp only [sxZ,z5,z6,z7,z8,j4,j5,j6,j7,j8,j9,x9,y3,y4,y5,y6,reduceCtorEq,↓reduceIte,List.getElem?_set,hlen,gn1,sn1]
    subst hW
    have hE1:=hE.app (.box 25 [.i .i64 y.kind,.s y.text,.row y.keys.length (y.keys.map .s),.row y.items.length (zac y.items)])
    have hA1:=hA.mono (.box 25 [.i .i64 y.kind,.s y.text,.row y.keys.length (y.keys.map .s),.row y.items.length (zac y.items)])
    have eV1:(o ++ [.box 25 [.i .i64 y.kind,.s y.text,.row y.keys.length (y.keys.map .s),.row y.items.length (zac y.items)]])[q]? = some (.box 25 [.i .i64 x.kind,.s x.text,.row x.keys.length (x.keys.map .s),.row x.items.length (zac x.items)]):=by rw [List.getElem?_append_left (List.getElem?_eq_some_iff.1 eV).1]; exact eV
    have eY:(o ++ [.box 25 [.i .i64 y.kind,.s y.text,.row y.keys.length (y.keys.map .s),.row y.items.length (zac y.items)]])[o.length]? = some (.box 25 [.i .i64 y.kind,.s y.text,.row y.keys.length (y.keys.map .s),.row y.items.length (zac y.items)]):=gn1 _ _
    have hol:=hE.2.1
    have hqo:=(List.getElem?_eq_some_iff.1 eV).1
    generalize hpp:o.length=p at eY hol hqo ⊢
    generalize o ++ [.box 25 [.i .i64 y.kind,.s y.text,.row y.keys.length (y.keys.map .s),.row y.items.length (zac y.items)]]=o2 at hE1 hA1 eV1 eY ⊢
    refine zbD (fun t3 => t3.length=81 ∧ t3[0]? = some (.p b 0) ∧ t3[2]? = some (.b null) ∧ t3[7]? = some (.p q 0) ∧ t3[10]? = some a10 ∧ t3[11]? = some (.i .i64 (i:Int)) ∧ t3[12]? = some (.p p 0) ∧ t3[37]? = some (.i .i64 (n:Int)) ∧ t3[38]? = some (.i .i64 (i:Int))) ?_ ?_
    ·simp only [sxZ,z5,z6,z7,z8,j4,j5,j6,j7,j8,j9,x9,y3,y4,y5,y6,reduceCtorEq,↓reduceIte,List.length_set,List.getElem?_set,hlen,t0,t2,t7,t10,t37,t38,and_self]
    rintro tm2 ⟨hlen2,u0,u2,u7,u10,u11,u12,u37,u38⟩
    refine zaa fun W hW => ?_
    obtain ⟨nl,hnl⟩:∃ nl,(null && decide (y.kind=1))=nl:=⟨_,rfl⟩
    refine zay (fun o3 t3 => o3=o2 ∧ t3.length=81 ∧ t3[0]? = some (.p b 0) ∧ t3[2]? = some (.b null) ∧ t3[7]? = some (.p q 0) ∧ t3[10]? = some a10 ∧ t3[11]? = some (.i .i64 (i:Int)) ∧ t3[12]? = some (.p p 0) ∧ t3[37]? = some (.i .i64 (n:Int)) ∧ t3[38]? = some (.i .i64 (i:Int)) ∧ t3[13]? = some (.b nl)) ?_ ?_
    ·cases null with
     | false =>
      rw [Bool.false_and] at hnl
      subst hnl
      simp only [sxZ,z5,z6,z7,z8,j4,j5,j6,j7,j8,j9,x9,y3,y4,y5,y6,reduceCtorEq,↓reduceIte,List.getElem?_set,hlen2,u0,u2,u7,u10,u11,u12,u37,u38,zab,and_self]
     | true =>
      rw [Bool.true_and] at hnl
      by_cases c:y.kind=1
      ·rw [decide_eq_true c] at hnl
       subst hnl
       simp only [sxZ,z5,z6,z7,z8,j4,j5,j6,j7,j8,j9,x9,y3,y4,y5,y6,reduceCtorEq,↓reduceIte,List.getElem?_set,hlen2,u0,u2,u7,u10,u11,u12,u37,u38,eY,c,zab,and_self,decide_true]
      ·rw [decide_eq_false c] at hnl
       subst hnl
       simp only [sxZ,z5,z6,z7,z8,j4,j5,j6,j7,j8,j9,x9,y3,y4,y5,y6,reduceCtorEq,↓reduceIte,List.getElem?_set,hlen2,u0,u2,u7,u10,u11,u12,u37,u38,eY,c,zab,and_self,decide_false]
    rintro o3 tm3 ⟨rfl,hlen3,w0,w2,w7,w10,w11,w12,w37,w38,w13⟩
    clear hlen2 u0 u2 u7 u10 u11 u12 u37 u38
    subst hW
    refine zaa fun W hW => ?_
    have hokd:okP null (key,y)=(decide (y.kind=5) || nl):=by unfold okP; rw [hnl]
    have hmk:mkP null (key,y)=⟨key,if nl=true then [] else y.text,nl⟩:=by unfold mkP; rw [hnl]
    rw [hmk,hokd]
    cases nl with
    | true =>
     simp only [sxZ,z5,z6,z7,z8,j4,j5,j6,j7,j8,j9,x9,y3,y4,y5,y6,reduceCtorEq,↓reduceIte,List.getElem?_set,hlen3,w0,w2,w7,w10,w11,w12,w37,w38,w13]
     subst hW
     refine zaa fun W hW => ?_
     simp only [sxZ,z5,z6,z7,z8,j4,j5,j6,j7,j8,j9,x9,y3,y4,y5,y6,reduceCtorEq,↓reduceIte,List.getElem?_set,hlen3,w0,w2,w7,w10,w11,w12,w37,w38,w13,eV1,kk,List.length_map]
     refine ⟨⟨by omega,by omega,by omega⟩,?_⟩
     simp only [sxZ,z5,z6,z7,z8,j4,j5,j6,j7,j8,j9,x9,y3,y4,y5,y6,reduceCtorEq,↓reduceIte,List.getElem?_set,hlen3,w0,w2,w7,w10,w11,w12,w37,w38,w13,gn1,sn1]
     have hE2:=hE1.app (.box 83 [.s key,.s [],.b true])
     have hA2:=hA1.mono (.box 83 [.s key,.s [],.b true])
     have eV2:(o3 ++ [.box 83 [.s key,.s [],.b true]])[q]? = some (.box 25 [.i .i64 x.kind,.s x.text,.row x.keys.length (x.keys.map .s),.row x.items.length (zac x.items)]):=by rw [List.getElem?_append_left (List.getElem?_eq_some_iff.1 eV1).1]; exact eV1
     have eP2:(o3 ++ [.box 83 [.s key,.s [],.b true]])[o3.length]? = some (.box 83 [.s key,.s [],.b true]):=gn1 _ _
     have eY2:∀ z,(o3 ++ [z])[p]? = some (.box 25 [.i .i64 y.kind,.s y.text,.row y.keys.length (y.keys.map .s),.row y.items.length (zac y.items)]):=fun z => by rw [List.getElem?_append_left (List.getElem?_eq_some_iff.1 eY).1]; exact eY
     have hqo3:=(List.getElem?_eq_some_iff.1 eV1).1
     have hpo3:=(List.getElem?_eq_some_iff.1 eY).1
     subst hW
     refine zaa fun W hW => ?_
     simp only [sxZ,z5,z6,z7,z8,j4,j5,j6,j7,j8,j9,x9,y3,y4,y5,y6,reduceCtorEq,↓reduceIte,List.getElem?_set,hlen3,w0,w2,w7,w10,w11,w12,w37,w38,w13]
     generalize o3 ++ [OB.box 83 [.s key,.s [],.b true]]=o4 at hE2 hA2 eV2 eP2 ⊢
     have hol4:=hE2.2.1
     subst hW
     generalize ((x.keys.zip x.items).take i).map (mkP null)=acc at hA2 hfl
     have hla:=zcG acc
     rcases hA2 with ⟨rfl,rfl⟩ | ⟨r,g,rfl,hr0,hr⟩
     ·simp only [sxZ,z5,z6,z7,z8,j4,j5,j6,j7,j8,j9,x9,y3,y4,y5,y6,reduceCtorEq,↓reduceIte,List.getElem?_set,hlen3,w0,w2,w7,w10,w11,w12,w37,w38,eP2,zab]
      refine ⟨hE2.app _,?_,by simp,.inr ⟨_,0,rfl,by omega,?_⟩⟩
      ·rw [List.getElem?_append_left (List.getElem?_eq_some_iff.1 eV2).1]; exact eV2
      ·rw [gn1]; rfl
     ·have hrl:=(List.getElem?_eq_some_iff.1 hr).1
      have hrq:r ≠ q:=fun h => by rw [h,eV2] at hr; cases hr
      simp only [sxZ,z5,z6,z7,z8,j4,j5,j6,j7,j8,j9,x9,y3,y4,y5,y6,reduceCtorEq,↓reduceIte,List.getElem?_set,hlen3,w0,w2,w7,w10,w11,w12,w37,w38,eP2,hr,zab]
      refine ⟨⟨by omega,by omega⟩,hE2.own r _ hr0 hbl,?_,by simp,.inr ⟨r,g + 1,rfl,hr0,?_⟩⟩
      ·rw [if_neg hrq]; exact eV2
      ·rw [List.getElem?_set_self hrl,zhL,List.length_append]; rfl
    | false =>
     by_cases c:y.kind=5
     ·simp only [sxZ,z5,z6,z7,z8,j4,j5,j6,j7,j8,j9,x9,y3,y4,y5,y6,reduceCtorEq,↓reduceIte,List.getElem?_set,hlen3,w0,w2,w7,w10,w11,w12,w37,w38,w13,eY,c]
      subst hW
      refine zaa fun W hW => ?_
      simp only [sxZ,z5,z6,z7,z8,j4,j5,j6,j7,j8,j9,x9,y3,y4,y5,y6,reduceCtorEq,↓reduceIte,List.getElem?_set,hlen3,w0,w2,w7,w10,w11,w12,w37,w38,w13,eV1,kk,List.length_map]
      refine ⟨⟨by omega,by omega,by omega⟩,?_⟩
      simp only [sxZ,z5,z6,z7,z8,j4,j5,j6,j7,j8,j9,x9,y3,y4,y5,y6,reduceCtorEq,↓reduceIte,List.getElem?_set,hlen3,w0,w2,w7,w10,w11,w12,w37,w38,w13,gn1,sn1]
      have hE2:=hE1.app (.box 83 [.s key,.s y.text,.b false])
      have hA2:=hA1.mono (.box 83 [.s key,.s y.text,.b false])
      have eV2:(o3 ++ [.box 83 [.s key,.s y.text,.b false]])[q]? = some (.box 25 [.i .i64 x.kind,.s x.text,.row x.keys.length (x.keys.map .s),.row x.items.length (zac x.items)]):=by rw [List.getElem?_append_left (List.getElem?_eq_some_iff.1 eV1).1]; exact eV1
      have eP2:(o3 ++ [.box 83 [.s key,.s y.text,.b false]])[o3.length]? = some (.box 83 [.s key,.s y.text,.b false]):=gn1 _ _
      have eY2:∀ z,(o3 ++ [z])[p]? = some (.box 25 [.i .i64 y.kind,.s y.text,.row y.keys.length (y.keys.map .s),.row y.items.length (zac y.items)]):=fun z => by rw [List.getElem?_append_left (List.getElem?_eq_some_iff.1 eY).1]; exact eY
      have hqo3:=(List.getElem?_eq_some_iff.1 eV1).1
      have hpo3:=(List.getElem?_eq_some_iff.1 eY).1
      subst hW
      refine zaa fun W hW => ?_
      simp only [sxZ,z5,z6,z7,z8,j4,j5,j6,j7,j8,j9,x9,y3,y4,y5,y6,reduceCtorEq,↓reduceIte,List.getElem?_set,hlen3,w0,w2,w7,w10,w11,w12,w37,w38,w13,eY2,gn1,sn1,c]
      generalize o3 ++ [OB.box 83 [.s key,.s y.text,.b false]]=o4 at hE2 hA2 eV2 eP2 ⊢
      have hol4:=hE2.2.1
      subst hW
      generalize ((x.keys.zip x.items).take i).map (mkP null)=acc at hA2 hfl
      have hla:=zcG acc
      rcases hA2 with ⟨rfl,rfl⟩ | ⟨r,g,rfl,hr0,hr⟩
      ·simp only [sxZ,z5,z6,z7,z8,j4,j5,j6,j7,j8,j9,x9,y3,y4,y5,y6,reduceCtorEq,↓reduceIte,List.getElem?_set,hlen3,w0,w2,w7,w10,w11,w12,w37,w38,eP2,zab]
       refine ⟨hE2.app _,?_,by simp,.inr ⟨_,0,rfl,by omega,?_⟩⟩
       ·rw [List.getElem?_append_left (List.getElem?_eq_some_iff.1 eV2).1]; exact eV2
       ·rw [gn1]; rfl
      ·have hrl:=(List.getElem?_eq_some_iff.1 hr).1
       have hrq:r ≠ q:=fun h => by rw [h,eV2] at hr; cases hr
       simp only [sxZ,z5,z6,z7,z8,j4,j5,j6,j7,j8,j9,x9,y3,y4,y5,y6,reduceCtorEq,↓reduceIte,List.getElem?_set,hlen3,w0,w2,w7,w10,w11,w12,w37,w38,eP2,hr,zab]
       refine ⟨⟨by omega,by omega⟩,hE2.own r _ hr0 hbl,?_,by simp,.inr ⟨r,g + 1,rfl,hr0,?_⟩⟩
       ·rw [if_neg hrq]; exact eV2
       ·rw [List.getElem?_set_self hrl,zhL,List.length_append]; rfl
     ·simp only [sxZ,z5,z6,z7,z8,j4,j5,j6,j7,j8,j9,x9,y3,y4,y5,y6,reduceCtorEq,↓reduceIte,List.getElem?_set,hlen3,w0,w2,w7,w10,w11,w12,w37,w38,w13,eY,c]
      refine zai (zdS v e1 160 b hE1.1 ?_)
      have hE2:=hE1.set (zby v (orE e1 160))
      have hno:¬ (x.keys.zip x.items).all (okP null)=true:=fun h => by
       have h2:=List.all_eq_true.1 h _ hmem
       rw [hokd,decide_eq_false c] at h2
       cases h2
      rw [if_neg hno] at hR2
      subst hR2
      generalize o3.set b (zby v (orE e1 160))=o4 at hE2 ⊢
      simp only [sxZ,z5,z6,z7,z8,j4,j5,j6,j7,j8,j9,x9,y3,y4,y5,y6,reduceCtorEq,↓reduceIte,List.getElem?_set,hlen3,w0,w2,w7,w10,w11,w12,w37,w38,cutF_ret]
      exact .inl ⟨fun G I y hy => zaU hy,hk _ hE2⟩
   rintro o3 tm2 ⟨hE3,eV3,hok,hA3,hlen2,k0,k2,k7,k37,k38⟩
   simp only [sxZ,z5,z6,z7,z8,j4,j5,j6,j7,j8,j9,x9,y3,y4,y5,y6,reduceCtorEq,↓reduceIte]
   subst hV
   simp only [sxZ,z5,z6,z7,z8,j4,j5,j6,j7,j8,j9,x9,y3,y4,y5,y6,reduceCtorEq,↓reduceIte,List.getElem?_set,hlen2,k0,k2,k7,k37,k38]
   refine ⟨by omega,n - (i + 1),by omega,i + 1,by omega,rfl,hE3,eV3,fun z hz => ?_,?_,rfl⟩
   ·rw [htk] at hz
    rcases List.mem_append.1 hz with hz | hz
    ·exact hall z hz
    ·rw [List.mem_singleton] at hz; rw [hz]; exact hok
   ·rw [htk,List.map_append]; exact hA3
  have hin:i=(x.keys.zip x.items).length:=by omega
  rw [hin,List.take_of_length_le (Nat.le_refl _)] at hA hall
  rw [if_pos (List.all_eq_true.2 hall)] at hR2
  subst hR2
  simp only [sxZ,z5,z6,z7,z8,j4,j5,j6,j7,j8,j9,x9,y3,y4,y5,y6,reduceCtorEq,↓reduceIte,List.getElem?_set,hlen,t37,t38,hlt]
  subst hW
  simp only [sxZ,z5,z6,z7,z8,j4,j5,j6,j7,j8,j9,x9,y3,y4,y5,y6,reduceCtorEq,↓reduceIte,List.getElem?_set,hlen]
  subst hZ
  rcases hA with ⟨h0,rfl⟩ | ⟨r,g,rfl,hr0,hr⟩
  ·simp only [sxZ,z5,z6,z7,z8,j4,j5,j6,j7,j8,j9,x9,y3,y4,y5,y6,reduceCtorEq,↓reduceIte,List.getElem?_set,hlen,t10]
   dsimp only at hk ⊢
   rw [h0] at hk ⊢
   exact .inl ⟨fun G I y hy => zaU hy,hk _ hE⟩
  ·simp only [sxZ,z5,z6,z7,z8,j4,j5,j6,j7,j8,j9,x9,y3,y4,y5,y6,reduceCtorEq,↓reduceIte,List.getElem?_set,hlen,t10]
   refine .inr ⟨r,_,_,_,_,_,hr,fun G I y hy => ?_,hk _ (hE.pub (zfT _ _) r g _ _ hr0 hbl)⟩
   simpa [zht,za7] using hy
 by_cases c:ok=true ∧ 64 < n
 ·obtain ⟨rfl,c⟩:=c
  rw [if_pos ⟨rfl,c⟩] at hR
  subst hR
  have c':(64:Int) < (n:Int):=by omega
  simp only [sxZ,z5,z6,z7,z8,j4,j5,j6,j7,j8,j9,x9,y3,y4,y5,y6,reduceCtorEq,↓reduceIte,c']
  refine zai (zdS v e1 161 b hE.1 ?_)
  have hE2:=hE.set (zby v (orE e1 161))
  rw [hmo rfl,show orE 0 161=161 from rfl] at hE2 ⊢
  generalize o1.set b (zby v 161)=o2 at hE2 ⊢
  simp only [sxZ,z5,z6,z7,z8,j4,j5,j6,j7,j8,j9,x9,y3,y4,y5,y6,reduceCtorEq,↓reduceIte]
  exact .inl ⟨fun G I y hy => zaU hy,hk _ hE2⟩
 ·rw [if_neg c] at hR
  have main2:=main c hR.symm
  cases ok with
  | false =>
   simp only [sxZ,z5,z6,z7,z8,j4,j5,j6,j7,j8,j9,x9,y3,y4,y5,y6,reduceCtorEq,↓reduceIte]
   exact main2 _ rfl rfl rfl rfl rfl
  | true =>
   have c':¬ (64:Int) < (n:Int):=fun h => c ⟨rfl,by omega⟩
   simp only [sxZ,z5,z6,z7,z8,j4,j5,j6,j7,j8,j9,x9,y3,y4,y5,y6,reduceCtorEq,↓reduceIte,c']
   exact main2 _ rfl rfl rfl rfl rfl
end
end
section
attribute [local irreducible] run
section
variable [Tabs Try.prog] {objs:List OB} {K:List OB → AV → Prop}
theorem dlinks_k (v:JV) (e:Int) (name:List UInt8) (b:Nat) (hv:JOk v) (hj:JBd v) (hb:objs[b]? = some (zby v e)) (hk:∀ o,Ext objs o b (zby v (lsE v e name).1) → K o (.row (lsE v e name).2.length (zbT (lsE v e name).2))):zag Try.prog 30 [.p b 0,.s name] objs K:=by
 have hbl:=(List.getElem?_eq_some_iff.1 hb).1
 obtain ⟨R,hR⟩:∃ R,lsE v e name=R:=⟨_,rfl⟩
 rw [hR] at hk
 refine zey (.row R.2.length (zbT R.2)) ?_
 refine zbd ?_
 refine zbg is_jrd_decoder_links fun C _ => ?_
 rw [c_jrd_decoder_links]
 refine zaa fun Z hZ => ?_
 simp only [sxZ,z5,z6,z7,z8,j4,j5,j6,j7,j8,j9,x9,y3,y4,y5,y6,reduceCtorEq,↓reduceIte]
 subst hZ
 refine zaa fun Z hZ => ?_
 simp only [sxZ,z5,z6,z7,z8,j4,j5,j6,j7,j8,j9,x9,y3,y4,y5,y6,reduceCtorEq,↓reduceIte]
 subst hZ
 refine zaa fun Z hZ => ?_
 refine zaa fun W hW => ?_
 simp only [sxZ,z5,z6,z7,z8,j4,j5,j6,j7,j8,j9,x9,y3,y4,y5,y6,reduceCtorEq,↓reduceIte]
 refine zai (ziF v e name 64 b hv hj hb fun o ho => ?_)
 have hit:=zlo hj e name 64
 have hok:=itE_ok hv hj e name 64
 unfold lsE at hR
 generalize itE v e name 64=M at hR ho hit hok ⊢
 obtain ⟨e1,its⟩:=M
 dsimp only at hR ho hit hok ⊢
 have hl4:=zaH its
 simp only [sxZ,z5,z6,z7,z8,j4,j5,j6,j7,j8,j9,x9,y3,y4,y5,y6,reduceCtorEq,↓reduceIte]
 subst hW
 rw [zaN]
 refine zaK (fun m o tm => ∃ (i:Nat),i ≤ its.length ∧ m=its.length - i ∧ Ext objs o b (zby v e1) ∧ (∀ x ∈ its.take i,lk6 x=0) ∧ RowL objs.length ((its.take i).map lkV) o (tm[5]?.getD .u) ∧ tm.length=52 ∧ tm[0]? = some (.p b 0) ∧ tm[11]? = some (.row its.length (zac its)) ∧ tm[12]? = some (.i .i64 (its.length:Int)) ∧ tm[13]? = some (.i .i64 (i:Int))) its.length ⟨0,Nat.zero_le _,rfl,ho,by simp,.inl ⟨rfl,rfl⟩,rfl,rfl,rfl,rfl,rfl⟩ ?_
 clear ho
 rintro m o tm ⟨i,hi,rfl,ho,hall,hA,hlen,t0,t11,t12,t13⟩
 obtain ⟨a5,t5⟩:∃ a,tm[5]? = some a:=⟨_,List.getElem?_eq_getElem (by omega)⟩
 rw [t5,Option.getD_some] at hA
 refine zaa fun W hW => ?_
 by_cases hlt:(i:Int) < (its.length:Int)
 ·have hi':i < its.length:=by omega
  have kv:=zgq hi'
  have hyok:=hok its[i] (List.getElem_mem hi')
  have hfi:=fiE_take hi' hall
  have htk:its.take (i + 1)=its.take i ++ [its[i]]:=by rw [List.take_add_one,List.getElem?_eq_getElem hi']; rfl
  have hfl:((its.take i).map lkV).length=i:=by rw [List.length_map,List.length_take]; omega
  generalize its[i]=y at kv htk hyok hfi
  obtain ⟨hy1,hy2⟩:=hyok
  have ejy:=zal y
  rw [ejy] at kv
  simp only [sxZ,z5,z6,z7,z8,j4,j5,j6,j7,j8,j9,x9,y3,y4,y5,y6,reduceCtorEq,↓reduceIte,List.getElem?_set,hlen,t11,t12,t13,hlt]
  subst hW
  refine zaa fun W hW => ?_
  simp only [sxZ,z5,z6,z7,z8,j4,j5,j6,j7,j8,j9,x9,y3,y4,y5,y6,reduceCtorEq,↓reduceIte,List.getElem?_set,hlen]
  subst hW
  refine zaa fun V hV => ?_
  rw [zaN]
  refine zaa fun W hW => ?_
  simp only [sxZ,z5,z6,z7,z8,j4,j5,j6,j7,j8,j9,x9,y3,y4,y5,y6,reduceCtorEq,↓reduceIte,List.getElem?_set,hlen,t11,t13,kv]
  refine ⟨⟨by omega,by omega,by omega⟩,by omega,?_⟩
  simp only [sxZ,z5,z6,z7,z8,j4,j5,j6,j7,j8,j9,x9,y3,y4,y5,y6,reduceCtorEq,↓reduceIte,List.getElem?_set,hlen,gn1,sn1]
  subst hW
  have hE:=ho.app (.box 25 [.i .i64 y.kind,.s y.text,.row y.keys.length (y.keys.map .s),.row y.items.length (zac y.items)])
  have hA2:=hA.mono (.box 25 [.i .i64 y.kind,.s y.text,.row y.keys.length (y.keys.map .s),.row y.items.length (zac y.items)])
  have eB:(o ++ [.box 25 [.i .i64 y.kind,.s y.text,.row y.keys.length (y.keys.map .s),.row y.items.length (zac y.items)]])[o.length]? = some (.box 25 [.i .i64 y.kind,.s y.text,.row y.keys.length (y.keys.map .s),.row y.items.length (zac y.items)]):=gn1 _ _
  have hol:=ho.2.1
  generalize o ++ [.box 25 [.i .i64 y.kind,.s y.text,.row y.keys.length (y.keys.map .s),.row y.items.length (zac y.items)]]=o1 at hE hA2 eB ⊢
  refine zaa fun W hW => ?_
  simp only [sxZ,z5,z6,z7,z8,j4,j5,j6,j7,j8,j9,x9,y3,y4,y5,y6,reduceCtorEq,↓reduceIte,List.getElem?_set,hlen,eB]
  rw [← ejy]
  refine zai (zhT y fun o2 b2 hb2 n1 n2 n3 => ?_)
  have n1':o2[b2]? = some (zby y (shE y)):=n1
  simp only [sxZ,z5,z6,z7,z8,j4,j5,j6,j7,j8,j9,x9,y3,y4,y5,y6,reduceCtorEq,↓reduceIte,List.getElem?_set,hlen]
  subst hW
  refine zbD (fun t3 => t3.length=52 ∧ t3[0]? = some (.p b 0) ∧ t3[5]? = some a5 ∧ t3[8]? = some (.p b2 0) ∧ t3[11]? = some (.row its.length (zac its)) ∧ t3[12]? = some (.i .i64 (its.length:Int)) ∧ t3[13]? = some (.i .i64 (i:Int))) ?_ ?_
  ·simp only [sxZ,z5,z6,z7,z8,j4,j5,j6,j7,j8,j9,x9,y3,y4,y5,y6,reduceCtorEq,↓reduceIte,List.length_set,List.getElem?_set,hlen,t0,t5,t11,t12,t13,and_self]
  rintro tm2 ⟨hlen2,u0,u5,u8,u11,u12,u13⟩
  refine zaa fun W hW => ?_
  refine zay (fun o9 t3 => Ext objs o9 b (zby v e1) ∧ o9[b2]? = some (zby y (lk6 y)) ∧ RowL objs.length (((its.take i).map lkV) ++ [lkV y]) o9 (t3[5]?.getD .u) ∧ t3.length=52 ∧ t3[0]? = some (.p b 0) ∧ t3[8]? = some (.p b2 0) ∧ t3[11]? = some (.row its.length (zac its)) ∧ t3[12]? = some (.i .i64 (its.length:Int)) ∧ t3[13]? = some (.i .i64 (i:Int))) ?_ ?_
  simp only [sxZ,z5,z6,z7,z8,j4,j5,j6,j7,j8,j9,x9,y3,y4,y5,y6,reduceCtorEq,↓reduceIte,List.getElem?_set,hlen2,u5,u8]
  refine zai (dreq_k y (shE y) zgG b2 hy1 hy2 n1' fun o3 x3 => ?_)
  simp only [sxZ,z5,z6,z7,z8,j4,j5,j6,j7,j8,j9,x9,y3,y4,y5,y6,reduceCtorEq,↓reduceIte,List.getElem?_set,hlen2,u5,u8]
  refine zai (zfO y (lk1 y) zc6 b2 hy1 hy2 x3.1 fun o4 x4 => ?_)
  simp only [sxZ,z5,z6,z7,z8,j4,j5,j6,j7,j8,j9,x9,y3,y4,y5,y6,reduceCtorEq,↓reduceIte,List.getElem?_set,hlen2,u5,u8]
  refine zai (zfO y (lk2 y) zcY b2 hy1 hy2 x4.1 fun o5 x5 => ?_)
  simp only [sxZ,z5,z6,z7,z8,j4,j5,j6,j7,j8,j9,x9,y3,y4,y5,y6,reduceCtorEq,↓reduceIte,List.getElem?_set,hlen2,u5,u8]
  refine zai (zfO y (lk3 y) zdY b2 hy1 hy2 x5.1 fun o6 x6 => ?_)
  simp only [sxZ,z5,z6,z7,z8,j4,j5,j6,j7,j8,j9,x9,y3,y4,y5,y6,reduceCtorEq,↓reduceIte,List.getElem?_set,hlen2,u5,u8]
  refine zai (zfP y (lk4 y) zdq false b2 hy1 hy2 x6.1 fun o7 x7 => ?_)
  simp only [sxZ,z5,z6,z7,z8,j4,j5,j6,j7,j8,j9,x9,y3,y4,y5,y6,reduceCtorEq,↓reduceIte,List.getElem?_set,hlen2,u5,u8]
  refine zai (zfP y (lk5 y) zbP true b2 hy1 hy2 x7.1 fun o8 x8 => ?_)
  simp only [sxZ,z5,z6,z7,z8,j4,j5,j6,j7,j8,j9,x9,y3,y4,y5,y6,reduceCtorEq,↓reduceIte,List.getElem?_set,hlen2,u5,u8]
  ·have x18:Ext o2 o8 b2 (zby y (lk6 y)):=((((x3.trans x4).trans x5).trans x6).trans x7).trans x8
   have hE8:=hE.over (zfT _ _) n3 n2 x18 hb2
   have hA8:=hA2.over n3 x18 hb2
   clear x3 x4 x5 x6 x7 x8
   have eb2:=x18.1
   have hbb:=(List.getElem?_eq_some_iff.1 hE.1).1
   have hlo:=hE8.2.1
   have hlv:lkc (lkV y)=[.s (zaQ y (shE y) zgG 5).2.1.text,.s (zaQ y (lk1 y) zc6 5).2.1.text,.s (zaQ y (lk2 y) zcY 5).2.1.text,.s (zaQ y (lk3 y) zdY 5).2.1.text,.row (prE y (lk4 y) zdq false).2.length (zaT (prE y (lk4 y) zdq false).2),.row (prE y (lk5 y) zbP true).2.length (zaT (prE y (lk5 y) zbP true).2)]:=rfl
   rw [← hlv]
   have hlk1:zbT [lkV y]=lkc (lkV y):=by unfold zbT; simp
   have hlk6:(lkc (lkV y)).length=6:=rfl
   generalize (its.take i).map lkV=acc at hA8 hfl ⊢
   have hla:=zcK acc
   rcases hA8 with ⟨rfl,rfl⟩ | ⟨r,g,rfl,hr0,hr⟩
   ·simp only [sxZ,z5,z6,z7,z8,j4,j5,j6,j7,j8,j9,x9,y3,y4,y5,y6,reduceCtorEq,↓reduceIte,List.getElem?_set,hlen2,u0,u5,u8,u11,u12,u13,zab]
    refine ⟨hlk6,hE8.app _,?_,.inr ⟨_,0,rfl,by omega,?_⟩⟩
    ·rw [List.getElem?_append_left (List.getElem?_eq_some_iff.1 eb2).1]; exact eb2
    ·rw [gn1,← hlk1]; rfl
   ·have hrl:=(List.getElem?_eq_some_iff.1 hr).1
    have hrb:r ≠ b2:=fun h => by rw [h,eb2] at hr; cases hr
    simp only [sxZ,z5,z6,z7,z8,j4,j5,j6,j7,j8,j9,x9,y3,y4,y5,y6,reduceCtorEq,↓reduceIte,List.getElem?_set,hlen2,u0,u5,u8,u11,u12,u13,hr,zab]
    refine ⟨⟨hlk6,by omega,by omega⟩,hE8.own r _ hr0 hbl,?_,.inr ⟨r,g + 1,rfl,hr0,?_⟩⟩
    ·rw [if_neg hrb]; exact eb2
    ·rw [List.getElem?_set_self hrl,zhX,List.length_append,hlk1]; rfl
  rintro o9 tm3 ⟨hE9,eb9,hA9,hlen3,k0,k8,k11,k12,k13⟩
  have eb9':=eb9
  unfold zby at eb9'
  rw [ejy] at eb9'
  subst hW
  refine zaa fun W hW => ?_
  by_cases c:lk6 y=0
  ·simp only [sxZ,z5,z6,z7,z8,j4,j5,j6,j7,j8,j9,x9,y3,y4,y5,y6,reduceCtorEq,↓reduceIte,List.getElem?_set,hlen3,k0,k8,k11,k12,k13,eb9',c]
   subst hW
   simp only [sxZ,z5,z6,z7,z8,j4,j5,j6,j7,j8,j9,x9,y3,y4,y5,y6,reduceCtorEq,↓reduceIte,List.getElem?_set,hlen3,k0,k8,k11,k12,k13]
   subst hV
   simp only [sxZ,z5,z6,z7,z8,j4,j5,j6,j7,j8,j9,x9,y3,y4,y5,y6,reduceCtorEq,↓reduceIte,List.getElem?_set,hlen3,k0,k8,k11,k12,k13]
   refine ⟨by omega,its.length - (i + 1),by omega,i + 1,by omega,rfl,hE9,fun x hx => ?_,?_,rfl⟩
   ·rw [htk] at hx
    rcases List.mem_append.1 hx with hx | hx
    ·exact hall x hx
    ·rw [List.mem_singleton] at hx; rw [hx]; exact c
   ·rw [htk,List.map_append]; exact hA9
  ·have hf:=hfi c
   rw [if_neg (by rw [hf]; exact c),hf] at hR
   subst hR
   simp only [sxZ,z5,z6,z7,z8,j4,j5,j6,j7,j8,j9,x9,y3,y4,y5,y6,reduceCtorEq,↓reduceIte,List.getElem?_set,hlen3,k0,k8,k11,k12,k13,eb9',c]
   subst hW
   simp only [sxZ,z5,z6,z7,z8,j4,j5,j6,j7,j8,j9,x9,y3,y4,y5,y6,reduceCtorEq,↓reduceIte,List.getElem?_set,hlen3,k0,k8,k11,k12,k13,eb9']
   refine zai (zdS v e1 (lk6 y) b hE9.1 ?_)
   have hE2:=hE9.set (zby v (orE e1 (lk6 y)))
   generalize o9.set b (zby v (orE e1 (lk6 y)))=o10 at hE2 ⊢
   simp only [sxZ,z5,z6,z7,z8,j4,j5,j6,j7,j8,j9,x9,y3,y4,y5,y6,reduceCtorEq,↓reduceIte,List.getElem?_set,hlen3,k0,k8,k11,k12,k13]
   exact .inl ⟨fun G I y hy => zaU hy,hk _ hE2⟩
 have hn:i=its.length:=by omega
 rw [hn,List.take_of_length_le (Nat.le_refl _)] at hA hall
 rw [if_pos (zlz hall)] at hR
 subst hR
 simp only [sxZ,z5,z6,z7,z8,j4,j5,j6,j7,j8,j9,x9,y3,y4,y5,y6,reduceCtorEq,↓reduceIte,List.getElem?_set,hlen,t11,t12,t13,hlt]
 subst hW
 simp only [sxZ,z5,z6,z7,z8,j4,j5,j6,j7,j8,j9,x9,y3,y4,y5,y6,reduceCtorEq,↓reduceIte,List.getElem?_set,hlen]
 subst hZ
 rcases hA with ⟨h0,rfl⟩ | ⟨r,g,rfl,hr0,hr⟩
 ·simp only [sxZ,z5,z6,z7,z8,j4,j5,j6,j7,j8,j9,x9,y3,y4,y5,y6,reduceCtorEq,↓reduceIte,List.getElem?_set,hlen,t5]
  dsimp only at hk ⊢
  rw [h0] at hk ⊢
  exact .inl ⟨fun G I y hy => zaU hy,hk _ ho⟩
 ·simp only [sxZ,z5,z6,z7,z8,j4,j5,j6,j7,j8,j9,x9,y3,y4,y5,y6,reduceCtorEq,↓reduceIte,List.getElem?_set,hlen,t5]
  refine .inr ⟨r,_,_,_,_,_,hr,fun G I y hy => ?_,hk _ (ho.pub (zfT _ _) r g _ _ hr0 hbl)⟩
  simpa [zht,za7] using hy
end
end
section
attribute [local irreducible] run
def jdV (v:JV):AV:=zd3 (zaQ v (shE v) zc8 5).2.1.text (tsE v (jd1 v) zd4).2 (prE v (jd2 v) zbP true).2 (lsE v (jd3 v) zcu).2
def jdAV (v:JV):AV:=if jd4 v=0 then jdV v else zd3 [] [] [] []
theorem den_jrz {G:Gh} {I:Imm} {y:Value} {x:AV} (h:Den G I (.tup [.agg [.s [],.nil,.nil,.nil],x]) y):Den G I (.tup [zd3 [] [] [] [],x]) y:=by
 unfold zd3
 have e1:(AV.row ([]:List (List UInt8)).length (([]:List (List UInt8)).map .s))=.row 0 []:=rfl
 have e2:(AV.row ([]:List PrP).length (zaT []))=.row 0 []:=rfl
 have e3:(AV.row ([]:List LkP).length (zbT []))=.row 0 []:=rfl
 rw [e1,e2,e3]
 simp only [zah,Den] at h ⊢
 obtain ⟨ys,h1,y0,l0,rfl,⟨zs,rfl,⟨z0,m0,rfl,q0,z1,m1,rfl,q1,z2,m2,rfl,q2,z3,m3,rfl,q3,q4⟩,hz⟩,h2⟩:=h
 refine ⟨_,h1,_,_,rfl,⟨_,rfl,⟨_,_,rfl,q0,_,_,rfl,?_,_,_,rfl,?_,_,_,rfl,?_,q4⟩,hz⟩,h2⟩
 ·exact ⟨none,0,[],q1,⟨Nat.le_refl _,fun ad h => by cases h⟩,rfl,by simp,by simp⟩
 ·exact ⟨none,0,[],q2,⟨Nat.le_refl _,fun ad h => by cases h⟩,rfl,by simp,by simp⟩
 ·exact ⟨none,0,[],q3,⟨Nat.le_refl _,fun ad h => by cases h⟩,rfl,by simp,by simp⟩
section
variable [Tabs Try.prog] {objs:List OB} {K:List OB → AV → Prop}
theorem zdi (v:JV) (hv:JOk v) (hj:JBd v) (hk:K objs (.tup [jdAV v,.i .i64 (jd4 v)])):zag Try.prog 11 [.agg (zaj v)] objs K:=by
 refine zey (.tup [jdAV v,.i .i64 (jd4 v)]) ?_
 refine za8 is_jrd_Decode (by simp only [zaq,AV.plain,zdh,Bool.and_self]) fun C _ => ?_
 rw [c_jrd_Decode]
 have ejv:=zal v
 rw [ejv]
 refine zaa fun Z hZ => ?_
 simp only [sxZ,z5,z6,z7,z8,j4,j5,j6,j7,j8,j9,x9,y3,y4,y5,y6,reduceCtorEq,↓reduceIte]
 subst hZ
 refine zaa fun Z hZ => ?_
 simp only [sxZ,z5,z6,z7,z8,j4,j5,j6,j7,j8,j9,x9,y3,y4,y5,y6,reduceCtorEq,↓reduceIte]
 rw [← ejv]
 refine zai (zhT v fun o2 b hb n1 n2 n3 => ?_)
 have n1':o2[b]? = some (zby v (shE v)):=n1
 have q1:o2[1]? = some (.box 34 [.s [],.nil,.nil,.nil]):=n3 1 (by simp)
 have hb2:2 ≤ b:=hb
 simp only [sxZ,z5,z6,z7,z8,j4,j5,j6,j7,j8,j9,x9,y3,y4,y5,y6,reduceCtorEq,↓reduceIte]
 subst hZ
 refine zaa fun Z hZ => ?_
 simp only [sxZ,z5,z6,z7,z8,j4,j5,j6,j7,j8,j9,x9,y3,y4,y5,y6,reduceCtorEq,↓reduceIte]
 refine zai (zfO v (shE v) zc8 b hv hj n1' fun o3 x3 => ?_)
 simp only [sxZ,z5,z6,z7,z8,j4,j5,j6,j7,j8,j9,x9,y3,y4,y5,y6,reduceCtorEq,↓reduceIte]
 refine zai (dtexts_k v (jd1 v) zd4 b hv hj x3.1 fun o4 x4 => ?_)
 simp only [sxZ,z5,z6,z7,z8,j4,j5,j6,j7,j8,j9,x9,y3,y4,y5,y6,reduceCtorEq,↓reduceIte]
 refine zai (zfP v (jd2 v) zbP true b hv hj x4.1 fun o5 x5 => ?_)
 simp only [sxZ,z5,z6,z7,z8,j4,j5,j6,j7,j8,j9,x9,y3,y4,y5,y6,reduceCtorEq,↓reduceIte]
 refine zai (dlinks_k v (jd3 v) zcu b hv hj x5.1 fun o6 x6 => ?_)
 have x16:Ext o2 o6 b (zby v (jd4 v)):=((x3.trans x4).trans x5).trans x6
 have q6:=x16.2.2 1 _ (by omega) q1 rfl
 have e6:=x16.1
 have hl6:=(List.getElem?_eq_some_iff.1 q6).1
 clear x3 x4 x5 x6 x16 n1 n1' n2 n3 q1
 have e6':=e6
 unfold zby at e6'
 rw [ejv] at e6'
 have r1:∀ z,(o6 ++ [z])[1]? = some (.box 34 [.s [],.nil,.nil,.nil]):=fun z => by rw [List.getElem?_append_left hl6]; exact q6
 have r2:∀ z,(o6 ++ [z])[b]? = some (.box 71 [.i .i64 (jd4 v),.i .i64 v.kind,.s v.text,.row v.keys.length (v.keys.map .s),.row v.items.length (zac v.items)]):=fun z => by rw [List.getElem?_append_left (List.getElem?_eq_some_iff.1 e6).1]; exact e6'
 have s1:∀ z X,((o6 ++ [z]).set 1 X)[1]? = some X:=fun z X => List.getElem?_set_self (by rw [List.length_append]; omega)
 simp only [sxZ,z5,z6,z7,z8,j4,j5,j6,j7,j8,j9,x9,y3,y4,y5,y6,reduceCtorEq,↓reduceIte,gn1,sn1]
 subst hZ
 refine zaa fun Z hZ => ?_
 by_cases c:jd4 v=0
 ·simp only [sxZ,z5,z6,z7,z8,j4,j5,j6,j7,j8,j9,x9,y3,y4,y5,y6,reduceCtorEq,↓reduceIte,r2,c]
  subst hZ
  simp only [sxZ,z5,z6,z7,z8,j4,j5,j6,j7,j8,j9,x9,y3,y4,y5,y6,reduceCtorEq,↓reduceIte,gn1,r1,s1,zbt,zbz,zez,Bool.and_self]
  have e:jdAV v=jdV v:=if_pos c
  rw [c] at hk
  rw [e] at hk ⊢
  exact ⟨fun G I y hy => hy,hk⟩
 ·simp only [sxZ,z5,z6,z7,z8,j4,j5,j6,j7,j8,j9,x9,y3,y4,y5,y6,reduceCtorEq,↓reduceIte,r1,s1,r2,c]
  have e:jdAV v=zd3 [] [] [] []:=if_neg c
  rw [e] at hk ⊢
  exact ⟨by omega,fun G I y hy => den_jrz hy,hk⟩
end
end
section
attribute [local irreducible] run
def RowJ (m:Nat) (l:List JV) (o:List OB) (X:AV):Prop:=(l=[] ∧ X=.nil) ∨ ∃ r g,X=.orow r g ∧ m ≤ r ∧ o[r]? = some (.orow 25 4 g l.length (zac l))
def ObR (m b:Nat) (ks:List (List UInt8)) (its:List JV) (o:List OB):Prop:=∃ X Y,o[b]? = some (.box 85 [X,Y]) ∧ RowT m ks o X ∧ RowJ m its o Y
def jtx (s:List UInt8):JV:=.mk 5 s [] []
def jar (l:List JV):JV:=.mk 6 [] [] l
theorem RowJ.mono {m:Nat} {l:List JV} {o:List OB} {X:AV} (h:RowJ m l o X) (z:OB):RowJ m l (o ++ [z]) X:=by
 rcases h with h | ⟨r,g,h1,h0,h2⟩
 ·exact .inl h
 ·exact .inr ⟨r,g,h1,h0,by rw [List.getElem?_append_left (List.getElem?_eq_some_iff.1 h2).1]; exact h2⟩
theorem RowJ.set {m:Nat} {l:List JV} {o:List OB} {X:AV} (h:RowJ m l o X) {r:Nat} {Z:OB} (hz:o[r]? = some Z) (hne:∀ g n cs,Z ≠ .orow 25 4 g n cs) (W:OB):RowJ m l (o.set r W) X:=by
 rcases h with h | ⟨r',g,h1,h0,h2⟩
 ·exact .inl h
 ·refine .inr ⟨r',g,h1,h0,?_⟩
  rw [List.getElem?_set_ne (fun e => by rw [e,h2] at hz; injection hz with hz; exact hne _ _ _ hz.symm)]; exact h2
theorem RowT.set {m:Nat} {l:List (List UInt8)} {o:List OB} {X:AV} (h:RowT m l o X) {r:Nat} {Z:OB} (hz:o[r]? = some Z) (hne:∀ g n cs,Z ≠ .orow 9 1 g n cs) (W:OB):RowT m l (o.set r W) X:=by
 rcases h with h | ⟨r',g,h1,h0,h2⟩
 ·exact .inl h
 ·refine .inr ⟨r',g,h1,h0,?_⟩
  rw [List.getElem?_set_ne (fun e => by rw [e,h2] at hz; injection hz with hz; exact hne _ _ _ hz.symm)]; exact h2
theorem zl1 {k:Int} {t:List UInt8} {G:Gh} {I:Imm} {y:Value} (h:Den G I (.agg [.i .i64 k,.s t,.nil,.nil]) y):Den G I (.agg (zaj (.mk k t [] []))) y:=by
 rw [zaj,zan]
 simp only [zah,Den] at h ⊢
 obtain ⟨zs,rfl,⟨z0,m0,rfl,q0,z1,m1,rfl,q1,z2,m2,rfl,q2,z3,m3,rfl,q3,q4⟩,hz⟩:=h
 refine ⟨_,rfl,⟨_,_,rfl,q0,_,_,rfl,q1,_,_,rfl,?_,_,_,rfl,?_,q4⟩,hz⟩
 ·exact ⟨none,0,[],q2,⟨Nat.le_refl _,fun ad h => by cases h⟩,rfl,by simp,by simp⟩
 ·exact ⟨none,0,[],q3,⟨Nat.le_refl _,fun ad h => by cases h⟩,rfl,by simp,by simp⟩
theorem den_jv3 {k:Int} {t:List UInt8} {n:Nat} {cs:List AV} {its:List JV} (hn:n=its.length) (hc:cs=zac its) {G:Gh} {I:Imm} {y:Value} (h:Den G I (.agg [.i .i64 k,.s t,.nil,.row n cs]) y):Den G I (.agg (zaj (.mk k t [] its))) y:=by
 subst hn hc
 rw [zaj]
 simp only [zah,Den] at h ⊢
 obtain ⟨zs,rfl,⟨z0,m0,rfl,q0,z1,m1,rfl,q1,z2,m2,rfl,q2,z3,m3,rfl,q3,q4⟩,hz⟩:=h
 refine ⟨_,rfl,⟨_,_,rfl,q0,_,_,rfl,q1,_,_,rfl,?_,_,_,rfl,q3,q4⟩,hz⟩
 exact ⟨none,0,[],q2,⟨Nat.le_refl _,fun ad h => by cases h⟩,rfl,by simp,by simp⟩
section
variable [Tabs Try.prog] {objs:List OB} {K:List OB → AV → Prop}
theorem zcg (s:List UInt8) (hk:K objs (.agg (zaj (jtx s)))):zag Try.prog 39 [.s s] objs K:=by
 refine zey (.agg (zaj (jtx s))) ?_
 refine za8 is_jsonmake_Text rfl fun C _ => ?_
 rw [c_jsonmake_Text]
 simp only [sxZ,z5,z6,z7,z8,j4,j5,j6,j7,j8,j9,x9,y3,y4,y5,y6,reduceCtorEq,↓reduceIte]
 exact ⟨fun G I y hy => zl1 hy,hk⟩
theorem zdg (l:List JV) (hk:K objs (.agg (zaj (jar l)))):zag Try.prog 43 [.row l.length (zac l)] objs K:=by
 refine zey (.agg (zaj (jar l))) ?_
 refine za8 is_jsonmake_Array (by simp only [zaq,AV.plain,zaV,Bool.and_self]) fun C _ => ?_
 rw [c_jsonmake_Array]
 simp only [sxZ,z5,z6,z7,z8,j4,j5,j6,j7,j8,j9,x9,y3,y4,y5,y6,reduceCtorEq,↓reduceIte,zaV]
 exact ⟨fun G I y hy => den_jv3 rfl rfl hy,hk⟩
theorem zeD (m b:Nat) (ks:List (List UInt8)) (its:List JV) (key:List UInt8) (v:JV) (hb:ObR m b ks its objs) (hm:m ≤ objs.length) (hbm:b < m) (h1:ks.length ≤ 1000000) (h2:its.length ≤ 1000000) (hk:∀ o,ObR m b (ks ++ [key]) (its ++ [v]) o → objs.length ≤ o.length → (∀ i,i < m → i ≠ b → o[i]? = objs[i]?) → K o (.tup [])):zag Try.prog 60 [.p b 0,.s key,.agg (zaj v)] objs K:=by
 obtain ⟨X,Y,e0,hX,hY⟩:=hb
 have hl4:=zaH its
 obtain ⟨v0,v1,v2,v3,hv⟩:∃ v0 v1 v2 v3,zaj v=[v0,v1,v2,v3]:=⟨_,_,_,_,zal v⟩
 rw [hv]
 refine zbg is_jsonmake_Object_Add fun C _ => ?_
 rw [c_jsonmake_Object_Add]
 refine zaa fun Z hZ => ?_
 simp only [sxZ,z5,z6,z7,z8,j4,j5,j6,j7,j8,j9,x9,y3,y4,y5,y6,reduceCtorEq,↓reduceIte]
 have f0:(objs ++ [OB.box 25 [v0,v1,v2,v3]])[b]? = some (.box 85 [X,Y]):=by rw [List.getElem?_append_left (by omega)]; exact e0
 have fv:(objs ++ [OB.box 25 [v0,v1,v2,v3]])[objs.length]? = some (.box 25 [v0,v1,v2,v3]):=gn1 _ _
 have hX1:=hX.mono (.box 25 [v0,v1,v2,v3])
 subst hZ
 refine zaa fun Z hZ => ?_
 have hY1:=hY.mono (.box 25 [v0,v1,v2,v3])
 have hol:(objs ++ [OB.box 25 [v0,v1,v2,v3]]).length=objs.length + 1:=by simp
 refine zay (fun o2 t2 => ∃ X',o2[b]? = some (.box 85 [X',Y]) ∧ RowT m (ks ++ [key]) o2 X' ∧ RowJ m its o2 Y ∧ o2[objs.length]? = some (.box 25 [v0,v1,v2,v3]) ∧ objs.length + 1 ≤ o2.length ∧ (∀ i,i < m → i ≠ b → o2[i]? = objs[i]?) ∧ t2.length=27 ∧ t2[0]? = some (.p b 0) ∧ t2[5]? = some (.p objs.length 0)) ?_ ?_
 ·rcases hX1 with ⟨rfl,rfl⟩ | ⟨r,g,rfl,hr0,hr⟩
  ·have f1:∀ z,(objs ++ [OB.box 25 [v0,v1,v2,v3]] ++ [z])[b]? = some (.box 85 [.nil,Y]):=fun z => by rw [List.getElem?_append_left (by omega)]; exact f0
   simp only [sxZ,z5,z6,z7,z8,j4,j5,j6,j7,j8,j9,x9,y3,y4,y5,y6,reduceCtorEq,↓reduceIte,f0,f1,zab]
   refine ⟨_,List.getElem?_set_self (by simp; omega),.inr ⟨objs.length + 1,0,rfl,by omega,?_⟩,?_,?_,by simp,fun i hi hn => ?_⟩
   ·rw [List.getElem?_set_ne (by omega),gn2]; rfl
   ·exact (hY1.mono _).set (f1 _) (fun _ _ _ h => by cases h) _
   ·rw [List.getElem?_set_ne (by omega),List.getElem?_append_left (by omega)]; exact fv
   ·rw [List.getElem?_set_ne (by omega),List.getElem?_append_left (by omega),List.getElem?_append_left (by omega)]
  ·have hrl:=(List.getElem?_eq_some_iff.1 hr).1
   have hrv:r ≠ objs.length:=fun h => by rw [h,fv] at hr; cases hr
   have f1:∀ W,((objs ++ [OB.box 25 [v0,v1,v2,v3]]).set r W)[b]? = some (.box 85 [.orow r g,Y]):=fun W => by rw [List.getElem?_set_ne (by omega)]; exact f0
   simp only [sxZ,z5,z6,z7,z8,j4,j5,j6,j7,j8,j9,x9,y3,y4,y5,y6,reduceCtorEq,↓reduceIte,f0,f1,hr,zab]
   refine ⟨⟨by omega,by omega⟩,_,List.getElem?_set_self (by simp; omega),.inr ⟨r,g + 1,rfl,hr0,?_⟩,?_,?_,by simp,fun i hi hn => ?_⟩
   ·rw [List.getElem?_set_ne (by omega),List.getElem?_set_self hrl,List.length_append,List.map_append]; rfl
   ·exact (hY1.set hr (fun _ _ _ h => by cases h) _).set (f1 _) (fun _ _ _ h => by cases h) _
   ·rw [List.getElem?_set_ne (by omega),List.getElem?_set_ne hrv]; exact fv
   ·rw [List.getElem?_set_ne (by omega),List.getElem?_set_ne (by omega),List.getElem?_append_left (by omega)]
 rintro o2 tm2 ⟨X',g0,hX2,hY2,gv,hlo,hfr,hlen,t0,t5⟩
 subst hZ
 have hl4':=zb7 v
 rcases hY2 with ⟨rfl,rfl⟩ | ⟨r,g,rfl,hr0,hr⟩
 ·have g1:∀ z,(o2 ++ [z])[b]? = some (.box 85 [X',.nil]):=fun z => by rw [List.getElem?_append_left (by omega)]; exact g0
  simp only [sxZ,z5,z6,z7,z8,j4,j5,j6,j7,j8,j9,x9,y3,y4,y5,y6,reduceCtorEq,↓reduceIte,List.getElem?_set,hlen,t0,t5,g0,gv,gn1,sn1,g1,Int.toNat_zero]
  refine ⟨by omega,by omega,?_⟩
  refine hk _ ⟨X',.orow o2.length 0,List.getElem?_set_self (by simp; omega),?_,.inr ⟨o2.length,0,rfl,by omega,?_⟩⟩ (by simp; omega) fun i hi hn => ?_
  ·exact (hX2.mono _).set (g1 _) (fun _ _ _ h => by cases h) _
  ·rw [List.getElem?_set_ne (by omega),gn1,← hv]
   simp [zav,zan]
  ·rw [List.getElem?_set_ne (by omega),List.getElem?_append_left (by omega)]; exact hfr i hi hn
 ·have hrl:=(List.getElem?_eq_some_iff.1 hr).1
  have hrb:r ≠ b:=by omega
  simp only [sxZ,z5,z6,z7,z8,j4,j5,j6,j7,j8,j9,x9,y3,y4,y5,y6,reduceCtorEq,↓reduceIte,List.getElem?_set,hlen,t0,t5,g0,gv,hr,hrl,hrb]
  refine ⟨⟨by omega,by omega⟩,⟨by omega,by omega⟩,by omega,?_⟩
  rw [spE _ _ _ _ _ _ _ _ _ _ hl4,List.set_set]
  have g2:∀ W,(o2.set r W)[b]? = some (.box 85 [X',.orow r g]):=fun W => by rw [List.getElem?_set_ne hrb]; exact g0
  refine hk _ ⟨X',.orow r (g + 1),List.getElem?_set_self (by simp; omega),?_,.inr ⟨r,g + 1,rfl,hr0,?_⟩⟩ (by simp; omega) fun i hi hn => ?_
  ·exact (hX2.set hr (fun _ _ _ h => by cases h) _).set (g2 _) (fun _ _ _ h => by cases h) _
  ·rw [List.getElem?_set_ne (by omega),List.getElem?_set_self hrl,← hv]
   simp [zbL,zav,zan]
  ·rw [List.getElem?_set_ne (by omega),List.getElem?_set_ne (by omega)]; exact hfr i hi hn
end
end
section
attribute [local irreducible] run
def zbn (v:JV):Bool:=!decide (v.text=[]) || decide (0 < v.items.length)
def zcp (ks:List (List UInt8)) (key:List UInt8) (v:JV):List (List UInt8):=if zbn v=true then ks ++ [key] else ks
def zcC (its:List JV) (v:JV):List JV:=if zbn v=true then its ++ [v] else its
def job (ks:List (List UInt8)) (its:List JV):JV:=.mk 7 [] ks its
theorem ObR.app {m b:Nat} {ks:List (List UInt8)} {its:List JV} {o:List OB} (h:ObR m b ks its o) (z:OB):ObR m b ks its (o ++ [z]):=by
 obtain ⟨X,Y,h1,h2,h3⟩:=h
 exact ⟨X,Y,by rw [List.getElem?_append_left (List.getElem?_eq_some_iff.1 h1).1]; exact h1,h2.mono z,h3.mono z⟩
section
variable [Tabs Try.prog] {objs:List OB} {K:List OB → AV → Prop}
theorem zbu (m b:Nat) (ks:List (List UInt8)) (its:List JV) (key:List UInt8) (v:JV) (hb:ObR m b ks its objs) (hm:m ≤ objs.length) (hbm:b < m) (h1:ks.length ≤ 1000000) (h2:its.length ≤ 1000000) (hk:∀ o,ObR m b (zcp ks key v) (zcC its v) o → objs.length ≤ o.length → (∀ i,i < m → i ≠ b → o[i]? = objs[i]?) → K o (.tup [])):zag Try.prog 38 [.p b 0,.s key,.agg (zaj v)] objs K:=by
 have ejv:=zal v
 rw [ejv]
 refine zbg is_jsonmake_Object_AddFilled fun C _ => ?_
 rw [c_jsonmake_Object_AddFilled]
 refine zaa fun Z hZ => ?_
 simp only [sxZ,z5,z6,z7,z8,j4,j5,j6,j7,j8,j9,x9,y3,y4,y5,y6,reduceCtorEq,↓reduceIte]
 rw [← ejv]
 have hB:=hb.app (.box 25 (zaj v))
 have fv:(objs ++ [OB.box 25 (zaj v)])[objs.length]? = some (.box 25 [.i .i64 v.kind,.s v.text,.row v.keys.length (v.keys.map .s),.row v.items.length (zac v.items)]):=by rw [gn1,ejv]
 have hfr:∀ i,i < m → (objs ++ [OB.box 25 (zaj v)])[i]? = objs[i]?:=fun i hi => List.getElem?_append_left (by omega)
 have hln:(objs ++ [OB.box 25 (zaj v)]).length=objs.length + 1:=by simp
 generalize objs ++ [OB.box 25 (zaj v)]=o1 at hB fv hfr hln ⊢
 subst hZ
 refine zaa fun Z hZ => ?_
 unfold zcp zcC at hk
 by_cases c:v.text=[]
 ·by_cases c2:(0:Int) < (v.items.length:Int)
  ·have hf:zbn v=true:=by unfold zbn; rw [decide_eq_true (show 0 < v.items.length by omega)]; simp
   rw [if_pos hf,if_pos hf] at hk
   simp only [sxZ,z5,z6,z7,z8,j4,j5,j6,j7,j8,j9,x9,y3,y4,y5,y6,reduceCtorEq,↓reduceIte,fv,c,c2]
   subst hZ
   simp only [sxZ,z5,z6,z7,z8,j4,j5,j6,j7,j8,j9,x9,y3,y4,y5,y6,reduceCtorEq,↓reduceIte,fv]
   rw [← ejv]
   refine zai (zeD m b ks its key v hB (by omega) hbm h1 h2 fun o3 q1 q2 q3 => ?_)
   simp only [sxZ,z5,z6,z7,z8,j4,j5,j6,j7,j8,j9,x9,y3,y4,y5,y6,reduceCtorEq,↓reduceIte]
   exact hk _ q1 (by omega) fun i hi hn => by rw [q3 i hi hn]; exact hfr i hi
  ·have hf:¬ zbn v=true:=by unfold zbn; rw [c,decide_eq_false (show ¬ 0 < v.items.length by omega)]; simp
   rw [if_neg hf,if_neg hf] at hk
   simp only [sxZ,z5,z6,z7,z8,j4,j5,j6,j7,j8,j9,x9,y3,y4,y5,y6,reduceCtorEq,↓reduceIte,fv,c,c2]
   subst hZ
   simp only [sxZ,z5,z6,z7,z8,j4,j5,j6,j7,j8,j9,x9,y3,y4,y5,y6,reduceCtorEq,↓reduceIte,fv]
   exact hk _ hB (by omega) fun i hi _ => hfr i hi
 ·have hf:zbn v=true:=by unfold zbn; rw [decide_eq_false c]; rfl
  rw [if_pos hf,if_pos hf] at hk
  simp only [sxZ,z5,z6,z7,z8,j4,j5,j6,j7,j8,j9,x9,y3,y4,y5,y6,reduceCtorEq,↓reduceIte,fv,c]
  subst hZ
  simp only [sxZ,z5,z6,z7,z8,j4,j5,j6,j7,j8,j9,x9,y3,y4,y5,y6,reduceCtorEq,↓reduceIte,fv]
  rw [← ejv]
  refine zai (zeD m b ks its key v hB (by omega) hbm h1 h2 fun o3 q1 q2 q3 => ?_)
  simp only [sxZ,z5,z6,z7,z8,j4,j5,j6,j7,j8,j9,x9,y3,y4,y5,y6,reduceCtorEq,↓reduceIte]
  exact hk _ q1 (by omega) fun i hi hn => by rw [q3 i hi hn]; exact hfr i hi
end
theorem zew {o:List OB} {r r' g n E sz g' n':Nat} {xs xs':List AV} (h:o[r']? = some (.orow E sz g' n' xs')) (hn:r' ≠ r):(zdB o r g n xs)[r']? = some (.orow E sz g' n' xs'):=by
 unfold zdB
 rw [List.getElem?_set_ne (fun e => hn e.symm),List.getElem?_map,h]; rfl
theorem zdc (o:List OB) (r g n:Nat) (xs:List AV):(zdB o r g n xs).length=o.length:=by unfold zdB; simp
theorem zfz {o o':List OB} {m b r g n:Nat} {xs:List AV} (h:∀ i Y,i < m → i ≠ b → o[i]? = some Y → PlO Y → o'[i]? = some Y) (hr:m ≤ r):∀ i Y,i < m → i ≠ b → o[i]? = some Y → PlO Y → (zdB o' r g n xs)[i]? = some Y:=by
 intro i Y hi hn ho hp
 unfold zdB
 rw [List.getElem?_set_ne (by omega),List.getElem?_map,h i Y hi hn ho hp,Option.map_some,zgN hp]
theorem zfS {ks:List (List UInt8)} {its:List JV} {X Y:AV} (hX:(ks=[] ∧ X=.nil) ∨ X=.row ks.length (ks.map .s)) (hY:(its=[] ∧ Y=.nil) ∨ Y=.row its.length (zac its)) {G:Gh} {I:Imm} {y:Value} (h:Den G I (.agg [.i .i64 7,.s [],X,Y]) y):Den G I (.agg (zaj (job ks its))) y:=by
 unfold job
 rw [zaj]
 have hX':∀ {z:Value},Den G I X z → Den G I (.row ks.length (ks.map .s)) z:=by
  intro z hz
  rcases hX with ⟨rfl,rfl⟩ | rfl
  ·exact zaU hz
  ·exact hz
 have hY':∀ {z:Value},Den G I Y z → Den G I (.row its.length (zac its)) z:=by
  intro z hz
  rcases hY with ⟨rfl,rfl⟩ | rfl
  ·rw [zan]; exact zaU hz
  ·exact hz
 generalize AV.row ks.length (ks.map .s)=A at hX' ⊢
 generalize AV.row its.length (zac its)=B at hY' ⊢
 simp only [zah,Den] at h ⊢
 obtain ⟨zs,rfl,⟨z0,m0,rfl,q0,z1,m1,rfl,q1,z2,m2,rfl,q2,z3,m3,rfl,q3,q4⟩,hz⟩:=h
 exact ⟨_,rfl,⟨_,_,rfl,q0,_,_,rfl,q1,_,_,rfl,hX' q2,_,_,rfl,hY' q3,q4⟩,hz⟩
section
variable [Tabs Try.prog] {objs:List OB} {K:List OB → AV → Prop}
theorem zdf (m b:Nat) (ks:List (List UInt8)) (its:List JV) (hb:ObR m b ks its objs) (hm:m ≤ objs.length) (hbm:b < m) (hk:∀ o,objs.length ≤ o.length → (∀ i Y,i < m → i ≠ b → objs[i]? = some Y → PlO Y → o[i]? = some Y) → K o (.agg (zaj (job ks its)))):zag Try.prog 44 [.p b 0] objs K:=by
 refine zey (.agg (zaj (job ks its))) ?_
 refine zbd ?_
 refine zbd ?_
 obtain ⟨X,Y,e0,hX,hY⟩:=hb
 refine zbg is_jsonmake_Object_Value fun C _ => ?_
 rw [c_jsonmake_Object_Value]
 refine zaa fun Z hZ => ?_
 simp only [sxZ,z5,z6,z7,z8,j4,j5,j6,j7,j8,j9,x9,y3,y4,y5,y6,reduceCtorEq,↓reduceIte]
 have g1:∀ z,(objs ++ [z])[b]? = some (.box 85 [X,Y]):=fun z => by rw [List.getElem?_append_left (by omega)]; exact e0
 subst hZ
 have hfr:∀ z i Y,i < m → i ≠ b → objs[i]? = some Y → PlO Y → (objs ++ [z])[i]? = some Y:=fun z i Y hi _ h _ => by rw [List.getElem?_append_left (by omega)]; exact h
 have hln:∀ z,(objs ++ [z]).length=objs.length + 1:=fun z => by simp
 rcases hX with ⟨x0,rfl⟩ | ⟨r,g,rfl,hr0,hr⟩
 ·rcases hY with ⟨y0,rfl⟩ | ⟨r',g',rfl,hs0,hs⟩
  ·simp only [sxZ,z5,z6,z7,z8,j4,j5,j6,j7,j8,j9,x9,y3,y4,y5,y6,reduceCtorEq,↓reduceIte,g1,gn1,sn1]
   exact .inl (.inl ⟨fun G I y hy => zfS (.inl ⟨x0,rfl⟩) (.inl ⟨y0,rfl⟩) hy,hk _ (by rw [hln]; omega) (hfr _)⟩)
  ·simp only [sxZ,z5,z6,z7,z8,j4,j5,j6,j7,j8,j9,x9,y3,y4,y5,y6,reduceCtorEq,↓reduceIte,g1,gn1,sn1]
   refine .inr ⟨r',_,_,_,_,_,by rw [List.getElem?_append_left (List.getElem?_eq_some_iff.1 hs).1]; exact hs,.inl ⟨fun G I y hy => ?_,hk _ (by rw [zdc,hln]; omega) (zfz (hfr _) hs0)⟩⟩
   refine zfS (X:=.nil) (.inl ⟨x0,rfl⟩) (.inr rfl) ?_
   simpa [zht,za7] using hy
 ·rcases hY with ⟨y0,rfl⟩ | ⟨r',g',rfl,hs0,hs⟩
  ·simp only [sxZ,z5,z6,z7,z8,j4,j5,j6,j7,j8,j9,x9,y3,y4,y5,y6,reduceCtorEq,↓reduceIte,g1,gn1,sn1]
   refine .inr ⟨r,_,_,_,_,_,by rw [List.getElem?_append_left (List.getElem?_eq_some_iff.1 hr).1]; exact hr,.inl ⟨fun G I y hy => ?_,hk _ (by rw [zdc,hln]; omega) (zfz (hfr _) hr0)⟩⟩
   refine zfS (Y:=.nil) (.inr rfl) (.inl ⟨y0,rfl⟩) ?_
   simpa [zht,za7] using hy
  ·simp only [sxZ,z5,z6,z7,z8,j4,j5,j6,j7,j8,j9,x9,y3,y4,y5,y6,reduceCtorEq,↓reduceIte,g1,gn1,sn1]
   have hne:r' ≠ r:=fun h => by rw [h,hr] at hs; cases hs
   refine .inr ⟨r,_,_,_,_,_,by rw [List.getElem?_append_left (List.getElem?_eq_some_iff.1 hr).1]; exact hr,.inr ⟨r',_,_,_,_,_,zew (by rw [List.getElem?_append_left (List.getElem?_eq_some_iff.1 hs).1]; exact hs) hne,fun G I y hy => ?_,hk _ (by rw [zdc,zdc,hln]; omega) (zfz (zfz (hfr _) hr0) hs0)⟩⟩
   refine zfS (.inr rfl) (.inr rfl) ?_
   simpa [zht,za7,hne,Ne.symm hne] using hy
end
end
end Go.Proofs.Ytceenajkieomoaa
namespace Go.Proofs.Ytceenajkieomoaa
open Go.RowKit Sx
theorem zeP {P:Program} [Tabs P] {f:FuncId} {rest:List AV} {objs:List OB} {K:List OB → AV → Prop} (h:zag P f (.row 0 [] :: rest) objs K):zag P f (.nil :: rest) objs K:=by
 intro C _ G I w hin hm ys hd
 refine h C G I w hin hm ys ?_
 simp only [zah] at hd ⊢
 obtain ⟨y,ys',rfl,h1,h2⟩:=hd
 refine ⟨y,ys',rfl,?_,h2⟩
 simp only [zah,Den] at h1 ⊢
 exact ⟨none,0,[],h1,⟨Nat.le_refl _,fun ad h => by cases h⟩,rfl,by simp,by simp⟩
end Go.Proofs.Ytceenajkieomoaa
namespace Go.Proofs.Ytceenajkieomoaa
open Nat renaming reduceAdd → z5, reduceSub → z6, reduceLeDiff → z7, reduceLT → z8, reduceMul → j4, reduceEqDiff → j5
open Int renaming reduceToNat → j6, reduceAdd → j7, reduceSub → j8, reduceMul → j9, reduceNeg → x9, reduceLT → y3, reduceLE → y4, reduceEq → y5, reduceNe → y6
open Go.RowKit Sx
section
attribute [local irreducible] run
theorem zeC (s:List UInt8):zaj (jtx s)=[.i .i64 5,.s s,.row 0 [],.row 0 []]:=by
 unfold jtx
 rw [zaj,zan]; rfl
section
variable [Tabs Try.prog] {objs:List OB} {K:List OB → AV → Prop}
theorem zlg (l:List (List UInt8)) (hl:l.length ≤ 1000000) (hk:K objs (.agg (zaj (jar (l.map jtx))))):zag Try.prog 40 [.row l.length (l.map .s)] objs K:=by
 refine za8 is_jsonmake_Texts (by simp only [zaq,AV.plain,zbt,Bool.and_self]) fun C _ => ?_
 rw [c_jsonmake_Texts]
 refine zaa fun Z hZ => ?_
 simp only [sxZ,z5,z6,z7,z8,j4,j5,j6,j7,j8,j9,x9,y3,y4,y5,y6,reduceCtorEq,↓reduceIte]
 subst hZ
 refine zaa fun Z hZ => ?_
 simp only [sxZ,z5,z6,z7,z8,j4,j5,j6,j7,j8,j9,x9,y3,y4,y5,y6,reduceCtorEq,↓reduceIte]
 subst hZ
 refine zaa fun Z hZ => ?_
 refine zaa fun W hW => ?_
 simp only [sxZ,z5,z6,z7,z8,j4,j5,j6,j7,j8,j9,x9,y3,y4,y5,y6,reduceCtorEq,↓reduceIte]
 subst hW
 rw [zaN]
 refine zaK (fun n o tm => ∃ i:Nat,i ≤ l.length ∧ n=l.length - i ∧ (∃ z,o[0]? = some (.box 25 z) ∧ z.length=4) ∧ RowJ 1 ((l.take i).map jtx) o (tm[3]?.getD .u) ∧ tm.length=20 ∧ tm[2]? = some (.p 0 0) ∧ tm[6]? = some (.row l.length (l.map .s)) ∧ tm[7]? = some (.i .i64 (l.length:Int)) ∧ tm[8]? = some (.i .i64 (i:Int))) l.length ⟨0,Nat.zero_le _,rfl,⟨_,rfl,rfl⟩,.inl ⟨rfl,rfl⟩,rfl,rfl,rfl,rfl,rfl⟩ ?_
 rintro n o tm ⟨i,hi,rfl,⟨z,e0,hz⟩,hA,hlen,t2,t6,t7,t8⟩
 obtain ⟨a3,t3⟩:∃ a,tm[3]? = some a:=⟨_,List.getElem?_eq_getElem (by omega)⟩
 rw [t3,Option.getD_some] at hA
 have hol:=(List.getElem?_eq_some_iff.1 e0).1
 refine zaa fun W hW => ?_
 by_cases hlt:(i:Int) < (l.length:Int)
 ·have hi':i < l.length:=by omega
  have kv:(l.map AV.s)[i * 1]? = some (.s l[i]):=by rw [Nat.mul_one,List.getElem?_map,List.getElem?_eq_getElem hi']; rfl
  have htk:(l.take (i + 1)).map jtx=(l.take i).map jtx ++ [jtx l[i]]:=by rw [List.take_add_one,List.getElem?_eq_getElem hi',List.map_append]; rfl
  have hfl:((l.take i).map jtx).length=i:=by rw [List.length_map,List.length_take]; omega
  generalize l[i]=y at kv htk
  generalize (l.take i).map jtx=acc at hA htk hfl
  have hl4:=zaH acc
  simp only [sxZ,z5,z6,z7,z8,j4,j5,j6,j7,j8,j9,x9,y3,y4,y5,y6,reduceCtorEq,↓reduceIte,List.getElem?_set,hlen,t6,t7,t8,hlt]
  subst hW
  refine zaa fun W hW => ?_
  simp only [sxZ,z5,z6,z7,z8,j4,j5,j6,j7,j8,j9,x9,y3,y4,y5,y6,reduceCtorEq,↓reduceIte,List.getElem?_set,hlen]
  subst hW
  refine zaa fun V hV => ?_
  rw [zaN]
  refine zaa fun W hW => ?_
  simp only [sxZ,z5,z6,z7,z8,j4,j5,j6,j7,j8,j9,x9,y3,y4,y5,y6,reduceCtorEq,↓reduceIte,List.getElem?_set,hlen,t6,t8,kv,List.length_map]
  refine ⟨⟨by omega,by omega,by omega⟩,?_⟩
  subst hW
  simp only [sxZ,z5,z6,z7,z8,j4,j5,j6,j7,j8,j9,x9,y3,y4,y5,y6,reduceCtorEq,↓reduceIte,List.getElem?_set,hlen,t3]
  refine zai (zcg y ?_)
  rw [zeC]
  rcases hA with ⟨h0,rfl⟩ | ⟨r,g,rfl,hr0,hr⟩
  ·simp only [sxZ,z5,z6,z7,z8,j4,j5,j6,j7,j8,j9,x9,y3,y4,y5,y6,reduceCtorEq,↓reduceIte,List.getElem?_set,hlen,t3]
   subst hV
   simp only [sxZ,z5,z6,z7,z8,j4,j5,j6,j7,j8,j9,x9,y3,y4,y5,y6,reduceCtorEq,↓reduceIte,List.getElem?_set,hlen,t2,t6,t7,t8]
   refine ⟨by omega,l.length - (i + 1),by omega,i + 1,by omega,rfl,⟨z,by rw [List.getElem?_append_left hol]; exact e0,hz⟩,?_,rfl⟩
   rw [htk,h0]
   exact .inr ⟨_,0,rfl,by omega,by rw [gn1,List.nil_append,zav,zan,zeC]; rfl⟩
  ·have hrl:=(List.getElem?_eq_some_iff.1 hr).1
   simp only [sxZ,z5,z6,z7,z8,j4,j5,j6,j7,j8,j9,x9,y3,y4,y5,y6,reduceCtorEq,↓reduceIte,List.getElem?_set,hlen,t3,hr]
   refine ⟨⟨by omega,by omega⟩,?_⟩
   subst hV
   simp only [sxZ,z5,z6,z7,z8,j4,j5,j6,j7,j8,j9,x9,y3,y4,y5,y6,reduceCtorEq,↓reduceIte,List.getElem?_set,hlen,t2,t6,t7,t8]
   refine ⟨by omega,l.length - (i + 1),by omega,i + 1,by omega,rfl,⟨z,?_,hz⟩,?_,rfl⟩
   ·rw [if_neg (by omega)]; exact e0
   ·rw [htk]
    refine .inr ⟨r,g + 1,rfl,hr0,?_⟩
    rw [List.getElem?_set_self hrl,List.length_append,zbL,zav,zan,zeC]; rfl
 have hn:i=l.length:=by omega
 rw [hn,List.take_of_length_le (Nat.le_refl _)] at hA
 simp only [sxZ,z5,z6,z7,z8,j4,j5,j6,j7,j8,j9,x9,y3,y4,y5,y6,reduceCtorEq,↓reduceIte,List.getElem?_set,hlen,t6,t7,t8,hlt]
 subst hW
 simp only [sxZ,z5,z6,z7,z8,j4,j5,j6,j7,j8,j9,x9,y3,y4,y5,y6,reduceCtorEq,↓reduceIte,List.getElem?_set,hlen]
 subst hZ
 have hc:zaj (jar (l.map jtx))=[.i .i64 6,.s [],.row 0 [],.row (l.map jtx).length (zac (l.map jtx))]:=by rw [zal]; rfl
 obtain ⟨z0,z1,z2,z3,rfl⟩:∃ z0 z1 z2 z3,z=[z0,z1,z2,z3]:=by
  match z,hz with
  | [a,b,c,d],_ => exact ⟨a,b,c,d,rfl⟩
 rw [hc] at hk
 have hjL:=zaV (l.map jtx)
 rcases hA with ⟨h0,rfl⟩ | ⟨r,g,rfl,hr0,hr⟩
 ·simp only [sxZ,z5,z6,z7,z8,j4,j5,j6,j7,j8,j9,x9,y3,y4,y5,y6,reduceCtorEq,↓reduceIte,List.getElem?_set,hlen,t3]
  refine zai (zeP ?_)
  have hA2:∀ {K:List OB → AV → Prop},K o (.agg (zaj (jar []))) → zag Try.prog 43 [.row 0 []] o K:=fun {K} h => by
   have:=zdg (objs:=o) (K:=K) [] h
   rwa [zan] at this
  refine hA2 ?_
  rw [← h0,hc]
  simp only [sxZ,z5,z6,z7,z8,j4,j5,j6,j7,j8,j9,x9,y3,y4,y5,y6,reduceCtorEq,↓reduceIte,List.getElem?_set,hlen,t2,e0,hol,hjL]
  exact hk
 ·simp only [sxZ,z5,z6,z7,z8,j4,j5,j6,j7,j8,j9,x9,y3,y4,y5,y6,reduceCtorEq,↓reduceIte,List.getElem?_set,hlen,t3]
  refine zai (zfg (b:=r) hr ?_)
  simp only [za7,List.map_cons,List.map_nil,and_self,if_true]
  refine zdg (l.map jtx) ?_
  rw [hc]
  generalize hcs:zac (l.map jtx)=cs at hr hk hjL ⊢
  have e1:∃ w0 w1 w2 w3,(zdB o r g (l.map jtx).length cs)[0]? = some (.box 25 [w0,w1,w2,w3]):=by
   unfold zdB
   rw [List.getElem?_set_ne (by omega),List.getElem?_map,e0]
   exact ⟨_,_,_,_,rfl⟩
  obtain ⟨w0,w1,w2,w3,e1⟩:=e1
  have hl2:=(List.getElem?_eq_some_iff.1 e1).1
  generalize zdB o r g (l.map jtx).length cs=o2 at e1 hl2 ⊢
  simp only [sxZ,z5,z6,z7,z8,j4,j5,j6,j7,j8,j9,x9,y3,y4,y5,y6,reduceCtorEq,↓reduceIte,List.getElem?_set,hlen,t2,e1,hl2,hjL]
  exact hk
end
end
section
attribute [local irreducible] run
theorem zkh:∀ {l:List PrP} {i:Nat} (hi:i < l.length),((zaT l).drop (i * 3)).take 3=[.s l[i].name,.s l[i].val,.b l[i].nul]
 | x :: l,0,hi => by
  rw [Nat.zero_mul,List.drop_zero]
  unfold zaT
  rw [List.flatMap_cons]; rfl
 | x :: l,i + 1,hi => by
  have h:=zkh (l:=l) (i:=i) (by simpa using hi)
  rw [List.getElem_cons_succ,← h]
  have e:(zaT (x :: l)).drop ((i + 1) * 3)=(zaT l).drop (i * 3):=by
   unfold zaT
   rw [List.flatMap_cons,List.drop_append,List.drop_of_length_le (by simp only [List.length_cons,List.length_nil]; omega)]
   have:(i + 1) * 3 - [AV.s x.name,.s x.val,.b x.nul].length=i * 3:=by simp only [List.length_cons,List.length_nil]; omega
   rw [this,List.nil_append]
  rw [e]
section
variable [Tabs Try.prog] {objs:List OB} {K:List OB → AV → Prop}
theorem zcV (l:List PrP) (hl:l.length ≤ 1099511627780) (hk:K objs (.b true)):zag Try.prog 36 [.row l.length (zaT l),.row l.length (zaT l)] objs K:=by
 have hlen3:=zcG l
 refine za8 is_ref16_sameProperties (by simp only [zaq,AV.plain,zbz,Bool.and_self]) fun C _ => ?_
 rw [c_ref16_sameProperties]
 refine zaa fun Y hY => ?_
 simp only [sxZ,z5,z6,z7,z8,j4,j5,j6,j7,j8,j9,x9,y3,y4,y5,y6,reduceCtorEq,↓reduceIte]
 subst hY
 refine zaa fun Y hY => ?_
 refine zaa fun Z hZ => ?_
 simp only [sxZ,z5,z6,z7,z8,j4,j5,j6,j7,j8,j9,x9,y3,y4,y5,y6,reduceCtorEq,↓reduceIte]
 subst hZ
 simp only [sxZ,z5,z6,z7,z8,j4,j5,j6,j7,j8,j9,x9,y3,y4,y5,y6,reduceCtorEq,↓reduceIte]
 subst hY
 refine zaa fun Y hY => ?_
 refine zaa fun Z hZ => ?_
 simp only [sxZ,z5,z6,z7,z8,j4,j5,j6,j7,j8,j9,x9,y3,y4,y5,y6,reduceCtorEq,↓reduceIte]
 subst hZ
 rw [zaN]
 refine zaK (fun n o tm => ∃ i:Nat,i ≤ l.length ∧ n=l.length - i ∧ o=[] ∧ tm.length=26 ∧ tm[0]? = some (.row l.length (zaT l)) ∧ tm[1]? = some (.row l.length (zaT l)) ∧ tm[12]? = some (.i .i64 (l.length:Int)) ∧ tm[13]? = some (.i .i64 (i:Int))) l.length ⟨0,Nat.zero_le _,rfl,rfl,rfl,rfl,rfl,rfl,rfl⟩ ?_
 rintro n _ tm ⟨i,hi,rfl,rfl,hlen,t0,t1,t12,t13⟩
 refine zaa fun Z hZ => ?_
 by_cases hlt:(i:Int) < (l.length:Int)
 ·have hi':i < l.length:=by omega
  have kv:=zkh hi'
  generalize l[i]=y at kv
  simp only [sxZ,z5,z6,z7,z8,j4,j5,j6,j7,j8,j9,x9,y3,y4,y5,y6,reduceCtorEq,↓reduceIte,List.getElem?_set,hlen,t0,t1,t12,t13,hlt]
  subst hZ
  refine zaa fun Z hZ => ?_
  simp only [sxZ,z5,z6,z7,z8,j4,j5,j6,j7,j8,j9,x9,y3,y4,y5,y6,reduceCtorEq,↓reduceIte,List.getElem?_set,hlen]
  subst hZ
  refine zaa fun W hW => ?_
  rw [zaN]
  refine zaa fun Z hZ => ?_
  simp only [sxZ,z5,z6,z7,z8,j4,j5,j6,j7,j8,j9,x9,y3,y4,y5,y6,reduceCtorEq,↓reduceIte,List.getElem?_set,hlen,t13]
  subst hZ
  simp only [sxZ,z5,z6,z7,z8,j4,j5,j6,j7,j8,j9,x9,y3,y4,y5,y6,reduceCtorEq,↓reduceIte,List.getElem?_set,hlen,t0,t1,kv]
  (and_intros <;> try omega)
  subst hW
  simp only [sxZ,z5,z6,z7,z8,j4,j5,j6,j7,j8,j9,x9,y3,y4,y5,y6,reduceCtorEq,↓reduceIte,List.getElem?_set,hlen,t0,t1,t12,t13]
  exact ⟨by omega,l.length - (i + 1),by omega,i + 1,by omega,rfl,rfl⟩
 simp only [sxZ,z5,z6,z7,z8,j4,j5,j6,j7,j8,j9,x9,y3,y4,y5,y6,reduceCtorEq,↓reduceIte,List.getElem?_set,hlen,t0,t1,t12,t13,hlt]
 subst hZ
 subst hY
 simp only [sxZ,z5,z6,z7,z8,j4,j5,j6,j7,j8,j9,x9,y3,y4,y5,y6,reduceCtorEq,↓reduceIte,List.getElem?_set,hlen]
 exact hk
theorem ziZ (x:LkP) (h1:x.tit.length ≤ 1099511627780) (h2:x.pro.length ≤ 1099511627780) (hk:K objs (.b true)):zag Try.prog 20 [.agg (lkc x),.agg (lkc x)] objs K:=by
 refine za8 is_ref16_SameLink (by unfold lkc; simp only [zaq,AV.plain,zbz,Bool.and_self]) fun C _ => ?_
 rw [c_ref16_SameLink]
 unfold lkc
 refine zaa fun Y hY => ?_
 simp only [sxZ,z5,z6,z7,z8,j4,j5,j6,j7,j8,j9,x9,y3,y4,y5,y6,reduceCtorEq,↓reduceIte]
 subst hY
 simp only [sxZ,z5,z6,z7,z8,j4,j5,j6,j7,j8,j9,x9,y3,y4,y5,y6,reduceCtorEq,↓reduceIte]
 refine zai (zcV x.tit h1 ?_)
 simp only [sxZ,z5,z6,z7,z8,j4,j5,j6,j7,j8,j9,x9,y3,y4,y5,y6,reduceCtorEq,↓reduceIte]
 refine zai (zcV x.pro h2 ?_)
 simp only [sxZ,z5,z6,z7,z8,j4,j5,j6,j7,j8,j9,x9,y3,y4,y5,y6,reduceCtorEq,↓reduceIte]
 exact hk
theorem same16_k (subj:List UInt8) (al:List (List UInt8)) (pr:List PrP) (lk:List LkP) (h1:al.length ≤ 1099511627780) (h2:pr.length ≤ 1099511627780) (h3:lk.length ≤ 1099511627780) (h4:∀ x ∈ lk,x.tit.length ≤ 1099511627780 ∧ x.pro.length ≤ 1099511627780) (hk:K objs (.b true)):zag Try.prog 13 [zd3 subj al pr lk,zd3 subj al pr lk] objs K:=by
 have hlen6:=zcK lk
 refine za8 is_ref16_Same (by unfold zd3; simp only [zaq,AV.plain,zbt,zbz,zez,Bool.and_self]) fun C _ => ?_
 rw [c_ref16_Same]
 unfold zd3
 refine zaa fun Y hY => ?_
 simp only [sxZ,z5,z6,z7,z8,j4,j5,j6,j7,j8,j9,x9,y3,y4,y5,y6,reduceCtorEq,↓reduceIte]
 subst hY
 refine zaa fun Y hY => ?_
 refine zaa fun Z hZ => ?_
 simp only [sxZ,z5,z6,z7,z8,j4,j5,j6,j7,j8,j9,x9,y3,y4,y5,y6,reduceCtorEq,↓reduceIte]
 refine zai (zcV pr h2 ?_)
 simp only [sxZ,z5,z6,z7,z8,j4,j5,j6,j7,j8,j9,x9,y3,y4,y5,y6,reduceCtorEq,↓reduceIte]
 subst hZ
 simp only [sxZ,z5,z6,z7,z8,j4,j5,j6,j7,j8,j9,x9,y3,y4,y5,y6,reduceCtorEq,↓reduceIte]
 subst hY
 refine zaa fun Y hY => ?_
 refine zaa fun Z hZ => ?_
 simp only [sxZ,z5,z6,z7,z8,j4,j5,j6,j7,j8,j9,x9,y3,y4,y5,y6,reduceCtorEq,↓reduceIte]
 subst hZ
 rw [zaN]
 refine zaK (fun n o tm => ∃ i:Nat,i ≤ al.length ∧ n=al.length - i ∧ o[0]? = some (.box 34 [.s subj,.row al.length (al.map .s),.row pr.length (zaT pr),.row lk.length (zbT lk)]) ∧ o[1]? = some (.box 34 [.s subj,.row al.length (al.map .s),.row pr.length (zaT pr),.row lk.length (zbT lk)]) ∧ tm.length=75 ∧ tm[2]? = some (.p 0 0) ∧ tm[3]? = some (.p 1 0) ∧ tm[40]? = some (.i .i64 (al.length:Int)) ∧ tm[41]? = some (.i .i64 (i:Int))) al.length ⟨0,Nat.zero_le _,rfl,rfl,rfl,rfl,rfl,rfl,rfl,rfl⟩ ?_
 rintro n o tm ⟨i,hi,rfl,e0,e1,hlen,t2,t3,t40,t41⟩
 refine zaa fun Z hZ => ?_
 by_cases hlt:(i:Int) < (al.length:Int)
 ·have hi':i < al.length:=by omega
  have kv:(al.map AV.s)[i * 1]? = some (.s al[i]):=by rw [Nat.mul_one,List.getElem?_map,List.getElem?_eq_getElem hi']; rfl
  generalize al[i]=y at kv
  simp only [sxZ,z5,z6,z7,z8,j4,j5,j6,j7,j8,j9,x9,y3,y4,y5,y6,reduceCtorEq,↓reduceIte,List.getElem?_set,hlen,t40,t41,hlt]
  subst hZ
  refine zaa fun Z hZ => ?_
  simp only [sxZ,z5,z6,z7,z8,j4,j5,j6,j7,j8,j9,x9,y3,y4,y5,y6,reduceCtorEq,↓reduceIte,List.getElem?_set,hlen]
  subst hZ
  refine zaa fun W hW => ?_
  rw [zaN]
  refine zaa fun Z hZ => ?_
  simp only [sxZ,z5,z6,z7,z8,j4,j5,j6,j7,j8,j9,x9,y3,y4,y5,y6,reduceCtorEq,↓reduceIte,List.getElem?_set,hlen,t41]
  subst hZ
  simp only [sxZ,z5,z6,z7,z8,j4,j5,j6,j7,j8,j9,x9,y3,y4,y5,y6,reduceCtorEq,↓reduceIte,List.getElem?_set,hlen,t2,t3,e0,e1,kv,List.length_map]
  (and_intros <;> try omega)
  subst hW
  simp only [sxZ,z5,z6,z7,z8,j4,j5,j6,j7,j8,j9,x9,y3,y4,y5,y6,reduceCtorEq,↓reduceIte,List.getElem?_set,hlen,t2,t3,t40,t41]
  exact ⟨by omega,al.length - (i + 1),by omega,i + 1,by omega,rfl,e0,e1,rfl⟩
 simp only [sxZ,z5,z6,z7,z8,j4,j5,j6,j7,j8,j9,x9,y3,y4,y5,y6,reduceCtorEq,↓reduceIte,List.getElem?_set,hlen,t40,t41,hlt]
 subst hZ
 simp only [sxZ,z5,z6,z7,z8,j4,j5,j6,j7,j8,j9,x9,y3,y4,y5,y6,reduceCtorEq,↓reduceIte,List.getElem?_set,hlen]
 subst hY
 refine zaa fun Y hY => ?_
 refine zaa fun Z hZ => ?_
 simp only [sxZ,z5,z6,z7,z8,j4,j5,j6,j7,j8,j9,x9,y3,y4,y5,y6,reduceCtorEq,↓reduceIte,List.getElem?_set,hlen,t2,e0]
 subst hZ
 rw [zaN]
 refine zaK (fun n o tm => ∃ i:Nat,i ≤ lk.length ∧ n=lk.length - i ∧ o[0]? = some (.box 34 [.s subj,.row al.length (al.map .s),.row pr.length (zaT pr),.row lk.length (zbT lk)]) ∧ o[1]? = some (.box 34 [.s subj,.row al.length (al.map .s),.row pr.length (zaT pr),.row lk.length (zbT lk)]) ∧ tm.length=75 ∧ tm[2]? = some (.p 0 0) ∧ tm[3]? = some (.p 1 0) ∧ tm[58]? = some (.i .i64 (lk.length:Int)) ∧ tm[59]? = some (.i .i64 (i:Int))) lk.length ⟨0,Nat.zero_le _,rfl,e0,e1,?_⟩ ?_
 ·simp only [sxZ,z5,z6,z7,z8,j4,j5,j6,j7,j8,j9,x9,y3,y4,y5,y6,reduceCtorEq,↓reduceIte,List.length_set,List.getElem?_set,hlen,t2,t3,Int.cast_ofNat_Int,and_self]
 clear hlen t2 t3 t40 t41 e0 e1 hlt hi
 rintro n o tm ⟨i,hi,rfl,e0,e1,hlen,t2,t3,t58,t59⟩
 refine zaa fun Z hZ => ?_
 by_cases hlt:(i:Int) < (lk.length:Int)
 ·have hi':i < lk.length:=by omega
  have kv:=lk_at hi'
  have hm:=h4 lk[i] (List.getElem_mem hi')
  generalize lk[i]=y at kv hm
  simp only [sxZ,z5,z6,z7,z8,j4,j5,j6,j7,j8,j9,x9,y3,y4,y5,y6,reduceCtorEq,↓reduceIte,List.getElem?_set,hlen,t58,t59,hlt]
  subst hZ
  refine zaa fun Z hZ => ?_
  simp only [sxZ,z5,z6,z7,z8,j4,j5,j6,j7,j8,j9,x9,y3,y4,y5,y6,reduceCtorEq,↓reduceIte,List.getElem?_set,hlen]
  subst hZ
  refine zaa fun W hW => ?_
  rw [zaN]
  refine zaa fun Z hZ => ?_
  simp only [sxZ,z5,z6,z7,z8,j4,j5,j6,j7,j8,j9,x9,y3,y4,y5,y6,reduceCtorEq,↓reduceIte,List.getElem?_set,hlen,t59]
  subst hZ
  refine zaa fun Z hZ => ?_
  simp only [sxZ,z5,z6,z7,z8,j4,j5,j6,j7,j8,j9,x9,y3,y4,y5,y6,reduceCtorEq,↓reduceIte,List.getElem?_set,hlen,t2,t3,e0,e1,kv]
  (and_intros <;> try omega)
  refine zgn (ziZ y hm.1 hm.2 ⟨rfl,rfl⟩) ?_
  simp only [sxZ,z5,z6,z7,z8,j4,j5,j6,j7,j8,j9,x9,y3,y4,y5,y6,reduceCtorEq,↓reduceIte,List.getElem?_set,hlen]
  subst hZ
  simp only [sxZ,z5,z6,z7,z8,j4,j5,j6,j7,j8,j9,x9,y3,y4,y5,y6,reduceCtorEq,↓reduceIte,List.getElem?_set,hlen]
  subst hW
  simp only [sxZ,z5,z6,z7,z8,j4,j5,j6,j7,j8,j9,x9,y3,y4,y5,y6,reduceCtorEq,↓reduceIte,List.getElem?_set,hlen,t2,t3,t58,t59]
  exact ⟨by omega,lk.length - (i + 1),by omega,i + 1,by omega,rfl,e0,e1,rfl⟩
 simp only [sxZ,z5,z6,z7,z8,j4,j5,j6,j7,j8,j9,x9,y3,y4,y5,y6,reduceCtorEq,↓reduceIte,List.getElem?_set,hlen,t58,t59,hlt]
 subst hZ
 subst hY
 simp only [sxZ,z5,z6,z7,z8,j4,j5,j6,j7,j8,j9,x9,y3,y4,y5,y6,reduceCtorEq,↓reduceIte,List.getElem?_set,hlen]
 exact hk
end
end
section
attribute [local irreducible] run
def enP (p:PrP):JV:=if p.nul=true then .mk 1 [] [] [] else jtx p.val
def zcM (l:List PrP):JV:=job (l.map (·.name)) (l.map enP)
section
variable [Tabs Try.prog] {objs:List OB} {K:List OB → AV → Prop}
theorem zjj {f:FuncId} {p:AV} {key:List UInt8} (h:zag Try.prog f [p,.s key,.agg (zaj (.mk 1 [] [] []))] objs K):zag Try.prog f [p,.s key,.agg [.i .i64 1,.s [],.nil,.nil]] objs K:=by
 intro C _ G I w hin hm ys hd
 refine h C G I w hin hm ys ?_
 rw [zah] at hd ⊢
 obtain ⟨y0,l0,rfl,q0,hd⟩:=hd
 refine ⟨y0,l0,rfl,q0,?_⟩
 rw [zah] at hd ⊢
 obtain ⟨y1,l1,rfl,q1,hd⟩:=hd
 refine ⟨y1,l1,rfl,q1,?_⟩
 rw [zah] at hd ⊢
 obtain ⟨y2,l2,rfl,q2,hd⟩:=hd
 exact ⟨y2,l2,rfl,zl1 q2,hd⟩
theorem zdK (l:List PrP) (hl:l.length ≤ 1000000) (hk:K objs (.agg (zaj (zcM l)))):zag Try.prog 41 [.row l.length (zaT l)] objs K:=by
 have hl3:=zcG l
 refine za8 is_jrd_encodeProperties (by simp only [zaq,AV.plain,zbz,Bool.and_self]) fun C _ => ?_
 rw [c_jrd_encodeProperties]
 refine zaa fun Z hZ => ?_
 simp only [sxZ,z5,z6,z7,z8,j4,j5,j6,j7,j8,j9,x9,y3,y4,y5,y6,reduceCtorEq,↓reduceIte]
 subst hZ
 refine zaa fun Z hZ => ?_
 simp only [sxZ,z5,z6,z7,z8,j4,j5,j6,j7,j8,j9,x9,y3,y4,y5,y6,reduceCtorEq,↓reduceIte]
 subst hZ
 refine zaa fun Z hZ => ?_
 refine zaa fun W hW => ?_
 simp only [sxZ,z5,z6,z7,z8,j4,j5,j6,j7,j8,j9,x9,y3,y4,y5,y6,reduceCtorEq,↓reduceIte]
 subst hW
 rw [zaN]
 refine zaK (fun n o tm => ∃ i:Nat,i ≤ l.length ∧ n=l.length - i ∧ o[0]? = some (.box 25 [.i .i64 0,.s [],.nil,.nil]) ∧ 2 ≤ o.length ∧ ObR 2 1 ((l.take i).map (·.name)) ((l.take i).map enP) o ∧ tm.length=26 ∧ tm[2]? = some (.p 0 0) ∧ tm[3]? = some (.p 1 0) ∧ tm[6]? = some (.row l.length (zaT l)) ∧ tm[7]? = some (.i .i64 (l.length:Int)) ∧ tm[8]? = some (.i .i64 (i:Int))) l.length ⟨0,Nat.zero_le _,rfl,rfl,by simp,⟨.nil,.nil,rfl,.inl ⟨rfl,rfl⟩,.inl ⟨rfl,rfl⟩⟩,rfl,rfl,rfl,rfl,rfl,rfl⟩ ?_
 rintro n o tm ⟨i,hi,rfl,e0,ho2,hO,hlen,t2,t3,t6,t7,t8⟩
 refine zaa fun W hW => ?_
 by_cases hlt:(i:Int) < (l.length:Int)
 ·have hi':i < l.length:=by omega
  have kv:=zkh hi'
  have htk:(l.take (i + 1)).map (·.name)=(l.take i).map (·.name) ++ [l[i].name]:=by rw [List.take_add_one,List.getElem?_eq_getElem hi',List.map_append]; rfl
  have htv:(l.take (i + 1)).map enP=(l.take i).map enP ++ [enP l[i]]:=by rw [List.take_add_one,List.getElem?_eq_getElem hi',List.map_append]; rfl
  have hf1:((l.take i).map (·.name)).length=i:=by rw [List.length_map,List.length_take]; omega
  have hf2:((l.take i).map enP).length=i:=by rw [List.length_map,List.length_take]; omega
  generalize l[i]=y at kv htk htv
  simp only [sxZ,z5,z6,z7,z8,j4,j5,j6,j7,j8,j9,x9,y3,y4,y5,y6,reduceCtorEq,↓reduceIte,List.getElem?_set,hlen,t6,t7,t8,hlt]
  subst hW
  refine zaa fun W hW => ?_
  simp only [sxZ,z5,z6,z7,z8,j4,j5,j6,j7,j8,j9,x9,y3,y4,y5,y6,reduceCtorEq,↓reduceIte,List.getElem?_set,hlen]
  subst hW
  refine zaa fun V hV => ?_
  rw [zaN]
  refine zaa fun W hW => ?_
  simp only [sxZ,z5,z6,z7,z8,j4,j5,j6,j7,j8,j9,x9,y3,y4,y5,y6,reduceCtorEq,↓reduceIte,List.getElem?_set,hlen,t6,t8,kv]
  refine ⟨⟨by omega,by omega,by omega⟩,by omega,?_⟩
  simp only [sxZ,z5,z6,z7,z8,j4,j5,j6,j7,j8,j9,x9,y3,y4,y5,y6,reduceCtorEq,↓reduceIte,List.getElem?_set,hlen,gn1,sn1]
  subst hW
  have hO1:=hO.app (.box 83 [.s y.name,.s y.val,.b y.nul])
  have fy:(o ++ [OB.box 83 [.s y.name,.s y.val,.b y.nul]])[o.length]? = some (.box 83 [.s y.name,.s y.val,.b y.nul]):=gn1 _ _
  have f0:(o ++ [OB.box 83 [.s y.name,.s y.val,.b y.nul]])[0]? = some (.box 25 [.i .i64 0,.s [],.nil,.nil]):=by rw [List.getElem?_append_left (by omega)]; exact e0
  have hln:(o ++ [OB.box 83 [.s y.name,.s y.val,.b y.nul]]).length=o.length + 1:=by simp
  generalize o ++ [OB.box 83 [.s y.name,.s y.val,.b y.nul]]=o1 at hO1 fy f0 hln ⊢
  refine zaa fun W hW => ?_
  simp only [sxZ,z5,z6,z7,z8,j4,j5,j6,j7,j8,j9,x9,y3,y4,y5,y6,reduceCtorEq,↓reduceIte,List.getElem?_set,hlen,fy]
  subst hW
  cases c:y.nul with
  | true =>
   have he:enP y=.mk 1 [] [] []:=by unfold enP; rw [if_pos c]
   rw [c] at fy
   simp only [sxZ,z5,z6,z7,z8,j4,j5,j6,j7,j8,j9,x9,y3,y4,y5,y6,reduceCtorEq,↓reduceIte,List.getElem?_set,hlen,fy,t3]
   refine zai (zjj (zeD 2 1 _ _ y.name (.mk 1 [] [] []) hO1 (by omega) (by omega) (by omega) (by omega) fun o3 q1 q2 q3 => ?_))
   simp only [sxZ,z5,z6,z7,z8,j4,j5,j6,j7,j8,j9,x9,y3,y4,y5,y6,reduceCtorEq,↓reduceIte,List.getElem?_set,hlen]
   subst hV
   simp only [sxZ,z5,z6,z7,z8,j4,j5,j6,j7,j8,j9,x9,y3,y4,y5,y6,reduceCtorEq,↓reduceIte,List.getElem?_set,hlen,t2,t3,t6,t7,t8]
   refine ⟨by omega,l.length - (i + 1),by omega,i + 1,by omega,rfl,by rw [q3 0 (by omega) (by omega)]; exact f0,by omega,?_,rfl⟩
   rw [htk,htv,he]; exact q1
  | false =>
   have he:enP y=jtx y.val:=by unfold enP; rw [if_neg (by rw [c]; decide)]
   rw [c] at fy
   simp only [sxZ,z5,z6,z7,z8,j4,j5,j6,j7,j8,j9,x9,y3,y4,y5,y6,reduceCtorEq,↓reduceIte,List.getElem?_set,hlen,fy,t3]
   refine zgn (zcg y.val ⟨rfl,rfl⟩) ?_
   simp only [sxZ,z5,z6,z7,z8,j4,j5,j6,j7,j8,j9,x9,y3,y4,y5,y6,reduceCtorEq,↓reduceIte,List.getElem?_set,hlen,t3]
   refine zai (zeD 2 1 _ _ y.name (jtx y.val) hO1 (by omega) (by omega) (by omega) (by omega) fun o3 q1 q2 q3 => ?_)
   simp only [sxZ,z5,z6,z7,z8,j4,j5,j6,j7,j8,j9,x9,y3,y4,y5,y6,reduceCtorEq,↓reduceIte,List.getElem?_set,hlen]
   subst hV
   simp only [sxZ,z5,z6,z7,z8,j4,j5,j6,j7,j8,j9,x9,y3,y4,y5,y6,reduceCtorEq,↓reduceIte,List.getElem?_set,hlen,t2,t3,t6,t7,t8]
   refine ⟨by omega,l.length - (i + 1),by omega,i + 1,by omega,rfl,by rw [q3 0 (by omega) (by omega)]; exact f0,by omega,?_,rfl⟩
   rw [htk,htv,he]; exact q1
 have hn:i=l.length:=by omega
 rw [hn,List.take_of_length_le (Nat.le_refl _)] at hO
 simp only [sxZ,z5,z6,z7,z8,j4,j5,j6,j7,j8,j9,x9,y3,y4,y5,y6,reduceCtorEq,↓reduceIte,List.getElem?_set,hlen,t6,t7,t8,hlt]
 subst hW
 simp only [sxZ,z5,z6,z7,z8,j4,j5,j6,j7,j8,j9,x9,y3,y4,y5,y6,reduceCtorEq,↓reduceIte,List.getElem?_set,hlen]
 subst hZ
 simp only [sxZ,z5,z6,z7,z8,j4,j5,j6,j7,j8,j9,x9,y3,y4,y5,y6,reduceCtorEq,↓reduceIte,List.getElem?_set,hlen,t3]
 refine zai (zdf 2 1 _ _ hO ho2 (by omega) fun o3 q1 q2 => ?_)
 have e3:=q2 0 _ (by omega) (by omega) e0 rfl
 have hl0:=(List.getElem?_eq_some_iff.1 e3).1
 have hc:zaj (job (l.map (·.name)) (l.map enP))=[.i .i64 7,.s [],.row (l.map (·.name)).length ((l.map (·.name)).map .s),.row (l.map enP).length (zac (l.map enP))]:=by rw [zal]; rfl
 unfold zcM at hk
 rw [hc] at hk ⊢
 have hj1:=zaV (l.map enP)
 have hj2:=zbt (l.map (·.name))
 generalize zac (l.map enP)=cs at hj1 hk ⊢
 generalize (l.map (·.name)).map AV.s=ks at hj2 hk ⊢
 simp only [sxZ,z5,z6,z7,z8,j4,j5,j6,j7,j8,j9,x9,y3,y4,y5,y6,reduceCtorEq,↓reduceIte,List.getElem?_set,hlen,t2,e3,hl0,hj1,hj2]
 exact hk
end
end
section
attribute [local irreducible] run
theorem zcl (ks:List (List UInt8)) (key:List UInt8) (v:JV):(zcp ks key v).length ≤ ks.length + 1:=by
 unfold zcp; split <;> simp
theorem zcm (its:List JV) (v:JV):(zcC its v).length ≤ its.length + 1:=by
 unfold zcC; split <;> simp
def lkK (x:LkP):List (List UInt8):=zcp (zcp (zcp (zcp (zcp [zgG] zc6 (jtx x.typ)) zcY (jtx x.href)) zdY (jtx x.tmp)) zdq (zcM x.tit)) zbP (zcM x.pro)
def lkI (x:LkP):List JV:=zcC (zcC (zcC (zcC (zcC [jtx x.rel] (jtx x.typ)) (jtx x.href)) (jtx x.tmp)) (zcM x.tit)) (zcM x.pro)
def zbx (x:LkP):JV:=job (lkK x) (lkI x)
section
variable [Tabs Try.prog] {objs:List OB} {K:List OB → AV → Prop}
theorem zlE (x:LkP) (h1:x.tit.length ≤ 1000000) (h2:x.pro.length ≤ 1000000) (hk:K objs (.agg (zaj (zbx x)))):zag Try.prog 42 [.agg (lkc x)] objs K:=by
 refine za8 is_jrd_encodeLink (by unfold lkc; simp only [zaq,AV.plain,zbz,Bool.and_self]) fun C _ => ?_
 rw [c_jrd_encodeLink]
 unfold lkc
 refine zaa fun Z hZ => ?_
 simp only [sxZ,z5,z6,z7,z8,j4,j5,j6,j7,j8,j9,x9,y3,y4,y5,y6,reduceCtorEq,↓reduceIte]
 subst hZ
 refine zaa fun Z hZ => ?_
 simp only [sxZ,z5,z6,z7,z8,j4,j5,j6,j7,j8,j9,x9,y3,y4,y5,y6,reduceCtorEq,↓reduceIte]
 have hO:ObR 3 2 [] [] [OB.box 45 [.s x.rel,.s x.typ,.s x.href,.s x.tmp,.row x.tit.length (zaT x.tit),.row x.pro.length (zaT x.pro)],.box 25 [.i .i64 0,.s [],.nil,.nil],.box 85 [.nil,.nil]]:=⟨.nil,.nil,rfl,.inl ⟨rfl,rfl⟩,.inl ⟨rfl,rfl⟩⟩
 have e0:[OB.box 45 [.s x.rel,.s x.typ,.s x.href,.s x.tmp,.row x.tit.length (zaT x.tit),.row x.pro.length (zaT x.pro)],.box 25 [.i .i64 0,.s [],.nil,.nil],.box 85 [.nil,.nil]][0]? = some (OB.box 45 [.s x.rel,.s x.typ,.s x.href,.s x.tmp,.row x.tit.length (zaT x.tit),.row x.pro.length (zaT x.pro)]):=rfl
 have e1:[OB.box 45 [.s x.rel,.s x.typ,.s x.href,.s x.tmp,.row x.tit.length (zaT x.tit),.row x.pro.length (zaT x.pro)],.box 25 [.i .i64 0,.s [],.nil,.nil],.box 85 [.nil,.nil]][1]? = some (OB.box 25 [.i .i64 0,.s [],.nil,.nil]):=rfl
 have hl:3 ≤ [OB.box 45 [.s x.rel,.s x.typ,.s x.href,.s x.tmp,.row x.tit.length (zaT x.tit),.row x.pro.length (zaT x.pro)],.box 25 [.i .i64 0,.s [],.nil,.nil],.box 85 [.nil,.nil]].length:=by simp
 generalize [OB.box 45 [.s x.rel,.s x.typ,.s x.href,.s x.tmp,.row x.tit.length (zaT x.tit),.row x.pro.length (zaT x.pro)],.box 25 [.i .i64 0,.s [],.nil,.nil],.box 85 [.nil,.nil]]=o0 at hO e0 e1 hl ⊢
 subst hZ
 refine zaa fun Z hZ => ?_
 simp only [sxZ,z5,z6,z7,z8,j4,j5,j6,j7,j8,j9,x9,y3,y4,y5,y6,reduceCtorEq,↓reduceIte,e0]
 refine zai (zcg x.rel ?_)
 simp only [sxZ,z5,z6,z7,z8,j4,j5,j6,j7,j8,j9,x9,y3,y4,y5,y6,reduceCtorEq,↓reduceIte]
 refine zai (zeD 3 2 _ _ zgG (jtx x.rel) hO hl (by omega) (by simp) (by simp) fun o1 O1 l1 q1 => ?_)
 rw [List.nil_append,List.nil_append] at O1
 have f0:=(q1 0 (by omega) (by omega)).trans e0
 have f1:=(q1 1 (by omega) (by omega)).trans e1
 simp only [sxZ,z5,z6,z7,z8,j4,j5,j6,j7,j8,j9,x9,y3,y4,y5,y6,reduceCtorEq,↓reduceIte]
 subst hZ
 refine zaa fun Z hZ => ?_
 clear hO e0 e1 q1
 simp only [sxZ,z5,z6,z7,z8,j4,j5,j6,j7,j8,j9,x9,y3,y4,y5,y6,reduceCtorEq,↓reduceIte,f0]
 refine zai (zcg x.typ ?_)
 simp only [sxZ,z5,z6,z7,z8,j4,j5,j6,j7,j8,j9,x9,y3,y4,y5,y6,reduceCtorEq,↓reduceIte]
 refine zai (zbu 3 2 _ _ zc6 (jtx x.typ) O1 (by omega) (by omega) (by simp) (by simp) fun o2 O2 l2 q2 => ?_)
 have b2:=zcl [zgG] zc6 (jtx x.typ)
 have d2:=zcm [jtx x.rel] (jtx x.typ)
 have f0:=(q2 0 (by omega) (by omega)).trans f0
 have f1:=(q2 1 (by omega) (by omega)).trans f1
 simp only [sxZ,z5,z6,z7,z8,j4,j5,j6,j7,j8,j9,x9,y3,y4,y5,y6,reduceCtorEq,↓reduceIte]
 subst hZ
 refine zaa fun Z hZ => ?_
 clear O1 q2
 simp only [sxZ,z5,z6,z7,z8,j4,j5,j6,j7,j8,j9,x9,y3,y4,y5,y6,reduceCtorEq,↓reduceIte,f0]
 refine zai (zcg x.href ?_)
 simp only [sxZ,z5,z6,z7,z8,j4,j5,j6,j7,j8,j9,x9,y3,y4,y5,y6,reduceCtorEq,↓reduceIte]
 simp only [List.length_cons,List.length_nil] at b2 d2
 refine zai (zbu 3 2 _ _ zcY (jtx x.href) O2 (by omega) (by omega) (by omega) (by omega) fun o3 O3 l3 q3 => ?_)
 have b3:=zcl (zcp [zgG] zc6 (jtx x.typ)) zcY (jtx x.href)
 have d3:=zcm (zcC [jtx x.rel] (jtx x.typ)) (jtx x.href)
 have f0:=(q3 0 (by omega) (by omega)).trans f0
 have f1:=(q3 1 (by omega) (by omega)).trans f1
 simp only [sxZ,z5,z6,z7,z8,j4,j5,j6,j7,j8,j9,x9,y3,y4,y5,y6,reduceCtorEq,↓reduceIte]
 subst hZ
 refine zaa fun Z hZ => ?_
 clear O2 q3
 simp only [sxZ,z5,z6,z7,z8,j4,j5,j6,j7,j8,j9,x9,y3,y4,y5,y6,reduceCtorEq,↓reduceIte,f0]
 refine zai (zcg x.tmp ?_)
 simp only [sxZ,z5,z6,z7,z8,j4,j5,j6,j7,j8,j9,x9,y3,y4,y5,y6,reduceCtorEq,↓reduceIte]
 refine zai (zbu 3 2 _ _ zdY (jtx x.tmp) O3 (by omega) (by omega) (by omega) (by omega) fun o4 O4 l4 q4 => ?_)
 have b4:=zcl (zcp (zcp [zgG] zc6 (jtx x.typ)) zcY (jtx x.href)) zdY (jtx x.tmp)
 have d4:=zcm (zcC (zcC [jtx x.rel] (jtx x.typ)) (jtx x.href)) (jtx x.tmp)
 have f0:=(q4 0 (by omega) (by omega)).trans f0
 have f1:=(q4 1 (by omega) (by omega)).trans f1
 simp only [sxZ,z5,z6,z7,z8,j4,j5,j6,j7,j8,j9,x9,y3,y4,y5,y6,reduceCtorEq,↓reduceIte]
 subst hZ
 refine zaa fun Z hZ => ?_
 clear O3 q4
 simp only [sxZ,z5,z6,z7,z8,j4,j5,j6,j7,j8,j9,x9,y3,y4,y5,y6,reduceCtorEq,↓reduceIte,f0]
 refine zai (zdK x.tit h1 ?_)
 simp only [sxZ,z5,z6,z7,z8,j4,j5,j6,j7,j8,j9,x9,y3,y4,y5,y6,reduceCtorEq,↓reduceIte]
 refine zai (zbu 3 2 _ _ zdq (zcM x.tit) O4 (by omega) (by omega) (by omega) (by omega) fun o5 O5 l5 q5 => ?_)
 have b5:=zcl (zcp (zcp (zcp [zgG] zc6 (jtx x.typ)) zcY (jtx x.href)) zdY (jtx x.tmp)) zdq (zcM x.tit)
 have d5:=zcm (zcC (zcC (zcC [jtx x.rel] (jtx x.typ)) (jtx x.href)) (jtx x.tmp)) (zcM x.tit)
 have f0:=(q5 0 (by omega) (by omega)).trans f0
 have f1:=(q5 1 (by omega) (by omega)).trans f1
 simp only [sxZ,z5,z6,z7,z8,j4,j5,j6,j7,j8,j9,x9,y3,y4,y5,y6,reduceCtorEq,↓reduceIte]
 subst hZ
 refine zaa fun Z hZ => ?_
 clear O4 q5
 simp only [sxZ,z5,z6,z7,z8,j4,j5,j6,j7,j8,j9,x9,y3,y4,y5,y6,reduceCtorEq,↓reduceIte,f0]
 refine zai (zdK x.pro h2 ?_)
 simp only [sxZ,z5,z6,z7,z8,j4,j5,j6,j7,j8,j9,x9,y3,y4,y5,y6,reduceCtorEq,↓reduceIte]
 refine zai (zbu 3 2 _ _ zbP (zcM x.pro) O5 (by omega) (by omega) (by omega) (by omega) fun o6 O6 l6 q6 => ?_)
 have f0:=(q6 0 (by omega) (by omega)).trans f0
 have f1:=(q6 1 (by omega) (by omega)).trans f1
 simp only [sxZ,z5,z6,z7,z8,j4,j5,j6,j7,j8,j9,x9,y3,y4,y5,y6,reduceCtorEq,↓reduceIte]
 subst hZ
 clear O5 q6
 simp only [sxZ,z5,z6,z7,z8,j4,j5,j6,j7,j8,j9,x9,y3,y4,y5,y6,reduceCtorEq,↓reduceIte]
 refine zai (zdf 3 2 _ _ O6 (by omega) (by omega) fun o7 l7 q7 => ?_)
 have e3:=q7 1 _ (by omega) (by omega) f1 rfl
 have hl0:=(List.getElem?_eq_some_iff.1 e3).1
 have hk':K objs (.agg (zaj (job (lkK x) (lkI x)))):=hk
 have hc:zaj (job (lkK x) (lkI x))=[.i .i64 7,.s [],.row (lkK x).length ((lkK x).map .s),.row (lkI x).length (zac (lkI x))]:=by rw [zal]; rfl
 have ej:job (zcp (zcp (zcp (zcp (zcp [zgG] zc6 (jtx x.typ)) zcY (jtx x.href)) zdY (jtx x.tmp)) zdq (zcM x.tit)) zbP (zcM x.pro)) (zcC (zcC (zcC (zcC (zcC [jtx x.rel] (jtx x.typ)) (jtx x.href)) (jtx x.tmp)) (zcM x.tit)) (zcM x.pro))=job (lkK x) (lkI x):=rfl
 rw [ej]
 rw [hc] at hk' ⊢
 have hj1:=zaV (lkI x)
 have hj2:=zbt (lkK x)
 generalize zac (lkI x)=cs at hj1 hk' ⊢
 generalize (lkK x).map AV.s=ks at hj2 hk' ⊢
 have s1:∀ X,(o7.set 1 X)[1]? = some X:=fun X => List.getElem?_set_self hl0
 simp only [sxZ,z5,z6,z7,z8,j4,j5,j6,j7,j8,j9,x9,y3,y4,y5,y6,reduceCtorEq,↓reduceIte,e3,s1,hj1,hj2]
 exact hk'
end
end
section
attribute [local irreducible] run
theorem ObR.pub {m b:Nat} {ks:List (List UInt8)} {its:List JV} {oS o:List OB} (h:ObR m b ks its oS) (hfr:∀ i,i < oS.length → o[i]? = oS[i]?) (r g n:Nat) (xs:List AV) (hr:oS.length ≤ r):ObR m b ks its (zdB o r g n xs):=by
 obtain ⟨X,Y,h1,h2,h3⟩:=h
 have hb:=(List.getElem?_eq_some_iff.1 h1).1
 have eX:za7 r g n xs X=X:=by
  rcases h2 with ⟨_,rfl⟩ | ⟨r1,g1,rfl,_,hr1⟩
  ·rfl
  ·have:=(List.getElem?_eq_some_iff.1 hr1).1
   simp only [za7]; rw [if_neg (by omega)]
 have eY:za7 r g n xs Y=Y:=by
  rcases h3 with ⟨_,rfl⟩ | ⟨r1,g1,rfl,_,hr1⟩
  ·rfl
  ·have:=(List.getElem?_eq_some_iff.1 hr1).1
   simp only [za7]; rw [if_neg (by omega)]
 refine ⟨X,Y,?_,?_,?_⟩
 ·unfold zdB
  rw [List.getElem?_set_ne (by omega),List.getElem?_map,hfr b hb,h1]
  simp only [Option.map_some,zgO,List.map_cons,List.map_nil,eX,eY]
 ·rcases h2 with h | ⟨r1,g1,e,h0,hr1⟩
  ·exact .inl h
  ·have:=(List.getElem?_eq_some_iff.1 hr1).1
   exact .inr ⟨r1,g1,e,h0,zew (by rw [hfr r1 this]; exact hr1) (by omega)⟩
 ·rcases h3 with h | ⟨r1,g1,e,h0,hr1⟩
  ·exact .inl h
  ·have:=(List.getElem?_eq_some_iff.1 hr1).1
   exact .inr ⟨r1,g1,e,h0,zew (by rw [hfr r1 this]; exact hr1) (by omega)⟩
theorem ObR.tr {m b:Nat} {ks:List (List UInt8)} {its:List JV} {oS o:List OB} (h:ObR m b ks its oS) (hfr:∀ i,i < oS.length → o[i]? = oS[i]?):ObR m b ks its o:=by
 obtain ⟨X,Y,h1,h2,h3⟩:=h
 refine ⟨X,Y,by rw [hfr b (List.getElem?_eq_some_iff.1 h1).1]; exact h1,?_,?_⟩
 ·rcases h2 with h | ⟨r1,g1,e,h0,hr1⟩
  ·exact .inl h
  ·exact .inr ⟨r1,g1,e,h0,by rw [hfr r1 (List.getElem?_eq_some_iff.1 hr1).1]; exact hr1⟩
 ·rcases h3 with h | ⟨r1,g1,e,h0,hr1⟩
  ·exact .inl h
  ·exact .inr ⟨r1,g1,e,h0,by rw [hfr r1 (List.getElem?_eq_some_iff.1 hr1).1]; exact hr1⟩
def jeK (subj:List UInt8) (al:List (List UInt8)) (pr:List PrP):List (List UInt8):=zcp (zcp (zcp [] zc8 (jtx subj)) zd4 (jar (al.map jtx))) zbP (zcM pr)
def jeI (subj:List UInt8) (al:List (List UInt8)) (pr:List PrP):List JV:=zcC (zcC (zcC [] (jtx subj)) (jar (al.map jtx))) (zcM pr)
def enJ (subj:List UInt8) (al:List (List UInt8)) (pr:List PrP) (lk:List LkP):JV:=job (zcp (jeK subj al pr) zcu (jar (lk.map zbx))) (zcC (jeI subj al pr) (jar (lk.map zbx)))
section
variable [Tabs Try.prog] {objs:List OB} {K:List OB → AV → Prop}
theorem zll (subj:List UInt8) (al:List (List UInt8)) (pr:List PrP) (lk:List LkP) (h1:al.length ≤ 1000000) (h2:pr.length ≤ 1000000) (h3:lk.length ≤ 1000000) (h4:∀ x ∈ lk,x.tit.length ≤ 1000000 ∧ x.pro.length ≤ 1000000) (hk:K objs (.agg (zaj (enJ subj al pr lk)))):zag Try.prog 18 [zd3 subj al pr lk] objs K:=by
 have hl6:=zcK lk
 refine za8 is_jrd_Encode (by unfold zd3; simp only [zaq,AV.plain,zbt,zbz,zez,Bool.and_self]) fun C _ => ?_
 rw [c_jrd_Encode]
 unfold zd3
 refine zaa fun Z hZ => ?_
 simp only [sxZ,z5,z6,z7,z8,j4,j5,j6,j7,j8,j9,x9,y3,y4,y5,y6,reduceCtorEq,↓reduceIte]
 subst hZ
 refine zaa fun Z hZ => ?_
 simp only [sxZ,z5,z6,z7,z8,j4,j5,j6,j7,j8,j9,x9,y3,y4,y5,y6,reduceCtorEq,↓reduceIte]
 have hO:ObR 3 2 [] [] [OB.box 34 [.s subj,.row al.length (al.map .s),.row pr.length (zaT pr),.row lk.length (zbT lk)],.box 25 [.i .i64 0,.s [],.nil,.nil],.box 85 [.nil,.nil]]:=⟨.nil,.nil,rfl,.inl ⟨rfl,rfl⟩,.inl ⟨rfl,rfl⟩⟩
 have e0:[OB.box 34 [.s subj,.row al.length (al.map .s),.row pr.length (zaT pr),.row lk.length (zbT lk)],.box 25 [.i .i64 0,.s [],.nil,.nil],.box 85 [.nil,.nil]][0]? = some (OB.box 34 [.s subj,.row al.length (al.map .s),.row pr.length (zaT pr),.row lk.length (zbT lk)]):=rfl
 have e1:[OB.box 34 [.s subj,.row al.length (al.map .s),.row pr.length (zaT pr),.row lk.length (zbT lk)],.box 25 [.i .i64 0,.s [],.nil,.nil],.box 85 [.nil,.nil]][1]? = some (OB.box 25 [.i .i64 0,.s [],.nil,.nil]):=rfl
 have hl:3 ≤ [OB.box 34 [.s subj,.row al.length (al.map .s),.row pr.length (zaT pr),.row lk.length (zbT lk)],.box 25 [.i .i64 0,.s [],.nil,.nil],.box 85 [.nil,.nil]].length:=by simp
 generalize [OB.box 34 [.s subj,.row al.length (al.map .s),.row pr.length (zaT pr),.row lk.length (zbT lk)],.box 25 [.i .i64 0,.s [],.nil,.nil],.box 85 [.nil,.nil]]=o0 at hO e0 e1 hl ⊢
 subst hZ
 refine zaa fun Z hZ => ?_
 simp only [sxZ,z5,z6,z7,z8,j4,j5,j6,j7,j8,j9,x9,y3,y4,y5,y6,reduceCtorEq,↓reduceIte,e0]
 refine zai (zcg subj ?_)
 simp only [sxZ,z5,z6,z7,z8,j4,j5,j6,j7,j8,j9,x9,y3,y4,y5,y6,reduceCtorEq,↓reduceIte]
 refine zai (zbu 3 2 _ _ zc8 (jtx subj) hO hl (by omega) (by simp) (by simp) fun o1 O1 l1 q1 => ?_)
 have b1:=zcl [] zc8 (jtx subj)
 have d1:=zcm [] (jtx subj)
 simp only [List.length_nil] at b1 d1
 have f0:=(q1 0 (by omega) (by omega)).trans e0
 have f1:=(q1 1 (by omega) (by omega)).trans e1
 simp only [sxZ,z5,z6,z7,z8,j4,j5,j6,j7,j8,j9,x9,y3,y4,y5,y6,reduceCtorEq,↓reduceIte]
 subst hZ
 refine zaa fun Z hZ => ?_
 clear hO e0 e1 q1
 simp only [sxZ,z5,z6,z7,z8,j4,j5,j6,j7,j8,j9,x9,y3,y4,y5,y6,reduceCtorEq,↓reduceIte,f0]
 refine zai (zlg al h1 ?_)
 simp only [sxZ,z5,z6,z7,z8,j4,j5,j6,j7,j8,j9,x9,y3,y4,y5,y6,reduceCtorEq,↓reduceIte]
 refine zai (zbu 3 2 _ _ zd4 (jar (al.map jtx)) O1 (by omega) (by omega) (by omega) (by omega) fun o2 O2 l2 q2 => ?_)
 have b2:=zcl (zcp [] zc8 (jtx subj)) zd4 (jar (al.map jtx))
 have d2:=zcm (zcC [] (jtx subj)) (jar (al.map jtx))
 have f0:=(q2 0 (by omega) (by omega)).trans f0
 have f1:=(q2 1 (by omega) (by omega)).trans f1
 simp only [sxZ,z5,z6,z7,z8,j4,j5,j6,j7,j8,j9,x9,y3,y4,y5,y6,reduceCtorEq,↓reduceIte]
 subst hZ
 refine zaa fun Z hZ => ?_
 clear O1 q2
 simp only [sxZ,z5,z6,z7,z8,j4,j5,j6,j7,j8,j9,x9,y3,y4,y5,y6,reduceCtorEq,↓reduceIte,f0]
 refine zai (zdK pr h2 ?_)
 simp only [sxZ,z5,z6,z7,z8,j4,j5,j6,j7,j8,j9,x9,y3,y4,y5,y6,reduceCtorEq,↓reduceIte]
 refine zai (zbu 3 2 _ _ zbP (zcM pr) O2 (by omega) (by omega) (by omega) (by omega) fun o3 O3 l3 q3 => ?_)
 have O3':ObR 3 2 (jeK subj al pr) (jeI subj al pr) o3:=O3
 have b3:(jeK subj al pr).length ≤ 3:=Nat.le_trans (zcl _ _ _) (by omega)
 have d3:(jeI subj al pr).length ≤ 3:=Nat.le_trans (zcm _ _) (by omega)
 have f0:=(q3 0 (by omega) (by omega)).trans f0
 have f1:=(q3 1 (by omega) (by omega)).trans f1
 simp only [sxZ,z5,z6,z7,z8,j4,j5,j6,j7,j8,j9,x9,y3,y4,y5,y6,reduceCtorEq,↓reduceIte]
 subst hZ
 refine zaa fun Z hZ => ?_
 clear O2 O3 q3 b1 b2 d1 d2
 simp only [sxZ,z5,z6,z7,z8,j4,j5,j6,j7,j8,j9,x9,y3,y4,y5,y6,reduceCtorEq,↓reduceIte]
 subst hZ
 refine zaa fun Z hZ => ?_
 refine zaa fun W hW => ?_
 simp only [sxZ,z5,z6,z7,z8,j4,j5,j6,j7,j8,j9,x9,y3,y4,y5,y6,reduceCtorEq,↓reduceIte,f0]
 subst hW
 rw [zaN]
 refine zaK (fun n o tm => ∃ i:Nat,i ≤ lk.length ∧ n=lk.length - i ∧ (∀ j,j < o3.length → o[j]? = o3[j]?) ∧ o3.length ≤ o.length ∧ RowJ o3.length ((lk.take i).map zbx) o (tm[4]?.getD .u) ∧ tm.length=36 ∧ tm[2]? = some (.p 1 0) ∧ tm[3]? = some (.p 2 0) ∧ tm[20]? = some (.row lk.length (zbT lk)) ∧ tm[21]? = some (.i .i64 (lk.length:Int)) ∧ tm[22]? = some (.i .i64 (i:Int))) lk.length ⟨0,Nat.zero_le _,rfl,fun _ _ => rfl,Nat.le_refl _,.inl ⟨rfl,rfl⟩,rfl,rfl,rfl,rfl,rfl,rfl⟩ ?_
 rintro n o tm ⟨i,hi,rfl,hfr,hlo,hA,hlen,t2,t3,t20,t21,t22⟩
 obtain ⟨a4,t4⟩:∃ a,tm[4]? = some a:=⟨_,List.getElem?_eq_getElem (by omega)⟩
 rw [t4,Option.getD_some] at hA
 refine zaa fun W hW => ?_
 by_cases hlt:(i:Int) < (lk.length:Int)
 ·have hi':i < lk.length:=by omega
  have kv:=lk_at hi'
  have hm:=h4 lk[i] (List.getElem_mem hi')
  have htk:(lk.take (i + 1)).map zbx=(lk.take i).map zbx ++ [zbx lk[i]]:=by rw [List.take_add_one,List.getElem?_eq_getElem hi',List.map_append]; rfl
  have hfl:((lk.take i).map zbx).length=i:=by rw [List.length_map,List.length_take]; omega
  generalize lk[i]=y at kv hm htk
  generalize (lk.take i).map zbx=acc at hA htk hfl
  have hl4:=zaH acc
  have elk:lkc y=[.s y.rel,.s y.typ,.s y.href,.s y.tmp,.row y.tit.length (zaT y.tit),.row y.pro.length (zaT y.pro)]:=rfl
  rw [elk] at kv
  simp only [sxZ,z5,z6,z7,z8,j4,j5,j6,j7,j8,j9,x9,y3,y4,y5,y6,reduceCtorEq,↓reduceIte,List.getElem?_set,hlen,t20,t21,t22,hlt]
  subst hW
  refine zaa fun W hW => ?_
  simp only [sxZ,z5,z6,z7,z8,j4,j5,j6,j7,j8,j9,x9,y3,y4,y5,y6,reduceCtorEq,↓reduceIte,List.getElem?_set,hlen]
  subst hW
  refine zaa fun V hV => ?_
  rw [zaN]
  refine zaa fun W hW => ?_
  simp only [sxZ,z5,z6,z7,z8,j4,j5,j6,j7,j8,j9,x9,y3,y4,y5,y6,reduceCtorEq,↓reduceIte,List.getElem?_set,hlen,t20,t22,kv]
  refine ⟨⟨by omega,by omega,by omega⟩,by omega,?_⟩
  simp only [sxZ,z5,z6,z7,z8,j4,j5,j6,j7,j8,j9,x9,y3,y4,y5,y6,reduceCtorEq,↓reduceIte,List.getElem?_set,hlen,gn1,sn1]
  subst hW
  have hA1:=hA.mono (.box 45 [.s y.rel,.s y.typ,.s y.href,.s y.tmp,.row y.tit.length (zaT y.tit),.row y.pro.length (zaT y.pro)])
  have fy:(o ++ [OB.box 45 [.s y.rel,.s y.typ,.s y.href,.s y.tmp,.row y.tit.length (zaT y.tit),.row y.pro.length (zaT y.pro)]])[o.length]? = some (.box 45 [.s y.rel,.s y.typ,.s y.href,.s y.tmp,.row y.tit.length (zaT y.tit),.row y.pro.length (zaT y.pro)]):=gn1 _ _
  have hfr1:∀ j,j < o3.length → (o ++ [OB.box 45 [.s y.rel,.s y.typ,.s y.href,.s y.tmp,.row y.tit.length (zaT y.tit),.row y.pro.length (zaT y.pro)]])[j]? = o3[j]?:=fun j hj => by rw [List.getElem?_append_left (by omega)]; exact hfr j hj
  have hln:(o ++ [OB.box 45 [.s y.rel,.s y.typ,.s y.href,.s y.tmp,.row y.tit.length (zaT y.tit),.row y.pro.length (zaT y.pro)]]).length=o.length + 1:=by simp
  generalize o ++ [OB.box 45 [.s y.rel,.s y.typ,.s y.href,.s y.tmp,.row y.tit.length (zaT y.tit),.row y.pro.length (zaT y.pro)]]=o4 at hA1 fy hfr1 hln ⊢
  simp only [sxZ,z5,z6,z7,z8,j4,j5,j6,j7,j8,j9,x9,y3,y4,y5,y6,reduceCtorEq,↓reduceIte,List.getElem?_set,hlen,t4,fy]
  rw [← elk]
  refine zai (zlE y hm.1 hm.2 ?_)
  obtain ⟨c0,c1,c2,c3,hc⟩:∃ c0 c1 c2 c3,zaj (zbx y)=[c0,c1,c2,c3]:=⟨_,_,_,_,zal _⟩
  rw [hc]
  rcases hA1 with ⟨h0,rfl⟩ | ⟨r,g,rfl,hr0,hr⟩
  ·simp only [sxZ,z5,z6,z7,z8,j4,j5,j6,j7,j8,j9,x9,y3,y4,y5,y6,reduceCtorEq,↓reduceIte,List.getElem?_set,hlen,t4]
   subst hV
   simp only [sxZ,z5,z6,z7,z8,j4,j5,j6,j7,j8,j9,x9,y3,y4,y5,y6,reduceCtorEq,↓reduceIte,List.getElem?_set,hlen,t2,t3,t20,t21,t22]
   refine ⟨by omega,lk.length - (i + 1),by omega,i + 1,by omega,rfl,fun j hj => by rw [List.getElem?_append_left (by omega)]; exact hfr1 j hj,by omega,?_,rfl⟩
   rw [htk,h0]
   exact .inr ⟨_,0,rfl,by omega,by rw [gn1,List.nil_append,zav,zan,hc]; rfl⟩
  ·have hrl:=(List.getElem?_eq_some_iff.1 hr).1
   simp only [sxZ,z5,z6,z7,z8,j4,j5,j6,j7,j8,j9,x9,y3,y4,y5,y6,reduceCtorEq,↓reduceIte,List.getElem?_set,hlen,t4,hr]
   refine ⟨⟨by omega,by omega⟩,?_⟩
   subst hV
   simp only [sxZ,z5,z6,z7,z8,j4,j5,j6,j7,j8,j9,x9,y3,y4,y5,y6,reduceCtorEq,↓reduceIte,List.getElem?_set,hlen,t2,t3,t20,t21,t22]
   refine ⟨by omega,lk.length - (i + 1),by omega,i + 1,by omega,rfl,fun j hj => ?_,by omega,?_,rfl⟩
   ·rw [if_neg (by omega)]; exact hfr1 j hj
   ·rw [htk]
    refine .inr ⟨r,g + 1,rfl,hr0,?_⟩
    rw [List.getElem?_set_self hrl,List.length_append,zbL,zav,zan,hc,List.append_nil]; rfl
 have hn:i=lk.length:=by omega
 rw [hn,List.take_of_length_le (Nat.le_refl _)] at hA
 simp only [sxZ,z5,z6,z7,z8,j4,j5,j6,j7,j8,j9,x9,y3,y4,y5,y6,reduceCtorEq,↓reduceIte,List.getElem?_set,hlen,t20,t21,t22,hlt]
 subst hW
 simp only [sxZ,z5,z6,z7,z8,j4,j5,j6,j7,j8,j9,x9,y3,y4,y5,y6,reduceCtorEq,↓reduceIte,List.getElem?_set,hlen]
 subst hZ
 have hl3o:3 ≤ o3.length:=by omega
 have e1o:o[1]? = some (.box 25 [.i .i64 0,.s [],.nil,.nil]):=(hfr 1 (by omega)).trans f1
 refine zaa fun Z hZ => ?_
 rcases hA with ⟨h0,rfl⟩ | ⟨r,g,rfl,hr0,hr⟩
 ·simp only [sxZ,z5,z6,z7,z8,j4,j5,j6,j7,j8,j9,x9,y3,y4,y5,y6,reduceCtorEq,↓reduceIte,List.getElem?_set,hlen,t4]
  refine zai (zeP ?_)
  have hA2:∀ {K:List OB → AV → Prop},K o (.agg (zaj (jar []))) → zag Try.prog 43 [.row 0 []] o K:=fun {K} h => by
   have:=zdg (objs:=o) (K:=K) [] h
   rwa [zan] at this
  refine hA2 ?_
  rw [← h0]
  have O5:=O3'.tr hfr
  have hl5:3 ≤ o.length:=by omega
  have e5:=e1o
  simp only [sxZ,z5,z6,z7,z8,j4,j5,j6,j7,j8,j9,x9,y3,y4,y5,y6,reduceCtorEq,↓reduceIte,List.getElem?_set,hlen,t3]
  refine zai (zbu 3 2 _ _ zcu (jar (lk.map zbx)) O5 hl5 (by omega) (by omega) (by omega) fun o6 O6 l6 q6 => ?_)
  have g1:=(q6 1 (by omega) (by omega)).trans e5
  simp only [sxZ,z5,z6,z7,z8,j4,j5,j6,j7,j8,j9,x9,y3,y4,y5,y6,reduceCtorEq,↓reduceIte,List.getElem?_set,hlen]
  subst hZ
  simp only [sxZ,z5,z6,z7,z8,j4,j5,j6,j7,j8,j9,x9,y3,y4,y5,y6,reduceCtorEq,↓reduceIte,List.getElem?_set,hlen,t3]
  refine zai (zdf 3 2 _ _ O6 (by omega) (by omega) fun o7 l7 q7 => ?_)
  have e7:=q7 1 _ (by omega) (by omega) g1 rfl
  have hl7:=(List.getElem?_eq_some_iff.1 e7).1
  have s1:∀ X,(o7.set 1 X)[1]? = some X:=fun X => List.getElem?_set_self hl7
  unfold enJ at hk
  have hk':=hk
  generalize zcp (jeK subj al pr) zcu (jar (lk.map zbx))=kk at hk' ⊢
  generalize zcC (jeI subj al pr) (jar (lk.map zbx))=ii at hk' ⊢
  have hc:zaj (job kk ii)=[.i .i64 7,.s [],.row kk.length (kk.map .s),.row ii.length (zac ii)]:=by rw [zal]; rfl
  rw [hc] at hk' ⊢
  have hj1:=zaV ii
  have hj2:=zbt kk
  generalize zac ii=cs at hj1 hk' ⊢
  generalize kk.map AV.s=ks at hj2 hk' ⊢
  simp only [sxZ,z5,z6,z7,z8,j4,j5,j6,j7,j8,j9,x9,y3,y4,y5,y6,reduceCtorEq,↓reduceIte,List.getElem?_set,hlen,t2,e7,hl7,s1,hj1,hj2]
  exact hk'
 ·simp only [sxZ,z5,z6,z7,z8,j4,j5,j6,j7,j8,j9,x9,y3,y4,y5,y6,reduceCtorEq,↓reduceIte,List.getElem?_set,hlen,t4]
  refine zai (zfg (b:=r) hr ?_)
  simp only [za7,List.map_cons,List.map_nil,and_self,if_true]
  refine zdg (lk.map zbx) ?_
  have O5:=O3'.pub hfr r g (lk.map zbx).length (zac (lk.map zbx)) hr0
  have hl5:3 ≤ (zdB o r g (lk.map zbx).length (zac (lk.map zbx))).length:=by rw [zdc]; omega
  have e5:(zdB o r g (lk.map zbx).length (zac (lk.map zbx)))[1]? = some (.box 25 [.i .i64 0,.s [],.nil,.nil]):=by
   unfold zdB
   rw [List.getElem?_set_ne (by omega),List.getElem?_map,e1o]; rfl
  generalize zdB o r g (lk.map zbx).length (zac (lk.map zbx))=o5 at O5 hl5 e5 ⊢
  simp only [sxZ,z5,z6,z7,z8,j4,j5,j6,j7,j8,j9,x9,y3,y4,y5,y6,reduceCtorEq,↓reduceIte,List.getElem?_set,hlen,t3]
  refine zai (zbu 3 2 _ _ zcu (jar (lk.map zbx)) O5 hl5 (by omega) (by omega) (by omega) fun o6 O6 l6 q6 => ?_)
  have g1:=(q6 1 (by omega) (by omega)).trans e5
  simp only [sxZ,z5,z6,z7,z8,j4,j5,j6,j7,j8,j9,x9,y3,y4,y5,y6,reduceCtorEq,↓reduceIte,List.getElem?_set,hlen]
  subst hZ
  simp only [sxZ,z5,z6,z7,z8,j4,j5,j6,j7,j8,j9,x9,y3,y4,y5,y6,reduceCtorEq,↓reduceIte,List.getElem?_set,hlen,t3]
  refine zai (zdf 3 2 _ _ O6 (by omega) (by omega) fun o7 l7 q7 => ?_)
  have e7:=q7 1 _ (by omega) (by omega) g1 rfl
  have hl7:=(List.getElem?_eq_some_iff.1 e7).1
  have s1:∀ X,(o7.set 1 X)[1]? = some X:=fun X => List.getElem?_set_self hl7
  unfold enJ at hk
  have hk':=hk
  generalize zcp (jeK subj al pr) zcu (jar (lk.map zbx))=kk at hk' ⊢
  generalize zcC (jeI subj al pr) (jar (lk.map zbx))=ii at hk' ⊢
  have hc:zaj (job kk ii)=[.i .i64 7,.s [],.row kk.length (kk.map .s),.row ii.length (zac ii)]:=by rw [zal]; rfl
  rw [hc] at hk' ⊢
  have hj1:=zaV ii
  have hj2:=zbt kk
  generalize zac ii=cs at hj1 hk' ⊢
  generalize kk.map AV.s=ks at hj2 hk' ⊢
  simp only [sxZ,z5,z6,z7,z8,j4,j5,j6,j7,j8,j9,x9,y3,y4,y5,y6,reduceCtorEq,↓reduceIte,List.getElem?_set,hlen,t2,e7,hl7,s1,hj1,hj2]
  exact hk'
end
end
end Go.Proofs.Ytceenajkieomoaa
namespace Go.Proofs.Ytceenajkieomoaa
open Go.RowKit Sx
section
attribute [local irreducible] run
theorem zeF {ks:List (List UInt8)} {its:List JV} {key:List UInt8} (h:key ∉ ks):za6 (job ks its) key=(jvZ,false) :=
 getJ_no fun j hj => .inl fun e => h (List.mem_of_getElem? e)
theorem zgs {ks:List (List UInt8)} {its:List JV} {key:List UInt8} {v:JV} (hl:ks.length=its.length) (h:key ∉ ks):za6 (job (ks ++ [key]) (its ++ [v])) key=(v,true):=by
 have hi:ks.length < (its ++ [v]).length:=by simp; omega
 have h1:=zhd (v:=job (ks ++ [key]) (its ++ [v])) (key:=key) (i:=ks.length) rfl (by show (ks ++ [key])[ks.length]? = _; simp) hi (fun j hj => .inl (by
  show (ks ++ [key])[j]? ≠ _
  rw [List.getElem?_append_left hj]
  exact fun e => h (List.mem_of_getElem? e)))
 rw [h1]
 have:(its ++ [v])[ks.length]'hi=v:=by
  rw [List.getElem_append_right (by omega)]; simp [hl]
 exact Prod.ext this rfl
theorem getJ_ne {ks:List (List UInt8)} {its:List JV} {k key:List UInt8} {v:JV} (hl:ks.length=its.length) (h:k ≠ key):za6 (job (ks ++ [k]) (its ++ [v])) key=za6 (job ks its) key:=by
 by_cases hm:key ∈ ks
 ·obtain ⟨i,hi,hall⟩:∃ i:Nat,ks[i]? = some key ∧ ∀ j:Nat,j < i → ks[j]? ≠ some key:=by
   obtain ⟨i,hi,e⟩:=List.mem_iff_getElem.1 hm
   have h1:ks[i]? = some key:=by rw [List.getElem?_eq_getElem hi,e]
   have h2:=zeE h1
   exact ⟨zeQ key ks,zdH (by omega),fun j hj e2 => by have:=zeE e2; omega⟩
  have hil:=(List.getElem?_eq_some_iff.1 hi).1
  have h1:=zhd (v:=job ks its) (key:=key) (i:=i) rfl hi (by show i < its.length; omega) (fun j hj => .inl (hall j hj))
  have h2:=zhd (v:=job (ks ++ [k]) (its ++ [v])) (key:=key) (i:=i) rfl (by show (ks ++ [k])[i]? = _; rw [List.getElem?_append_left hil]; exact hi) (by show i < (its ++ [v]).length; simp; omega) (fun j hj => .inl (by
   show (ks ++ [k])[j]? ≠ _
   rw [List.getElem?_append_left (by omega)]; exact hall j hj))
  rw [h1,h2]
  exact Prod.ext (List.getElem_append_left (by omega)) rfl
 ·rw [zeF hm,zeF (by
   intro h2
   rcases List.mem_append.1 h2 with h2 | h2
   ·exact hm h2
   ·rw [List.mem_singleton] at h2; exact h h2.symm)]
theorem zc5 {ks:List (List UInt8)} {its:List JV} {key:List UInt8} {v:JV} (hl:ks.length=its.length):(zcp ks key v).length=(zcC its v).length:=by
 unfold zcp zcC; split <;> simp [hl]
theorem zbE {ks:List (List UInt8)} {its:List JV} {key:List UInt8} {v:JV} (hl:ks.length=its.length) (h:key ∉ ks):za6 (job (zcp ks key v) (zcC its v)) key=if zbn v=true then (v,true) else (jvZ,false):=by
 unfold zcp zcC
 by_cases c:zbn v=true
 ·rw [if_pos c,if_pos c,if_pos c]; exact zgs hl h
 ·rw [if_neg c,if_neg c,if_neg c]; exact zeF h
theorem zau {ks:List (List UInt8)} {its:List JV} {k key:List UInt8} {v:JV} (hl:ks.length=its.length) (h:k ≠ key):za6 (job (zcp ks k v) (zcC its v)) key=za6 (job ks its) key:=by
 unfold zcp zcC
 by_cases c:zbn v=true
 ·rw [if_pos c,if_pos c]; exact getJ_ne hl h
 ·rw [if_neg c,if_neg c]
theorem zaP {ks:List (List UInt8)} {k key:List UInt8} {v:JV} (h:key ∉ ks) (hn:k ≠ key):key ∉ zcp ks k v:=by
 unfold zcp
 split
 ·intro h2
  rcases List.mem_append.1 h2 with h2 | h2
  ·exact h h2
  ·rw [List.mem_singleton] at h2; exact hn h2.symm
 ·exact h
end
end Go.Proofs.Ytceenajkieomoaa
namespace Go.Proofs.Ytceenajkieomoaa
open Go.RowKit Sx
section
attribute [local irreducible] run
def PrOk (null:Bool) (p:PrP):Prop:=p.nul=true → null=true ∧ p.val=[]
theorem mkP_ok (null:Bool) (z:List UInt8 × JV):PrOk null (mkP null z):=by
 intro h
 unfold mkP at h ⊢
 dsimp only at h ⊢
 rw [if_pos h]
 rw [Bool.and_eq_true] at h
 exact ⟨h.1,rfl⟩
theorem zio {null:Bool} {p:PrP} (h:PrOk null p):okP null (p.name,enP p)=true ∧ mkP null (p.name,enP p)=p:=by
 obtain ⟨name,val,nul⟩:=p
 unfold PrOk at h
 unfold okP mkP enP
 cases nul with
 | true =>
  obtain ⟨h1,h2⟩:=h rfl
  dsimp only at h2 ⊢
  subst h1 h2
  rw [if_pos rfl]
  exact ⟨rfl,rfl⟩
 | false =>
  rw [if_neg Bool.false_ne_true]
  refine ⟨rfl,?_⟩
  have e:(null && decide ((jtx val).kind=1))=false:=by
   show (null && decide ((5:Int)=1))=false
   cases null <;> rfl
  dsimp only
  rw [e]; rfl
theorem zeW {α β γ:Type} (f:α → β) (g:α → γ):∀ l:List α,(l.map f).zip (l.map g)=l.map fun x => (f x,g x)
 | [] => rfl
 | a :: l => by rw [List.map_cons,List.map_cons,List.zip_cons_cons,zeW f g l]; rfl
theorem zfI {v x:JV} {name:List UInt8} {kind:Int} (h:za6 v name=(x,true)) (hk:x.kind=kind):zaQ v 0 name kind=(0,x,true):=by
 unfold zaQ
 rw [if_neg (by simp),h,if_neg (by simp [hk])]
 simp [hk]
theorem zg6 {v:JV} {name:List UInt8} {kind:Int} (h:za6 v name=(jvZ,false)):zaQ v 0 name kind=(0,jvZ,false):=by
 unfold zaQ
 rw [if_neg (by simp),h,if_neg (by simp)]
 simp
theorem prE_back {v:JV} {name:List UInt8} {null:Bool} {l:List PrP} (h:za6 v name=(zcM l,true)) (hl:l.length ≤ 64) (hp:∀ p ∈ l,PrOk null p):prE v 0 name null=(0,l):=by
 unfold prE
 rw [zfI (kind:=7) h rfl]
 have hz:(zcM l).keys.zip (zcM l).items=l.map fun p => (p.name,enP p):=zeW _ _ l
 have hk:(zcM l).keys.length=l.length:=List.length_map _
 have hi:(zcM l).items.length=l.length:=List.length_map _
 dsimp only
 rw [hz,hk,hi,if_neg (by omega),if_pos (by rw [List.all_map]; exact List.all_eq_true.2 fun p h => (zio (hp p h)).1)]
 congr 1
 rw [List.map_map]
 calc l.map _=l.map id:=List.map_congr_left fun p h => (zio (hp p h)).2
  _=l:=List.map_id l
theorem prE_no {v:JV} {name:List UInt8} {null:Bool} (h:za6 v name=(jvZ,false)):prE v 0 name null=(0,[]):=by
 unfold prE
 rw [zg6 h]
 rfl
end
end Go.Proofs.Ytceenajkieomoaa
namespace Go.Proofs.Ytceenajkieomoaa
open Go.RowKit Sx
section
attribute [local irreducible] run
theorem zcI {s:List UInt8} (hs:s.length ≤ 1048576) (ρ:Rs):(zad s ρ).1.2.1.length ≤ 1048576:=by
 unfold zad
 split
 ·exact Nat.zero_le _
 split
 ·exact Nat.zero_le _
 ·rename_i h
  have h:(za2 s ρ.pos).2.2=0:=by simpa using h
  by_cases h0:0 ≤ ρ.pos
  ·have:=(zfH h0 h).2.1
   show (za2 s ρ.pos).1.2.1.length ≤ _
   omega
  ·exfalso
   unfold za2 at h
   rw [if_pos (.inl (by omega))] at h
   exact absurd h (by decide)
theorem zbm {k:Int} {t:List UInt8} (hk:(Lit.int .i64 k).wf=true) (ht:t.length ≤ 1048576):JOk (.mk k t [] []):=by
 rw [JOk]; exact ⟨hk,by omega,by simp,by simp,by simp,by rw [zcb]; trivial⟩
theorem zd9:∀ {a b:List JV},zcb a → zcb b → zcb (a ++ b)
 | [],b,_,hb => hb
 | v :: l,b,ha,hb => by
  rw [zcb] at ha
  rw [List.cons_append,zcb]
  exact ⟨ha.1,zd9 ha.2 hb⟩
def OkV (val:Rs → Tk → JV × Rs):Prop:=∀ ρ t,t.2.1.length ≤ 1048576 → JOk (val ρ t).1
theorem zhJ {s:List UInt8} (hs:s.length ≤ 1048576) {val:Rs → Tk → JV × Rs} (hv:OkV val):∀ (n:Nat) (ρ:Rs) (t:Tk) (acc:List JV),t.2.1.length ≤ 1048576 → zcb acc → zcb (zb6 s val n ρ t acc).1
 | 0,ρ,t,acc,_,h => h
 | n + 1,ρ,t,acc,ht,h => by
  rw [zb6]
  split
  ·exact h
  dsimp only
  have h1:=hv ρ t ht
  generalize val ρ t=a at h1 ⊢
  have h2:zcb (acc ++ [a.1]):=zd9 h (by rw [zcb,zcb]; exact ⟨h1,trivial⟩)
  split
  ·exact h2
  ·exact zhJ hs hv n _ _ _ (zcI hs _) h2
theorem zhy {s:List UInt8} (hs:s.length ≤ 1048576) {val:Rs → Tk → JV × Rs} (hv:OkV val):∀ (n:Nat) (ρ:Rs) (t:Tk) (ks:List (List UInt8)) (its:List JV),t.2.1.length ≤ 1048576 → (∀ k ∈ ks,k.length ≤ 1048576) → zcb its → zcb (zbv s val n ρ t ks its).1.2 ∧ ∀ k ∈ (zbv s val n ρ t ks its).1.1,k.length ≤ 1048576
 | 0,ρ,t,ks,its,_,hk,h => ⟨h,hk⟩
 | n + 1,ρ,t,ks,its,ht,hk,h => by
  rw [zbv]
  split
  ·exact ⟨h,hk⟩
  dsimp only
  generalize zad s (zi6 ρ t ks)=a
  have hb:=zcI hs (zaM a.2 a.1 58)
  generalize zad s (zaM a.2 a.1 58)=b at hb ⊢
  have h1:=hv b.2 b.1 hb
  generalize val b.2 b.1=v at h1 ⊢
  have h2:zcb (its ++ [v.1]):=zd9 h (by rw [zcb,zcb]; exact ⟨h1,trivial⟩)
  have hk2:∀ k ∈ ks ++ [t.2.1],k.length ≤ 1048576:=by
   intro k hm
   rcases List.mem_append.1 hm with hm | hm
   ·exact hk k hm
   ·rw [List.mem_singleton] at hm; subst hm; exact ht
  generalize zad s v.2=c
  split
  ·exact ⟨h2,hk2⟩
  ·exact zhy hs hv n _ _ _ _ (zcI hs _) hk2 h2
theorem word_wf (l:List UInt8):(Lit.int .i64 (zdX l)).wf=true:=by
 unfold zdX
 split
 ·decide
 split
 ·decide
 ·decide
theorem numE_len (l:List UInt8):(zbZ l).2.length ≤ 100:=by
 unfold zbZ
 split
 ·exact Nat.zero_le _
 ·exact can_len _ _
theorem zeo {s:List UInt8} (hs:s.length ≤ 1048576):∀ (f d:Nat),OkV (fun ρ t => zas s f ρ t d)
 | 0,d => fun ρ t _ => zbm (by decide) (Nat.zero_le _)
 | f + 1,d => fun ρ t ht => by
  dsimp only
  rw [zas]
  split
  ·exact zbm (by decide) (Nat.zero_le _)
  split
  ·exact zbm (by decide) (Nat.zero_le _)
  split
  ·exact zbm (by decide) (Nat.zero_le _)
  split
  ·exact zbm (word_wf _) (Nat.zero_le _)
  split
  ·unfold zeR
   dsimp only
   split
   ·exact zbm (by decide) (Nat.zero_le _)
   ·have h1:=zhJ hs (zeo hs f (d + 1)) (s.length + 2) (zad s (zaL ρ t)).2 (zad s (zaL ρ t)).1 [] (zcI hs _) (by rw [zcb]; trivial)
    have h2:=(zfx (s:=s) (zcs hs f (d + 1)) (s.length + 2) (zad s (zaL ρ t)).2 (zad s (zaL ρ t)).1 [] (by rw [zbO]; trivial)).2
    rw [JOk]
    simp only [List.length_nil] at h2
    exact ⟨by decide,by simp,by simp,by simp,by omega,h1⟩
  split
  ·unfold zeZ
   dsimp only
   split
   ·exact zbm (by decide) (Nat.zero_le _)
   ·obtain ⟨h1,h3⟩:=zhy hs (zeo hs f (d + 1)) (s.length + 2) (zad s (zaL ρ t)).2 (zad s (zaL ρ t)).1 [] [] (zcI hs _) (by simp) (by rw [zcb]; trivial)
    have h2:=(zft (s:=s) (zcs hs f (d + 1)) (s.length + 2) (zad s (zaL ρ t)).2 (zad s (zaL ρ t)).1 [] [] (by rw [zbO]; trivial)).2
    rw [JOk]
    simp only [List.length_nil] at h2
    exact ⟨by decide,by simp,by have:=h2.2; omega,fun k hm => by have:=h3 k hm; omega,by have:=h2.1; omega,h1⟩
  split
  ·exact zbm (by decide) (by have:=numE_len t.2.1; omega)
  ·exact zbm (by decide) ht
theorem zjJ {s:List UInt8} (hs:s.length ≤ 1048576):JOk (zbq s).1:=by
 unfold zbq
 rw [if_neg (by omega)]
 dsimp only
 generalize hρ:(if (zad s (zas s 65 (zad s rs0).2 (zad s rs0).1 0).2).2.fail=0 ∧ ¬ (zad s (zas s 65 (zad s rs0).2 (zad s rs0).1 0).2).1.1=1 then zaG (zad s (zas s 65 (zad s rs0).2 (zad s rs0).1 0).2).2 (zad s (zas s 65 (zad s rs0).2 (zad s rs0).1 0).2).1.2.2 140 else (zad s (zas s 65 (zad s rs0).2 (zad s rs0).1 0).2).2)=ρ
 by_cases c:¬ ρ.fail=0
 ·rw [if_pos c]; exact zbm (by decide) (Nat.zero_le _)
 ·rw [if_neg c]; exact zeo hs 65 0 _ _ (zcI hs _)
end
end Go.Proofs.Ytceenajkieomoaa
namespace Go.Proofs.Ytceenajkieomoaa
open Go.RowKit Sx
section
attribute [local irreducible] run
theorem zd6 {v:JV} {name s:List UInt8} (h:za6 v name=if zbn (jtx s)=true then (jtx s,true) else (jvZ,false)):(zaQ v 0 name 5).1=0 ∧ (zaQ v 0 name 5).2.1.text=s:=by
 by_cases hs:s=[]
 ·subst hs
  rw [if_neg (by decide)] at h
  rw [zg6 h]; exact ⟨rfl,rfl⟩
 ·rw [if_pos (by unfold zbn; show (!decide (s=[]) || _)=true; rw [decide_eq_false hs]; rfl)] at h
  rw [zfI (kind:=5) h rfl]; exact ⟨rfl,rfl⟩
theorem itE_no {v:JV} {name:List UInt8} {most:Nat} (h:za6 v name=(jvZ,false)):itE v 0 name most=(0,[]):=by
 unfold itE
 rw [zg6 h]; rfl
theorem itE_at {v:JV} {name:List UInt8} {most:Nat} {l:List JV} (h:za6 v name=(jar l,true)) (hl:l.length ≤ most):itE v 0 name most=(0,l):=by
 unfold itE
 rw [zfI (kind:=6) h rfl]
 dsimp only
 rw [if_neg (fun c => absurd c.2 (by show ¬ most < l.length; omega))]
 rfl
theorem zln {v:JV} {name:List UInt8} {most:Nat} {l:List JV} (h:za6 v name=if zbn (jar l)=true then (jar l,true) else (jvZ,false)) (hl:l.length ≤ most):itE v 0 name most=(0,l):=by
 cases l with
 | nil => rw [if_neg (by decide)] at h; exact itE_no h
 | cons a l => rw [if_pos (by unfold zbn; show (_ || decide (0 < (a :: l).length))=true; simp)] at h; exact itE_at h hl
theorem ts_back {v:JV} {name:List UInt8} {l:List (List UInt8)} (h:za6 v name=if zbn (jar (l.map jtx))=true then (jar (l.map jtx),true) else (jvZ,false)) (hl:l.length ≤ 64):tsE v 0 name=(0,l):=by
 unfold tsE
 rw [zln h (by rw [List.length_map]; exact hl)]
 dsimp only
 rw [if_pos (by rw [List.all_map]; exact List.all_eq_true.2 fun x _ => rfl),List.map_map]
 congr 1
 calc l.map _=l.map id:=List.map_congr_left fun p h => rfl
  _=l:=List.map_id l
theorem zg0 {v:JV} {name:List UInt8} {null:Bool} {l:List PrP} (h:za6 v name=if zbn (zcM l)=true then (zcM l,true) else (jvZ,false)) (hl:l.length ≤ 64) (hp:∀ p ∈ l,PrOk null p):prE v 0 name null=(0,l):=by
 cases l with
 | nil => rw [if_neg (by decide)] at h; exact prE_no h
 | cons a l => rw [if_pos (by unfold zbn; show (_ || decide (0 < ((a :: l).map enP).length))=true; simp)] at h; exact prE_back h hl hp
def PrF (null:Bool) (p:PrP):Prop:=PrOk null p ∧ p.name.length ≤ 140737488351232 ∧ p.val.length ≤ 140737488351232
def PsF (null:Bool) (l:List PrP):Prop:=l.length ≤ 64 ∧ ∀ p ∈ l,PrF null p
structure LkF (x:LkP):Prop where
 rel:x.rel.length ≤ 140737488351232
 typ:x.typ.length ≤ 140737488351232
 href:x.href.length ≤ 140737488351232
 tmp:x.tmp.length ≤ 140737488351232
 tit:PsF false x.tit
 pro:PsF true x.pro
structure JrF (subj:List UInt8) (al:List (List UInt8)) (pr:List PrP) (lk:List LkP):Prop where
 sl:subj.length ≤ 140737488351232
 aln:al.length ≤ 64
 alb:∀ a ∈ al,a.length ≤ 140737488351232
 prf:PsF true pr
 lkn:lk.length ≤ 64
 lkf:∀ x ∈ lk,LkF x
theorem PsF.ok {null:Bool} {l:List PrP} (h:PsF null l):∀ p ∈ l,PrOk null p:=fun p hp => (h.2 p hp).1
theorem zkN {x:LkP} (h:LkF x):lk6 (zbx x)=0 ∧ lkV (zbx x)=x:=by
 have l0:[zgG].length=[jtx x.rel].length:=rfl
 have l1:=zc5 (key:=zc6) (v:=jtx x.typ) l0
 have l2:=zc5 (key:=zcY) (v:=jtx x.href) l1
 have l3:=zc5 (key:=zdY) (v:=jtx x.tmp) l2
 have l4:=zc5 (key:=zdq) (v:=zcM x.tit) l3
 have g0:za6 (zbx x) zgG=(jtx x.rel,true):=by
  unfold zbx lkK lkI
  rw [zau l4 (by decide),zau l3 (by decide),zau l2 (by decide),zau l1 (by decide),zau l0 (by decide)]
  exact zgs (ks:=[]) (its:=[]) rfl (by simp)
 have g1:za6 (zbx x) zc6=if zbn (jtx x.typ)=true then (jtx x.typ,true) else (jvZ,false):=by
  unfold zbx lkK lkI
  rw [zau l4 (by decide),zau l3 (by decide),zau l2 (by decide),zau l1 (by decide)]
  exact zbE l0 (by decide)
 have g2:za6 (zbx x) zcY=if zbn (jtx x.href)=true then (jtx x.href,true) else (jvZ,false):=by
  unfold zbx lkK lkI
  rw [zau l4 (by decide),zau l3 (by decide),zau l2 (by decide)]
  exact zbE l1 (zaP (by decide) (by decide))
 have g3:za6 (zbx x) zdY=if zbn (jtx x.tmp)=true then (jtx x.tmp,true) else (jvZ,false):=by
  unfold zbx lkK lkI
  rw [zau l4 (by decide),zau l3 (by decide)]
  exact zbE l2 (zaP (zaP (by decide) (by decide)) (by decide))
 have g4:za6 (zbx x) zdq=if zbn (zcM x.tit)=true then (zcM x.tit,true) else (jvZ,false):=by
  unfold zbx lkK lkI
  rw [zau l4 (by decide)]
  exact zbE l3 (zaP (zaP (zaP (by decide) (by decide)) (by decide)) (by decide))
 have g5:za6 (zbx x) zbP=if zbn (zcM x.pro)=true then (zcM x.pro,true) else (jvZ,false):=by
  unfold zbx lkK lkI
  exact zbE l4 (zaP (zaP (zaP (zaP (by decide) (by decide)) (by decide)) (by decide)) (by decide))
 have e0:shE (zbx x)=0:=if_pos rfl
 have m0:=zfI (kind:=5) g0 rfl
 have e1:lk1 (zbx x)=0:=by unfold lk1 rqE; rw [e0,m0]; rfl
 have b1:=zd6 g1
 have e2:lk2 (zbx x)=0:=by unfold lk2; rw [e1]; exact b1.1
 have b2:=zd6 g2
 have e3:lk3 (zbx x)=0:=by unfold lk3; rw [e2]; exact b2.1
 have b3:=zd6 g3
 have e4:lk4 (zbx x)=0:=by unfold lk4; rw [e3]; exact b3.1
 have b4:=zg0 g4 h.tit.1 h.tit.ok
 have e5:lk5 (zbx x)=0:=by unfold lk5; rw [e4,b4]
 have b5:=zg0 g5 h.pro.1 h.pro.ok
 refine ⟨by unfold lk6; rw [e5,b5],?_⟩
 unfold lkV
 rw [e0,m0,e1,b1.2,e2,b2.2,e3,b3.2,e4,b4,e5,b5]
 rfl
theorem ls_back {v:JV} {name:List UInt8} {l:List LkP} (h:za6 v name=if zbn (jar (l.map zbx))=true then (jar (l.map zbx),true) else (jvZ,false)) (hl:l.length ≤ 64) (hf:∀ x ∈ l,LkF x):lsE v 0 name=(0,l):=by
 unfold lsE
 rw [zln h (by rw [List.length_map]; exact hl)]
 dsimp only
 rw [if_pos (zlz fun y hy => by obtain ⟨x,hx,rfl⟩:=List.mem_map.1 hy; exact (zkN (hf x hx)).1),List.map_map]
 congr 1
 calc l.map _=l.map id:=List.map_congr_left fun x hx => (zkN (hf x hx)).2
  _=l:=List.map_id l
theorem en_back {subj:List UInt8} {al:List (List UInt8)} {pr:List PrP} {lk:List LkP} (h:JrF subj al pr lk):jd4 (enJ subj al pr lk)=0 ∧ jdV (enJ subj al pr lk)=zd3 subj al pr lk:=by
 have l0:([]:List (List UInt8)).length=([]:List JV).length:=rfl
 have l1:=zc5 (key:=zc8) (v:=jtx subj) l0
 have l2:=zc5 (key:=zd4) (v:=jar (al.map jtx)) l1
 have l3:=zc5 (key:=zbP) (v:=zcM pr) l2
 have g1:za6 (enJ subj al pr lk) zc8=if zbn (jtx subj)=true then (jtx subj,true) else (jvZ,false):=by
  unfold enJ jeK jeI
  rw [zau l3 (by decide),zau l2 (by decide),zau l1 (by decide)]
  exact zbE l0 (by simp)
 have g2:za6 (enJ subj al pr lk) zd4=if zbn (jar (al.map jtx))=true then (jar (al.map jtx),true) else (jvZ,false):=by
  unfold enJ jeK jeI
  rw [zau l3 (by decide),zau l2 (by decide)]
  exact zbE l1 (zaP (by simp) (by decide))
 have g3:za6 (enJ subj al pr lk) zbP=if zbn (zcM pr)=true then (zcM pr,true) else (jvZ,false):=by
  unfold enJ jeK jeI
  rw [zau l3 (by decide)]
  exact zbE l2 (zaP (zaP (by simp) (by decide)) (by decide))
 have g4:za6 (enJ subj al pr lk) zcu=if zbn (jar (lk.map zbx))=true then (jar (lk.map zbx),true) else (jvZ,false):=by
  unfold enJ jeK jeI
  exact zbE l3 (zaP (zaP (zaP (by simp) (by decide)) (by decide)) (by decide))
 have e0:shE (enJ subj al pr lk)=0:=if_pos rfl
 have b1:=zd6 g1
 have e1:jd1 (enJ subj al pr lk)=0:=by unfold jd1; rw [e0]; exact b1.1
 have b2:=ts_back g2 h.aln
 have e2:jd2 (enJ subj al pr lk)=0:=by unfold jd2; rw [e1,b2]
 have b3:=zg0 g3 h.prf.1 h.prf.ok
 have e3:jd3 (enJ subj al pr lk)=0:=by unfold jd3; rw [e2,b3]
 have b4:=ls_back g4 h.lkn h.lkf
 refine ⟨by unfold jd4; rw [e3,b4],?_⟩
 unfold jdV
 rw [e0,b1.2,e1,b2,e2,b3,e3,b4]
/-! what a decoder gives is as it should be, if there was no error -/
theorem memE_err {v:JV} {e kind:Int} {name:List UInt8} (h:e ≠ 0):zaQ v e name kind=(e,jvZ,false):=by
 unfold zaQ; rw [if_pos h]
theorem zks {a:Int} {b:Int} (hb:b ≠ 0):orE a b ≠ 0:=by
 unfold orE; split <;> assumption
theorem zgt {v:JV} {key:List UInt8} (h:(za6 v key).2=false):(za6 v key).1=jvZ:=by
 unfold za6 at h ⊢
 split
 ·rename_i c
  rw [if_pos c] at h
  split
  ·rename_i x hx; rw [hx] at h; cases h
  ·rfl
 ·rfl
theorem zgk {v:JV} {e kind:Int} {name:List UInt8} (h:(zaQ v e name kind).1=0):e=0 ∧ ((zaQ v e name kind).2.2=true ∨ (zaQ v e name kind).2.1=jvZ):=by
 by_cases he:e=0
 ·refine ⟨he,?_⟩
  unfold zaQ at h ⊢
  rw [if_neg (fun c => c he)] at h ⊢
  by_cases c:(za6 v name).2=true ∧ (za6 v name).1.kind ≠ kind
  ·rw [if_pos c] at h; exact absurd (show (160:Int)=0 from h) (by decide)
  ·rw [if_neg c]
   by_cases c2:(za6 v name).2=true
   ·left
    have c3:(za6 v name).1.kind=kind:=by
     by_cases c4:(za6 v name).1.kind=kind
     ·exact c4
     ·exact absurd ⟨c2,c4⟩ c
    show ((za6 v name).2 && decide _)=true
    rw [c2,decide_eq_true c3]; rfl
   ·right; exact zgt (by simpa using c2)
 ·rw [memE_err he] at h; exact absurd h he
theorem zif {v:JV} {e:Int} {name:List UInt8} {most:Nat} (h:(itE v e name most).1=0):e=0 ∧ (itE v e name most).2.length ≤ most:=by
 unfold itE at h ⊢
 by_cases c:(zaQ v e name 6).2.2=true ∧ most < (zaQ v e name 6).2.1.items.length
 ·rw [if_pos c] at h; exact absurd (show (161:Int)=0 from h) (by decide)
 ·rw [if_neg c] at h ⊢
  obtain ⟨h1,h2⟩:=zgk h
  refine ⟨h1,?_⟩
  rcases h2 with h2 | h2
  ·show (zaQ v e name 6).2.1.items.length ≤ most
   rcases Nat.lt_or_ge most (zaQ v e name 6).2.1.items.length with h3 | h3
   ·exact absurd ⟨h2,h3⟩ c
   ·exact h3
  ·show (zaQ v e name 6).2.1.items.length ≤ most
   rw [h2]; exact Nat.zero_le _
theorem JOk.txt {v:JV} (h:JOk v):v.text.length ≤ 140737488351232:=h.lens.2.2.1
theorem zlp {v:JV} (hv:JOk v) (e:Int) (name:List UInt8) (most:Nat):∀ y ∈ (itE v e name most).2,JOk y:=by
 unfold itE
 split
 ·intro y hy; cases hy
 ·intro y hy
  obtain ⟨i,hi,rfl⟩:=List.mem_iff_getElem.1 hy
  exact (zbR hv e 6 name).its hi
theorem tsE_zero {v:JV} {e:Int} {name:List UInt8} (hv:JOk v) (h:(tsE v e name).1=0):e=0 ∧ (tsE v e name).2.length ≤ 64 ∧ ∀ a ∈ (tsE v e name).2,a.length ≤ 140737488351232:=by
 unfold tsE at h ⊢
 split at h
 ·rename_i c
  rw [if_pos c]
  obtain ⟨h1,h2⟩:=zif h
  refine ⟨h1,by show (List.map _ _).length ≤ _; rw [List.length_map]; exact h2,fun a ha => ?_⟩
  obtain ⟨y,hy,rfl⟩:=List.mem_map.1 ha
  exact (zlp hv e name 64 y hy).txt
 ·exact absurd h (zks (by decide))
theorem zfB {v:JV} {e:Int} {name:List UInt8} {null:Bool} (hv:JOk v) (h:(prE v e name null).1=0):e=0 ∧ PsF null (prE v e name null).2:=by
 have hm:=zbR hv e 7 name
 unfold prE at h ⊢
 by_cases c:(zaQ v e name 7).2.2=true ∧ 64 < min (zaQ v e name 7).2.1.keys.length (zaQ v e name 7).2.1.items.length
 ·rw [if_pos c] at h; exact absurd (show (161:Int)=0 from h) (by decide)
 rw [if_neg c] at h ⊢
 split at h
 ·rename_i c2
  rw [if_pos c2]
  obtain ⟨h1,h2⟩:=zgk h
  refine ⟨h1,?_,fun p hp => ?_⟩
  ·show (List.map _ _).length ≤ 64
   rw [List.length_map,List.length_zip]
   rcases h2 with h2 | h2
   ·rcases Nat.lt_or_ge 64 (min (zaQ v e name 7).2.1.keys.length (zaQ v e name 7).2.1.items.length) with h3 | h3
    ·exact absurd ⟨h2,h3⟩ c
    ·exact h3
   ·rw [h2]; exact Nat.zero_le _
  ·obtain ⟨z,hz,rfl⟩:=List.mem_map.1 hp
   have hz1:=(List.of_mem_zip (a:=z.1) (b:=z.2) hz)
   refine ⟨mkP_ok null z,hm.lens.2.2.2 _ hz1.1,?_⟩
   show (if _ then [] else z.2.text).length ≤ _
   split
   ·exact Nat.zero_le _
   ·obtain ⟨i,hi,e⟩:=List.mem_iff_getElem.1 hz1.2
    rw [← e]; exact (hm.its hi).txt
 ·exact absurd h (zks (by decide))
theorem lk_fit {y:JV} (hv:JOk y) (h:lk6 y=0):LkF (lkV y):=by
 obtain ⟨h5,p5⟩:=zfB (v:=y) (e:=lk5 y) (name:=zbP) (null:=true) hv h
 obtain ⟨h4,p4⟩:=zfB (v:=y) (e:=lk4 y) (name:=zdq) (null:=false) hv h5
 exact ⟨(zbR hv _ 5 _).txt,(zbR hv _ 5 _).txt,(zbR hv _ 5 _).txt,(zbR hv _ 5 _).txt,p4,p5⟩
theorem zik:∀ {l:List JV},fiE l=0 → ∀ y ∈ l,lk6 y=0
 | [],_,y,hy => by cases hy
 | a :: l,h,y,hy => by
  rw [fiE] at h
  by_cases c:lk6 a=0
  ·rw [if_pos c] at h
   rcases List.mem_cons.1 hy with rfl | hy
   ·exact c
   ·exact zik h y hy
  ·rw [if_neg c] at h; exact absurd h c
theorem lsE_zero {v:JV} {e:Int} {name:List UInt8} (hv:JOk v) (h:(lsE v e name).1=0):e=0 ∧ (lsE v e name).2.length ≤ 64 ∧ ∀ x ∈ (lsE v e name).2,LkF x:=by
 unfold lsE at h ⊢
 by_cases c:fiE (itE v e name 64).2=0
 ·rw [if_pos c] at h ⊢
  obtain ⟨h1,h2⟩:=zif h
  refine ⟨h1,by show (List.map _ _).length ≤ _; rw [List.length_map]; exact h2,fun x hx => ?_⟩
  obtain ⟨y,hy,rfl⟩:=List.mem_map.1 hx
  exact lk_fit (zlp hv e name 64 y hy) (zik c y hy)
 ·rw [if_neg c] at h; exact absurd h (zks c)
def jdF (v:JV):Prop:=JrF (zaQ v (shE v) zc8 5).2.1.text (tsE v (jd1 v) zd4).2 (prE v (jd2 v) zbP true).2 (lsE v (jd3 v) zcu).2
theorem jd_fit {v:JV} (hv:JOk v) (h:jd4 v=0):jdF v:=by
 obtain ⟨h3,a3,b3⟩:=lsE_zero (v:=v) (e:=jd3 v) (name:=zcu) hv h
 obtain ⟨h2,a2⟩:=zfB (v:=v) (e:=jd2 v) (name:=zbP) (null:=true) hv h3
 obtain ⟨h1,a1,b1⟩:=tsE_zero (v:=v) (e:=jd1 v) (name:=zd4) hv h2
 exact ⟨(zbR hv _ 5 _).txt,a1,b1,a2,a3,b3⟩
/-! the value that was made is a value that may be decoded -/
structure ObF (ks:List (List UInt8)) (its:List JV) (n:Nat):Prop where
 kl:ks.length ≤ n
 il:its.length ≤ n
 kb:∀ k ∈ ks,k.length ≤ 140737488351232
 ok:zcb its
 bd:zbO its
theorem ObF.nil:ObF [] [] 0:=⟨Nat.le_refl 0,Nat.le_refl 0,by simp,by rw [zcb]; trivial,by rw [zbO]; trivial⟩
theorem ObF.snoc {ks:List (List UInt8)} {its:List JV} {n:Nat} {key:List UInt8} {v:JV} (h:ObF ks its n) (hk:key.length ≤ 140737488351232) (hv:JOk v ∧ JBd v):ObF (ks ++ [key]) (its ++ [v]) (n + 1) :=
 ⟨by have:=h.kl; simp; exact this,by have:=h.il; simp; exact this,fun k hm => by
  rcases List.mem_append.1 hm with hm | hm
  ·exact h.kb k hm
  ·rw [List.mem_singleton] at hm; subst hm; exact hk,zd9 h.ok (by rw [zcb,zcb]; exact ⟨hv.1,trivial⟩),zea h.bd (by rw [zbO,zbO]; exact ⟨hv.2,trivial⟩)⟩
theorem ObF.add {ks:List (List UInt8)} {its:List JV} {n:Nat} {key:List UInt8} {v:JV} (h:ObF ks its n) (hk:key.length ≤ 140737488351232) (hv:JOk v ∧ JBd v):ObF (zcp ks key v) (zcC its v) (n + 1):=by
 unfold zcp zcC
 by_cases c:zbn v=true
 ·rw [if_pos c,if_pos c]; exact h.snoc hk hv
 ·rw [if_neg c,if_neg c]; exact ⟨Nat.le_succ_of_le h.kl,Nat.le_succ_of_le h.il,h.kb,h.ok,h.bd⟩
theorem ObF.val {ks:List (List UInt8)} {its:List JV} {n:Nat} (h:ObF ks its n) (hn:n ≤ 1000000):JOk (job ks its) ∧ JBd (job ks its):=by
 have h1:=h.kl
 have h2:=h.il
 unfold job
 rw [JOk,JBd]
 exact ⟨⟨by decide,by simp,by omega,h.kb,by omega,h.ok⟩,by omega,by omega,h.bd⟩
theorem zeB {s:List UInt8} (h:s.length ≤ 140737488351232):JOk (jtx s) ∧ JBd (jtx s):=by
 unfold jtx
 rw [JOk]; exact ⟨⟨by decide,h,by simp,by simp,by simp,by rw [zcb]; trivial⟩,zba _ _⟩
theorem zg9:∀ {l:List JV},(∀ y ∈ l,JOk y ∧ JBd y) → zcb l ∧ zbO l
 | [],_ => by rw [zcb,zbO]; exact ⟨trivial,trivial⟩
 | v :: l,h => by
  rw [zcb,zbO]
  have h1:=h v (List.mem_cons_self ..)
  have h2:=zg9 fun y hy => h y (List.mem_cons_of_mem _ hy)
  exact ⟨⟨h1.1,h2.1⟩,h1.2,h2.2⟩
theorem jar_ok {l:List JV} (hl:l.length ≤ 1000000) (h:∀ y ∈ l,JOk y ∧ JBd y):JOk (jar l) ∧ JBd (jar l):=by
 have h2:=zg9 h
 unfold jar
 rw [JOk,JBd]
 exact ⟨⟨by decide,by simp,by simp,by simp,by omega,h2.1⟩,by simp,by omega,h2.2⟩
def PsB (l:List PrP):Prop:=l.length ≤ 1000000 ∧ ∀ p ∈ l,p.name.length ≤ 140737488351232 ∧ p.val.length ≤ 140737488351232
theorem PsF.b {null:Bool} {l:List PrP} (h:PsF null l):PsB l:=⟨Nat.le_trans h.1 (by decide),fun p hp => (h.2 p hp).2⟩
structure LkB (x:LkP):Prop where
 rel:x.rel.length ≤ 140737488351232
 typ:x.typ.length ≤ 140737488351232
 href:x.href.length ≤ 140737488351232
 tmp:x.tmp.length ≤ 140737488351232
 tit:PsB x.tit
 pro:PsB x.pro
theorem LkF.b {x:LkP} (h:LkF x):LkB x:=⟨h.rel,h.typ,h.href,h.tmp,h.tit.b,h.pro.b⟩
structure JrBd (subj:List UInt8) (al:List (List UInt8)) (pr:List PrP) (lk:List LkP):Prop where
 sl:subj.length ≤ 140737488351232
 aln:al.length ≤ 1000000
 alb:∀ a ∈ al,a.length ≤ 140737488351232
 prf:PsB pr
 lkn:lk.length ≤ 1000000
 lkf:∀ x ∈ lk,LkB x
theorem JrF.b {subj:List UInt8} {al:List (List UInt8)} {pr:List PrP} {lk:List LkP} (h:JrF subj al pr lk):JrBd subj al pr lk :=
 ⟨h.sl,Nat.le_trans h.aln (by decide),h.alb,h.prf.b,Nat.le_trans h.lkn (by decide),fun x hx => (h.lkf x hx).b⟩
theorem zhf {l:List PrP} (h:PsB l):JOk (zcM l) ∧ JBd (zcM l):=by
 have h1:=h.1
 have h2:∀ y ∈ l.map enP,JOk y ∧ JBd y:=fun y hy => by
  obtain ⟨p,hp,rfl⟩:=List.mem_map.1 hy
  unfold enP
  split
  ·exact ⟨zbm (by decide) (Nat.zero_le _),zba _ _⟩
  ·exact zeB (h.2 p hp).2
 have h3:=zg9 h2
 exact ObF.val (n:=1000000) ⟨by rw [List.length_map]; exact h1,by rw [List.length_map]; exact h1,fun k hk => by obtain ⟨p,hp,rfl⟩:=List.mem_map.1 hk; exact (h.2 p hp).1,h3.1,h3.2⟩ (by decide)
theorem enLk_ok {x:LkP} (h:LkB x):JOk (zbx x) ∧ JBd (zbx x):=by
 unfold zbx lkK lkI
 exact (((((ObF.nil.snoc (key:=zgG) (by decide) (zeB h.rel)).add (key:=zc6) (by decide) (zeB h.typ)).add (key:=zcY) (by decide) (zeB h.href)).add (key:=zdY) (by decide) (zeB h.tmp)).add (key:=zdq) (by decide) (zhf h.tit)).add (key:=zbP) (by decide) (zhf h.pro) |>.val (by decide)
theorem enJ_ok {subj:List UInt8} {al:List (List UInt8)} {pr:List PrP} {lk:List LkP} (h:JrBd subj al pr lk):JOk (enJ subj al pr lk) ∧ JBd (enJ subj al pr lk):=by
 have h1:=h.aln
 have h2:=h.lkn
 unfold enJ jeK jeI
 exact (((ObF.nil.add (key:=zc8) (by decide) (zeB h.sl)).add (key:=zd4) (by decide) (jar_ok (by rw [List.length_map]; omega) fun y hy => by obtain ⟨a,ha,rfl⟩:=List.mem_map.1 hy; exact zeB (h.alb a ha))).add (key:=zbP) (by decide) (zhf h.prf)).add (key:=zcu) (by decide) (jar_ok (by rw [List.length_map]; omega) fun y hy => by obtain ⟨x,hx,rfl⟩:=List.mem_map.1 hy; exact enLk_ok (h.lkf x hx)) |>.val (by decide)
end
end Go.Proofs.Ytceenajkieomoaa
namespace Go.Proofs.Ytceenajkieomoaa
open Nat renaming reduceAdd → z5, reduceSub → z6, reduceLeDiff → z7, reduceLT → z8, reduceMul → j4, reduceEqDiff → j5
open Int renaming reduceToNat → j6, reduceAdd → j7, reduceSub → j8, reduceMul → j9, reduceNeg → x9, reduceLT → y3, reduceLE → y4, reduceEq → y5, reduceNe → y6
open Go.RowKit Sx
section
attribute [local irreducible] run
def vB14 (X Y:AV):OB:=.box 25 [.i .i64 7,.s [],X,Y]
section
variable [Tabs Try.prog] {objs:List OB} {K:List OB → AV → Prop} {L:List (Nat × OB)}
theorem zj8 {X Y:AV} {R1 R2:List (Nat × OB)} (ks:List (List UInt8)) (its:List JV) (key:List UInt8) (hl:its.length=ks.length) (hlen0:ks.length ≤ 10000000) (hX:SlO 9 1 ks.length (ks.map .s) X R1) (hY:SlO 25 4 its.length (zac its) Y R2) (hO:zaB (R1 ++ (R2 ++ L)) objs)
  (h1:key ∈ ks → ∀ o w,zaB (R1 ++ (R2 ++ L)) o → K o (.tup [.agg (zaj w),.b true])) (h2:¬ key ∈ ks → ∀ o,zaB (R1 ++ (R2 ++ L)) o → K o (.tup [.agg [.i .i64 0,.s [],.nil,.nil],.b false])):zag Try.prog 59 [.agg [.i .i64 7,.s [],X,Y],.s key] objs K:=by
 refine zbg is_ref14_Get fun C _ => ?_
 rw [c_ref14_Get]
 have hO2:=(hO.new (vB14 X Y)).new zvB
 unfold vB14 zvB at hO2
 refine zaa fun Z hZ => ?_
 have flatX:X.flat=true:=by rcases hX with ⟨_,_,rfl,_⟩ | ⟨_,_,rfl,_⟩ <;> rfl
 have flatY:Y.flat=true:=by rcases hY with ⟨_,_,rfl,_⟩ | ⟨_,_,rfl,_⟩ <;> rfl
 have flatV:(AV.agg [.i .i64 7,.s [],X,Y]).flat=true:=by
  rcases hX with ⟨_,_,rfl,_⟩ | ⟨_,_,rfl,_⟩ <;> rcases hY with ⟨_,_,rfl,_⟩ | ⟨_,_,rfl,_⟩ <;> rfl
 simp only [sxZ,z5,z6,z7,z8,j4,j5,j6,j7,j8,j9,x9,y3,y4,y5,y6,reduceCtorEq,↓reduceIte,flatV]
 have elen:(objs ++ [OB.box 25 [.i .i64 7,.s [],X,Y]]).length=objs.length + 1:=by simp
 rw [elen] at hO2
 generalize objs.length=qv at hO2 ⊢
 generalize objs ++ [OB.box 25 [.i .i64 7,.s [],X,Y]] ++ [OB.box 25 [.i .i64 0,.s [],.nil,.nil]]=o at hO2 ⊢
 have e0:=hO2.get (i:=qv) (x:=.box 25 [.i .i64 7,.s [],X,Y]) (by simp)
 have e1:=hO2.get (i:=qv + 1) (x:=.box 25 [.i .i64 0,.s [],.nil,.nil]) (by simp)
 have gs:∀ x,(o.set (qv + 1) x)[qv + 1]? = some x:=fun x => List.getElem?_set_self (hO2.lt (i:=qv + 1) (x:=.box 25 [.i .i64 0,.s [],.nil,.nil]) (by simp))
 have fin:∀ x,zaB (R1 ++ (R2 ++ L)) (o.set (qv + 1) x):=fun x => (zaB.set (A:=[]) x hO2).sub ((List.sublist_cons_self _ _).trans (List.sublist_cons_self _ _))
 subst hZ
 refine zaa fun Z hZ => ?_
 simp only [sxZ,z5,z6,z7,z8,j4,j5,j6,j7,j8,j9,x9,y3,y4,y5,y6,reduceCtorEq,↓reduceIte,e0,decide_true,Bool.not_true]
 subst hZ
 refine zaa fun Z hZ => ?_
 refine zaa fun W hW => ?_
 refine zay (fun o' tm => o=o' ∧ tm.length=38 ∧ tm[1]? = some (.s key) ∧ tm[2]? = some (.p qv 0) ∧ tm[4]? = some (.p (qv + 1) 0) ∧ tm[13]? = some (.i .i64 (ks.length:Int)) ∧ tm[14]? = some (.i .i64 0)) ?_ ?_
 ·rcases id hX with ⟨z1,z2,rfl,_⟩ | ⟨b1,g1,rfl,rfl⟩
  ·simp only [sxZ,z5,z6,z7,z8,j4,j5,j6,j7,j8,j9,x9,y3,y4,y5,y6,reduceCtorEq,↓reduceIte,zab,e0,z1,Int.cast_ofNat_Int,and_self]
  ·have eb1:=hO2.get (i:=b1) (x:=.orow 9 1 g1 ks.length (ks.map .s)) (by simp)
   simp only [sxZ,z5,z6,z7,z8,j4,j5,j6,j7,j8,j9,x9,y3,y4,y5,y6,reduceCtorEq,↓reduceIte,zab,e0,eb1,and_self]
 rintro _ tm ⟨rfl,hlen,t1,t2,t4,t13,t14⟩
 subst hW
 rw [zaN]
 refine zaK (fun n o' tm => ∃ i:Nat,i ≤ ks.length ∧ n=ks.length - i ∧ o=o' ∧ (∀ j,j < i → ks[j]? ≠ some key) ∧ tm.length=38 ∧ tm[1]? = some (.s key) ∧ tm[2]? = some (.p qv 0) ∧ tm[4]? = some (.p (qv + 1) 0) ∧ tm[13]? = some (.i .i64 (ks.length:Int)) ∧ tm[14]? = some (.i .i64 (i:Int))) ks.length ⟨0,Nat.zero_le _,rfl,rfl,fun j h => by omega,hlen,t1,t2,t4,t13,t14⟩ ?_
 clear hlen t1 t2 t4 t13 t14
 rintro n _ tm ⟨i,hi,rfl,rfl,hall,hlen,t1,t2,t4,t13,t14⟩
 refine zaa fun W hW => ?_
 by_cases hlt:(i:Int) < (ks.length:Int)
 ·have hi':i < ks.length:=by omega
  have hi2:i < its.length:=by omega
  rcases hX with ⟨z1,_⟩ | ⟨b1,g1,rfl,rfl⟩
  ·omega
  rcases hY with ⟨z1,_⟩ | ⟨b2,g2,rfl,rfl⟩
  ·omega
  have eb1:=hO2.get (i:=b1) (x:=.orow 9 1 g1 ks.length (ks.map .s)) (by simp)
  have eb2:=hO2.get (i:=b2) (x:=.orow 25 4 g2 its.length (zac its)) (by simp)
  have kv:(ks.map AV.s)[i * 1]? = some (.s ks[i]):=by rw [Nat.mul_one,List.getElem?_map,List.getElem?_eq_getElem hi']; rfl
  have kv2:ks[i]? = some ks[i]:=List.getElem?_eq_getElem hi'
  have kv3:ks[i] ∈ ks:=List.getElem_mem hi'
  generalize ks[i]=x at kv kv2 kv3
  simp only [sxZ,z5,z6,z7,z8,j4,j5,j6,j7,j8,j9,x9,y3,y4,y5,y6,reduceCtorEq,↓reduceIte,List.getElem?_set,hlen,t1,t2,t4,t13,t14,hlt]
  subst hW
  refine zaa fun W hW => ?_
  simp only [sxZ,z5,z6,z7,z8,j4,j5,j6,j7,j8,j9,x9,y3,y4,y5,y6,reduceCtorEq,↓reduceIte,List.getElem?_set,hlen]
  subst hW
  refine zaa fun V hV => ?_
  rw [zaN]
  refine zaa fun W hW => ?_
  simp only [sxZ,z5,z6,z7,z8,j4,j5,j6,j7,j8,j9,x9,y3,y4,y5,y6,reduceCtorEq,↓reduceIte,List.getElem?_set,hlen,t14]
  subst hW
  refine zaa fun W hW => ?_
  by_cases c2:x=key
  ·have hlt2:(i:Int) < (its.length:Int):=by omega
   have jv:=zgq hi2
   have jvl:=zaH its
   have hw:=fun o ho => h1 (by rw [← c2]; exact kv3) o its[i] ho
   have hq:=zal its[i]
   rw [hq] at jv
   simp only [sxZ,z5,z6,z7,z8,j4,j5,j6,j7,j8,j9,x9,y3,y4,y5,y6,reduceCtorEq,↓reduceIte,List.getElem?_set,hlen,t1,t2,e0,eb1,eb2,kv,List.length_map,c2,hlt2,decide_true]
   refine ⟨⟨by omega,by omega⟩,?_⟩
   subst hW
   simp only [sxZ,z5,z6,z7,z8,j4,j5,j6,j7,j8,j9,x9,y3,y4,y5,y6,reduceCtorEq,↓reduceIte,List.getElem?_set,hlen,t1,t2,t4,e0,e1,eb2,jv,gs]
   refine ⟨⟨by omega,by omega⟩,by omega,?_⟩
   rw [← hq]
   exact hw _ (fin _)
  ·simp only [sxZ,z5,z6,z7,z8,j4,j5,j6,j7,j8,j9,x9,y3,y4,y5,y6,reduceCtorEq,↓reduceIte,List.getElem?_set,hlen,t1,t2,e0,eb1,kv,List.length_map,c2,decide_false]
   refine ⟨⟨by omega,by omega⟩,?_⟩
   subst hW
   simp only [sxZ,z5,z6,z7,z8,j4,j5,j6,j7,j8,j9,x9,y3,y4,y5,y6,reduceCtorEq,↓reduceIte,List.getElem?_set,hlen,t1,t2,t4]
   subst hV
   simp only [sxZ,z5,z6,z7,z8,j4,j5,j6,j7,j8,j9,x9,y3,y4,y5,y6,reduceCtorEq,↓reduceIte,List.getElem?_set,hlen,t1,t2,t4,t13,t14]
   refine ⟨by omega,ks.length - (i + 1),by omega,i + 1,by omega,rfl,fun j hj => ?_,rfl⟩
   by_cases e:j=i
   ·subst e
    rw [kv2]; intro h; injection h with h; exact c2 h
   ·exact hall j (by omega)
 simp only [sxZ,z5,z6,z7,z8,j4,j5,j6,j7,j8,j9,x9,y3,y4,y5,y6,reduceCtorEq,↓reduceIte,List.getElem?_set,hlen,t1,t2,t4,t13,t14,hlt]
 subst hW
 subst hZ
 simp only [sxZ,z5,z6,z7,z8,j4,j5,j6,j7,j8,j9,x9,y3,y4,y5,y6,reduceCtorEq,↓reduceIte,List.getElem?_set,hlen,t1,t2,t4,t13,t14,hlt,e1,gs]
 refine h2 (fun h => ?_) _ (fin _)
 obtain ⟨j,hj⟩:=List.mem_iff_getElem?.1 h
 exact hall j (by have:=(List.getElem?_eq_some_iff.1 hj).1; omega) hj
end
end
section
attribute [local irreducible] run
theorem zhk {i:Nat} {T T':Nat} {cs cs':List AV} {L:List (Nat × OB)} (h:zaA ((i,.box T cs) :: L)) (hp:zaq cs'=true):zaA ((i,.box T' cs') :: L):=by
 intro y hy b g n xs hb
 rcases List.mem_cons.1 hy with rfl | hy
 ·show OB.box T' _=_; rw [zcT hp]
 ·exact h y (List.mem_cons_of_mem _ hy) b g n xs fun y hy => by
   rcases List.mem_cons.1 hy with rfl | hy
   ·exact hb (i,.box T' cs') (by simp)
   ·exact hb y (List.mem_cons_of_mem _ hy)
theorem zeN {p:Nat} {s:List UInt8} {ρ ρ':Rs} {L:List (Nat × OB)} (h:zaA ((p,zaz s ρ) :: L)):zaA ((p,zaz s ρ') :: L):=zhk h rfl
theorem zfd {E1 s1 n1 E2 s2 n2:Nat} {x1 x2:List AV} {X Y:AV} {R1 R2 L:List (Nat × OB)} {p qt qv qr:Nat} {s:List UInt8} {ρ ρ':Rs} {T:Tk} {k:Int} (h1:SlO E1 s1 n1 x1 X R1) (h2:SlO E2 s2 n2 x2 Y R2) (h:zaA ((p,zaz s ρ) :: L)):zaA ((p,zaz s ρ') :: (qt,zaJ T) :: (qv,jvB k X Y) :: (qr,zvB) :: (R1 ++ (R2 ++ L))):=by
 intro y hy b g m ys hb
 simp only [List.mem_cons,List.mem_append] at hy
 rcases hy with rfl | rfl | rfl | rfl | hy | hy | hy
 ·exact congrArg (OB.box _) (zcT rfl)
 ·exact congrArg (OB.box _) (zcT rfl)
 ·have q1:=zgQ h1 (b:=b) (g:=g) (m:=m) (ys:=ys) fun y hy => hb y (by simp [hy])
  have q2:=zgQ h2 (b:=b) (g:=g) (m:=m) (ys:=ys) fun y hy => hb y (by simp [hy])
  show OB.box _ _=_
  simp only [List.map_cons,List.map_nil,q1,q2]
  rfl
 ·exact congrArg (OB.box _) (zcT rfl)
 ·rcases h1 with ⟨_,_,_,rfl⟩ | ⟨b',g',_,rfl⟩
  ·cases hy
  ·simp only [List.mem_cons,List.not_mem_nil,or_false] at hy
   subst hy; rfl
 ·rcases h2 with ⟨_,_,_,rfl⟩ | ⟨b',g',_,rfl⟩
  ·cases hy
  ·simp only [List.mem_cons,List.not_mem_nil,or_false] at hy
   subst hy; rfl
 ·refine h y (List.mem_cons_of_mem _ hy) b g m ys fun z hz => ?_
  rcases List.mem_cons.1 hz with rfl | hz
  ·exact hb (p,zaz s ρ') (by simp)
  ·exact hb z (by simp [hz])
section
variable [Tabs Try.prog] [Utf Try.prog] {objs:List OB} {K:List OB → AV → Prop} {L:List (Nat × OB)} {p:Nat} {s:List UInt8} {ρ:Rs}
def ValK (s:List UInt8) (p:Nat) (d:Nat) (val:Rs → Tk → JV × Rs):Prop :=
 ∀ {objs:List OB} {K:List OB → AV → Prop} {L:List (Nat × OB)} {ρ:Rs} (t:Tk),GB s ρ → GT ρ t → t.2.1.length ≤ s.length → zaA ((p,zaz s ρ) :: L) → zaB ((p,zaz s ρ) :: L) objs → (∀ o,zaB ((p,zaz s (val ρ t).2) :: L) o → K o (.agg (zaj (val ρ t).1))) → zag Try.prog 23 [.p p 0,zfZ t,.i .i64 (d:Int)] objs K
omit [Tabs Try.prog] [Utf Try.prog] in
theorem zbl (h:GB s ρ):(zad s ρ).1.2.1.length ≤ s.length:=by
 unfold zad
 split
 ·exact Nat.zero_le _
 split
 ·exact Nat.zero_le _
 ·rename_i h1 h2
  have:=zfH (s:=s) h.p0 (by simpa using h2)
  exact this.2.1
theorem array_k {val:Rs → Tk → JV × Rs} {d:Nat} (hv:ValK s p d val) (hg:GV s val) (hn:∀ ρ t,(val ρ t).2.fail=0 → ρ.nodes + 1 ≤ (val ρ t).2.nodes) (hs:s.length ≤ 1048576) (hB:GB s ρ) (hC:zaA ((p,zaz s ρ) :: L)) (hO:zaB ((p,zaz s ρ) :: L) objs)
  (hk:∀ o,zaB ((p,zaz s (zeR s val ρ).2) :: L) o → K o (.agg (zaj (zeR s val ρ).1))):zag Try.prog 52 [.p p 0,.i .i64 (d:Int)] objs K:=by
 refine zj6 (E1:=9) (s1:=1) (E2:=25) (s2:=4) (zeR s val ρ).1 (zeN hC) hk ?_
 refine zbg is_ref14_parser_array fun C _ => ?_
 have fin:∀ {o:List OB} {ρ':Rs} {acc:List JV} {X:AV} {R:List (Nat × OB)} {qt qv qr:Nat} {T V W:OB},zeR s val ρ=(.mk 6 [] [] acc,ρ') → SlO 25 4 acc.length (zac acc) X R → zaB ((p,zaz s ρ') :: (qt,T) :: (qv,V) :: (qr,W) :: (R ++ L)) o →
   ∃ X' R1 Y R2,SlO 9 1 (zeR s val ρ).1.keys.length ((zeR s val ρ).1.keys.map .s) X' R1 ∧ SlO 25 4 (zeR s val ρ).1.items.length (zac (zeR s val ρ).1.items) Y R2 ∧ zaB ((p,zaz s (zeR s val ρ).2) :: (R1 ++ (R2 ++ L))) (o.set qr (jvB 6 .nil X)) ∧ AV.agg [.i .i64 6,.s [],.nil,X]=.agg [.i .i64 (zeR s val ρ).1.kind,.s (zeR s val ρ).1.text,X',Y]:=by
  intro o ρ' acc X R qt qv qr T V W he hS hO
  rw [he]
  refine ⟨.nil,[],X,R,.inl ⟨rfl,rfl,rfl,rfl⟩,hS,?_,rfl⟩
  exact (zaB.set (A:=[(p,zaz s ρ'),(qt,T),(qv,V)]) (jvB 6 .nil X) hO).sub ((((List.sublist_cons_self _ _).trans (List.sublist_cons_self _ _)).trans (List.sublist_cons_self _ _)).cons_cons _)
 rw [c_ref14_parser_array]
 refine zaa fun Y hY => ?_
 simp only [sxZ,z5,z6,z7,z8,j4,j5,j6,j7,j8,j9,x9,y3,y4,y5,y6,reduceCtorEq,↓reduceIte]
 have hO1:=hO.new zvB
 unfold zvB at hO1
 generalize hqr:objs.length=qr at hO1 ⊢
 generalize objs ++ [OB.box 25 [.i .i64 0,.s [],.nil,.nil]]=o1 at hO1 ⊢
 subst hY
 refine zaa fun Y hY => ?_
 simp only [sxZ,z5,z6,z7,z8,j4,j5,j6,j7,j8,j9,x9,y3,y4,y5,y6,reduceCtorEq,↓reduceIte,gn1,sn1]
 have hO2:=hO1.new (jvB 6 .nil .nil)
 unfold jvB at hO2
 generalize hqv:o1.length=qv at hO2 ⊢
 generalize o1 ++ [OB.box 25 [.i .i64 6,.s [],.nil,.nil]]=o2 at hO2 ⊢
 subst hY
 refine zaa fun Y hY => ?_
 simp only [sxZ,z5,z6,z7,z8,j4,j5,j6,j7,j8,j9,x9,y3,y4,y5,y6,reduceCtorEq,↓reduceIte]
 have hO2':zaB ((p,zaz s ρ) :: (qv,jvB 6 .nil .nil) :: (qr,zvB) :: L) o2:=hO2.perm ((List.Perm.cons _ (List.Perm.swap _ _ _)).trans (List.Perm.swap _ _ _))
 refine zai (zbY (by omega) hO2' fun o3 hO3 => ?_)
 have hB1:=za4 hB
 have hT1:=zbl hB
 have hrarr:zeR s val ρ=if isP (zad s ρ).1 93=true then (.mk 6 [] [] [],(zad s ρ).2) else (.mk 6 [] [] (zb6 s val (s.length + 2) (zad s ρ).2 (zad s ρ).1 []).1,(zb6 s val (s.length + 2) (zad s ρ).2 (zad s ρ).1 []).2):=rfl
 have hn0:=zaW s ρ
 generalize zad s ρ=N at hO3 hB1 hT1 hrarr hn0 ⊢
 obtain ⟨T,ρ1⟩:=N
 simp only at hO3 hB1 hT1 hrarr hn0 ⊢
 unfold zfZ tkC
 simp only [sxZ,z5,z6,z7,z8,j4,j5,j6,j7,j8,j9,x9,y3,y4,y5,y6,reduceCtorEq,↓reduceIte,gn1,sn1]
 have f1:∀ x y z,OB.box 59 [.i .i64 x,.s y,.i .i64 z]=zaJ (x,y,z):=fun _ _ _ => rfl
 rw [f1]
 have hO4:=hO3.new (zaJ T)
 have hO4:zaB ((p,zaz s ρ1) :: (o3.length,zaJ T) :: (qv,jvB 6 .nil .nil) :: (qr,zvB) :: ([] ++ L)) (o3 ++ [zaJ T]):=hO4.perm (List.Perm.swap _ _ _)
 generalize o3.length=qt at hO4 ⊢
 generalize o3 ++ [zaJ (T.1,T.2.1,T.2.2)]=o4 at hO4 ⊢
 have st:∀ (o:List OB) (ρ':Rs) (T':Tk) (X:AV) (R:List (Nat × OB)),zaB ((p,zaz s ρ') :: (qt,zaJ T') :: (qv,jvB 6 .nil X) :: (qr,zvB) :: (R ++ L)) o → o[p]? = some (.box 56 [.s s,.i .i64 ρ'.pos,.i .i64 (ρ'.nodes:Int),.i .i64 ρ'.fail,.i .i64 ρ'.wh]) ∧ o[qt]? = some (.box 59 [.i .i64 T'.1,.s T'.2.1,.i .i64 T'.2.2]) ∧ o[qv]? = some (.box 25 [.i .i64 6,.s [],.nil,X]) ∧ o[qr]? = some (.box 25 [.i .i64 0,.s [],.nil,.nil]) ∧ (∀ x,(o.set qr x)[qr]? = some x) ∧ (∀ x,(o.set qt x)[qt]? = some x) ∧ (∀ x,(o.set qv x)[qv]? = some x) :=
  fun o ρ' T' X R h => ⟨h.get (by simp [zaz]),h.get (by simp [zaJ,tkC]),h.get (by simp [jvB]),h.get (by simp [zvB]),fun x => List.getElem?_set_self (h.lt (i:=qr) (x:=zvB) (by simp)),fun x => List.getElem?_set_self (h.lt (i:=qt) (x:=zaJ T') (by simp)),fun x => List.getElem?_set_self (h.lt (i:=qv) (x:=jvB 6 .nil X) (by simp))⟩
 subst hY
 refine zaa fun Y hY => ?_
 obtain ⟨e1,e2,e3,e4,s1,s2,s3⟩:=st _ _ _ _ _ hO4
 simp only [sxZ,z5,z6,z7,z8,j4,j5,j6,j7,j8,j9,x9,y3,y4,y5,y6,reduceCtorEq,↓reduceIte,e2]
 refine zai (zeq T 93 ?_)
 cases hcl:isP T 93 with
 | true =>
  rw [hcl,if_pos rfl] at hrarr
  simp only [sxZ,z5,z6,z7,z8,j4,j5,j6,j7,j8,j9,x9,y3,y4,y5,y6,reduceCtorEq,↓reduceIte,e3,e4,s1]
  exact fin hrarr (.inl ⟨rfl,by rw [zan],rfl,rfl⟩) hO4
 | false =>
  rw [hcl,if_neg Bool.false_ne_true] at hrarr
  simp only [sxZ,z5,z6,z7,z8,j4,j5,j6,j7,j8,j9,x9,y3,y4,y5,y6,reduceCtorEq,↓reduceIte]
  subst hY
  refine zaa fun Y hY => ?_
  clear e1 e2 e3 e4 s1 s2 s3
  have last:∀ (o:List OB) (ρ':Rs) (T':Tk) (acc:List JV) (X:AV) (R:List (Nat × OB)) (tm:List AV),zeR s val ρ=(.mk 6 [] [] acc,ρ') → SlO 25 4 acc.length (zac acc) X R → zaB ((p,zaz s ρ') :: (qt,zaJ T') :: (qv,jvB 6 .nil X) :: (qr,zvB) :: (R ++ L)) o → True:=fun _ _ _ _ _ _ _ _ _ _ => trivial
  simp only [sxZ,z5,z6,z7,z8,j4,j5,j6,j7,j8,j9,x9,y3,y4,y5,y6,reduceCtorEq,↓reduceIte]
  refine zaK (fun n o tm => ∃ (i:Nat) (ρ':Rs) (T':Tk) (acc:List JV) (X:AV) (R:List (Nat × OB)),n=s.length + 2 - i ∧ acc.length=i ∧ zeR s val ρ=(.mk 6 [] [] (zb6 s val n ρ' T' acc).1,(zb6 s val n ρ' T' acc).2) ∧ GB s ρ' ∧ GT ρ' T' ∧ T'.2.1.length ≤ s.length ∧ (ρ'.fail=0 → i ≤ ρ'.nodes) ∧ SlO 25 4 acc.length (zac acc) X R ∧ zaB ((p,zaz s ρ') :: (qt,zaJ T') :: (qv,jvB 6 .nil X) :: (qr,zvB) :: (R ++ L)) o ∧
    tm.length=49 ∧ tm[0]? = some (.p p 0) ∧ tm[1]? = some (.i .i64 (d:Int)) ∧ tm[4]? = some (.p qr 0) ∧ tm[5]? = some (.p qv 0) ∧ tm[6]? = some (.p qt 0)) (s.length + 2) ⟨0,ρ1,T,[],.nil,[],rfl,rfl,hrarr,hB1.1,hB1.2,hT1,fun _ => Nat.zero_le _,.inl ⟨rfl,by rw [zan],rfl,rfl⟩,hO4,rfl,rfl,rfl,rfl,rfl,rfl⟩ ?_
  clear hO hO1 hO2 hO2' hO3 hO4 hrarr hB1 hT1 hcl hn0
  rintro n o tm ⟨i,ρ',T',acc,X,R,rfl,hi,hrarr,hGB,hGT,hTx,hnd,hS,hO,hlen,t0,t1,t4,t5,t6⟩
  obtain ⟨e1,e2,e3,e4,s1,s2,s3⟩:=st _ _ _ _ _ hO
  refine zaa fun Z hZ => ?_
  by_cases c1:ρ'.fail=0
  rotate_left
  ·have he:zb6 s val (s.length + 2 - i) ρ' T' acc=(acc,ρ'):=by
    cases s.length + 2 - i with
    | zero => rw [zb6]
    | succ m => rw [zb6,if_pos c1]
   rw [he] at hrarr
   simp only [sxZ,z5,z6,z7,z8,j4,j5,j6,j7,j8,j9,x9,y3,y4,y5,y6,reduceCtorEq,↓reduceIte,List.getElem?_set,hlen,t0,e1,c1]
   subst hZ
   subst hY
   simp only [sxZ,z5,z6,z7,z8,j4,j5,j6,j7,j8,j9,x9,y3,y4,y5,y6,reduceCtorEq,↓reduceIte,List.getElem?_set,hlen,t4,t5,e3,e4,s1]
   exact fin hrarr hS hO
  have hil:i ≤ s.length:=by
   have h1:=hnd c1
   have h2:=hGB.n0 c1
   have h3:=hGB.p1
   omega
  obtain ⟨m,hm⟩:∃ m,s.length + 2 - i=m + 1:=⟨s.length + 1 - i,by omega⟩
  rw [hm,zb6,if_neg (fun h => h c1)] at hrarr
  simp only at hrarr
  simp only [sxZ,z5,z6,z7,z8,j4,j5,j6,j7,j8,j9,x9,y3,y4,y5,y6,reduceCtorEq,↓reduceIte,List.getElem?_set,hlen,t0,e1,c1]
  subst hZ
  rw [zaN]
  refine zaa fun Z hZ => ?_
  have hvc:=fun {objs:List OB} {K:List OB → AV → Prop} {L:List (Nat × OB)} (h1) (h2) (h3) => hv (objs:=objs) (K:=K) (L:=L) (ρ:=ρ') T' hGB hGT hTx h1 h2 h3
  have hg1:=hg ρ' T' hGB hGT
  have hn1:=hn ρ' T'
  generalize val ρ' T'=a at hvc hg1 hn1 hrarr
  obtain ⟨v,ρ2⟩:=a
  simp only at hvc hg1 hn1 hrarr
  obtain ⟨c0,c1',c2,c3,hcv⟩:∃ c0 c1 c2 c3,zaj v=[c0,c1,c2,c3]:=⟨_,_,_,_,zal v⟩
  have hCL:zaA ((p,zaz s ρ') :: (qt,zaJ T') :: (qv,jvB 6 .nil X) :: (qr,zvB) :: (R ++ L)):=zfd (E1:=0) (s1:=0) (R1:=[]) (.inl ⟨rfl,rfl,rfl,rfl⟩) hS hC
  refine zay (fun o tm => ∃ X' R',SlO 25 4 (acc ++ [v]).length (zac (acc ++ [v])) X' R' ∧ zaB ((p,zaz s ρ2) :: (qt,zaJ T') :: (qv,jvB 6 .nil X') :: (qr,zvB) :: (R' ++ L)) o ∧ tm.length=49 ∧ tm[0]? = some (.p p 0) ∧ tm[1]? = some (.i .i64 (d:Int)) ∧ tm[4]? = some (.p qr 0) ∧ tm[5]? = some (.p qv 0) ∧ tm[6]? = some (.p qt 0)) ?_ ?_
  ·simp only [sxZ,z5,z6,z7,z8,j4,j5,j6,j7,j8,j9,x9,y3,y4,y5,y6,reduceCtorEq,↓reduceIte,List.getElem?_set,hlen,t0,t1,t5,t6,e2,e3]
   refine zai (hvc hCL hO fun o2 hO2 => ?_)
   obtain ⟨e1',e2',e3',e4',s1',s2',s3'⟩:=st _ _ _ _ _ hO2
   rw [hcv]
   rcases hS with ⟨z1,z2,rfl,rfl⟩ | ⟨b,g,rfl,rfl⟩
   ·have a0:acc=[]:=List.eq_nil_of_length_eq_zero z1
    have hlt:=hO2.lt (i:=qv) (x:=jvB 6 .nil .nil) (by simp)
    have hne:¬ o2.length=qv:=by omega
    have gx:∀ x,(o2 ++ [x])[qv]? = some (.box 25 [.i .i64 6,.s [],.nil,.nil]):=fun x => by rw [List.getElem?_append_left hlt]; exact e3'
    simp only [sxZ,z5,z6,z7,z8,j4,j5,j6,j7,j8,j9,x9,y3,y4,y5,y6,reduceCtorEq,↓reduceIte,List.getElem?_set,hlen,t0,t1,t5,t6,e2',e3',gn1,sn1,gx,hne,zab,List.length_set,t4,and_self,and_true]
    have hN:=hO2.new (.orow 25 4 0 1 [c0,c1',c2,c3])
    have hR:=hN.set (A:=[(o2.length,OB.orow 25 4 0 1 [c0,c1',c2,c3]),(p,zaz s ρ2),(qt,zaJ T')]) (jvB 6 .nil (.orow o2.length 0))
    refine ⟨_,[(o2.length,.orow 25 4 0 1 [c0,c1',c2,c3])],.inr ⟨_,_,rfl,by rw [a0,List.nil_append,zav,zan,hcv]; rfl⟩,hR.perm ?_⟩
    exact List.perm_middle (l₁:=[(p,zaz s ρ2),(qt,zaJ T'),(qv,jvB 6 .nil (.orow o2.length 0)),(qr,zvB)]).symm
   ·have e5:=hO2.get (i:=b) (x:=.orow 25 4 g acc.length (zac acc)) (by simp)
    have hlt:=hO2.lt (i:=qv) (x:=jvB 6 .nil (.orow b g)) (by simp)
    have hlt4:=hO2.lt (i:=b) (x:=.orow 25 4 g acc.length (zac acc)) (by simp)
    have hne:¬ b=qv:=by
     intro h
     have:=hO2.1
     simp only [List.map_cons,List.map_append,List.nodup_cons] at this
     exact this.2.2.1 (by simp [h])
    have gs:∀ x,(o2.set b x)[b]? = some x:=fun x => List.getElem?_set_self hlt4
    have gx:∀ x,(o2.set b x)[qv]? = some (.box 25 [.i .i64 6,.s [],.nil,.orow b g]):=fun x => by rw [List.getElem?_set_ne hne]; exact e3'
    have hjl:=zaH acc
    simp only [sxZ,z5,z6,z7,z8,j4,j5,j6,j7,j8,j9,x9,y3,y4,y5,y6,reduceCtorEq,↓reduceIte,List.getElem?_set,hlen,t0,t1,t5,t6,e2',e3',e5,gs,gx,hne,zab,List.length_set,t4,and_self,and_true]
    refine ⟨⟨by omega,by omega⟩,?_⟩
    have hN:=hO2.set (A:=[(p,zaz s ρ2),(qt,zaJ T'),(qv,jvB 6 .nil (.orow b g)),(qr,zvB)]) (.orow 25 4 (g + 1) (acc.length + 1) (zac acc ++ [c0,c1',c2,c3]))
    have hR:=hN.set (A:=[(p,zaz s ρ2),(qt,zaJ T')]) (jvB 6 .nil (.orow b (g + 1)))
    exact ⟨_,[(b,.orow 25 4 (g + 1) (acc.length + 1) (zac acc ++ [c0,c1',c2,c3]))],.inr ⟨_,_,rfl,by rw [zbL,zav,zan,hcv]; rfl⟩,hR⟩
  ·clear hO hS hlen t0 t1 t4 t5 t6 e1 e2 e3 e4 s1 s2 s3 hCL hvc hv hg hn
   rintro o5 tm ⟨X',R',hS,hO5,hlen,t0,t1,t4,t5,t6⟩
   subst hZ
   refine zaa fun Z hZ => ?_
   simp only [sxZ,z5,z6,z7,z8,j4,j5,j6,j7,j8,j9,x9,y3,y4,y5,y6,reduceCtorEq,↓reduceIte,List.getElem?_set,hlen,t0]
   refine zai (zbY (by omega) hO5 fun o6 hO6 => ?_)
   have hB2:=za4 hg1
   have hT2:=zbl hg1
   have hn2:=zaW s ρ2
   have hfz:=zbF s ρ2
   generalize zad s ρ2=N at hO6 hB2 hT2 hn2 hfz hrarr ⊢
   obtain ⟨T2,ρ3⟩:=N
   simp only at hO6 hB2 hT2 hn2 hfz hrarr ⊢
   obtain ⟨e1,e2,e3,e4,s1,s2,s3⟩:=st _ _ _ _ _ hO6
   unfold zfZ tkC
   simp only [sxZ,z5,z6,z7,z8,j4,j5,j6,j7,j8,j9,x9,y3,y4,y5,y6,reduceCtorEq,↓reduceIte,List.getElem?_set,hlen,t6,e2,s2]
   rw [f1]
   have hO7:=zaB.set (A:=[(p,zaz s ρ3)]) (zaJ T2) hO6
   have hO7:zaB ((p,zaz s ρ3) :: (qt,zaJ T2) :: (qv,jvB 6 .nil X') :: (qr,zvB) :: (R' ++ L)) (o6.set qt (zaJ (T2.1,T2.2.1,T2.2.2))):=hO7
   generalize o6.set qt (zaJ (T2.1,T2.2.1,T2.2.2))=o7 at hO7 ⊢
   refine zbD (fun t => t.length=49 ∧ t[0]? = some (.p p 0) ∧ t[1]? = some (.i .i64 (d:Int)) ∧ t[4]? = some (.p qr 0) ∧ t[5]? = some (.p qv 0) ∧ t[6]? = some (.p qt 0)) ?_ ?_
   ·simp only [sxZ,z5,z6,z7,z8,j4,j5,j6,j7,j8,j9,x9,y3,y4,y5,y6,reduceCtorEq,↓reduceIte,List.length_set,List.getElem?_set,hlen,t0,t1,t4,t5,t6,and_self]
   clear hO6 hO5 hlen t0 t1 t4 t5 t6 e1 e2 e3 e4 s1 s2 s3
   rintro tm ⟨hlen,t0,t1,t4,t5,t6⟩
   obtain ⟨e1,e2,e3,e4,s1,s2,s3⟩:=st _ _ _ _ _ hO7
   subst hZ
   refine zaa fun Z hZ => ?_
   simp only [sxZ,z5,z6,z7,z8,j4,j5,j6,j7,j8,j9,x9,y3,y4,y5,y6,reduceCtorEq,↓reduceIte,List.getElem?_set,hlen,t6,e2]
   refine zai (zeq T2 93 ?_)
   cases hcl:isP T2 93 with
   | true =>
    rw [hcl,if_pos rfl] at hrarr
    simp only [sxZ,z5,z6,z7,z8,j4,j5,j6,j7,j8,j9,x9,y3,y4,y5,y6,reduceCtorEq,↓reduceIte,List.getElem?_set,hlen,t4,t5,e3,e4,s1]
    exact fin hrarr hS hO7
   | false =>
    rw [hcl,if_neg Bool.false_ne_true] at hrarr
    simp only [sxZ,z5,z6,z7,z8,j4,j5,j6,j7,j8,j9,x9,y3,y4,y5,y6,reduceCtorEq,↓reduceIte,List.getElem?_set,hlen]
    subst hZ
    refine zaa fun Z hZ => ?_
    refine zay (fun o tm => zaB ((p,zaz s (zaM ρ3 T2 44)) :: (qt,zaJ T2) :: (qv,jvB 6 .nil X') :: (qr,zvB) :: (R' ++ L)) o ∧ tm.length=49 ∧ tm[0]? = some (.p p 0) ∧ tm[1]? = some (.i .i64 (d:Int)) ∧ tm[4]? = some (.p qr 0) ∧ tm[5]? = some (.p qv 0) ∧ tm[6]? = some (.p qt 0)) ?_ ?_
    ·refine zaa fun W hW => ?_
     by_cases c3:ρ3.fail=0
     rotate_left
     ·have hw:zaM ρ3 T2 44=ρ3:=by unfold zaM; rw [if_neg (fun h => c3 h.1)]
      simp only [sxZ,z5,z6,z7,z8,j4,j5,j6,j7,j8,j9,x9,y3,y4,y5,y6,reduceCtorEq,↓reduceIte,List.getElem?_set,hlen,t0,e1,c3]
      subst hW
      simp only [sxZ,z5,z6,z7,z8,j4,j5,j6,j7,j8,j9,x9,y3,y4,y5,y6,reduceCtorEq,↓reduceIte,zab,List.length_set,List.getElem?_set,hlen,t0,t1,t4,t5,t6,hw,and_self,and_true]
      exact hO7
     ·simp only [sxZ,z5,z6,z7,z8,j4,j5,j6,j7,j8,j9,x9,y3,y4,y5,y6,reduceCtorEq,↓reduceIte,List.getElem?_set,hlen,t0,t6,e1,e2,c3]
      refine zai (zeq T2 44 ?_)
      cases h44:isP T2 44 with
      | true =>
       have hw:zaM ρ3 T2 44=ρ3:=by unfold zaM; rw [if_neg (fun h => by rw [h44] at h; cases h.2)]
       simp only [sxZ,z5,z6,z7,z8,j4,j5,j6,j7,j8,j9,x9,y3,y4,y5,y6,reduceCtorEq,↓reduceIte,List.getElem?_set,hlen]
       subst hW
       simp only [sxZ,z5,z6,z7,z8,j4,j5,j6,j7,j8,j9,x9,y3,y4,y5,y6,reduceCtorEq,↓reduceIte,zab,List.length_set,List.getElem?_set,hlen,t0,t1,t4,t5,t6,hw,and_self,and_true]
       exact hO7
      | false =>
       have hw:zaM ρ3 T2 44=zaG ρ3 T2.2.2 140:=by unfold zaM; rw [if_pos ⟨c3,h44⟩]
       simp only [sxZ,z5,z6,z7,z8,j4,j5,j6,j7,j8,j9,x9,y3,y4,y5,y6,reduceCtorEq,↓reduceIte,List.getElem?_set,hlen]
       subst hW
       simp only [sxZ,z5,z6,z7,z8,j4,j5,j6,j7,j8,j9,x9,y3,y4,y5,y6,reduceCtorEq,↓reduceIte,List.getElem?_set,hlen,t0,t6,e2]
       refine zai (zbK hO7 T2.2.2 140 fun o8 hO8 => ?_)
       simp only [sxZ,z5,z6,z7,z8,j4,j5,j6,j7,j8,j9,x9,y3,y4,y5,y6,reduceCtorEq,↓reduceIte,zab,List.length_set,List.getElem?_set,hlen,t0,t1,t4,t5,t6,hw,and_self,and_true]
       exact hO8
    ·clear hO7 hlen t0 t1 t4 t5 t6 e1 e2 e3 e4 s1 s2 s3
     rintro o8 tm ⟨hO8,hlen,t0,t1,t4,t5,t6⟩
     subst hZ
     have hB3:=zdJ hB2.1 T2 44
     have hn3:=zdt ρ3 T2 44
     have hfz3:=zdu ρ3 T2 44
     generalize zaM ρ3 T2 44=ρ4 at hO8 hB3 hn3 hfz3 hrarr
     simp only [sxZ,z5,z6,z7,z8,j4,j5,j6,j7,j8,j9,x9,y3,y4,y5,y6,reduceCtorEq,↓reduceIte,List.getElem?_set,hlen,t0]
     refine zai (zbY (by omega) hO8 fun o9 hO9 => ?_)
     have hB4:=za4 hB3
     have hT4:=zbl hB3
     have hn4:=zaW s ρ4
     have hfz4:=zbF s ρ4
     generalize zad s ρ4=N at hO9 hB4 hT4 hn4 hfz4 hrarr ⊢
     obtain ⟨T5,ρ5⟩:=N
     simp only at hO9 hB4 hT4 hn4 hfz4 hrarr ⊢
     obtain ⟨e1,e2,e3,e4,s1,s2,s3⟩:=st _ _ _ _ _ hO9
     unfold zfZ tkC
     simp only [sxZ,z5,z6,z7,z8,j4,j5,j6,j7,j8,j9,x9,y3,y4,y5,y6,reduceCtorEq,↓reduceIte,List.getElem?_set,hlen,t6,e2,s2]
     rw [f1]
     have hO10:zaB ((p,zaz s ρ5) :: (qt,zaJ T5) :: (qv,jvB 6 .nil X') :: (qr,zvB) :: (R' ++ L)) (o9.set qt (zaJ (T5.1,T5.2.1,T5.2.2))):=zaB.set (A:=[(p,zaz s ρ5)]) (zaJ T5) hO9
     generalize o9.set qt (zaJ (T5.1,T5.2.1,T5.2.2))=o10 at hO10 ⊢
     refine ⟨m,by omega,i + 1,ρ5,T5,acc ++ [v],X',R',by omega,by rw [List.length_append,hi]; rfl,hrarr,hB4.1,hB4.2,hT4,fun hf => ?_,hS,hO10,?_⟩
     ·have q4:ρ4.fail=0:=by
       by_cases c:ρ4.fail=0
       ·exact c
       ·exact absurd ((hfz4 c).1.symm.trans hf) c
      have q3:ρ3.fail=0:=by
       by_cases c:ρ3.fail=0
       ·exact c
       ·exact absurd ((hfz3 c).1.symm.trans q4) c
      have q2:ρ2.fail=0:=by
       by_cases c:ρ2.fail=0
       ·exact c
       ·exact absurd ((hfz c).1.symm.trans q3) c
      have:=hn1 q2
      have:=hnd c1
      omega
     ·simp only [sxZ,z5,z6,z7,z8,j4,j5,j6,j7,j8,j9,x9,y3,y4,y5,y6,reduceCtorEq,↓reduceIte,List.length_set,List.getElem?_set,hlen,t0,t1,t4,t5,t6,and_self]
end
end
section
attribute [local irreducible] run
def SlP (ks:List (List UInt8)) (its:List JV) (X:AV) (R1:List (Nat × OB)) (Y:AV) (R2:List (Nat × OB)):Prop :=
 (ks=[] ∧ its=[] ∧ X=.nil ∧ R1=[] ∧ Y=.nil ∧ R2=[]) ∨ ∃ b1 g1 b2 g2,X=.orow b1 g1 ∧ R1=[(b1,.orow 9 1 g1 ks.length (ks.map .s))] ∧ Y=.orow b2 g2 ∧ R2=[(b2,.orow 25 4 g2 its.length (zac its))]
theorem SlP.k {ks:List (List UInt8)} {its:List JV} {X Y:AV} {R1 R2:List (Nat × OB)} (h:SlP ks its X R1 Y R2):SlO 9 1 ks.length (ks.map .s) X R1:=by
 rcases h with ⟨rfl,rfl,rfl,rfl,rfl,rfl⟩ | ⟨b1,g1,b2,g2,rfl,rfl,rfl,rfl⟩
 ·exact .inl ⟨rfl,rfl,rfl,rfl⟩
 ·exact .inr ⟨_,_,rfl,rfl⟩
theorem SlP.i {ks:List (List UInt8)} {its:List JV} {X Y:AV} {R1 R2:List (Nat × OB)} (h:SlP ks its X R1 Y R2):SlO 25 4 its.length (zac its) Y R2:=by
 rcases h with ⟨rfl,rfl,rfl,rfl,rfl,rfl⟩ | ⟨b1,g1,b2,g2,rfl,rfl,rfl,rfl⟩
 ·exact .inl ⟨rfl,zan,rfl,rfl⟩
 ·exact .inr ⟨_,_,rfl,rfl⟩
theorem SlP.flat {ks:List (List UInt8)} {its:List JV} {X Y:AV} {R1 R2:List (Nat × OB)} (h:SlP ks its X R1 Y R2):X.flat=true ∧ Y.flat=true:=by
 rcases h with ⟨rfl,rfl,rfl,rfl,rfl,rfl⟩ | ⟨b1,g1,b2,g2,rfl,rfl,rfl,rfl⟩ <;> exact ⟨rfl,rfl⟩
section
variable [Tabs Try.prog] [Utf Try.prog] {objs:List OB} {K:List OB → AV → Prop} {L:List (Nat × OB)} {p:Nat} {s:List UInt8} {ρ:Rs}
theorem object_k {val:Rs → Tk → JV × Rs} {d:Nat} (hv:ValK s p d val) (hg:GV s val) (hn:∀ ρ t,(val ρ t).2.fail=0 → ρ.nodes + 1 ≤ (val ρ t).2.nodes) (hvz:ValFroz val) (hs:s.length ≤ 1048576) (hB:GB s ρ) (hC:zaA ((p,zaz s ρ) :: L)) (hO:zaB ((p,zaz s ρ) :: L) objs)
  (hk:∀ o,zaB ((p,zaz s (zeZ s val ρ).2) :: L) o → K o (.agg (zaj (zeZ s val ρ).1))):zag Try.prog 53 [.p p 0,.i .i64 (d:Int)] objs K:=by
 refine zj6 (E1:=9) (s1:=1) (E2:=25) (s2:=4) (zeZ s val ρ).1 (zeN hC) hk ?_
 refine zbg is_ref14_parser_object fun C _ => ?_
 have fin:∀ {o:List OB} {ρ':Rs} {ks:List (List UInt8)} {its:List JV} {X Y:AV} {R1 R2:List (Nat × OB)} {qt qv qr:Nat} {T V W:OB},zeZ s val ρ=(.mk 7 [] ks its,ρ') → SlP ks its X R1 Y R2 → zaB ((p,zaz s ρ') :: (qt,T) :: (qv,V) :: (qr,W) :: (R1 ++ (R2 ++ L))) o →
   ∃ X' R1 Y' R2,SlO 9 1 (zeZ s val ρ).1.keys.length ((zeZ s val ρ).1.keys.map .s) X' R1 ∧ SlO 25 4 (zeZ s val ρ).1.items.length (zac (zeZ s val ρ).1.items) Y' R2 ∧ zaB ((p,zaz s (zeZ s val ρ).2) :: (R1 ++ (R2 ++ L))) (o.set qr (jvB 7 X Y)) ∧ AV.agg [.i .i64 7,.s [],X,Y]=.agg [.i .i64 (zeZ s val ρ).1.kind,.s (zeZ s val ρ).1.text,X',Y']:=by
  intro o ρ' ks its X Y R1 R2 qt qv qr T V W he hS hO
  rw [he]
  refine ⟨X,R1,Y,R2,hS.k,hS.i,?_,rfl⟩
  exact (zaB.set (A:=[(p,zaz s ρ'),(qt,T),(qv,V)]) (jvB 7 X Y) hO).sub ((((List.sublist_cons_self _ _).trans (List.sublist_cons_self _ _)).trans (List.sublist_cons_self _ _)).cons_cons _)
 rw [c_ref14_parser_object]
 refine zaa fun Z0 hZ0 => ?_
 simp only [sxZ,z5,z6,z7,z8,j4,j5,j6,j7,j8,j9,x9,y3,y4,y5,y6,reduceCtorEq,↓reduceIte]
 have hO1:=hO.new zvB
 unfold zvB at hO1
 generalize hqr:objs.length=qr at hO1 ⊢
 generalize objs ++ [OB.box 25 [.i .i64 0,.s [],.nil,.nil]]=o1 at hO1 ⊢
 subst hZ0
 refine zaa fun Z0 hZ0 => ?_
 simp only [sxZ,z5,z6,z7,z8,j4,j5,j6,j7,j8,j9,x9,y3,y4,y5,y6,reduceCtorEq,↓reduceIte,gn1,sn1]
 have hO2:=hO1.new (jvB 7 .nil .nil)
 unfold jvB at hO2
 generalize hqv:o1.length=qv at hO2 ⊢
 generalize o1 ++ [OB.box 25 [.i .i64 7,.s [],.nil,.nil]]=o2 at hO2 ⊢
 subst hZ0
 refine zaa fun Z0 hZ0 => ?_
 simp only [sxZ,z5,z6,z7,z8,j4,j5,j6,j7,j8,j9,x9,y3,y4,y5,y6,reduceCtorEq,↓reduceIte]
 have hO2':zaB ((p,zaz s ρ) :: (qv,jvB 7 .nil .nil) :: (qr,zvB) :: L) o2:=hO2.perm ((List.Perm.cons _ (List.Perm.swap _ _ _)).trans (List.Perm.swap _ _ _))
 refine zai (zbY (by omega) hO2' fun o3 hO3 => ?_)
 have hB1:=za4 hB
 have hT1:=zbl hB
 have hrobj:zeZ s val ρ=if isP (zad s ρ).1 125=true then (.mk 7 [] [] [],(zad s ρ).2) else (.mk 7 [] (zbv s val (s.length + 2) (zad s ρ).2 (zad s ρ).1 [] []).1.1 (zbv s val (s.length + 2) (zad s ρ).2 (zad s ρ).1 [] []).1.2,(zbv s val (s.length + 2) (zad s ρ).2 (zad s ρ).1 [] []).2):=rfl
 generalize zad s ρ=N at hO3 hB1 hT1 hrobj ⊢
 obtain ⟨T,ρ1⟩:=N
 simp only at hO3 hB1 hT1 hrobj ⊢
 unfold zfZ tkC
 simp only [sxZ,z5,z6,z7,z8,j4,j5,j6,j7,j8,j9,x9,y3,y4,y5,y6,reduceCtorEq,↓reduceIte,gn1,sn1]
 have f1:∀ x y z,OB.box 59 [.i .i64 x,.s y,.i .i64 z]=zaJ (x,y,z):=fun _ _ _ => rfl
 rw [f1]
 have hO4:=hO3.new (zaJ T)
 have hO4:zaB ((p,zaz s ρ1) :: (o3.length,zaJ T) :: (qv,jvB 7 .nil .nil) :: (qr,zvB) :: ([] ++ ([] ++ L))) (o3 ++ [zaJ T]):=hO4.perm (List.Perm.swap _ _ _)
 generalize o3.length=qt at hO4 ⊢
 generalize o3 ++ [zaJ (T.1,T.2.1,T.2.2)]=o4 at hO4 ⊢
 have st:∀ (o:List OB) (ρ':Rs) (T':Tk) (X:AV) (R1:List (Nat × OB)) (Y:AV) (R2:List (Nat × OB)),zaB ((p,zaz s ρ') :: (qt,zaJ T') :: (qv,jvB 7 X Y) :: (qr,zvB) :: (R1 ++ (R2 ++ L))) o → o[p]? = some (.box 56 [.s s,.i .i64 ρ'.pos,.i .i64 (ρ'.nodes:Int),.i .i64 ρ'.fail,.i .i64 ρ'.wh]) ∧ o[qt]? = some (.box 59 [.i .i64 T'.1,.s T'.2.1,.i .i64 T'.2.2]) ∧ o[qv]? = some (.box 25 [.i .i64 7,.s [],X,Y]) ∧ o[qr]? = some (.box 25 [.i .i64 0,.s [],.nil,.nil]) ∧ (∀ x,(o.set qr x)[qr]? = some x) ∧ (∀ x,(o.set qt x)[qt]? = some x) ∧ (∀ x,(o.set qv x)[qv]? = some x) :=
  fun o ρ' T' X R1 Y R2 h => ⟨h.get (by simp [zaz]),h.get (by simp [zaJ,tkC]),h.get (by simp [jvB]),h.get (by simp [zvB]),fun x => List.getElem?_set_self (h.lt (i:=qr) (x:=zvB) (by simp)),fun x => List.getElem?_set_self (h.lt (i:=qt) (x:=zaJ T') (by simp)),fun x => List.getElem?_set_self (h.lt (i:=qv) (x:=jvB 7 X Y) (by simp))⟩
 subst hZ0
 refine zaa fun Z0 hZ0 => ?_
 obtain ⟨e1,e2,e3,e4,s1,s2,s3⟩:=st _ _ _ _ _ _ _ hO4
 simp only [sxZ,z5,z6,z7,z8,j4,j5,j6,j7,j8,j9,x9,y3,y4,y5,y6,reduceCtorEq,↓reduceIte,e2]
 refine zai (zeq T 125 ?_)
 cases hcl:isP T 125 with
 | true =>
  rw [hcl,if_pos rfl] at hrobj
  simp only [sxZ,z5,z6,z7,z8,j4,j5,j6,j7,j8,j9,x9,y3,y4,y5,y6,reduceCtorEq,↓reduceIte,e3,e4,s1]
  exact fin hrobj (.inl ⟨rfl,rfl,rfl,rfl,rfl,rfl⟩) hO4
 | false =>
  rw [hcl,if_neg Bool.false_ne_true] at hrobj
  simp only [sxZ,z5,z6,z7,z8,j4,j5,j6,j7,j8,j9,x9,y3,y4,y5,y6,reduceCtorEq,↓reduceIte]
  subst hZ0
  refine zaa fun Z0 hZ0 => ?_
  clear e1 e2 e3 e4 s1 s2 s3
  simp only [sxZ,z5,z6,z7,z8,j4,j5,j6,j7,j8,j9,x9,y3,y4,y5,y6,reduceCtorEq,↓reduceIte]
  refine zaK (fun n o tm => ∃ (i:Nat) (ρ':Rs) (T':Tk) (ks:List (List UInt8)) (its:List JV) (X:AV) (R1:List (Nat × OB)) (Y:AV) (R2:List (Nat × OB)),n=s.length + 2 - i ∧ ks.length=i ∧ its.length=i ∧ zeZ s val ρ=(.mk 7 [] (zbv s val n ρ' T' ks its).1.1 (zbv s val n ρ' T' ks its).1.2,(zbv s val n ρ' T' ks its).2) ∧ GB s ρ' ∧ T'.2.1.length ≤ s.length ∧ (ρ'.fail=0 → i ≤ ρ'.nodes) ∧ SlP ks its X R1 Y R2 ∧ zaB ((p,zaz s ρ') :: (qt,zaJ T') :: (qv,jvB 7 X Y) :: (qr,zvB) :: (R1 ++ (R2 ++ L))) o ∧
    tm.length=98 ∧ tm[0]? = some (.p p 0) ∧ tm[1]? = some (.i .i64 (d:Int)) ∧ tm[4]? = some (.p qr 0) ∧ tm[5]? = some (.p qv 0) ∧ tm[6]? = some (.p qt 0)) (s.length + 2) ⟨0,ρ1,T,[],[],.nil,[],.nil,[],rfl,rfl,rfl,hrobj,hB1.1,hT1,fun _ => Nat.zero_le _,.inl ⟨rfl,rfl,rfl,rfl,rfl,rfl⟩,hO4,rfl,rfl,rfl,rfl,rfl,rfl⟩ ?_
  clear hO hO1 hO2 hO2' hO3 hO4 hrobj hB1 hT1 hcl
  rintro n o tm ⟨i,ρ',T',ks,its,X,R1,Y,R2,rfl,hi,hi2,hrobj,hGB,hTx,hnd,hS,hO,hlen,t0,t1,t4,t5,t6⟩
  obtain ⟨e1,e2,e3,e4,s1,s2,s3⟩:=st _ _ _ _ _ _ _ hO
  refine zaa fun Z hZ => ?_
  by_cases c1:ρ'.fail=0
  rotate_left
  ·have he:zbv s val (s.length + 2 - i) ρ' T' ks its=((ks,its),ρ'):=by
    cases s.length + 2 - i with
    | zero => rw [zbv]
    | succ m => rw [zbv,if_pos c1]
   rw [he] at hrobj
   simp only [sxZ,z5,z6,z7,z8,j4,j5,j6,j7,j8,j9,x9,y3,y4,y5,y6,reduceCtorEq,↓reduceIte,List.getElem?_set,hlen,t0,e1,c1]
   subst hZ
   subst hZ0
   simp only [sxZ,z5,z6,z7,z8,j4,j5,j6,j7,j8,j9,x9,y3,y4,y5,y6,reduceCtorEq,↓reduceIte,List.getElem?_set,hlen,t4,t5,e3,e4,s1,hS.flat.1,hS.flat.2]
   exact fin hrobj hS hO
  have hil:i ≤ s.length:=by
   have h1:=hnd c1
   have h2:=hGB.n0 c1
   have h3:=hGB.p1
   omega
  obtain ⟨m,hm⟩:∃ m,s.length + 2 - i=m + 1:=⟨s.length + 1 - i,by omega⟩
  rw [hm,zbv,if_neg (fun h => h c1)] at hrobj
  simp only at hrobj
  simp only [sxZ,z5,z6,z7,z8,j4,j5,j6,j7,j8,j9,x9,y3,y4,y5,y6,reduceCtorEq,↓reduceIte,List.getElem?_set,hlen,t0,e1,c1]
  subst hZ
  rw [zaN]
  clear s1 s2 s3 e1 e4
  refine zaa fun Z hZ => ?_
  have hk1:∀ t,t=ks → zi6 ρ' T' t=(if T'.2.1 ∈ ks then zaG (if ¬ T'.1=3 then zaG ρ' T'.2.2 140 else ρ') T'.2.2 143 else if ¬ T'.1=3 then zaG ρ' T'.2.2 140 else ρ'):=fun t h => by rw [h]; rfl
  have hk1:=hk1 ks rfl
  have hGk:=gb_key hGB T' ks
  have hnk:=rkey_n ρ' T' ks
  generalize hρa:(if ¬ T'.1=3 then zaG ρ' T'.2.2 140 else ρ')=ρa at hk1
  refine zay (fun o tm => zaB ((p,zaz s ρa) :: (qt,zaJ T') :: (qv,jvB 7 X Y) :: (qr,zvB) :: (R1 ++ (R2 ++ L))) o ∧ tm.length=98 ∧ tm[0]? = some (.p p 0) ∧ tm[1]? = some (.i .i64 (d:Int)) ∧ tm[4]? = some (.p qr 0) ∧ tm[5]? = some (.p qv 0) ∧ tm[6]? = some (.p qt 0)) ?_ ?_
  ·refine zaa fun W hW => ?_
   by_cases c3:T'.1=3
   ·rw [if_neg (fun h => h c3)] at hρa
    subst hρa
    simp only [sxZ,z5,z6,z7,z8,j4,j5,j6,j7,j8,j9,x9,y3,y4,y5,y6,reduceCtorEq,↓reduceIte,List.getElem?_set,hlen,t6,e2,c3]
    subst hW
    simp only [sxZ,z5,z6,z7,z8,j4,j5,j6,j7,j8,j9,x9,y3,y4,y5,y6,reduceCtorEq,↓reduceIte,zab,List.length_set,List.getElem?_set,hlen,t0,t1,t4,t5,t6,and_self,and_true]
    exact hO
   ·rw [if_pos c3] at hρa
    simp only [sxZ,z5,z6,z7,z8,j4,j5,j6,j7,j8,j9,x9,y3,y4,y5,y6,reduceCtorEq,↓reduceIte,List.getElem?_set,hlen,t6,e2,c3]
    subst hW
    simp only [sxZ,z5,z6,z7,z8,j4,j5,j6,j7,j8,j9,x9,y3,y4,y5,y6,reduceCtorEq,↓reduceIte,List.getElem?_set,hlen,t0,t6,e2]
    refine zai (zbK hO T'.2.2 140 fun o8 hO8 => ?_)
    rw [hρa] at hO8
    simp only [sxZ,z5,z6,z7,z8,j4,j5,j6,j7,j8,j9,x9,y3,y4,y5,y6,reduceCtorEq,↓reduceIte,zab,List.length_set,List.getElem?_set,hlen,t0,t1,t4,t5,t6,and_self,and_true]
    exact hO8
  clear hO hlen t0 t1 t4 t5 t6 e2 e3
  rintro oa tm ⟨hO,hlen,t0,t1,t4,t5,t6⟩
  subst hZ
  refine zaa fun Z hZ => ?_
  refine zay (fun o tm => zaB ((p,zaz s (zi6 ρ' T' ks)) :: (qt,zaJ T') :: (qv,jvB 7 X Y) :: (qr,zvB) :: (R1 ++ (R2 ++ L))) o ∧ tm.length=98 ∧ tm[0]? = some (.p p 0) ∧ tm[1]? = some (.i .i64 (d:Int)) ∧ tm[4]? = some (.p qr 0) ∧ tm[5]? = some (.p qv 0) ∧ tm[6]? = some (.p qt 0)) ?_ ?_
  ·obtain ⟨e1,e2,e3,e4,s1,s2,s3⟩:=st _ _ _ _ _ _ _ hO
   refine zaa fun W hW => ?_
   have hPerm:((p,zaz s ρa) :: (qt,zaJ T') :: (qv,jvB 7 X Y) :: (qr,zvB) :: (R1 ++ (R2 ++ L))).Perm (R1 ++ (R2 ++ ((p,zaz s ρa) :: (qt,zaJ T') :: (qv,jvB 7 X Y) :: (qr,zvB) :: L))):=by
    have h0:∀ (A B C:List (Nat × OB)),(A ++ (B ++ C)).Perm (B ++ (A ++ C)):=fun A B C => by
     rw [← List.append_assoc,← List.append_assoc]
     exact List.Perm.append_right C List.perm_append_comm
    refine (h0 [(p,zaz s ρa),(qt,zaJ T'),(qv,jvB 7 X Y),(qr,zvB)] R1 (R2 ++ L)).trans ?_
    exact List.Perm.append_left R1 (h0 [(p,zaz s ρa),(qt,zaJ T'),(qv,jvB 7 X Y),(qr,zvB)] R2 L)
   simp only [sxZ,z5,z6,z7,z8,j4,j5,j6,j7,j8,j9,x9,y3,y4,y5,y6,reduceCtorEq,↓reduceIte,List.getElem?_set,hlen,t5,t6,e2,e3]
   refine zai (zj8 ks its T'.2.1 (by omega) (by omega) hS.k hS.i (hO.perm hPerm) (fun hm o w ho => ?_) (fun hm o ho => ?_))
   ·have ho:=ho.perm hPerm.symm
    rw [if_pos hm] at hk1
    rw [zal]
    simp only [sxZ,z5,z6,z7,z8,j4,j5,j6,j7,j8,j9,x9,y3,y4,y5,y6,reduceCtorEq,↓reduceIte,List.getElem?_set,hlen,gn1,sn1]
    have ho2:=ho.app [OB.box 25 [.i .i64 w.kind,.s w.text,.row w.keys.length (w.keys.map .s),.row w.items.length (zac w.items)]]
    obtain ⟨e1',e2',e3',_,_,_,_⟩:=st _ _ _ _ _ _ _ ho2
    subst hW
    simp only [sxZ,z5,z6,z7,z8,j4,j5,j6,j7,j8,j9,x9,y3,y4,y5,y6,reduceCtorEq,↓reduceIte,List.getElem?_set,hlen,t0,t6,e2']
    refine zai (zbK ho2 T'.2.2 143 fun o8 hO8 => ?_)
    rw [← hk1] at hO8
    simp only [sxZ,z5,z6,z7,z8,j4,j5,j6,j7,j8,j9,x9,y3,y4,y5,y6,reduceCtorEq,↓reduceIte,zab,List.length_set,List.getElem?_set,hlen,t0,t1,t4,t5,t6,and_self,and_true]
    exact hO8
   ·have ho:=ho.perm hPerm.symm
    rw [if_neg hm] at hk1
    simp only [sxZ,z5,z6,z7,z8,j4,j5,j6,j7,j8,j9,x9,y3,y4,y5,y6,reduceCtorEq,↓reduceIte,List.getElem?_set,hlen,gn1,sn1]
    have ho2:=ho.app [OB.box 25 [.i .i64 0,.s [],.nil,.nil]]
    subst hW
    rw [← hk1] at ho2
    simp only [sxZ,z5,z6,z7,z8,j4,j5,j6,j7,j8,j9,x9,y3,y4,y5,y6,reduceCtorEq,↓reduceIte,zab,List.length_set,List.getElem?_set,hlen,t0,t1,t4,t5,t6,and_self,and_true]
    exact ho2
  clear hO hlen t0 t1 t4 t5 t6 hk1 hρa
  generalize zi6 ρ' T' ks=ρk at hrobj hGk hnk
  rintro ob tm ⟨hO,hlen,t0,t1,t4,t5,t6⟩
  subst hZ
  refine zaa fun Z hZ => ?_
  obtain ⟨e1,e2,e3,e4,s1,s2,s3⟩:=st _ _ _ _ _ _ _ hO
  simp only [sxZ,z5,z6,z7,z8,j4,j5,j6,j7,j8,j9,x9,y3,y4,y5,y6,reduceCtorEq,↓reduceIte,List.getElem?_set,hlen,t6,e2]
  refine zbD (fun tm => tm.length=98 ∧ tm[0]? = some (.p p 0) ∧ tm[1]? = some (.i .i64 (d:Int)) ∧ tm[4]? = some (.p qr 0) ∧ tm[5]? = some (.p qv 0) ∧ tm[6]? = some (.p qt 0) ∧ tm[9]? = some (.s T'.2.1)) ?_ ?_
  ·simp only [sxZ,z5,z6,z7,z8,j4,j5,j6,j7,j8,j9,x9,y3,y4,y5,y6,reduceCtorEq,↓reduceIte,List.length_set,List.getElem?_set,hlen,t0,t1,t4,t5,t6,and_self]
  clear hlen t0 t1 t4 t5 t6
  rintro tm ⟨hlen,t0,t1,t4,t5,t6,t9⟩
  subst hZ
  refine zaa fun Z hZ => ?_
  refine zaa fun W0 hW0 => ?_
  simp only [sxZ,z5,z6,z7,z8,j4,j5,j6,j7,j8,j9,x9,y3,y4,y5,y6,reduceCtorEq,↓reduceIte,List.getElem?_set,hlen,t0]
  refine zai (zbY (by omega) hO fun o6 hO6 => ?_)
  have hB_ρ2:=za4 hGk
  have hT_ρ2:=zbl hGk
  have hn_ρ2:=zaW s ρk
  have hz_ρ2:=zbF s ρk
  generalize zad s ρk=N at hO6 hB_ρ2 hT_ρ2 hn_ρ2 hz_ρ2 hrobj ⊢
  obtain ⟨T2,ρ2⟩:=N
  simp only at hO6 hB_ρ2 hT_ρ2 hn_ρ2 hz_ρ2 hrobj ⊢
  obtain ⟨e1,e2,e3,e4,s1,s2,s3⟩:=st _ _ _ _ _ _ _ hO6
  unfold zfZ tkC
  simp only [sxZ,z5,z6,z7,z8,j4,j5,j6,j7,j8,j9,x9,y3,y4,y5,y6,reduceCtorEq,↓reduceIte,List.getElem?_set,hlen,t6,e2,s2]
  rw [f1]
  have hO7:zaB ((p,zaz s ρ2) :: (qt,zaJ T2) :: (qv,jvB 7 X Y) :: (qr,zvB) :: (R1 ++ (R2 ++ L))) (o6.set qt (zaJ (T2.1,T2.2.1,T2.2.2))):=zaB.set (A:=[(p,zaz s ρ2)]) (zaJ T2) hO6
  generalize o6.set qt (zaJ (T2.1,T2.2.1,T2.2.2))=o7 at hO7 ⊢
  refine zbD (fun tm => tm.length=98 ∧ tm[0]? = some (.p p 0) ∧ tm[1]? = some (.i .i64 (d:Int)) ∧ tm[4]? = some (.p qr 0) ∧ tm[5]? = some (.p qv 0) ∧ tm[6]? = some (.p qt 0) ∧ tm[9]? = some (.s T'.2.1)) ?_ ?_
  ·simp only [sxZ,z5,z6,z7,z8,j4,j5,j6,j7,j8,j9,x9,y3,y4,y5,y6,reduceCtorEq,↓reduceIte,List.length_set,List.getElem?_set,hlen,t0,t1,t4,t5,t6,t9,and_self]
  clear hO6 hO hlen t0 t1 t4 t5 t6 t9 e1 e2 e3 e4 s1 s2 s3
  rintro tm ⟨hlen,t0,t1,t4,t5,t6,t9⟩
  have hO:=hO7
  clear hO7
  subst hW0
  refine zay (fun o tm => zaB ((p,zaz s (zaM ρ2 T2 58)) :: (qt,zaJ T2) :: (qv,jvB 7 X Y) :: (qr,zvB) :: (R1 ++ (R2 ++ L))) o ∧ tm.length=98 ∧ tm[0]? = some (.p p 0) ∧ tm[1]? = some (.i .i64 (d:Int)) ∧ tm[4]? = some (.p qr 0) ∧ tm[5]? = some (.p qv 0) ∧ tm[6]? = some (.p qt 0) ∧ tm[9]? = some (.s T'.2.1)) ?_ ?_
  ·obtain ⟨e1,e2,e3,e4,s1,s2,s3⟩:=st _ _ _ _ _ _ _ hO
   refine zaa fun W hW => ?_
   by_cases c3:ρ2.fail=0
   rotate_left
   ·have hw:zaM ρ2 T2 58=ρ2:=by unfold zaM; rw [if_neg (fun h => c3 h.1)]
    simp only [sxZ,z5,z6,z7,z8,j4,j5,j6,j7,j8,j9,x9,y3,y4,y5,y6,reduceCtorEq,↓reduceIte,List.getElem?_set,hlen,t0,e1,c3]
    subst hW
    simp only [sxZ,z5,z6,z7,z8,j4,j5,j6,j7,j8,j9,x9,y3,y4,y5,y6,reduceCtorEq,↓reduceIte,zab,List.length_set,List.getElem?_set,hlen,t0,t1,t4,t5,t6,t9,hw,and_self,and_true]
    exact hO
   ·simp only [sxZ,z5,z6,z7,z8,j4,j5,j6,j7,j8,j9,x9,y3,y4,y5,y6,reduceCtorEq,↓reduceIte,List.getElem?_set,hlen,t0,t6,e1,e2,c3]
    refine zai (zeq T2 58 ?_)
    cases h44:isP T2 58 with
    | true =>
     have hw:zaM ρ2 T2 58=ρ2:=by unfold zaM; rw [if_neg (fun h => by rw [h44] at h; cases h.2)]
     simp only [sxZ,z5,z6,z7,z8,j4,j5,j6,j7,j8,j9,x9,y3,y4,y5,y6,reduceCtorEq,↓reduceIte,List.getElem?_set,hlen]
     subst hW
     simp only [sxZ,z5,z6,z7,z8,j4,j5,j6,j7,j8,j9,x9,y3,y4,y5,y6,reduceCtorEq,↓reduceIte,zab,List.length_set,List.getElem?_set,hlen,t0,t1,t4,t5,t6,t9,hw,and_self,and_true]
     exact hO
    | false =>
     have hw:zaM ρ2 T2 58=zaG ρ2 T2.2.2 140:=by unfold zaM; rw [if_pos ⟨c3,h44⟩]
     simp only [sxZ,z5,z6,z7,z8,j4,j5,j6,j7,j8,j9,x9,y3,y4,y5,y6,reduceCtorEq,↓reduceIte,List.getElem?_set,hlen]
     subst hW
     simp only [sxZ,z5,z6,z7,z8,j4,j5,j6,j7,j8,j9,x9,y3,y4,y5,y6,reduceCtorEq,↓reduceIte,List.getElem?_set,hlen,t0,t6,e2]
     refine zai (zbK hO T2.2.2 140 fun o8 hO8 => ?_)
     simp only [sxZ,z5,z6,z7,z8,j4,j5,j6,j7,j8,j9,x9,y3,y4,y5,y6,reduceCtorEq,↓reduceIte,zab,List.length_set,List.getElem?_set,hlen,t0,t1,t4,t5,t6,t9,hw,and_self,and_true]
     exact hO8
  clear hO hlen t0 t1 t4 t5 t6 t9
  rintro oc tm ⟨hO,hlen,t0,t1,t4,t5,t6,t9⟩
  have hG3:=zdJ hB_ρ2.1 T2 58
  have hn3:=zdt ρ2 T2 58
  have hz3:=zdu ρ2 T2 58
  generalize zaM ρ2 T2 58=ρ3 at hO hG3 hn3 hz3 hrobj
  subst hZ
  refine zaa fun Z hZ => ?_
  simp only [sxZ,z5,z6,z7,z8,j4,j5,j6,j7,j8,j9,x9,y3,y4,y5,y6,reduceCtorEq,↓reduceIte,List.getElem?_set,hlen,t0]
  refine zai (zbY (by omega) hO fun o6 hO6 => ?_)
  have hB4:=za4 hG3
  have hT4:=zbl hG3
  have hn4:=zaW s ρ3
  have hz4:=zbF s ρ3
  generalize zad s ρ3=N at hO6 hB4 hT4 hn4 hz4 hrobj ⊢
  obtain ⟨T4,ρ4⟩:=N
  simp only at hO6 hB4 hT4 hn4 hz4 hrobj ⊢
  have hvc:=fun {objs:List OB} {K:List OB → AV → Prop} {L:List (Nat × OB)} (h1) (h2) (h3) => hv (objs:=objs) (K:=K) (L:=L) (ρ:=ρ4) T4 hB4.1 hB4.2 hT4 h1 h2 h3
  have hg5:=hg ρ4 T4 hB4.1 hB4.2
  have hn5:=hn ρ4 T4
  have hz5:=hvz ρ4 T4
  generalize val ρ4 T4=a at hvc hg5 hn5 hz5 hrobj
  obtain ⟨v,ρ5⟩:=a
  simp only at hvc hg5 hn5 hz5 hrobj
  obtain ⟨c0,c1',c2,c3,hcv⟩:∃ c0 c1 c2 c3,zaj v=[c0,c1,c2,c3]:=⟨_,_,_,_,zal v⟩
  have hcf:(AV.agg [c0,c1',c2,c3]).flat=true:=by
   have:=zal v
   rw [hcv] at this
   injection this with q0 this
   injection this with q1 this
   injection this with q2 this
   injection this with q3 _
   subst q0 q1 q2 q3
   rfl
  have hCL:zaA ((p,zaz s ρ4) :: (qt,zaJ T2) :: (qv,jvB 7 X Y) :: (qr,zvB) :: (R1 ++ (R2 ++ L))):=zfd hS.k hS.i hC
  unfold zfZ tkC
  simp only [sxZ,z5,z6,z7,z8,j4,j5,j6,j7,j8,j9,x9,y3,y4,y5,y6,reduceCtorEq,↓reduceIte,List.getElem?_set,hlen,t0,t1]
  refine zai (hvc hCL hO6 fun o7 hO7 => ?_)
  rw [hcv]
  simp only [sxZ,z5,z6,z7,z8,j4,j5,j6,j7,j8,j9,x9,y3,y4,y5,y6,reduceCtorEq,↓reduceIte,List.getElem?_set,hlen,gn1,sn1,hcf]
  have hO8:=hO7.new (.box 25 [c0,c1',c2,c3])
  generalize o7.length=qi at hO8 ⊢
  generalize o7 ++ [OB.box 25 [c0,c1',c2,c3]]=o8 at hO8 ⊢
  refine zbD (fun tm => tm.length=98 ∧ tm[0]? = some (.p p 0) ∧ tm[1]? = some (.i .i64 (d:Int)) ∧ tm[4]? = some (.p qr 0) ∧ tm[5]? = some (.p qv 0) ∧ tm[6]? = some (.p qt 0) ∧ tm[9]? = some (.s T'.2.1) ∧ tm[10]? = some (.p qi 0)) ?_ ?_
  ·simp only [sxZ,z5,z6,z7,z8,j4,j5,j6,j7,j8,j9,x9,y3,y4,y5,y6,reduceCtorEq,↓reduceIte,List.length_set,List.getElem?_set,hlen,t0,t1,t4,t5,t6,t9,and_self]
  clear hO hO6 hO7 hlen t0 t1 t4 t5 t6 t9
  rintro tm ⟨hlen,t0,t1,t4,t5,t6,t9,t10⟩
  subst hZ
  refine zaa fun Z hZ => ?_
  have hO8p:zaB ((p,zaz s ρ5) :: (qt,zaJ T2) :: (qv,jvB 7 X Y) :: (qr,zvB) :: (R1 ++ (R2 ++ L))) o8:=hO8.sub (List.sublist_cons_self _ _)
  obtain ⟨e1,e2,e3,e4,s1,s2,s3⟩:=st _ _ _ _ _ _ _ hO8p
  have ei:=hO8.get (i:=qi) (x:=.box 25 [c0,c1',c2,c3]) (by simp)
  refine zay (fun o tm => ∃ X' R1' Y' R2',SlP (ks ++ [T'.2.1]) (its ++ [v]) X' R1' Y' R2' ∧ zaB ((p,zaz s ρ5) :: (qt,zaJ T2) :: (qv,jvB 7 X' Y') :: (qr,zvB) :: (R1' ++ (R2' ++ L))) o ∧ tm.length=98 ∧ tm[0]? = some (.p p 0) ∧ tm[1]? = some (.i .i64 (d:Int)) ∧ tm[4]? = some (.p qr 0) ∧ tm[5]? = some (.p qv 0) ∧ tm[6]? = some (.p qt 0)) ?_ ?_
  ·rcases hS with ⟨z1,z2,rfl,rfl,rfl,rfl⟩ | ⟨b1,g1,b2,g2,rfl,rfl,rfl,rfl⟩
   ·have hlq:=(List.getElem?_eq_some_iff.1 e3).1
    have hli:=(List.getElem?_eq_some_iff.1 ei).1
    have n1:¬ qv=o8.length:=by omega
    have n2:¬ qi=o8.length:=by omega
    have h1:∀ x,(o8 ++ [x])[qv]? = some (.box 25 [.i .i64 7,.s [],.nil,.nil]):=fun x => by rw [List.getElem?_append_left hlq]; exact e3
    have h2:∀ x,(o8 ++ [x])[qi]? = some (.box 25 [c0,c1',c2,c3]):=fun x => by rw [List.getElem?_append_left hli]; exact ei
    have h3:∀ x y,(o8 ++ [x] ++ [y])[qv]? = some (.box 25 [.i .i64 7,.s [],.nil,.nil]):=fun x y => by rw [List.getElem?_append_left (by simp; omega)]; exact h1 x
    have h4:∀ x y z,((o8 ++ [x] ++ [y]).set qv z)[qv]? = some z:=fun x y z => List.getElem?_set_self (by simp; omega)
    subst z1 z2
    simp only [sxZ,z5,z6,z7,z8,j4,j5,j6,j7,j8,j9,x9,y3,y4,y5,y6,reduceCtorEq,↓reduceIte,List.getElem?_set,hlen,t5,t9,t10,e3,ei,gn1,sn1,h1,h2,h3,h4,n1,n2,zab,List.length_set,List.set_set,t0,t1,t4,t6,and_self,and_true,not_false_eq_true,true_and]
    have hN:=(hO8p.new (.orow 9 1 0 1 [AV.s T'.2.1])).new (.orow 25 4 0 1 [c0,c1',c2,c3])
    have elen:(o8 ++ [OB.orow 9 1 0 1 [AV.s T'.2.1]]).length=o8.length + 1:=by simp
    rw [elen] at hN
    have hR:=hN.set (A:=[(o8.length + 1,OB.orow 25 4 0 1 [c0,c1',c2,c3]),(o8.length,OB.orow 9 1 0 1 [AV.s T'.2.1]),(p,zaz s ρ5),(qt,zaJ T2)]) (jvB 7 (.orow o8.length 0) (.orow (o8.length + 1) 0))
    refine ⟨_,[(o8.length,OB.orow 9 1 0 1 [AV.s T'.2.1])],_,[(o8.length + 1,OB.orow 25 4 0 1 [c0,c1',c2,c3])],.inr ⟨_,_,_,_,rfl,rfl,rfl,by rw [zav,zan,hcv]; rfl⟩,hR.perm ?_⟩
    refine (List.perm_append_comm (l₁:=[(o8.length + 1,OB.orow 25 4 0 1 [c0,c1',c2,c3]),(o8.length,OB.orow 9 1 0 1 [AV.s T'.2.1])]) (l₂:=[(p,zaz s ρ5),(qt,zaJ T2),(qv,jvB 7 (.orow o8.length 0) (.orow (o8.length + 1) 0)),(qr,zvB)])).append_right L |>.trans ?_
    exact List.Perm.cons _ (List.Perm.cons _ (List.Perm.cons _ (List.Perm.cons _ (List.Perm.swap _ _ _))))
   ·have eb1:=hO8.get (i:=b1) (x:=.orow 9 1 g1 ks.length (ks.map .s)) (by simp)
    have eb2:=hO8.get (i:=b2) (x:=.orow 25 4 g2 its.length (zac its)) (by simp)
    have hlq:=(List.getElem?_eq_some_iff.1 e3).1
    have hl1:=(List.getElem?_eq_some_iff.1 eb1).1
    have hl2:=(List.getElem?_eq_some_iff.1 eb2).1
    have hnd8:=hO8.1
    simp only [List.map_cons,List.map_append,List.map_nil,List.nodup_cons,List.cons_append,List.nil_append,List.mem_cons,List.mem_append,List.not_mem_nil,or_false,not_or] at hnd8
    have n1:¬ qv=b1:=hnd8.2.2.2.1.2.1
    have n2:¬ qi=b1:=hnd8.1.2.2.2.2.1
    have n3:¬ b1=b2:=hnd8.2.2.2.2.2.1.1
    have n4:¬ qv=b2:=hnd8.2.2.2.1.2.2.1
    have n1':¬ b1=qv:=fun h => n1 h.symm
    have n2':¬ b1=qi:=fun h => n2 h.symm
    have n4':¬ b2=qv:=fun h => n4 h.symm
    have h0:∀ x,(o8.set b1 x)[b1]? = some x:=fun x => List.getElem?_set_self hl1
    have h1:∀ x,(o8.set b1 x)[qv]? = some (.box 25 [.i .i64 7,.s [],.orow b1 g1,.orow b2 g2]):=fun x => by rw [List.getElem?_set_ne n1']; exact e3
    have h2:∀ x,(o8.set b1 x)[qi]? = some (.box 25 [c0,c1',c2,c3]):=fun x => by rw [List.getElem?_set_ne n2']; exact ei
    have h5:∀ x,(o8.set b1 x)[b2]? = some (.orow 25 4 g2 its.length (zac its)):=fun x => by rw [List.getElem?_set_ne n3]; exact eb2
    have h3:∀ x y,((o8.set b1 x).set b2 y)[qv]? = some (.box 25 [.i .i64 7,.s [],.orow b1 g1,.orow b2 g2]):=fun x y => by rw [List.getElem?_set_ne n4']; exact h1 x
    have h4:∀ x y z,(((o8.set b1 x).set b2 y).set qv z)[qv]? = some z:=fun x y z => List.getElem?_set_self (by simp; omega)
    have hjl:=zaH its
    simp only [sxZ,z5,z6,z7,z8,j4,j5,j6,j7,j8,j9,x9,y3,y4,y5,y6,reduceCtorEq,↓reduceIte,List.getElem?_set,hlen,t5,t9,t10,e3,ei,eb1,h0,h1,h2,h3,h4,h5,n1,n2,zab,List.length_set,List.set_set,t0,t1,t4,t6,and_self,and_true,not_false_eq_true,true_and]
    refine ⟨⟨by omega,by omega⟩,⟨by omega,by omega⟩,?_⟩
    have hN:=hO8p.set (A:=[(p,zaz s ρ5),(qt,zaJ T2),(qv,jvB 7 (.orow b1 g1) (.orow b2 g2)),(qr,zvB)]) (.orow 9 1 (g1 + 1) (ks.length + 1) (ks.map AV.s ++ [AV.s T'.2.1]))
    have hN:=hN.set (A:=[(p,zaz s ρ5),(qt,zaJ T2),(qv,jvB 7 (.orow b1 g1) (.orow b2 g2)),(qr,zvB),(b1,OB.orow 9 1 (g1 + 1) (ks.length + 1) (ks.map AV.s ++ [AV.s T'.2.1]))]) (.orow 25 4 (g2 + 1) (its.length + 1) (zac its ++ [c0,c1',c2,c3]))
    have hR:=hN.set (A:=[(p,zaz s ρ5),(qt,zaJ T2)]) (jvB 7 (.orow b1 (g1 + 1)) (.orow b2 (g2 + 1)))
    exact ⟨_,[(b1,OB.orow 9 1 (g1 + 1) (ks.length + 1) (ks.map AV.s ++ [AV.s T'.2.1]))],_,[(b2,OB.orow 25 4 (g2 + 1) (its.length + 1) (zac its ++ [c0,c1',c2,c3]))],.inr ⟨_,_,_,_,rfl,by rw [List.map_append,List.length_append]; rfl,rfl,by rw [zbL,zav,zan,hcv,List.length_append]; rfl⟩,hR⟩
  clear hO8 hO8p hS hlen t0 t1 t4 t5 t6 t9 t10 e1 e2 e3 e4 s1 s2 s3 ei hCL hvc hv hg hn hcf hB hGB hTx
  rintro oc tm ⟨X',R1',Y',R2',hS,hO,hlen,t0,t1,t4,t5,t6⟩
  subst hZ
  refine zaa fun Z hZ => ?_
  simp only [sxZ,z5,z6,z7,z8,j4,j5,j6,j7,j8,j9,x9,y3,y4,y5,y6,reduceCtorEq,↓reduceIte,List.getElem?_set,hlen,t0]
  refine zai (zbY (by omega) hO fun o6 hO6 => ?_)
  have hB_ρ6:=za4 hg5
  have hT_ρ6:=zbl hg5
  have hn_ρ6:=zaW s ρ5
  have hz_ρ6:=zbF s ρ5
  generalize zad s ρ5=N at hO6 hB_ρ6 hT_ρ6 hn_ρ6 hz_ρ6 hrobj ⊢
  obtain ⟨T6,ρ6⟩:=N
  simp only at hO6 hB_ρ6 hT_ρ6 hn_ρ6 hz_ρ6 hrobj ⊢
  obtain ⟨e1,e2,e3,e4,s1,s2,s3⟩:=st _ _ _ _ _ _ _ hO6
  unfold zfZ tkC
  simp only [sxZ,z5,z6,z7,z8,j4,j5,j6,j7,j8,j9,x9,y3,y4,y5,y6,reduceCtorEq,↓reduceIte,List.getElem?_set,hlen,t6,e2,s2]
  rw [f1]
  have hO7:zaB ((p,zaz s ρ6) :: (qt,zaJ T6) :: (qv,jvB 7 X' Y') :: (qr,zvB) :: (R1' ++ (R2' ++ L))) (o6.set qt (zaJ (T6.1,T6.2.1,T6.2.2))):=zaB.set (A:=[(p,zaz s ρ6)]) (zaJ T6) hO6
  generalize o6.set qt (zaJ (T6.1,T6.2.1,T6.2.2))=o7 at hO7 ⊢
  refine zbD (fun tm => tm.length=98 ∧ tm[0]? = some (.p p 0) ∧ tm[1]? = some (.i .i64 (d:Int)) ∧ tm[4]? = some (.p qr 0) ∧ tm[5]? = some (.p qv 0) ∧ tm[6]? = some (.p qt 0)) ?_ ?_
  ·simp only [sxZ,z5,z6,z7,z8,j4,j5,j6,j7,j8,j9,x9,y3,y4,y5,y6,reduceCtorEq,↓reduceIte,List.length_set,List.getElem?_set,hlen,t0,t1,t4,t5,t6,and_self]
  clear hO6 hO hlen t0 t1 t4 t5 t6 e1 e2 e3 e4 s1 s2 s3
  rintro tm ⟨hlen,t0,t1,t4,t5,t6⟩
  have hO:=hO7
  clear hO7
  subst hZ
  refine zaa fun Z hZ => ?_
  obtain ⟨e1,e2,e3,e4,s1,s2,s3⟩:=st _ _ _ _ _ _ _ hO
  simp only [sxZ,z5,z6,z7,z8,j4,j5,j6,j7,j8,j9,x9,y3,y4,y5,y6,reduceCtorEq,↓reduceIte,List.getElem?_set,hlen,t6,e2]
  refine zai (zeq T6 125 ?_)
  cases hcl:isP T6 125 with
  | true =>
   rw [hcl,if_pos rfl] at hrobj
   simp only [sxZ,z5,z6,z7,z8,j4,j5,j6,j7,j8,j9,x9,y3,y4,y5,y6,reduceCtorEq,↓reduceIte,List.getElem?_set,hlen,t4,t5,e3,e4,s1,hS.flat.1,hS.flat.2]
   exact fin hrobj hS hO
  | false =>
  rw [hcl,if_neg Bool.false_ne_true] at hrobj
  simp only [sxZ,z5,z6,z7,z8,j4,j5,j6,j7,j8,j9,x9,y3,y4,y5,y6,reduceCtorEq,↓reduceIte,List.getElem?_set,hlen]
  refine zbD (fun tm => tm.length=98 ∧ tm[0]? = some (.p p 0) ∧ tm[1]? = some (.i .i64 (d:Int)) ∧ tm[4]? = some (.p qr 0) ∧ tm[5]? = some (.p qv 0) ∧ tm[6]? = some (.p qt 0)) ?_ ?_
  ·simp only [sxZ,z5,z6,z7,z8,j4,j5,j6,j7,j8,j9,x9,y3,y4,y5,y6,reduceCtorEq,↓reduceIte,List.length_set,List.getElem?_set,hlen,t0,t1,t4,t5,t6,and_self]
  clear hlen t0 t1 t4 t5 t6 e1 e2 e3 e4 s1 s2 s3
  rintro tm ⟨hlen,t0,t1,t4,t5,t6⟩
  subst hZ
  refine zaa fun Z hZ => ?_
  refine zay (fun o tm => zaB ((p,zaz s (zaM ρ6 T6 44)) :: (qt,zaJ T6) :: (qv,jvB 7 X' Y') :: (qr,zvB) :: (R1' ++ (R2' ++ L))) o ∧ tm.length=98 ∧ tm[0]? = some (.p p 0) ∧ tm[1]? = some (.i .i64 (d:Int)) ∧ tm[4]? = some (.p qr 0) ∧ tm[5]? = some (.p qv 0) ∧ tm[6]? = some (.p qt 0)) ?_ ?_
  ·obtain ⟨e1,e2,e3,e4,s1,s2,s3⟩:=st _ _ _ _ _ _ _ hO
   refine zaa fun W hW => ?_
   by_cases c3:ρ6.fail=0
   rotate_left
   ·have hw:zaM ρ6 T6 44=ρ6:=by unfold zaM; rw [if_neg (fun h => c3 h.1)]
    simp only [sxZ,z5,z6,z7,z8,j4,j5,j6,j7,j8,j9,x9,y3,y4,y5,y6,reduceCtorEq,↓reduceIte,List.getElem?_set,hlen,t0,e1,c3]
    subst hW
    simp only [sxZ,z5,z6,z7,z8,j4,j5,j6,j7,j8,j9,x9,y3,y4,y5,y6,reduceCtorEq,↓reduceIte,zab,List.length_set,List.getElem?_set,hlen,t0,t1,t4,t5,t6,hw,and_self,and_true]
    exact hO
   ·simp only [sxZ,z5,z6,z7,z8,j4,j5,j6,j7,j8,j9,x9,y3,y4,y5,y6,reduceCtorEq,↓reduceIte,List.getElem?_set,hlen,t0,t6,e1,e2,c3]
    refine zai (zeq T6 44 ?_)
    cases h44:isP T6 44 with
    | true =>
     have hw:zaM ρ6 T6 44=ρ6:=by unfold zaM; rw [if_neg (fun h => by rw [h44] at h; cases h.2)]
     simp only [sxZ,z5,z6,z7,z8,j4,j5,j6,j7,j8,j9,x9,y3,y4,y5,y6,reduceCtorEq,↓reduceIte,List.getElem?_set,hlen]
     subst hW
     simp only [sxZ,z5,z6,z7,z8,j4,j5,j6,j7,j8,j9,x9,y3,y4,y5,y6,reduceCtorEq,↓reduceIte,zab,List.length_set,List.getElem?_set,hlen,t0,t1,t4,t5,t6,hw,and_self,and_true]
     exact hO
    | false =>
     have hw:zaM ρ6 T6 44=zaG ρ6 T6.2.2 140:=by unfold zaM; rw [if_pos ⟨c3,h44⟩]
     simp only [sxZ,z5,z6,z7,z8,j4,j5,j6,j7,j8,j9,x9,y3,y4,y5,y6,reduceCtorEq,↓reduceIte,List.getElem?_set,hlen]
     subst hW
     simp only [sxZ,z5,z6,z7,z8,j4,j5,j6,j7,j8,j9,x9,y3,y4,y5,y6,reduceCtorEq,↓reduceIte,List.getElem?_set,hlen,t0,t6,e2]
     refine zai (zbK hO T6.2.2 140 fun o8 hO8 => ?_)
     simp only [sxZ,z5,z6,z7,z8,j4,j5,j6,j7,j8,j9,x9,y3,y4,y5,y6,reduceCtorEq,↓reduceIte,zab,List.length_set,List.getElem?_set,hlen,t0,t1,t4,t5,t6,hw,and_self,and_true]
     exact hO8
  clear hO hlen t0 t1 t4 t5 t6
  rintro oc tm ⟨hO,hlen,t0,t1,t4,t5,t6⟩
  have hG7:=zdJ hB_ρ6.1 T6 44
  have hn7:=zdt ρ6 T6 44
  have hz7:=zdu ρ6 T6 44
  generalize zaM ρ6 T6 44=ρ7 at hO hG7 hn7 hz7 hrobj
  subst hZ
  simp only [sxZ,z5,z6,z7,z8,j4,j5,j6,j7,j8,j9,x9,y3,y4,y5,y6,reduceCtorEq,↓reduceIte,List.getElem?_set,hlen,t0]
  refine zai (zbY (by omega) hO fun o9 hO9 => ?_)
  have hB8:=za4 hG7
  have hT8:=zbl hG7
  have hn8:=zaW s ρ7
  have hz8:=zbF s ρ7
  generalize zad s ρ7=N at hO9 hB8 hT8 hn8 hz8 hrobj ⊢
  obtain ⟨T8,ρ8⟩:=N
  simp only at hO9 hB8 hT8 hn8 hz8 hrobj ⊢
  obtain ⟨e1,e2,e3,e4,s1,s2,s3⟩:=st _ _ _ _ _ _ _ hO9
  unfold zfZ tkC
  simp only [sxZ,z5,z6,z7,z8,j4,j5,j6,j7,j8,j9,x9,y3,y4,y5,y6,reduceCtorEq,↓reduceIte,List.getElem?_set,hlen,t6,e2,s2]
  rw [f1]
  have hO10:zaB ((p,zaz s ρ8) :: (qt,zaJ T8) :: (qv,jvB 7 X' Y') :: (qr,zvB) :: (R1' ++ (R2' ++ L))) (o9.set qt (zaJ (T8.1,T8.2.1,T8.2.2))):=zaB.set (A:=[(p,zaz s ρ8)]) (zaJ T8) hO9
  generalize o9.set qt (zaJ (T8.1,T8.2.1,T8.2.2))=o10 at hO10 ⊢
  have zz:∀ {a b:Rs},zjo a b → b.fail=0 → a.fail=0:=fun {a b} h hb => by
   by_cases c:a.fail=0
   ·exact c
   ·exact absurd ((h c).1.symm.trans hb) c
  refine ⟨m,by omega,i + 1,ρ8,T8,ks ++ [T'.2.1],its ++ [v],X',R1',Y',R2',by omega,by rw [List.length_append,hi]; rfl,by rw [List.length_append,hi2]; rfl,hrobj,hB8.1,hT8,fun hf => ?_,hS,hO10,?_⟩
  ·have q7:=zz hz8 hf
   have q6:=zz hz7 q7
   have q5:=zz hz_ρ6 q6
   have q4:=zz hz5 q5
   have:=hn5 q5
   have:=hnd c1
   omega
  ·simp only [sxZ,z5,z6,z7,z8,j4,j5,j6,j7,j8,j9,x9,y3,y4,y5,y6,reduceCtorEq,↓reduceIte,List.length_set,List.getElem?_set,hlen,t0,t1,t4,t5,t6,and_self]
end
end
section
attribute [local irreducible] run
theorem zjg {L L':List (Nat × OB)} (h:zaA L) (hm:∀ y,y ∈ L' ↔ y ∈ L):zaA L':=fun y hy b g n xs hb => h y ((hm y).1 hy) b g n xs fun z hz => hb z ((hm z).2 hz)
theorem zdL {x:Nat × OB} {i T:Nat} {cs:List AV} {L:List (Nat × OB)} (h:zaA (x :: L)) (hp:zaq cs=true):zaA (x :: (i,.box T cs) :: L) :=
 zjg (zcA (i:=i) (T:=T) h hp) fun y => by simp only [List.mem_cons]; exact ⟨fun h => by rcases h with h | h | h <;> simp [h],fun h => by rcases h with h | h | h <;> simp [h]⟩
theorem den_leaf {k:Int} {x:List UInt8} {G:Gh} {I:Imm} {y:Value} (h:Den G I (.agg [.i .i64 k,.s x,.nil,.nil]) y):Den G I (.agg (zaj (.mk k x [] []))) y:=by
 rw [zaj,zan]
 simp only [zah,Den] at h ⊢
 obtain ⟨zs,rfl,⟨z0,m0,rfl,q0,z1,m1,rfl,q1,z2,m2,rfl,q2,z3,m3,rfl,q3,q4⟩,hz⟩:=h
 refine ⟨_,rfl,⟨_,_,rfl,q0,_,_,rfl,q1,_,_,rfl,?_,_,_,rfl,?_,q4⟩,hz⟩
 ·exact ⟨none,0,[],q2,⟨Nat.le_refl _,fun ad h => by cases h⟩,rfl,by simp,by simp⟩
 ·exact ⟨none,0,[],q3,⟨Nat.le_refl _,fun ad h => by cases h⟩,rfl,by simp,by simp⟩
def Res (K:List OB → AV → Prop) (v:JV) (o:List OB) (r:AV):Prop:=(∀ G I y,Den G I r y → Den G I (.agg (zaj v)) y) ∧ K o (.agg (zaj v))
theorem zda {K:List OB → AV → Prop} {k:Int} {x:List UInt8} {o:List OB} (h:K o (.agg (zaj (.mk k x [] [])))):Res K (.mk k x [] []) o (.agg [.i .i64 k,.s x,.nil,.nil]):=⟨fun _ _ _ hy => den_leaf hy,h⟩
section
variable [Tabs Try.prog] [Utf Try.prog] {p:Nat} {s:List UInt8}
theorem value_k (hs:s.length ≤ 1048576):∀ f d,f + d=65 → d ≤ 64 → ValK s p d (fun ρ t => zas s f ρ t d):=by
 intro f
 induction f with
 | zero => intro d hd hd2; omega
 | succ f ih =>
  intro d hd hd2
  unfold ValK
  intro objs K L ρ t hB hT hTx hC hO hk
  dsimp only at hk
  refine jres (.agg (zaj (zas s (f + 1) ρ t d).1)) ?_
  show zag _ _ _ _ (Res K (zas s (f + 1) ρ t d).1)
  refine zbg is_ref14_parser_value fun C _ => ?_
  obtain ⟨k5,k4,kw,k6,k7,kw2⟩:=vk_kind (t:=t)
  rw [c_ref14_parser_value]
  refine zaa fun Z hZ => ?_
  unfold zfZ tkC
  simp only [sxZ,z5,z6,z7,z8,j4,j5,j6,j7,j8,j9,x9,y3,y4,y5,y6,reduceCtorEq,↓reduceIte]
  have hO1:=(hO.new (zaJ t)).new zvB
  have elen:(objs ++ [zaJ t]).length=objs.length + 1:=by simp
  rw [elen] at hO1
  unfold zaJ tkC zvB at hO1
  generalize objs.length=qt at hO1 ⊢
  generalize objs ++ [OB.box 59 [.i .i64 t.1,.s t.2.1,.i .i64 t.2.2]] ++ [OB.box 25 [.i .i64 0,.s [],.nil,.nil]]=o at hO1 ⊢
  have hO1:zaB ((p,zaz s ρ) :: (qt,zaJ t) :: (qt + 1,zvB) :: L) o:=hO1.perm ((List.reverse_perm [(p,zaz s ρ),(qt,zaJ t),(qt + 1,zvB)]).append_right L)
  generalize qt + 1=qr at hO1 ⊢
  have fin:∀ (o:List OB) (ρ':Rs) (x:OB) (M:List (Nat × OB)),zaB ((p,zaz s ρ') :: (qt,zaJ t) :: (qr,zvB) :: (M ++ L)) o → zaB ((p,zaz s ρ') :: L) (o.set qr x):=fun o ρ' x M h => (zaB.set (A:=[(p,zaz s ρ'),(qt,zaJ t)]) x h).sub ((((List.sublist_append_right M L).trans (List.sublist_cons_self _ _)).trans (List.sublist_cons_self _ _)).cons_cons _)
  have st:∀ (o:List OB) (ρ':Rs) (M:List (Nat × OB)),zaB ((p,zaz s ρ') :: (qt,zaJ t) :: (qr,zvB) :: (M ++ L)) o → o[p]? = some (.box 56 [.s s,.i .i64 ρ'.pos,.i .i64 (ρ'.nodes:Int),.i .i64 ρ'.fail,.i .i64 ρ'.wh]) ∧ o[qt]? = some (.box 59 [.i .i64 t.1,.s t.2.1,.i .i64 t.2.2]) ∧ o[qr]? = some (.box 25 [.i .i64 0,.s [],.nil,.nil]) ∧ (∀ x,(o.set qr x)[qr]? = some x) :=
   fun o ρ' M h => ⟨h.get (by simp [zaz]),h.get (by simp [zaJ,tkC]),h.get (by simp [zvB]),fun x => List.getElem?_set_self (h.lt (i:=qr) (x:=zvB) (by simp))⟩
  have hO1:zaB ((p,zaz s ρ) :: (qt,zaJ t) :: (qr,zvB) :: ([] ++ L)) o:=hO1
  obtain ⟨e1,e2,e3,s1⟩:=st _ _ _ hO1
  subst hZ
  refine zaa fun Z hZ => ?_
  refine zay (fun o' tm => o=o' ∧ tm.length=117 ∧ tm[0]? = some (.p p 0) ∧ tm[2]? = some (.i .i64 (d:Int)) ∧ tm[4]? = some (.p qt 0) ∧ tm[6]? = some (.p qr 0) ∧ tm[7]? = some (.b (!decide (vkE t=0)))) ?_ ?_
  ·by_cases a3:t.1=3
   ·have hv:¬ vkE t=0:=by have:=k5.2 a3; omega
    simp only [sxZ,z5,z6,z7,z8,j4,j5,j6,j7,j8,j9,x9,y3,y4,y5,y6,reduceCtorEq,↓reduceIte,e2,a3,zab,hv,decide_false,Bool.not_false,and_self]
   by_cases a4:t.1=4
   ·have hv:¬ vkE t=0:=by have:=k4.2 a4; omega
    simp only [sxZ,z5,z6,z7,z8,j4,j5,j6,j7,j8,j9,x9,y3,y4,y5,y6,reduceCtorEq,↓reduceIte,e2,a3,a4,zab,hv,decide_false,Bool.not_false,and_self]
   by_cases a5:t.1=5
   ·have hv:¬ vkE t=0:=by have:=kw.2 a5; omega
    simp only [sxZ,z5,z6,z7,z8,j4,j5,j6,j7,j8,j9,x9,y3,y4,y5,y6,reduceCtorEq,↓reduceIte,e2,a3,a4,a5,zab,hv,decide_false,Bool.not_false,and_self]
   simp only [sxZ,z5,z6,z7,z8,j4,j5,j6,j7,j8,j9,x9,y3,y4,y5,y6,reduceCtorEq,↓reduceIte,e2,a3,a4,a5]
   refine zai (zeq t 91 ?_)
   cases h91:isP t 91 with
   | true =>
    have hv:¬ vkE t=0:=by have:=k6.2 h91; omega
    simp only [sxZ,z5,z6,z7,z8,j4,j5,j6,j7,j8,j9,x9,y3,y4,y5,y6,reduceCtorEq,↓reduceIte,zab,hv,decide_false,Bool.not_false,and_self]
   | false =>
    simp only [sxZ,z5,z6,z7,z8,j4,j5,j6,j7,j8,j9,x9,y3,y4,y5,y6,reduceCtorEq,↓reduceIte,e2]
    refine zai (zeq t 123 ?_)
    cases h123:isP t 123 with
    | true =>
     have hv:¬ vkE t=0:=by have:=k7.2 h123; omega
     simp only [sxZ,z5,z6,z7,z8,j4,j5,j6,j7,j8,j9,x9,y3,y4,y5,y6,reduceCtorEq,↓reduceIte,zab,hv,decide_false,Bool.not_false,and_self]
    | false =>
     have hv:vkE t=0:=by
      have n5:¬ vkE t=5:=fun h => a3 (k5.1 h)
      have n4:¬ vkE t=4:=fun h => a4 (k4.1 h)
      have nw:¬ (vkE t=1 ∨ vkE t=2 ∨ vkE t=3):=fun h => a5 (kw.1 h)
      have n6:¬ vkE t=6:=fun h => by rw [k6.1 h] at h91; cases h91
      have n7:¬ vkE t=7:=fun h => by rw [k7.1 h] at h123; cases h123
      have:=vk_val t
      omega
     simp only [sxZ,z5,z6,z7,z8,j4,j5,j6,j7,j8,j9,x9,y3,y4,y5,y6,reduceCtorEq,↓reduceIte,zab,hv,decide_true,Bool.not_true,and_self]
  rintro o' tm ⟨rfl,hlen,t0,t2,t4,t6,t7⟩
  subst hZ
  refine zaa fun Z hZ => ?_
  by_cases c0:ρ.fail=0
  rotate_left
  ·rw [zas,if_pos c0] at hk ⊢
   simp only [sxZ,z5,z6,z7,z8,j4,j5,j6,j7,j8,j9,x9,y3,y4,y5,y6,reduceCtorEq,↓reduceIte,List.getElem?_set,hlen,t0,t6,e1,e3,c0,s1]
   exact zda (hk _ (fin _ _ _ _ hO1))
  rw [zas,if_neg (fun h => h c0)] at hk ⊢
  simp only [sxZ,z5,z6,z7,z8,j4,j5,j6,j7,j8,j9,x9,y3,y4,y5,y6,reduceCtorEq,↓reduceIte,List.getElem?_set,hlen,t0,e1,c0]
  subst hZ
  refine zaa fun Z hZ => ?_
  by_cases cv:vkE t=0
  ·rw [if_pos cv] at hk ⊢
   simp only [cv,decide_true,Bool.not_true] at t7
   simp only [sxZ,z5,z6,z7,z8,j4,j5,j6,j7,j8,j9,x9,y3,y4,y5,y6,reduceCtorEq,↓reduceIte,List.getElem?_set,hlen,t0,t4,t7,e2]
   refine zai (zbK hO1 t.2.2 140 fun o2 hO2 => ?_)
   obtain ⟨e1,e2,e3,s1⟩:=st _ _ _ hO2
   simp only [sxZ,z5,z6,z7,z8,j4,j5,j6,j7,j8,j9,x9,y3,y4,y5,y6,reduceCtorEq,↓reduceIte,List.getElem?_set,hlen,t6,e3,s1]
   exact zda (hk _ (fin _ _ _ _ hO2))
  rw [if_neg cv] at hk ⊢
  simp only [cv,decide_false,Bool.not_false] at t7
  simp only [sxZ,z5,z6,z7,z8,j4,j5,j6,j7,j8,j9,x9,y3,y4,y5,y6,reduceCtorEq,↓reduceIte,List.getElem?_set,hlen,t7]
  subst hZ
  refine zaa fun Z hZ => ?_
  by_cases c2:t.1=2 ∧ d=64
  ·rw [if_pos c2] at hk ⊢
   have c2b:(d:Int)=64:=by omega
   have c2a:=c2.1
   simp only [sxZ,z5,z6,z7,z8,j4,j5,j6,j7,j8,j9,x9,y3,y4,y5,y6,reduceCtorEq,↓reduceIte,List.getElem?_set,hlen,t0,t2,t4,e2,c2a,c2b]
   refine zai (zbK hO1 t.2.2 141 fun o2 hO2 => ?_)
   obtain ⟨e1,e2,e3,s1⟩:=st _ _ _ hO2
   simp only [sxZ,z5,z6,z7,z8,j4,j5,j6,j7,j8,j9,x9,y3,y4,y5,y6,reduceCtorEq,↓reduceIte,List.getElem?_set,hlen,t6,e3,s1]
   exact zda (hk _ (fin _ _ _ _ hO2))
  rw [if_neg c2] at hk ⊢
  refine zay (fun o' tm => o=o' ∧ tm.length=117 ∧ tm[0]? = some (.p p 0) ∧ tm[2]? = some (.i .i64 (d:Int)) ∧ tm[4]? = some (.p qt 0) ∧ tm[6]? = some (.p qr 0)) ?_ ?_
  ·by_cases c2a:t.1=2
   ·have c2b:¬ (d:Int)=64:=fun h => c2 ⟨c2a,by omega⟩
    simp only [sxZ,z5,z6,z7,z8,j4,j5,j6,j7,j8,j9,x9,y3,y4,y5,y6,reduceCtorEq,↓reduceIte,List.getElem?_set,hlen,t0,t2,t4,t6,e2,c2a,c2b,zab,List.length_set,and_self]
   ·simp only [sxZ,z5,z6,z7,z8,j4,j5,j6,j7,j8,j9,x9,y3,y4,y5,y6,reduceCtorEq,↓reduceIte,List.getElem?_set,hlen,t0,t2,t4,t6,e2,c2a,zab,List.length_set,and_self]
  clear hlen t0 t2 t4 t6 t7
  rintro o' tm ⟨rfl,hlen,t0,t2,t4,t6⟩
  subst hZ
  refine zaa fun Z hZ => ?_
  have hO2:=hO1.new (.box 25 [.i .i64 5,.s t.2.1,.nil,.nil])
  have hO2:zaB ((p,zaz s ρ) :: (qt,zaJ t) :: (qr,zvB) :: ([(o.length,.box 25 [.i .i64 5,.s t.2.1,.nil,.nil])] ++ L)) (o ++ [.box 25 [.i .i64 5,.s t.2.1,.nil,.nil]]):=hO2.perm (List.perm_middle (l₁:=[(p,zaz s ρ),(qt,zaJ t),(qr,zvB)])).symm
  simp only [sxZ,z5,z6,z7,z8,j4,j5,j6,j7,j8,j9,x9,y3,y4,y5,y6,reduceCtorEq,↓reduceIte,List.getElem?_set,hlen,t4,e2,gn1,sn1]
  have hqv:¬ o.length=qt ∧ ¬ o.length=p:=by
   have h1:=hO1.lt (i:=qt) (x:=zaJ t) (by simp)
   have h2:=hO1.lt (i:=p) (x:=zaz s ρ) (by simp)
   omega
  generalize o.length=qv at hO2 hqv ⊢
  generalize o ++ [OB.box 25 [.i .i64 5,.s t.2.1,.nil,.nil]]=o2 at hO2 ⊢
  refine zbD (fun tm => tm.length=117 ∧ tm[0]? = some (.p p 0) ∧ tm[2]? = some (.i .i64 (d:Int)) ∧ tm[4]? = some (.p qt 0) ∧ tm[6]? = some (.p qr 0) ∧ tm[8]? = some (.p qv 0)) ?_ ?_
  ·simp only [sxZ,z5,z6,z7,z8,j4,j5,j6,j7,j8,j9,x9,y3,y4,y5,y6,reduceCtorEq,↓reduceIte,List.length_set,List.getElem?_set,hlen,t0,t2,t4,t6,and_self]
  clear hlen t0 t2 t4 t6 e1 e2 e3 s1 hO1
  rintro tm ⟨hlen,t0,t2,t4,t6,t8⟩
  subst hZ
  refine zaa fun Z hZ => ?_
  have hcnt:zaL ρ t=(if 20000 < (if t.1=4 ∧ ¬ (zbZ t.2.1).1=0 then zaG ρ t.2.2 (zbZ t.2.1).1 else ρ).nodes + 1 then zaG ⟨(if t.1=4 ∧ ¬ (zbZ t.2.1).1=0 then zaG ρ t.2.2 (zbZ t.2.1).1 else ρ).pos,(if t.1=4 ∧ ¬ (zbZ t.2.1).1=0 then zaG ρ t.2.2 (zbZ t.2.1).1 else ρ).nodes + 1,(if t.1=4 ∧ ¬ (zbZ t.2.1).1=0 then zaG ρ t.2.2 (zbZ t.2.1).1 else ρ).fail,(if t.1=4 ∧ ¬ (zbZ t.2.1).1=0 then zaG ρ t.2.2 (zbZ t.2.1).1 else ρ).wh⟩ t.2.2 142 else ⟨(if t.1=4 ∧ ¬ (zbZ t.2.1).1=0 then zaG ρ t.2.2 (zbZ t.2.1).1 else ρ).pos,(if t.1=4 ∧ ¬ (zbZ t.2.1).1=0 then zaG ρ t.2.2 (zbZ t.2.1).1 else ρ).nodes + 1,(if t.1=4 ∧ ¬ (zbZ t.2.1).1=0 then zaG ρ t.2.2 (zbZ t.2.1).1 else ρ).fail,(if t.1=4 ∧ ¬ (zbZ t.2.1).1=0 then zaG ρ t.2.2 (zbZ t.2.1).1 else ρ).wh⟩):=rfl
  have hxn:(if t.1=4 ∧ ¬ (zbZ t.2.1).1=0 then zaG ρ t.2.2 (zbZ t.2.1).1 else ρ).nodes=ρ.nodes:=by
   split
   ·exact zcW _ _ _
   ·rfl
  generalize hx:(if t.1=4 ∧ ¬ (zbZ t.2.1).1=0 then zaG ρ t.2.2 (zbZ t.2.1).1 else ρ)=x at hcnt hxn
  refine zay (fun o tm => zaB ((p,zaz s x) :: (qt,zaJ t) :: (qr,zvB) :: ([(qv,.box 25 [.i .i64 (if t.1=4 then 4 else 5),.s (if t.1=4 then (zbZ t.2.1).2 else t.2.1),.nil,.nil])] ++ L)) o ∧ tm.length=117 ∧ tm[0]? = some (.p p 0) ∧ tm[2]? = some (.i .i64 (d:Int)) ∧ tm[4]? = some (.p qt 0) ∧ tm[6]? = some (.p qr 0) ∧ tm[8]? = some (.p qv 0)) ?_ ?_
  ·obtain ⟨e1,e2,e3,s1⟩:=st _ _ _ hO2
   by_cases a4:t.1=4
   rotate_left
   ·rw [if_neg (fun h => a4 h.1)] at hx
    subst hx
    simp only [sxZ,z5,z6,z7,z8,j4,j5,j6,j7,j8,j9,x9,y3,y4,y5,y6,reduceCtorEq,↓reduceIte,List.getElem?_set,hlen,t0,t2,t4,t6,t8,e2,a4,zab,List.length_set,and_self,and_true,if_false]
    exact hO2
   have eqv:=hO2.get (i:=qv) (x:=.box 25 [.i .i64 5,.s t.2.1,.nil,.nil]) (by simp)
   simp only [sxZ,z5,z6,z7,z8,j4,j5,j6,j7,j8,j9,x9,y3,y4,y5,y6,reduceCtorEq,↓reduceIte,List.getElem?_set,hlen,t4,e2,a4]
   refine zai (zjN t.2.1 (by omega) ?_)
   by_cases cn:(zbZ t.2.1).1=0
   ·rw [if_neg (fun h => h.2 cn)] at hx
    subst hx
    simp only [sxZ,z5,z6,z7,z8,j4,j5,j6,j7,j8,j9,x9,y3,y4,y5,y6,reduceCtorEq,↓reduceIte,List.getElem?_set,hlen,t0,t2,t4,t6,t8,cn,eqv,zab,List.length_set,and_self,and_true,if_pos]
    exact zaB.set (A:=[(p,zaz s ρ),(qt,zaJ t),(qr,zvB)]) (.box 25 [.i .i64 4,.s (zbZ t.2.1).2,.nil,.nil]) hO2
   ·rw [if_pos ⟨a4,cn⟩] at hx
    simp only [sxZ,z5,z6,z7,z8,j4,j5,j6,j7,j8,j9,x9,y3,y4,y5,y6,reduceCtorEq,↓reduceIte,List.getElem?_set,hlen,t0,t4,e2,cn]
    refine zai (zbK hO2 t.2.2 (zbZ t.2.1).1 fun o3 hO3 => ?_)
    rw [hx] at hO3
    have eqv:=hO3.get (i:=qv) (x:=.box 25 [.i .i64 5,.s t.2.1,.nil,.nil]) (by simp)
    simp only [sxZ,z5,z6,z7,z8,j4,j5,j6,j7,j8,j9,x9,y3,y4,y5,y6,reduceCtorEq,↓reduceIte,List.getElem?_set,hlen,t0,t2,t4,t6,t8,eqv,zab,List.length_set,and_self,and_true,if_pos]
    exact zaB.set (A:=[(p,zaz s x),(qt,zaJ t),(qr,zvB)]) (.box 25 [.i .i64 4,.s (zbZ t.2.1).2,.nil,.nil]) hO3
  clear hlen t0 t2 t4 t6 t8 hO2 hx
  generalize hkk:(if t.1=4 then (4:Int) else 5)=kk
  generalize hxx:(if t.1=4 then (zbZ t.2.1).2 else t.2.1)=xx
  rintro o3 tm ⟨hO3,hlen,t0,t2,t4,t6,t8⟩
  subst hZ
  refine zaa fun Z hZ => ?_
  have f2:∀ b:Rs,OB.box 56 [.s s,.i .i64 b.pos,.i .i64 ((b.nodes:Int) + 1),.i .i64 b.fail,.i .i64 b.wh]=zaz s ⟨b.pos,b.nodes + 1,b.fail,b.wh⟩:=fun _ => rfl
  have hnb:=hB.n1
  refine zay (fun o tm => zaB ((p,zaz s (zaL ρ t)) :: (qt,zaJ t) :: (qr,zvB) :: ([(qv,.box 25 [.i .i64 kk,.s xx,.nil,.nil])] ++ L)) o ∧ tm.length=117 ∧ tm[0]? = some (.p p 0) ∧ tm[2]? = some (.i .i64 (d:Int)) ∧ tm[4]? = some (.p qt 0) ∧ tm[6]? = some (.p qr 0) ∧ tm[8]? = some (.p qv 0)) ?_ ?_
  ·obtain ⟨e1,e2,e3,s1⟩:=st _ _ _ hO3
   refine zaa fun W hW => ?_
   simp only [sxZ,z5,z6,z7,z8,j4,j5,j6,j7,j8,j9,x9,y3,y4,y5,y6,reduceCtorEq,↓reduceIte,List.getElem?_set,hlen,t0,e1]
   refine ⟨⟨by omega,by omega⟩,?_⟩
   rw [f2]
   have hO4:=zaB.set (A:=[]) (zaz s ⟨x.pos,x.nodes + 1,x.fail,x.wh⟩) hO3
   have hO4:zaB ((p,zaz s ⟨x.pos,x.nodes + 1,x.fail,x.wh⟩) :: (qt,zaJ t) :: (qr,zvB) :: ([(qv,.box 25 [.i .i64 kk,.s xx,.nil,.nil])] ++ L)) (o3.set p (zaz s ⟨x.pos,x.nodes + 1,x.fail,x.wh⟩)):=hO4
   generalize o3.set p (zaz s ⟨x.pos,x.nodes + 1,x.fail,x.wh⟩)=o4 at hO4 ⊢
   obtain ⟨e1,e2,e3,s1⟩:=st _ _ _ hO4
   subst hW
   by_cases c7:20000 < x.nodes + 1
   ·rw [if_pos c7] at hcnt
    have c7':(20000:Int) < ((x.nodes + 1:Nat):Int):=by omega
    simp only [sxZ,z5,z6,z7,z8,j4,j5,j6,j7,j8,j9,x9,y3,y4,y5,y6,reduceCtorEq,↓reduceIte,List.getElem?_set,hlen,t0,t2,t4,t6,e1,e2,c7']
    refine zai (zbK hO4 t.2.2 142 fun o5 hO5 => ?_)
    rw [← hcnt] at hO5
    simp only [sxZ,z5,z6,z7,z8,j4,j5,j6,j7,j8,j9,x9,y3,y4,y5,y6,reduceCtorEq,↓reduceIte,List.getElem?_set,hlen,t0,t2,t4,t6,t8,zab,List.length_set,and_self,and_true]
    exact hO5
   ·rw [if_neg c7] at hcnt
    have c7':¬ (20000:Int) < ((x.nodes + 1:Nat):Int):=by omega
    rw [← hcnt] at hO4
    simp only [sxZ,z5,z6,z7,z8,j4,j5,j6,j7,j8,j9,x9,y3,y4,y5,y6,reduceCtorEq,↓reduceIte,List.getElem?_set,hlen,t0,t2,t4,t6,t8,e1,c7',zab,List.length_set,and_self,and_true]
    exact hO4
  clear hO3 hlen t0 t2 t4 t6 t8 hcnt hxn x
  rintro o4 tm ⟨hO4,hlen,t0,t2,t4,t6,t8⟩
  have hGc:=zii hB hT (vk_end cv) c0
  have hGv:GV s (fun ρ t => zas s f ρ t (d + 1)):=zeb s f (d + 1)
  generalize zaL ρ t=ρc at hO4 hGc hk ⊢
  obtain ⟨e1,e2,e3,s1⟩:=st _ _ _ hO4
  subst hZ
  refine zaa fun Z hZ => ?_
  rw [zaN]
  have hCa:zaA ((p,zaz s ρc) :: (qt,zaJ t) :: (qr,zvB) :: ([(qv,.box 25 [.i .i64 kk,.s xx,.nil,.nil])] ++ L)):=zdL (zdL (zdL (zeN hC) rfl) rfl) rfl
  by_cases a5:t.1=5
  ·rw [if_pos a5] at hk ⊢
   simp only [sxZ,z5,z6,z7,z8,j4,j5,j6,j7,j8,j9,x9,y3,y4,y5,y6,reduceCtorEq,↓reduceIte,List.getElem?_set,hlen,t4,e2,a5]
   refine zai (rword_k t.2.1 ?_)
   simp only [sxZ,z5,z6,z7,z8,j4,j5,j6,j7,j8,j9,x9,y3,y4,y5,y6,reduceCtorEq,↓reduceIte,List.getElem?_set,hlen,t6,e3,s1]
   exact zda (hk _ (fin _ _ _ _ hO4))
  rw [if_neg a5] at hk ⊢
  simp only [sxZ,z5,z6,z7,z8,j4,j5,j6,j7,j8,j9,x9,y3,y4,y5,y6,reduceCtorEq,↓reduceIte,List.getElem?_set,hlen,t4,e2,a5]
  refine zai (zeq t 91 ?_)
  cases h91:isP t 91 with
  | true =>
   have h2:=(zig h91).1
   have hd3:d < 64:=by
    rcases Nat.lt_or_ge d 64 with h | h
    ·exact h
    ·exact absurd ⟨h2,by omega⟩ c2
   have hval:ValK s p (d + 1) (fun ρ t => zas s f ρ t (d + 1)):=ih (d + 1) (by omega) (by omega)
   have hn1:=fun ρ t => (zfr s f (d + 1)).2 ρ t (by omega)
   rw [h91] at hk
   rw [if_pos rfl] at hk ⊢
   simp only [sxZ,z5,z6,z7,z8,j4,j5,j6,j7,j8,j9,x9,y3,y4,y5,y6,reduceCtorEq,↓reduceIte,List.getElem?_set,hlen,t0,t2]
   refine ⟨⟨by omega,by omega⟩,?_⟩
   rw [show ((d:Int) + 1)=((d + 1:Nat):Int) from rfl]
   refine zai (array_k hval hGv hn1 hs hGc hCa hO4 fun o9 hO9 => ?_)
   obtain ⟨e1,e2,e3,s1⟩:=st _ _ _ hO9
   generalize (zeR s (fun ρ t => zas s f ρ t (d + 1)) ρc).1=v at hk ⊢
   have hk2:=hk _ (fin _ _ (.box 25 (zaj v)) _ hO9)
   have hjc:=zal v
   rw [hjc] at hk2 ⊢
   simp only [sxZ,z5,z6,z7,z8,j4,j5,j6,j7,j8,j9,x9,y3,y4,y5,y6,reduceCtorEq,↓reduceIte,List.getElem?_set,hlen,t6,e3,s1]
   exact ⟨fun G I y hy => by rw [hjc]; exact hy,by rw [hjc]; exact hk2⟩
  | false =>
  rw [h91] at hk
  rw [if_neg Bool.false_ne_true] at hk ⊢
  simp only [sxZ,z5,z6,z7,z8,j4,j5,j6,j7,j8,j9,x9,y3,y4,y5,y6,reduceCtorEq,↓reduceIte,List.getElem?_set,hlen,t4,e2]
  refine zai (zeq t 123 ?_)
  cases h123:isP t 123 with
  | true =>
   have h2:=(zig h123).1
   have hd3:d < 64:=by
    rcases Nat.lt_or_ge d 64 with h | h
    ·exact h
    ·exact absurd ⟨h2,by omega⟩ c2
   have hval:ValK s p (d + 1) (fun ρ t => zas s f ρ t (d + 1)):=ih (d + 1) (by omega) (by omega)
   have hn1:=fun ρ t => (zfr s f (d + 1)).2 ρ t (by omega)
   rw [h123] at hk
   rw [if_pos rfl] at hk ⊢
   simp only [sxZ,z5,z6,z7,z8,j4,j5,j6,j7,j8,j9,x9,y3,y4,y5,y6,reduceCtorEq,↓reduceIte,List.getElem?_set,hlen,t0,t2]
   refine ⟨⟨by omega,by omega⟩,?_⟩
   rw [show ((d:Int) + 1)=((d + 1:Nat):Int) from rfl]
   refine zai (object_k hval hGv hn1 (fun ρ t => zgT s f ρ t (d + 1)) hs hGc hCa hO4 fun o9 hO9 => ?_)
   obtain ⟨e1,e2,e3,s1⟩:=st _ _ _ hO9
   generalize (zeZ s (fun ρ t => zas s f ρ t (d + 1)) ρc).1=v at hk ⊢
   have hk2:=hk _ (fin _ _ (.box 25 (zaj v)) _ hO9)
   have hjc:=zal v
   rw [hjc] at hk2 ⊢
   simp only [sxZ,z5,z6,z7,z8,j4,j5,j6,j7,j8,j9,x9,y3,y4,y5,y6,reduceCtorEq,↓reduceIte,List.getElem?_set,hlen,t6,e3,s1]
   exact ⟨fun G I y hy => by rw [hjc]; exact hy,by rw [hjc]; exact hk2⟩
  | false =>
  rw [h123] at hk
  rw [if_neg Bool.false_ne_true] at hk ⊢
  have eqv:=hO4.get (i:=qv) (x:=.box 25 [.i .i64 kk,.s xx,.nil,.nil]) (by simp)
  simp only [sxZ,z5,z6,z7,z8,j4,j5,j6,j7,j8,j9,x9,y3,y4,y5,y6,reduceCtorEq,↓reduceIte,List.getElem?_set,hlen]
  subst hZ
  simp only [sxZ,z5,z6,z7,z8,j4,j5,j6,j7,j8,j9,x9,y3,y4,y5,y6,reduceCtorEq,↓reduceIte,List.getElem?_set,hlen,t6,t8,eqv,e3,s1]
  have hkv:(if t.1=4 then (JV.mk 4 (zbZ t.2.1).2 [] [],ρc) else (JV.mk 5 t.2.1 [] [],ρc))=(JV.mk kk xx [] [],ρc):=by
   rw [← hkk,← hxx]
   split <;> rfl
  rw [hkv] at hk ⊢
  exact zda (hk _ (fin _ _ _ _ hO4))
end
end
section
attribute [local irreducible] run
section
variable [Tabs Try.prog] [Utf Try.prog] {objs:List OB} {K:List OB → AV → Prop}
theorem zfy (s:List UInt8) (hs:s.length ≤ 1048576) (hk:K objs (zeS (zbq s))):zag Try.prog 10 [.s s] objs K:=by
 refine jres (zeS (zbq s)) ?_
 refine za8 is_ref14_Parse rfl fun C _ => ?_
 have hr:zbq s=(if 1048576 < s.length then (jvZ,0,142) else
   if ¬ (if (zad s (zas s 65 (zad s rs0).2 (zad s rs0).1 0).2).2.fail=0 ∧ ¬ (zad s (zas s 65 (zad s rs0).2 (zad s rs0).1 0).2).1.1=1 then zaG (zad s (zas s 65 (zad s rs0).2 (zad s rs0).1 0).2).2 (zad s (zas s 65 (zad s rs0).2 (zad s rs0).1 0).2).1.2.2 140 else (zad s (zas s 65 (zad s rs0).2 (zad s rs0).1 0).2).2).fail=0 then (jvZ,(if (zad s (zas s 65 (zad s rs0).2 (zad s rs0).1 0).2).2.fail=0 ∧ ¬ (zad s (zas s 65 (zad s rs0).2 (zad s rs0).1 0).2).1.1=1 then zaG (zad s (zas s 65 (zad s rs0).2 (zad s rs0).1 0).2).2 (zad s (zas s 65 (zad s rs0).2 (zad s rs0).1 0).2).1.2.2 140 else (zad s (zas s 65 (zad s rs0).2 (zad s rs0).1 0).2).2).wh,(if (zad s (zas s 65 (zad s rs0).2 (zad s rs0).1 0).2).2.fail=0 ∧ ¬ (zad s (zas s 65 (zad s rs0).2 (zad s rs0).1 0).2).1.1=1 then zaG (zad s (zas s 65 (zad s rs0).2 (zad s rs0).1 0).2).2 (zad s (zas s 65 (zad s rs0).2 (zad s rs0).1 0).2).1.2.2 140 else (zad s (zas s 65 (zad s rs0).2 (zad s rs0).1 0).2).2).fail) else ((zas s 65 (zad s rs0).2 (zad s rs0).1 0).1,(s.length:Int),0)):=rfl
 rw [if_neg (by omega)] at hr
 have finE:∀ {a e:Int},zbq s=(jvZ,a,e) → ((∀ G I y,Den G I (.tup [.agg zvC,.i .i64 a,.i .i64 e]) y → Den G I (zeS (zbq s)) y) ∧ K objs (zeS (zbq s))):=fun {a e} h => ⟨fun G I y hy => by rw [h]; exact den_zv hy,hk⟩
 have c1:¬ (1048576:Int) < s.length:=by omega
 rw [c_ref14_Parse]
 refine zaa fun Z hZ => ?_
 simp only [sxZ,z5,z6,z7,z8,j4,j5,j6,j7,j8,j9,x9,y3,y4,y5,y6,reduceCtorEq,↓reduceIte]
 subst hZ
 refine zaa fun Z hZ => ?_
 simp only [sxZ,z5,z6,z7,z8,j4,j5,j6,j7,j8,j9,x9,y3,y4,y5,y6,reduceCtorEq,↓reduceIte,c1]
 subst hZ
 refine zaa fun Z hZ => ?_
 simp only [sxZ,z5,z6,z7,z8,j4,j5,j6,j7,j8,j9,x9,y3,y4,y5,y6,reduceCtorEq,↓reduceIte]
 have hO:zaB ((1,zaz s rs0) :: [(0,zvB)]) [zvB,zaz s rs0]:=⟨by simp,fun x hx => by
  simp only [List.mem_cons,List.not_mem_nil,or_false] at hx
  rcases hx with rfl | rfl <;> rfl⟩
 have hCn:zaA []:=fun y hy => by cases hy
 have hC:∀ ρ,zaA ((1,zaz s ρ) :: [(0,zvB)]):=fun ρ => zcA (zcA hCn rfl) rfl
 have hB:GB s rs0:=⟨by decide,by show (0:Int) ≤ _; omega,fun _ => by decide,by show (0:Int) ≤ _; omega⟩
 have f0:[OB.box 25 [.i .i64 0,.s [],.nil,.nil],OB.box 56 [.s s,.i .i64 0,.i .i64 0,.i .i64 0,.i .i64 0]]=[zvB,zaz s rs0]:=rfl
 rw [f0]
 generalize [zvB,zaz s rs0]=o0 at hO ⊢
 subst hZ
 refine zaa fun Z hZ => ?_
 simp only [sxZ,z5,z6,z7,z8,j4,j5,j6,j7,j8,j9,x9,y3,y4,y5,y6,reduceCtorEq,↓reduceIte]
 refine zai (zbY (by omega) hO fun o1 hO1 => ?_)
 have hB1:=za4 hB
 have hT1:=zbl hB
 generalize zad s rs0=N at hO1 hB1 hT1 hr ⊢
 obtain ⟨T1,ρ1⟩:=N
 simp only at hO1 hB1 hT1 hr ⊢
 have hval:ValK s 1 0 (fun ρ t => zas s 65 ρ t 0):=value_k hs 65 0 rfl (by decide)
 have hvc:=fun {objs:List OB} {K:List OB → AV → Prop} {L:List (Nat × OB)} (h1) (h2) (h3) => hval (objs:=objs) (K:=K) (L:=L) (ρ:=ρ1) T1 hB1.1 hB1.2 hT1 h1 h2 h3
 have hg2:=zeb s 65 0 ρ1 T1 hB1.1 hB1.2
 simp only at hvc hg2
 generalize zas s 65 ρ1 T1 0=R at hvc hg2 hr
 obtain ⟨v,ρ2⟩:=R
 simp only at hvc hg2 hr
 unfold zfZ tkC
 simp only [sxZ,z5,z6,z7,z8,j4,j5,j6,j7,j8,j9,x9,y3,y4,y5,y6,reduceCtorEq,↓reduceIte]
 refine zai (hvc (hC _) hO1 fun o2 hO2 => ?_)
 have hjc:=zal v
 rw [hjc]
 simp only [sxZ,z5,z6,z7,z8,j4,j5,j6,j7,j8,j9,x9,y3,y4,y5,y6,reduceCtorEq,↓reduceIte,gn1,sn1]
 have hO3:=hO2.new (.box 25 (zaj v))
 rw [hjc] at hO3
 have hO3:zaB ((1,zaz s ρ2) :: (o2.length,.box 25 [.i .i64 v.kind,.s v.text,.row v.keys.length (v.keys.map .s),.row v.items.length (zac v.items)]) :: [(0,zvB)]) (o2 ++ [.box 25 [.i .i64 v.kind,.s v.text,.row v.keys.length (v.keys.map .s),.row v.items.length (zac v.items)]]):=hO3.perm (List.Perm.swap _ _ _)
 generalize o2.length=qv at hO3 ⊢
 generalize o2 ++ [OB.box 25 [.i .i64 v.kind,.s v.text,.row v.keys.length (v.keys.map .s),.row v.items.length (zac v.items)]]=o3 at hO3 ⊢
 subst hZ
 refine zaa fun Z hZ => ?_
 refine zaa fun W hW => ?_
 simp only [sxZ,z5,z6,z7,z8,j4,j5,j6,j7,j8,j9,x9,y3,y4,y5,y6,reduceCtorEq,↓reduceIte]
 refine zai (zbY (by omega) hO3 fun o4 hO4 => ?_)
 generalize zad s ρ2=N at hO4 hr ⊢
 obtain ⟨T3,ρ3⟩:=N
 simp only at hO4 hr ⊢
 unfold zfZ tkC
 simp only [sxZ,z5,z6,z7,z8,j4,j5,j6,j7,j8,j9,x9,y3,y4,y5,y6,reduceCtorEq,↓reduceIte,gn1,sn1]
 have f1:∀ x y z,OB.box 59 [.i .i64 x,.s y,.i .i64 z]=zaJ (x,y,z):=fun _ _ _ => rfl
 rw [f1]
 have hO5:=hO4.new (zaJ T3)
 have hO5:zaB ((1,zaz s ρ3) :: (o4.length,zaJ T3) :: (qv,.box 25 [.i .i64 v.kind,.s v.text,.row v.keys.length (v.keys.map .s),.row v.items.length (zac v.items)]) :: [(0,zvB)]) (o4 ++ [zaJ (T3.1,T3.2.1,T3.2.2)]):=hO5.perm (List.Perm.swap _ _ _)
 generalize o4.length=qt at hO5 ⊢
 generalize o4 ++ [zaJ (T3.1,T3.2.1,T3.2.2)]=o5 at hO5 ⊢
 subst hW
 have e1:=hO5.get (i:=1) (x:=zaz s ρ3) (by simp)
 have e2:=hO5.get (i:=qt) (x:=zaJ T3) (by simp)
 unfold zaz at e1
 unfold zaJ tkC at e2
 generalize hρ:(if ρ3.fail=0 ∧ ¬ T3.1=1 then zaG ρ3 T3.2.2 140 else ρ3)=ρ4 at hr
 refine zay (fun o tm => zaB ((1,zaz s ρ4) :: (qt,zaJ T3) :: (qv,.box 25 [.i .i64 v.kind,.s v.text,.row v.keys.length (v.keys.map .s),.row v.items.length (zac v.items)]) :: [(0,zvB)]) o ∧ tm.length=52 ∧ tm[0]? = some (.s s) ∧ tm[2]? = some (.p 0 0) ∧ tm[5]? = some (.p 1 0) ∧ tm[6]? = some (.p qv 0)) ?_ ?_
 ·by_cases c3:ρ3.fail=0
  ·by_cases c4:T3.1=1
   ·rw [if_neg (fun h => h.2 c4)] at hρ
    subst hρ
    simp only [sxZ,z5,z6,z7,z8,j4,j5,j6,j7,j8,j9,x9,y3,y4,y5,y6,reduceCtorEq,↓reduceIte,e1,e2,c3,c4,zab,and_self,and_true]
    exact hO5
   ·rw [if_pos ⟨c3,c4⟩] at hρ
    simp only [sxZ,z5,z6,z7,z8,j4,j5,j6,j7,j8,j9,x9,y3,y4,y5,y6,reduceCtorEq,↓reduceIte,e1,e2,c3,c4]
    refine zai (zbK hO5 T3.2.2 140 fun o6 hO6 => ?_)
    rw [hρ] at hO6
    simp only [sxZ,z5,z6,z7,z8,j4,j5,j6,j7,j8,j9,x9,y3,y4,y5,y6,reduceCtorEq,↓reduceIte,zab,and_self,and_true]
    exact hO6
  ·rw [if_neg (fun h => c3 h.1)] at hρ
   subst hρ
   simp only [sxZ,z5,z6,z7,z8,j4,j5,j6,j7,j8,j9,x9,y3,y4,y5,y6,reduceCtorEq,↓reduceIte,e1,e2,c3,zab,and_self,and_true]
   exact hO5
 clear hO5 e1 e2
 rintro o6 tm ⟨hO6,hlen,t0,t2,t5,t6⟩
 have e1:=hO6.get (i:=1) (x:=zaz s ρ4) (by simp)
 have e0:=hO6.get (i:=0) (x:=zvB) (by simp)
 have ev:=hO6.get (i:=qv) (x:=.box 25 [.i .i64 v.kind,.s v.text,.row v.keys.length (v.keys.map .s),.row v.items.length (zac v.items)]) (by simp)
 have hlt:=(List.getElem?_eq_some_iff.1 e0).1
 have gs:∀ x,(o6.set 0 x)[0]? = some x:=fun x => List.getElem?_set_self hlt
 unfold zaz at e1
 unfold zvB at e0
 subst hZ
 refine zaa fun Z hZ => ?_
 by_cases c5:ρ4.fail=0
 ·rw [if_neg (fun h => h c5)] at hr
  simp only [sxZ,z5,z6,z7,z8,j4,j5,j6,j7,j8,j9,x9,y3,y4,y5,y6,reduceCtorEq,↓reduceIte,List.getElem?_set,hlen,t5,e1,c5]
  subst hZ
  simp only [sxZ,z5,z6,z7,z8,j4,j5,j6,j7,j8,j9,x9,y3,y4,y5,y6,reduceCtorEq,↓reduceIte,List.getElem?_set,hlen,t0,t2,t6,e0,ev,gs]
  simp only [pub,AV.plain,za3,zaV,sxZ,z5,z6,z7,z8,j4,j5,j6,j7,j8,j9,x9,y3,y4,y5,y6,reduceCtorEq,↓reduceIte]
  exact ⟨fun G I y hy => by rw [hr,zeS,hjc]; exact hy,hk⟩
 ·rw [if_pos c5] at hr
  simp only [sxZ,z5,z6,z7,z8,j4,j5,j6,j7,j8,j9,x9,y3,y4,y5,y6,reduceCtorEq,↓reduceIte,List.getElem?_set,hlen,t2,t5,e0,e1,c5,gs]
  exact finE hr
end
section
variable [Tabs Try.prog] [Pow Try.prog] [Utf Try.prog]
end
end
section
attribute [local irreducible] run
def sA16:List UInt8:=[123,34,115,117,98,106,101,99,116,34,58,34,97,99,99,116,58,97,64,98,46,101,120,97,109,112,108,101,34,44,34,108,105,110,107,115,34,58,91,123,34,114,101,108,34,58,34,115,101,108,102,34,44,34,104,114,101,102,34,58,34,104,116,116,112,115,58,47,47,98,46,101,120,97,109,112,108,101,47,97,34,125,93,125]
def sB16:List UInt8:=[123,34,108,105,110,107,115,34,58,91,123,125,93,125]
def jB16:JV:=.mk 7 [] [zcu] [.mk 6 [] [] [.mk 7 [] [] []]]
def zlm:JV:=.mk 7 [] [zc8,zcu] [.mk 5 [97,99,99,116,58,97,64,98,46,101,120,97,109,112,108,101] [] [],.mk 6 [] [] [.mk 7 [] [zgG,zcY] [.mk 5 [115,101,108,102] [] [],.mk 5 [104,116,116,112,115,58,47,47,98,46,101,120,97,109,112,108,101,47,97] [] []]]]
theorem eA16:(zbq sA16).1=zlm:=by kernel_rfl
theorem eB16:(zbq sB16).1=jB16:=by kernel_rfl
theorem dA16:jd4 zlm=0:=by decide +kernel
theorem dB16:jd4 jB16=160:=by decide +kernel
def lA16:LkP:=⟨[115,101,108,102],[],[104,116,116,112,115,58,47,47,98,46,101,120,97,109,112,108,101,47,97],[],[],[]⟩
theorem vA16:jdV zlm=zd3 [97,99,99,116,58,97,64,98,46,101,120,97,109,112,108,101] [] [] [lA16]:=by kernel_rfl
theorem fA16:zc1 [115,101,108,102] [lA16]=[lA16]:=by kernel_rfl
theorem okA16:JOk zlm ∧ JBd zlm:=by
 unfold zlm
 simp [JOk,zcb,JBd,zbO,Lit.wf,IntKind.min,IntKind.max,IntKind.signed,IntKind.bits,zc8,zcu,zgG,zcY]
theorem okB16:JOk jB16 ∧ JBd jB16:=by
 unfold jB16
 simp [JOk,zcb,JBd,zbO,Lit.wf,IntKind.min,IntKind.max,IntKind.signed,IntKind.bits,zcu]
section
variable [Tabs Try.prog] [Utf Try.prog] {objs:List OB} {K:List OB → AV → Prop}
theorem sane16_k (hk:K objs (.b true)):zag Try.prog 8 [] objs K:=by
 refine za8 is_law16_sane rfl fun C _ => ?_
 rw [c_law16_sane]
 refine zaa fun Z hZ => ?_
 simp only [sxZ,z5,z6,z7,z8,j4,j5,j6,j7,j8,j9,x9,y3,y4,y5,y6,reduceCtorEq,↓reduceIte]
 subst hZ
 refine zaa fun Z hZ => ?_
 simp only [sxZ,z5,z6,z7,z8,j4,j5,j6,j7,j8,j9,x9,y3,y4,y5,y6,reduceCtorEq,↓reduceIte]
 refine zai (zfy sA16 (by decide) ?_)
 have e1:=eA16
 obtain ⟨⟨x,a,e⟩,hx⟩:∃ R,zbq sA16=R:=⟨_,rfl⟩
 rw [hx] at e1 ⊢
 dsimp only at e1
 subst e1
 unfold zeS
 obtain ⟨a0,a1,a2,a3,hA⟩:∃ a0 a1 a2 a3,zaj zlm=[a0,a1,a2,a3]:=⟨_,_,_,_,zal zlm⟩
 rw [hA]
 simp only [sxZ,z5,z6,z7,z8,j4,j5,j6,j7,j8,j9,x9,y3,y4,y5,y6,reduceCtorEq,↓reduceIte,gn1,sn1]
 subst hZ
 refine zaa fun Z hZ => ?_
 simp only [sxZ,z5,z6,z7,z8,j4,j5,j6,j7,j8,j9,x9,y3,y4,y5,y6,reduceCtorEq,↓reduceIte]
 refine zai (zfy sB16 (by decide) ?_)
 have e2:=eB16
 obtain ⟨⟨y,b,f⟩,hy⟩:∃ R,zbq sB16=R:=⟨_,rfl⟩
 rw [hy] at e2 ⊢
 dsimp only at e2
 subst e2
 unfold zeS
 obtain ⟨b0,b1,b2,b3,hB⟩:∃ b0 b1 b2 b3,zaj jB16=[b0,b1,b2,b3]:=⟨_,_,_,_,zal jB16⟩
 rw [hB]
 simp only [sxZ,z5,z6,z7,z8,j4,j5,j6,j7,j8,j9,x9,y3,y4,y5,y6,reduceCtorEq,↓reduceIte,gn1,sn1]
 subst hZ
 refine zaa fun Z hZ => ?_
 simp only [sxZ,z5,z6,z7,z8,j4,j5,j6,j7,j8,j9,x9,y3,y4,y5,y6,reduceCtorEq,↓reduceIte]
 rw [← hA]
 refine zai (zdi zlm okA16.1 okA16.2 ?_)
 rw [show jdAV zlm=jdV zlm from if_pos dA16,vA16,dA16]
 unfold zd3
 simp only [sxZ,z5,z6,z7,z8,j4,j5,j6,j7,j8,j9,x9,y3,y4,y5,y6,reduceCtorEq,↓reduceIte]
 subst hZ
 refine zaa fun Z hZ => ?_
 simp only [sxZ,z5,z6,z7,z8,j4,j5,j6,j7,j8,j9,x9,y3,y4,y5,y6,reduceCtorEq,↓reduceIte]
 rw [← hB]
 refine zai (zdi jB16 okB16.1 okB16.2 ?_)
 rw [show jdAV jB16=zd3 [] [] [] [] from if_neg (by rw [dB16]; decide),dB16]
 unfold zd3
 simp only [sxZ,z5,z6,z7,z8,j4,j5,j6,j7,j8,j9,x9,y3,y4,y5,y6,reduceCtorEq,↓reduceIte]
 subst hZ
 refine zaa fun Z hZ => ?_
 have hlk:zbT [lA16]=[.s [115,101,108,102],.s [],.s [104,116,116,112,115,58,47,47,98,46,101,120,97,109,112,108,101,47,97],.s [],.row 0 [],.row 0 []]:=rfl
 have n1:(((1:Nat):Int)=1)=True:=by simp
 simp only [sxZ,z5,z6,z7,z8,j4,j5,j6,j7,j8,j9,x9,y3,y4,y5,y6,reduceCtorEq,↓reduceIte,hlk,n1,decide_true]
 refine ⟨by decide,?_⟩
 refine zai (jFind_k [97,99,99,116,58,97,64,98,46,101,120,97,109,112,108,101] [] [] [lA16] [115,101,108,102] (by decide) (by intro x hx; rw [List.mem_singleton] at hx; subst hx; decide) ?_)
 rw [fA16]
 simp only [sxZ,z5,z6,z7,z8,j4,j5,j6,j7,j8,j9,x9,y3,y4,y5,y6,reduceCtorEq,↓reduceIte,n1,decide_true,List.length_cons,List.length_nil]
 subst hZ
 simp only [sxZ,z5,z6,z7,z8,j4,j5,j6,j7,j8,j9,x9,y3,y4,y5,y6,reduceCtorEq,↓reduceIte]
 exact hk
end
end
section
attribute [local irreducible] run
theorem zi5 {s:List UInt8} (h:¬ (zbq s).2.2=0):(zbq s).1=jvZ:=by
 unfold zbq at h ⊢
 by_cases c:1048576 < s.length
 ·rw [if_pos c]
 rw [if_neg c] at h ⊢
 dsimp only at h ⊢
 generalize hρ:(if (zad s (zas s 65 (zad s rs0).2 (zad s rs0).1 0).2).2.fail=0 ∧ ¬ (zad s (zas s 65 (zad s rs0).2 (zad s rs0).1 0).2).1.1=1 then zaG (zad s (zas s 65 (zad s rs0).2 (zad s rs0).1 0).2).2 (zad s (zas s 65 (zad s rs0).2 (zad s rs0).1 0).2).1.2.2 140 else (zad s (zas s 65 (zad s rs0).2 (zad s rs0).1 0).2).2)=ρ at h ⊢
 by_cases c2:¬ ρ.fail=0
 ·rw [if_pos c2]
 ·rw [if_neg c2] at h; exact absurd rfl h
theorem jd4_z:jd4 jvZ=160:=by decide +kernel
section
variable [Tabs Try.prog] [Utf Try.prog]
theorem jrdBack_c (l0:List UInt8) (w0:l0.length ≤ 140737488351232):zag Try.prog 5 [.s l0] [] (fun _ r => r=.b true):=by
 refine za8 is_law16_JrdBack rfl fun C _ => ?_
 rw [c_law16_JrdBack]
 refine zaa fun Z hZ => ?_
 simp only [sxZ,z5,z6,z7,z8,j4,j5,j6,j7,j8,j9,x9,y3,y4,y5,y6,reduceCtorEq,↓reduceIte]
 subst hZ
 refine zaa fun Z hZ => ?_
 simp only [sxZ,z5,z6,z7,z8,j4,j5,j6,j7,j8,j9,x9,y3,y4,y5,y6,reduceCtorEq,↓reduceIte]
 refine zai (sane16_k ?_)
 simp only [sxZ,z5,z6,z7,z8,j4,j5,j6,j7,j8,j9,x9,y3,y4,y5,y6,reduceCtorEq,↓reduceIte]
 subst hZ
 refine zaa fun Z hZ => ?_
 by_cases hlen:(3000:Int) < (l0.length:Int)
 ·simp only [sxZ,z5,z6,z7,z8,j4,j5,j6,j7,j8,j9,x9,y3,y4,y5,y6,reduceCtorEq,↓reduceIte,hlen]
 simp only [sxZ,z5,z6,z7,z8,j4,j5,j6,j7,j8,j9,x9,y3,y4,y5,y6,reduceCtorEq,↓reduceIte,hlen]
 subst hZ
 refine zaa fun Z hZ => ?_
 simp only [sxZ,z5,z6,z7,z8,j4,j5,j6,j7,j8,j9,x9,y3,y4,y5,y6,reduceCtorEq,↓reduceIte]
 refine zai (zfy l0 (by omega) ?_)
 have hok:=zjJ (s:=l0) (by omega)
 have hbd:=zjK (s:=l0) (by omega)
 obtain ⟨⟨v,a,e⟩,hx⟩:∃ R,zbq l0=R:=⟨_,rfl⟩
 rw [hx] at hok hbd ⊢
 dsimp only at hok hbd
 unfold zeS
 obtain ⟨a0,a1,a2,a3,hA⟩:∃ a0 a1 a2 a3,zaj v=[a0,a1,a2,a3]:=⟨_,_,_,_,zal v⟩
 rw [hA]
 simp only [sxZ,z5,z6,z7,z8,j4,j5,j6,j7,j8,j9,x9,y3,y4,y5,y6,reduceCtorEq,↓reduceIte,gn1,sn1]
 subst hZ
 refine zaa fun Z hZ => ?_
 simp only [sxZ,z5,z6,z7,z8,j4,j5,j6,j7,j8,j9,x9,y3,y4,y5,y6,reduceCtorEq,↓reduceIte]
 rw [← hA]
 refine zai (zdi v hok hbd ?_)
 by_cases hf:jd4 v=0
 rotate_left
 ·rw [show jdAV v=zd3 [] [] [] [] from if_neg hf]
  unfold zd3
  simp only [sxZ,z5,z6,z7,z8,j4,j5,j6,j7,j8,j9,x9,y3,y4,y5,y6,reduceCtorEq,↓reduceIte,gn1,sn1]
  subst hZ
  refine zaa fun Z hZ => ?_
  by_cases he:e=0
  ·simp only [sxZ,z5,z6,z7,z8,j4,j5,j6,j7,j8,j9,x9,y3,y4,y5,y6,reduceCtorEq,↓reduceIte,he,hf]
   rfl
  ·simp only [sxZ,z5,z6,z7,z8,j4,j5,j6,j7,j8,j9,x9,y3,y4,y5,y6,reduceCtorEq,↓reduceIte,he]
   rfl
 have he:e=0:=by
  by_cases h0:e=0
  ·exact h0
  ·have h1:=zi5 (s:=l0) (by rw [hx]; exact h0)
   rw [hx] at h1
   dsimp only at h1
   rw [h1,jd4_z] at hf
   exact absurd hf (by decide)
 subst he
 have hF:=jd_fit hok hf
 unfold jdF at hF
 rw [show jdAV v=jdV v from if_pos hf,hf]
 unfold jdV
 generalize (zaQ v (shE v) zc8 5).2.1.text=S at hF ⊢
 generalize (tsE v (jd1 v) zd4).2=A at hF ⊢
 generalize (prE v (jd2 v) zbP true).2=P at hF ⊢
 generalize (lsE v (jd3 v) zcu).2=L at hF ⊢
 have n1:=hF.aln
 have n2:=hF.prf.1
 have n3:=hF.lkn
 have hb:=en_back hF
 have hj:=enJ_ok hF.b
 unfold zd3
 simp only [sxZ,z5,z6,z7,z8,j4,j5,j6,j7,j8,j9,x9,y3,y4,y5,y6,reduceCtorEq,↓reduceIte,gn1,sn1]
 subst hZ
 refine zaa fun Z hZ => ?_
 simp only [sxZ,z5,z6,z7,z8,j4,j5,j6,j7,j8,j9,x9,y3,y4,y5,y6,reduceCtorEq,↓reduceIte]
 subst hZ
 refine zaa fun Z hZ => ?_
 simp only [sxZ,z5,z6,z7,z8,j4,j5,j6,j7,j8,j9,x9,y3,y4,y5,y6,reduceCtorEq,↓reduceIte]
 refine zai (zll S A P L (by omega) (by omega) (by omega) (fun x hx => ?_) ?_)
 ·have:=(hF.lkf x hx).tit.1
  have:=(hF.lkf x hx).pro.1
  constructor <;> omega
 obtain ⟨b0,b1,b2,b3,hB⟩:∃ b0 b1 b2 b3,zaj (enJ S A P L)=[b0,b1,b2,b3]:=⟨_,_,_,_,zal _⟩
 rw [hB]
 simp only [sxZ,z5,z6,z7,z8,j4,j5,j6,j7,j8,j9,x9,y3,y4,y5,y6,reduceCtorEq,↓reduceIte]
 rw [← hB]
 refine zai (zdi (enJ S A P L) hj.1 hj.2 ?_)
 rw [show jdAV (enJ S A P L)=jdV (enJ S A P L) from if_pos hb.1,hb.1,hb.2]
 unfold zd3
 simp only [sxZ,z5,z6,z7,z8,j4,j5,j6,j7,j8,j9,x9,y3,y4,y5,y6,reduceCtorEq,↓reduceIte,gn1,sn1]
 subst hZ
 refine zaa fun Z hZ => ?_
 simp only [sxZ,z5,z6,z7,z8,j4,j5,j6,j7,j8,j9,x9,y3,y4,y5,y6,reduceCtorEq,↓reduceIte]
 refine zai (same16_k S A P L (by omega) (by omega) (by omega) (fun x hx => ?_) ?_)
 ·have:=(hF.lkf x hx).tit.1
  have:=(hF.lkf x hx).pro.1
  constructor <;> omega
 have z1:(L.length:Int) ≤ 64:=by omega
 have z2:(A.length:Int) ≤ 64:=by omega
 simp only [sxZ,z5,z6,z7,z8,j4,j5,j6,j7,j8,j9,x9,y3,y4,y5,y6,reduceCtorEq,↓reduceIte,z1,z2,decide_true]
 subst hZ
 simp only [sxZ,z5,z6,z7,z8,j4,j5,j6,j7,j8,j9,x9,y3,y4,y5,y6,reduceCtorEq,↓reduceIte]
end
end
end Go.Proofs.Ytceenajkieomoaa
namespace Go.Proofs.Ytceenajkieomoaa
open Go.RowKit Sx
instance tabs:Tabs Try.prog:=⟨fun w => w.ShapedOpen Try.prog,fun _ _ h hk _ => zgR h hk⟩
instance tabs_shp:Shp Try.prog:=⟨fun _ h => h⟩
end Go.Proofs.Ytceenajkieomoaa
namespace Go.Proofs.Ytceenajkieomoaa
open Go.RowKit Sx
instance tabs_utf:Utf Try.prog:=⟨fun _ _ => ⟨trivial⟩⟩
end Go.Proofs.Ytceenajkieomoaa
