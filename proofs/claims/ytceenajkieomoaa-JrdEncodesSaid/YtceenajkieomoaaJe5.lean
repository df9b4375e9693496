/- The texts that the proofs of these statements reach, in their order, as few files. -/
import Derived.Test.YtceenajkieomoaaJe4
set_option linter.unusedVariables false
set_option linter.unusedSimpArgs false
set_option maxRecDepth 100000
namespace Go.Proofs.Ytceenajkieomoaa
open Nat renaming reduceAdd → z5, reduceSub → z6, reduceLeDiff → z7, reduceLT → z8, reduceMul → j4, reduceEqDiff → j5
open Int renaming reduceToNat → j6, reduceAdd → j7, reduceSub → j8, reduceMul → j9, reduceNeg → x9, reduceLT → y3, reduceLE → y4, reduceEq → y5, reduceNe → y6
open Go.RowKit Sx
section
attribute [local irreducible] run
theorem zjD {P:Program} [Tabs P] {f:FuncId} {objs:List OB} {K:List OB → AV → Prop} (h:∀ b,zae P f [.zn b] objs K):zae P f [.row 0 []] objs K:=by
 intro C _ G I w hin hm ys hd
 have hd':=hd
 simp only [zah,Den] at hd'
 obtain ⟨y,l,rfl,⟨a,c,cells,rfl,hq,hc⟩,hl⟩:=hd'
 refine h a.isNone C G I w hin hm _ ?_
 simp only [zah,Den]
 exact ⟨_,_,rfl,⟨a,c,by simp,rfl,by simpa using hq.2⟩,hl⟩
theorem zaT {G:Gh} {I:Imm} {y:Value} (h:Den G I .nil y):Den G I (.row 0 []) y:=by
 simp only [zah,Den] at h ⊢
 exact ⟨none,0,[],h,⟨Nat.le_refl _,fun ad h => by cases h⟩,rfl,by simp,by simp⟩
theorem zdb {P:Program} [Tabs P] {f:FuncId} {args:List AV} {objs:List OB} {K:List OB → AV → Prop} (r':AV) (hc:zae P f args objs (fun o r => (∀ G I y,Den G I r y → Den G I r' y) ∧ K o r')):zae P f args objs K:=by
 intro C _ G I w hin hm ys hd
 refine (hc C G I w hin hm ys hd).mono ?_
 rintro e w' ⟨y,objs',r,G',I',he,⟨hr,hk⟩,h1,h2,h3,h4,hy⟩
 exact ⟨y,objs',r',G',I',he,hk,h1,h2,h3,h4,hr _ _ _ hy⟩
theorem zkG:∀ (l:List PrP) (o:List OB) (d:Nat),zda o (d + 1) (zaH l)=some (zaH l)
 | [],o,d => by unfold zaH; simp only [List.flatMap_nil,zda]
 | p :: l,o,d => by
  have:=zkG l o d
  unfold zaH at this ⊢
  rw [List.flatMap_cons]
  simp only [List.cons_append,List.nil_append,zda,pub,AV.plain,if_true,this]
theorem zhi:∀ (l:List LkP) (o:List OB) (d:Nat),zda o (d + 1) (zbv l)=some (zbv l)
 | [],o,d => by unfold zbv; simp only [List.flatMap_nil,zda]
 | p :: l,o,d => by
  have:=zhi l o d
  have e:zbv (p :: l)=.s p.rel :: .s p.typ :: .s p.href :: .s p.tmp :: .row p.tit.length (zaH p.tit) :: .row p.pro.length (zaH p.pro) :: zbv l:=rfl
  rw [e]
  simp only [zda,pub,AV.plain,za9,if_true,this]
section
variable [Tabs Try.prog] {objs:List OB} {K:List OB → AV → Prop}
theorem zjc (l:List PrP) (hl:l.length ≤ 1099511627776) (hk:K objs (.row l.length (zaH l))):zae Try.prog 37 [.row l.length (zaH l)] objs K:=by
 cases l with
 | nil =>
  refine zjD fun b => ?_
  refine zdb (.row 0 []) ?_
  refine zaQ is_slices_Clone__api_Property_api_Property rfl fun C _ => ?_
  rw [c_slices_Clone__api_Property_api_Property]
  cases b with
  | true =>
   simp only [sxZ,z5,z6,z7,z8,j4,j5,j6,j7,j8,j9,x9,y3,y4,y5,y6,reduceCtorEq,↓reduceIte,Bool.false_eq_true]
   exact ⟨fun G I y hy => zaT hy,hk⟩
  | false =>
   simp only [sxZ,z5,z6,z7,z8,j4,j5,j6,j7,j8,j9,x9,y3,y4,y5,y6,reduceCtorEq,↓reduceIte,Bool.false_eq_true]
   exact ⟨by decide,fun G I y hy => hy,hk⟩
 | cons k l =>
  have hl3:=zcl (k :: l)
  have hp:=fun o d => zkG (k :: l) o d
  have e:zaH (k :: l)=.s k.name :: (.s k.val :: .b k.nul :: zaH l):=rfl
  generalize hX:(.s k.val :: .b k.nul :: zaH l:List AV)=X at e
  have hpl:=za9 (k :: l)
  rw [e] at hl3 hp hk hpl ⊢
  generalize hn:(k :: l).length=n at hl hl3 hk ⊢
  have hn0:n ≠ 0:=by rw [← hn]; simp
  refine zaQ is_slices_Clone__api_Property_api_Property (by simp only [zam,AV.plain] at hpl ⊢; simpa using hpl) fun C _ => ?_
  rw [c_slices_Clone__api_Property_api_Property]
  simp only [sxZ,z5,z6,z7,z8,j4,j5,j6,j7,j8,j9,x9,y3,y4,y5,y6,reduceCtorEq,↓reduceIte,hp]
  refine ⟨by omega,⟨by simp only [List.length_cons] at hl3 ⊢; omega,by omega,by omega⟩,?_⟩
  rw [Nat.zero_add]
  exact hk
end
def zcm (subj:List UInt8) (al:List (List UInt8)) (pr:List PrP) (lk:List LkP):AV:=.agg [.s subj,.row al.length (al.map .s),.row pr.length (zaH pr),.row lk.length (zbv lk)]
theorem zaX:∀ l:List (List UInt8),zam (l.map AV.s)=true
 | [] => rfl
 | _ :: l => zaX l
theorem jr_pl (subj:List UInt8) (al:List (List UInt8)) (pr:List PrP) (lk:List LkP) (rel:List UInt8):zam [zcm subj al pr lk,.s rel]=true:=by
 unfold zcm
 simp only [zam,AV.plain,zaX,za9,zcB,Bool.and_self]
def RowA (l:List LkP) (o:List OB) (X:AV):Prop:=(l=[] ∧ X=.nil) ∨ ∃ r g,X=.orow r g ∧ o[r]? = some (.orow 45 6 g l.length (zbv l))
theorem RowA.mono {l:List LkP} {o:List OB} {X:AV} (h:RowA l o X) (z:OB):RowA l (o ++ [z]) X:=by
 rcases h with h | ⟨r,g,h1,h2⟩
 ·exact .inl h
 ·exact .inr ⟨r,g,h1,by rw [List.getElem?_append_left (List.getElem?_eq_some_iff.1 h2).1]; exact h2⟩
section
variable [Tabs Try.prog] {objs:List OB} {K:List OB → AV → Prop}
theorem zkE (subj:List UInt8) (al:List (List UInt8)) (pr:List PrP) (lk:List LkP) (rel:List UInt8) (hl:lk.length ≤ 1000000) (hcl:∀ x ∈ lk,x.tit.length ≤ 1000 ∧ x.pro.length ≤ 1000) (hk:K objs (.row (zbw rel lk).length (zbv (zbw rel lk)))):zae Try.prog 16 [zcm subj al pr lk,.s rel] objs K:=by
 refine zdb (.row (zbw rel lk).length (zbv (zbw rel lk))) ?_
 refine zaQ is_ref16_Find (jr_pl _ _ _ _ _) fun C _ => ?_
 rw [c_ref16_Find]
 unfold zcm
 have hlen6:=zbs lk
 refine zaa fun Z hZ => ?_
 simp only [sxZ,z5,z6,z7,z8,j4,j5,j6,j7,j8,j9,x9,y3,y4,y5,y6,reduceCtorEq,↓reduceIte]
 subst hZ
 refine zaa fun Z hZ => ?_
 simp only [sxZ,z5,z6,z7,z8,j4,j5,j6,j7,j8,j9,x9,y3,y4,y5,y6,reduceCtorEq,↓reduceIte]
 subst hZ
 refine zaa fun Z hZ => ?_
 refine zaa fun W hW => ?_
 simp only [sxZ,z5,z6,z7,z8,j4,j5,j6,j7,j8,j9,x9,y3,y4,y5,y6,reduceCtorEq,↓reduceIte]
 subst hW
 rw [zaw]
 refine zax (fun m o tm => ∃ (i:Nat),i ≤ lk.length ∧ m=lk.length - i ∧ 1 ≤ o.length ∧ RowA (zbw rel (lk.take i)) o (tm[5]?.getD .u) ∧ tm.length=25 ∧ tm[1]? = some (.s rel) ∧ tm[9]? = some (.row lk.length (zbv lk)) ∧ tm[10]? = some (.i .i64 (lk.length:Int)) ∧ tm[11]? = some (.i .i64 (i:Int))) lk.length ⟨0,Nat.zero_le _,rfl,by simp,.inl ⟨rfl,rfl⟩,rfl,rfl,rfl,rfl,rfl⟩ ?_
 rintro m o tm ⟨i,hi,rfl,ho,hA,hlen,t1,t9,t10,t11⟩
 obtain ⟨a5,t5⟩:∃ a,tm[5]? = some a:=⟨_,List.getElem?_eq_getElem (by omega)⟩
 rw [t5,Option.getD_some] at hA
 refine zaa fun W hW => ?_
 by_cases hlt:(i:Int) < (lk.length:Int)
 ·have hi':i < lk.length:=by omega
  have hjc:=zgF hi'
  have hft:=zfh (rel:=rel) hi'
  have hcl':=hcl lk[i] (List.getElem_mem hi')
  generalize lk[i]=x at hjc hft hcl'
  unfold lkc at hjc
  simp only [sxZ,z5,z6,z7,z8,j4,j5,j6,j7,j8,j9,x9,y3,y4,y5,y6,reduceCtorEq,↓reduceIte,List.getElem?_set,hlen,t9,t10,t11,hlt]
  subst hW
  refine zaa fun W hW => ?_
  simp only [sxZ,z5,z6,z7,z8,j4,j5,j6,j7,j8,j9,x9,y3,y4,y5,y6,reduceCtorEq,↓reduceIte,List.getElem?_set,hlen]
  subst hW
  refine zaa fun V hV => ?_
  rw [zaw]
  refine zaa fun W hW => ?_
  simp only [sxZ,z5,z6,z7,z8,j4,j5,j6,j7,j8,j9,x9,y3,y4,y5,y6,reduceCtorEq,↓reduceIte,List.getElem?_set,hlen,t9,t11,hjc]
  refine ⟨⟨by omega,by omega,by omega⟩,by omega,?_⟩
  simp only [sxZ,z5,z6,z7,z8,j4,j5,j6,j7,j8,j9,x9,y3,y4,y5,y6,reduceCtorEq,↓reduceIte,List.getElem?_set,hlen,gn1,sn1]
  subst hW
  refine zaa fun W hW => ?_
  simp only [sxZ,z5,z6,z7,z8,j4,j5,j6,j7,j8,j9,x9,y3,y4,y5,y6,reduceCtorEq,↓reduceIte,List.getElem?_set,hlen,t1,gn1]
  subst hW
  by_cases c:x.rel=rel
  ·rw [if_pos c] at hft
   simp only [sxZ,z5,z6,z7,z8,j4,j5,j6,j7,j8,j9,x9,y3,y4,y5,y6,reduceCtorEq,↓reduceIte,List.getElem?_set,hlen,c,gn1]
   rcases hA with ⟨h0,rfl⟩ | ⟨r,g,rfl,hr⟩
   ·simp only [sxZ,z5,z6,z7,z8,j4,j5,j6,j7,j8,j9,x9,y3,y4,y5,y6,reduceCtorEq,↓reduceIte,List.getElem?_set,hlen,t5,gn1]
    subst hV
    simp only [sxZ,z5,z6,z7,z8,j4,j5,j6,j7,j8,j9,x9,y3,y4,y5,y6,reduceCtorEq,↓reduceIte,List.getElem?_set,hlen,t1,t5,t9,t10,t11]
    refine ⟨by omega,lk.length - (i + 1),by omega,i + 1,by omega,rfl,?_⟩
    rw [hft,h0]
    exact ⟨.inr ⟨_,0,rfl,by rw [List.getElem?_append_right (by simp)]; simp [zbv,lkc,c]⟩,rfl⟩
   ·have hrl:=(List.getElem?_eq_some_iff.1 hr).1
    have hlf:=zbs (zbw rel (lk.take i))
    have hff:(zbw rel (lk.take i)).length ≤ i:=by
     have:=List.length_filter_le (fun x:LkP => decide (x.rel=rel)) (lk.take i)
     rw [List.length_take] at this
     unfold zbw; omega
    have h1:∀ z,(o ++ [z])[r]? = some (.orow 45 6 g (zbw rel (lk.take i)).length (zbv (zbw rel (lk.take i)))):=fun z => by rw [List.getElem?_append_left hrl]; exact hr
    simp only [sxZ,z5,z6,z7,z8,j4,j5,j6,j7,j8,j9,x9,y3,y4,y5,y6,reduceCtorEq,↓reduceIte,List.getElem?_set,hlen,t5,gn1,h1]
    refine ⟨⟨by omega,by omega⟩,?_⟩
    subst hV
    simp only [sxZ,z5,z6,z7,z8,j4,j5,j6,j7,j8,j9,x9,y3,y4,y5,y6,reduceCtorEq,↓reduceIte,List.getElem?_set,hlen,t1,t5,t9,t10,t11]
    refine ⟨by omega,lk.length - (i + 1),by omega,i + 1,by omega,rfl,?_⟩
    rw [hft]
    refine ⟨.inr ⟨r,g + 1,rfl,?_⟩,rfl⟩
    rw [List.getElem?_set_self (by simp; omega),zfT,List.length_append]
    simp [zbv,lkc,c]
  ·rw [if_neg c] at hft
   simp only [sxZ,z5,z6,z7,z8,j4,j5,j6,j7,j8,j9,x9,y3,y4,y5,y6,reduceCtorEq,↓reduceIte,List.getElem?_set,hlen,c]
   subst hV
   simp only [sxZ,z5,z6,z7,z8,j4,j5,j6,j7,j8,j9,x9,y3,y4,y5,y6,reduceCtorEq,↓reduceIte,List.getElem?_set,hlen,t1,t5,t9,t10,t11]
   refine ⟨by omega,lk.length - (i + 1),by omega,i + 1,by omega,rfl,?_⟩
   rw [hft]
   exact ⟨hA.mono _,rfl⟩
 have hn:i=lk.length:=by omega
 rw [hn,List.take_of_length_le (Nat.le_refl _)] at hA
 simp only [sxZ,z5,z6,z7,z8,j4,j5,j6,j7,j8,j9,x9,y3,y4,y5,y6,reduceCtorEq,↓reduceIte,List.getElem?_set,hlen,t9,t10,t11,hlt]
 subst hW
 simp only [sxZ,z5,z6,z7,z8,j4,j5,j6,j7,j8,j9,x9,y3,y4,y5,y6,reduceCtorEq,↓reduceIte,List.getElem?_set,hlen]
 subst hZ
 rcases hA with ⟨h0,rfl⟩ | ⟨r,g,rfl,hr⟩
 ·simp only [sxZ,z5,z6,z7,z8,j4,j5,j6,j7,j8,j9,x9,y3,y4,y5,y6,reduceCtorEq,↓reduceIte,List.getElem?_set,hlen,t5]
  rw [h0] at hk ⊢
  exact ⟨fun G I y hy => zaT hy,hk⟩
 ·simp only [sxZ,z5,z6,z7,z8,j4,j5,j6,j7,j8,j9,x9,y3,y4,y5,y6,reduceCtorEq,↓reduceIte,List.getElem?_set,hlen,t5,hr,zhi]
  exact ⟨fun G I y hy => hy,hk⟩
theorem zlN (subj:List UInt8) (al:List (List UInt8)) (pr:List PrP) (lk:List LkP) (rel:List UInt8) (hl:lk.length ≤ 1000000) (hcl:∀ x ∈ lk,x.tit.length ≤ 1000 ∧ x.pro.length ≤ 1000) (hk:K objs (.row (zbw rel lk).length (zbv (zbw rel lk)))):zae Try.prog 15 [zcm subj al pr lk,.s rel] objs K:=by
 refine zdb (.row (zbw rel lk).length (zbv (zbw rel lk))) ?_
 refine zaQ is_jrd_Find (jr_pl _ _ _ _ _) fun C _ => ?_
 rw [c_jrd_Find]
 unfold zcm
 have hlen6:=zbs lk
 refine zaa fun Z hZ => ?_
 simp only [sxZ,z5,z6,z7,z8,j4,j5,j6,j7,j8,j9,x9,y3,y4,y5,y6,reduceCtorEq,↓reduceIte]
 subst hZ
 refine zaa fun Z hZ => ?_
 simp only [sxZ,z5,z6,z7,z8,j4,j5,j6,j7,j8,j9,x9,y3,y4,y5,y6,reduceCtorEq,↓reduceIte]
 subst hZ
 refine zaa fun Z hZ => ?_
 refine zaa fun W hW => ?_
 simp only [sxZ,z5,z6,z7,z8,j4,j5,j6,j7,j8,j9,x9,y3,y4,y5,y6,reduceCtorEq,↓reduceIte]
 subst hW
 rw [zaw]
 refine zax (fun m o tm => ∃ (i:Nat),i ≤ lk.length ∧ m=lk.length - i ∧ 1 ≤ o.length ∧ RowA (zbw rel (lk.take i)) o (tm[5]?.getD .u) ∧ tm.length=33 ∧ tm[1]? = some (.s rel) ∧ tm[9]? = some (.row lk.length (zbv lk)) ∧ tm[10]? = some (.i .i64 (lk.length:Int)) ∧ tm[11]? = some (.i .i64 (i:Int))) lk.length ⟨0,Nat.zero_le _,rfl,by simp,.inl ⟨rfl,rfl⟩,rfl,rfl,rfl,rfl,rfl⟩ ?_
 rintro m o tm ⟨i,hi,rfl,ho,hA,hlen,t1,t9,t10,t11⟩
 obtain ⟨a5,t5⟩:∃ a,tm[5]? = some a:=⟨_,List.getElem?_eq_getElem (by omega)⟩
 rw [t5,Option.getD_some] at hA
 refine zaa fun W hW => ?_
 by_cases hlt:(i:Int) < (lk.length:Int)
 ·have hi':i < lk.length:=by omega
  have hjc:=zgF hi'
  have hft:=zfh (rel:=rel) hi'
  have hcl':=hcl lk[i] (List.getElem_mem hi')
  generalize lk[i]=x at hjc hft hcl'
  unfold lkc at hjc
  simp only [sxZ,z5,z6,z7,z8,j4,j5,j6,j7,j8,j9,x9,y3,y4,y5,y6,reduceCtorEq,↓reduceIte,List.getElem?_set,hlen,t9,t10,t11,hlt]
  subst hW
  refine zaa fun W hW => ?_
  simp only [sxZ,z5,z6,z7,z8,j4,j5,j6,j7,j8,j9,x9,y3,y4,y5,y6,reduceCtorEq,↓reduceIte,List.getElem?_set,hlen]
  subst hW
  refine zaa fun V hV => ?_
  rw [zaw]
  refine zaa fun W hW => ?_
  simp only [sxZ,z5,z6,z7,z8,j4,j5,j6,j7,j8,j9,x9,y3,y4,y5,y6,reduceCtorEq,↓reduceIte,List.getElem?_set,hlen,t9,t11,hjc]
  refine ⟨⟨by omega,by omega,by omega⟩,by omega,?_⟩
  simp only [sxZ,z5,z6,z7,z8,j4,j5,j6,j7,j8,j9,x9,y3,y4,y5,y6,reduceCtorEq,↓reduceIte,List.getElem?_set,hlen,gn1,sn1]
  subst hW
  refine zaa fun W hW => ?_
  simp only [sxZ,z5,z6,z7,z8,j4,j5,j6,j7,j8,j9,x9,y3,y4,y5,y6,reduceCtorEq,↓reduceIte,List.getElem?_set,hlen,t1,gn1]
  subst hW
  by_cases c:x.rel=rel
  ·rw [if_pos c] at hft
   simp only [sxZ,z5,z6,z7,z8,j4,j5,j6,j7,j8,j9,x9,y3,y4,y5,y6,reduceCtorEq,↓reduceIte,List.getElem?_set,hlen,c,gn1]
   refine zaj (zjc x.tit (by omega) ?_)
   simp only [sxZ,z5,z6,z7,z8,j4,j5,j6,j7,j8,j9,x9,y3,y4,y5,y6,reduceCtorEq,↓reduceIte,List.getElem?_set,hlen,gn1,sn1]
   refine zaj (zjc x.pro (by omega) ?_)
   simp only [sxZ,z5,z6,z7,z8,j4,j5,j6,j7,j8,j9,x9,y3,y4,y5,y6,reduceCtorEq,↓reduceIte,List.getElem?_set,hlen,gn1,sn1]
   rcases hA with ⟨h0,rfl⟩ | ⟨r,g,rfl,hr⟩
   ·simp only [sxZ,z5,z6,z7,z8,j4,j5,j6,j7,j8,j9,x9,y3,y4,y5,y6,reduceCtorEq,↓reduceIte,List.getElem?_set,hlen,t5,gn1]
    subst hV
    simp only [sxZ,z5,z6,z7,z8,j4,j5,j6,j7,j8,j9,x9,y3,y4,y5,y6,reduceCtorEq,↓reduceIte,List.getElem?_set,hlen,t1,t5,t9,t10,t11]
    refine ⟨by omega,lk.length - (i + 1),by omega,i + 1,by omega,rfl,?_⟩
    rw [hft,h0]
    exact ⟨.inr ⟨_,0,rfl,by rw [List.getElem?_append_right (by simp)]; simp [zbv,lkc,c]⟩,rfl⟩
   ·have hrl:=(List.getElem?_eq_some_iff.1 hr).1
    have hlf:=zbs (zbw rel (lk.take i))
    have hff:(zbw rel (lk.take i)).length ≤ i:=by
     have:=List.length_filter_le (fun x:LkP => decide (x.rel=rel)) (lk.take i)
     rw [List.length_take] at this
     unfold zbw; omega
    have h1:∀ z,(o ++ [z])[r]? = some (.orow 45 6 g (zbw rel (lk.take i)).length (zbv (zbw rel (lk.take i)))):=fun z => by rw [List.getElem?_append_left hrl]; exact hr
    simp only [sxZ,z5,z6,z7,z8,j4,j5,j6,j7,j8,j9,x9,y3,y4,y5,y6,reduceCtorEq,↓reduceIte,List.getElem?_set,hlen,t5,gn1,h1]
    refine ⟨⟨by omega,by omega⟩,?_⟩
    subst hV
    simp only [sxZ,z5,z6,z7,z8,j4,j5,j6,j7,j8,j9,x9,y3,y4,y5,y6,reduceCtorEq,↓reduceIte,List.getElem?_set,hlen,t1,t5,t9,t10,t11]
    refine ⟨by omega,lk.length - (i + 1),by omega,i + 1,by omega,rfl,?_⟩
    rw [hft]
    refine ⟨.inr ⟨r,g + 1,rfl,?_⟩,rfl⟩
    rw [List.getElem?_set_self (by simp; omega),zfT,List.length_append]
    simp [zbv,lkc,c]
  ·rw [if_neg c] at hft
   simp only [sxZ,z5,z6,z7,z8,j4,j5,j6,j7,j8,j9,x9,y3,y4,y5,y6,reduceCtorEq,↓reduceIte,List.getElem?_set,hlen,c]
   subst hV
   simp only [sxZ,z5,z6,z7,z8,j4,j5,j6,j7,j8,j9,x9,y3,y4,y5,y6,reduceCtorEq,↓reduceIte,List.getElem?_set,hlen,t1,t5,t9,t10,t11]
   refine ⟨by omega,lk.length - (i + 1),by omega,i + 1,by omega,rfl,?_⟩
   rw [hft]
   exact ⟨hA.mono _,rfl⟩
 have hn:i=lk.length:=by omega
 rw [hn,List.take_of_length_le (Nat.le_refl _)] at hA
 simp only [sxZ,z5,z6,z7,z8,j4,j5,j6,j7,j8,j9,x9,y3,y4,y5,y6,reduceCtorEq,↓reduceIte,List.getElem?_set,hlen,t9,t10,t11,hlt]
 subst hW
 simp only [sxZ,z5,z6,z7,z8,j4,j5,j6,j7,j8,j9,x9,y3,y4,y5,y6,reduceCtorEq,↓reduceIte,List.getElem?_set,hlen]
 subst hZ
 rcases hA with ⟨h0,rfl⟩ | ⟨r,g,rfl,hr⟩
 ·simp only [sxZ,z5,z6,z7,z8,j4,j5,j6,j7,j8,j9,x9,y3,y4,y5,y6,reduceCtorEq,↓reduceIte,List.getElem?_set,hlen,t5]
  rw [h0] at hk ⊢
  exact ⟨fun G I y hy => zaT hy,hk⟩
 ·simp only [sxZ,z5,z6,z7,z8,j4,j5,j6,j7,j8,j9,x9,y3,y4,y5,y6,reduceCtorEq,↓reduceIte,List.getElem?_set,hlen,t5,hr,zhi]
  exact ⟨fun G I y hy => hy,hk⟩
end
end
end Go.Proofs.Ytceenajkieomoaa
namespace Go.Proofs.Ytceenajkieomoaa
open Go.RowKit Sx
section
attribute [local irreducible] run
def orE (a b:Int):Int:=if a=0 then b else a
def zaW (v:JV) (e:Int) (name:List UInt8) (kind:Int):Int × JV × Bool :=
 if e ≠ 0 then (e,jvZ,false)
 else if (zby v name).2=true ∧ (zby v name).1.kind ≠ kind then (160,(zby v name).1,false)
 else (0,(zby v name).1,(zby v name).2 && decide ((zby v name).1.kind=kind))
def PlO:OB → Prop
 | .box _ cs => zam cs=true
 | _ => True
theorem zg6 {X:OB} (h:PlO X) (b g n:Nat) (xs:List AV):zfz b g n xs X=X:=by
 cases X with
 | box T cs => show OB.box T _=_; rw [zc4 h]
 | _ => rfl
def Ext (o o':List OB) (b:Nat) (X:OB):Prop:=o'[b]? = some X ∧ o.length ≤ o'.length ∧ ∀ i Y,i ≠ b → o[i]? = some Y → PlO Y → o'[i]? = some Y
theorem Ext.app {o o':List OB} {b:Nat} {X:OB} (h:Ext o o' b X) (z:OB):Ext o (o' ++ [z]) b X:=by
 obtain ⟨h1,h2,h3⟩:=h
 refine ⟨by rw [List.getElem?_append_left (List.getElem?_eq_some_iff.1 h1).1]; exact h1,by simp; omega,fun i Y hb hi hp => ?_⟩
 have:=h3 i Y hb hi hp
 rw [List.getElem?_append_left (List.getElem?_eq_some_iff.1 this).1]; exact this
theorem Ext.refl {o:List OB} {b:Nat} {X:OB} (h:o[b]? = some X):Ext o o b X:=⟨h,Nat.le_refl _,fun _ _ _ h _ => h⟩
theorem Ext.trans {o o1 o2:List OB} {b:Nat} {X Y:OB} (h1:Ext o o1 b X) (h2:Ext o1 o2 b Y):Ext o o2 b Y :=
 ⟨h2.1,Nat.le_trans h1.2.1 h2.2.1,fun i Z hb hi hp => h2.2.2 i Z hb (h1.2.2 i Z hb hi hp) hp⟩
theorem Ext.set {o o':List OB} {b:Nat} {X:OB} (h:Ext o o' b X) (Y:OB):Ext o (o'.set b Y) b Y:=by
 obtain ⟨h1,h2,h3⟩:=h
 refine ⟨List.getElem?_set_self (List.getElem?_eq_some_iff.1 h1).1,by simp; exact h2,fun i Z hb hi hp => ?_⟩
 rw [List.getElem?_set_ne (fun e => hb e.symm)]; exact h3 i Z hb hi hp
theorem Ext.own {o o':List OB} {b:Nat} {X:OB} (h:Ext o o' b X) (j:Nat) (Y:OB) (hj:o.length ≤ j) (hb:b < o.length):Ext o (o'.set j Y) b X:=by
 obtain ⟨h1,h2,h3⟩:=h
 refine ⟨by rw [List.getElem?_set_ne (by omega)]; exact h1,by simp; exact h2,fun i Z hn hi hp => ?_⟩
 have:=(List.getElem?_eq_some_iff.1 hi).1
 rw [List.getElem?_set_ne (by omega)]; exact h3 i Z hn hi hp
theorem Ext.pub {o o':List OB} {b:Nat} {X:OB} (h:Ext o o' b X) (hX:PlO X) (r g n:Nat) (xs:List AV) (hr:o.length ≤ r) (hb:b < o.length):Ext o (zcN o' r g n xs) b X:=by
 obtain ⟨h1,h2,h3⟩:=h
 unfold zcN
 refine ⟨by rw [List.getElem?_set_ne (by omega),List.getElem?_map,h1,Option.map_some,zg6 hX],by simp; exact h2,fun i Z hn hi hp => ?_⟩
 have:=(List.getElem?_eq_some_iff.1 hi).1
 rw [List.getElem?_set_ne (by omega),List.getElem?_map,h3 i Z hn hi hp,Option.map_some,zg6 hp]
def RowT (m:Nat) (l:List (List UInt8)) (o:List OB) (X:AV):Prop:=(l=[] ∧ X=.nil) ∨ ∃ r g,X=.orow r g ∧ m ≤ r ∧ o[r]? = some (.orow 9 1 g l.length (l.map .s))
theorem RowT.mono {m:Nat} {l:List (List UInt8)} {o:List OB} {X:AV} (h:RowT m l o X) (z:OB):RowT m l (o ++ [z]) X:=by
 rcases h with h | ⟨r,g,h1,h0,h2⟩
 ·exact .inl h
 ·exact .inr ⟨r,g,h1,h0,by rw [List.getElem?_append_left (List.getElem?_eq_some_iff.1 h2).1]; exact h2⟩
theorem ziG {v:JV} (hv:JOk v) (key:List UInt8):JOk (zby v key).1:=by
 unfold zby
 split
 ·split
  ·rename_i x hx
   obtain ⟨hi,rfl⟩:=List.getElem?_eq_some_iff.1 hx
   exact hv.its hi
  ·rw [jvZ,JOk]; exact ⟨by decide,by simp,by simp,by simp,by simp,by rw [zcX]; trivial⟩
 ·rw [jvZ,JOk]; exact ⟨by decide,by simp,by simp,by simp,by simp,by rw [zcX]; trivial⟩
theorem jbd_z:JBd jvZ:=by rw [jvZ,JBd]; exact ⟨by simp,by simp,by rw [zcY]; trivial⟩
theorem jok_z:JOk jvZ:=by rw [jvZ,JOk]; exact ⟨by decide,by simp,by simp,by simp,by simp,by rw [zcX]; trivial⟩
theorem ziH {v:JV} (hv:JBd v) (key:List UInt8):JBd (zby v key).1:=by
 unfold zby
 split
 ·split
  ·rename_i x hx
   obtain ⟨hi,rfl⟩:=List.getElem?_eq_some_iff.1 hx
   obtain ⟨k,t,ks,its⟩:=v
   rw [JBd] at hv
   exact zfV hv.2.2 hi
  ·exact jbd_z
 ·exact jbd_z
theorem zhq {v:JV} (hv:JBd v) (e kind:Int) (name:List UInt8):JBd (zaW v e name kind).2.1:=by
 unfold zaW
 split
 ·exact jbd_z
 split
 ·exact ziH hv name
 ·exact ziH hv name
theorem zbV {v:JV} (hv:JOk v) (e kind:Int) (name:List UInt8):JOk (zaW v e name kind).2.1:=by
 unfold zaW
 split
 ·exact jok_z
 split
 ·exact ziG hv name
 ·exact ziG hv name
def itE (v:JV) (e:Int) (name:List UInt8) (most:Nat):Int × List JV :=
 if (zaW v e name 6).2.2=true ∧ most < (zaW v e name 6).2.1.items.length then (161,[]) else ((zaW v e name 6).1,(zaW v e name 6).2.1.items)
theorem zlc {v:JV} {e kind:Int} {name:List UInt8} (h:(zaW v e name kind).2.2=true):(zaW v e name kind).1=0:=by
 unfold zaW at h ⊢
 by_cases c:e=0
 ·rw [if_neg (by simpa using c)] at h ⊢
  split
  ·rename_i c2; rw [if_pos c2] at h; cases h
  ·rfl
 ·rw [if_pos c] at h; cases h
theorem zlQ {v:JV} (hv:JBd v) (e:Int) (name:List UInt8) (most:Nat):(itE v e name most).2.length ≤ 1099511627776:=by
 unfold itE
 split
 ·simp
 ·exact (zhq hv e 6 name).lens.2
def tsE (v:JV) (e:Int) (name:List UInt8):Int × List (List UInt8) :=
 if (itE v e name 64).2.all (fun x => decide (x.kind=5))=true then ((itE v e name 64).1,(itE v e name 64).2.map JV.text) else (orE (itE v e name 64).1 160,[])
def okP (null:Bool) (z:List UInt8 × JV):Bool:=decide (z.2.kind=5) || (null && decide (z.2.kind=1))
def mkP (null:Bool) (z:List UInt8 × JV):PrP:=⟨z.1,if (null && decide (z.2.kind=1))=true then [] else z.2.text,null && decide (z.2.kind=1)⟩
def prE (v:JV) (e:Int) (name:List UInt8) (null:Bool):Int × List PrP :=
 if (zaW v e name 7).2.2=true ∧ 64 < min (zaW v e name 7).2.1.keys.length (zaW v e name 7).2.1.items.length then (161,[])
 else if ((zaW v e name 7).2.1.keys.zip (zaW v e name 7).2.1.items).all (okP null)=true then ((zaW v e name 7).1,((zaW v e name 7).2.1.keys.zip (zaW v e name 7).2.1.items).map (mkP null))
 else (orE (zaW v e name 7).1 160,[])
def RowP (m:Nat) (l:List PrP) (o:List OB) (X:AV):Prop:=(l=[] ∧ X=.nil) ∨ ∃ r g,X=.orow r g ∧ m ≤ r ∧ o[r]? = some (.orow 83 3 g l.length (zaH l))
theorem RowP.mono {m:Nat} {l:List PrP} {o:List OB} {X:AV} (h:RowP m l o X) (z:OB):RowP m l (o ++ [z]) X:=by
 rcases h with h | ⟨r,g,h1,h0,h2⟩
 ·exact .inl h
 ·exact .inr ⟨r,g,h1,h0,by rw [List.getElem?_append_left (List.getElem?_eq_some_iff.1 h2).1]; exact h2⟩
theorem zib (a b:List PrP):zaH (a ++ b)=zaH a ++ zaH b:=by unfold zaH; rw [List.flatMap_append]
theorem itE_ok {v:JV} (hv:JOk v) (hj:JBd v) (e:Int) (name:List UInt8) (most:Nat):∀ y ∈ (itE v e name most).2,JOk y ∧ JBd y:=by
 unfold itE
 split
 ·intro y hy; cases hy
 ·intro y hy
  have h1:=zbV hv e 6 name
  have h2:=zhq hj e 6 name
  dsimp only at hy
  obtain ⟨i,hi,rfl⟩:=List.mem_iff_getElem.1 hy
  refine ⟨h1.its hi,?_⟩
  generalize (zaW v e name 6).2.1=x at h2 hi
  obtain ⟨k,t,ks,its⟩:=x
  rw [JBd] at h2
  exact zfV h2.2.2 hi
theorem Ext.over {o o1 o2 o8:List OB} {b b':Nat} {X Y:OB} (h:Ext o o1 b X) (hX:PlO X) (h2:∀ i,i < o1.length → o2[i]? = o1[i]?) (hl:o1.length ≤ o2.length) (h8:Ext o2 o8 b' Y) (hb':o1.length ≤ b'):Ext o o8 b X:=by
 have hb:=(List.getElem?_eq_some_iff.1 h.1).1
 refine ⟨h8.2.2 b X (by omega) (by rw [h2 b hb]; exact h.1) hX,Nat.le_trans h.2.1 (Nat.le_trans hl h8.2.1),fun i Z hn hi hp => ?_⟩
 have h3:=h.2.2 i Z hn hi hp
 have h4:=(List.getElem?_eq_some_iff.1 h3).1
 exact h8.2.2 i Z (by omega) (by rw [h2 i h4]; exact h3) hp
def zeU:List UInt8:=[114,101,108]
def zci:List UInt8:=[116,121,112,101]
def zcp:List UInt8:=[104,114,101,102]
def zc3:List UInt8:=[116,101,109,112,108,97,116,101]
def zdk:List UInt8:=[116,105,116,108,101,115]
def zbr:List UInt8:=[112,114,111,112,101,114,116,105,101,115]
def zbP:List UInt8:=[115,117,98,106,101,99,116]
def zb3:List UInt8:=[97,108,105,97,115,101,115]
def zbG:List UInt8:=[108,105,110,107,115]
def shE (v:JV):Int:=if v.kind=7 then 0 else 160
def rqE (v:JV) (e:Int) (name:List UInt8):Int:=if (zaW v e name 5).2.2=true then (zaW v e name 5).1 else orE (zaW v e name 5).1 160
def lk1 (y:JV):Int:=rqE y (shE y) zeU
def lk2 (y:JV):Int:=(zaW y (lk1 y) zci 5).1
def lk3 (y:JV):Int:=(zaW y (lk2 y) zcp 5).1
def lk4 (y:JV):Int:=(zaW y (lk3 y) zc3 5).1
def lk5 (y:JV):Int:=(prE y (lk4 y) zdk false).1
def lk6 (y:JV):Int:=(prE y (lk5 y) zbr true).1
def lkV (y:JV):LkP:=⟨(zaW y (shE y) zeU 5).2.1.text,(zaW y (lk1 y) zci 5).2.1.text,(zaW y (lk2 y) zcp 5).2.1.text,(zaW y (lk3 y) zc3 5).2.1.text,(prE y (lk4 y) zdk false).2,(prE y (lk5 y) zbr true).2⟩
def fiE:List JV → Int
 | [] => 0
 | y :: l => if lk6 y=0 then fiE l else lk6 y
theorem fiE_take {l:List JV} {i:Nat} (hi:i < l.length) (h:∀ y ∈ l.take i,lk6 y=0) (h2:lk6 l[i] ≠ 0):fiE l=lk6 l[i]:=by
 induction l generalizing i with
 | nil => simp at hi
 | cons a l ih =>
  cases i with
  | zero => rw [fiE]; exact if_neg h2
  | succ i =>
   rw [fiE,if_pos (h a (by simp))]
   exact ih (by simpa using hi) (fun y hy => h y (by rw [List.take_succ_cons]; exact List.mem_cons_of_mem _ hy)) h2
theorem fiE_all {l:List JV} (h:∀ y ∈ l,lk6 y=0):fiE l=0:=by
 induction l with
 | nil => rfl
 | cons a l ih => rw [fiE,if_pos (h a (by simp))]; exact ih fun y hy => h y (List.mem_cons_of_mem _ hy)
def lsE (v:JV) (e:Int) (name:List UInt8):Int × List LkP :=
 if fiE (itE v e name 64).2=0 then ((itE v e name 64).1,(itE v e name 64).2.map lkV) else (orE (itE v e name 64).1 (fiE (itE v e name 64).2),[])
def RowL (m:Nat) (l:List LkP) (o:List OB) (X:AV):Prop:=(l=[] ∧ X=.nil) ∨ ∃ r g,X=.orow r g ∧ m ≤ r ∧ o[r]? = some (.orow 45 6 g l.length (zbv l))
theorem RowL.mono {m:Nat} {l:List LkP} {o:List OB} {X:AV} (h:RowL m l o X) (z:OB):RowL m l (o ++ [z]) X:=by
 rcases h with h | ⟨r,g,h1,h0,h2⟩
 ·exact .inl h
 ·exact .inr ⟨r,g,h1,h0,by rw [List.getElem?_append_left (List.getElem?_eq_some_iff.1 h2).1]; exact h2⟩
theorem RowL.over {m:Nat} {l:List LkP} {o1 o2 o8:List OB} {X:AV} {b':Nat} {Y:OB} (h:RowL m l o1 X) (h2:∀ i,i < o1.length → o2[i]? = o1[i]?) (h8:Ext o2 o8 b' Y) (hb':o1.length ≤ b'):RowL m l o8 X:=by
 rcases h with h | ⟨r,g,h1,h0,hr⟩
 ·exact .inl h
 ·have h4:=(List.getElem?_eq_some_iff.1 hr).1
  exact .inr ⟨r,g,h1,h0,h8.2.2 r _ (by omega) (by rw [h2 r h4]; exact hr) trivial⟩
def jd1 (v:JV):Int:=(zaW v (shE v) zbP 5).1
def jd2 (v:JV):Int:=(tsE v (jd1 v) zb3).1
def jd3 (v:JV):Int:=(prE v (jd2 v) zbr true).1
def jd4 (v:JV):Int:=(lsE v (jd3 v) zbG).1
end
end Go.Proofs.Ytceenajkieomoaa
namespace Go.Proofs.Ytceenajkieomoaa
open Nat renaming reduceAdd → z5, reduceSub → z6, reduceLeDiff → z7, reduceLT → z8, reduceMul → j4, reduceEqDiff → j5
open Int renaming reduceToNat → j6, reduceAdd → j7, reduceSub → j8, reduceMul → j9, reduceNeg → x9, reduceLT → y3, reduceLE → y4, reduceEq → y5, reduceNe → y6
open Go.RowKit Sx
section
attribute [local irreducible] run
def zbF (v:JV) (e:Int):OB:=.box 71 (.i .i64 e :: zad v)
theorem set_same {α:Type} {l:List α} {i:Nat} {x:α} (h:l[i]? = some x):l.set i x=l:=by
 obtain ⟨h1,h2⟩:=List.getElem?_eq_some_iff.1 h
 rw [← h2,List.set_getElem_self]
theorem gn2 {α:Type} (l:List α) (a z:α):(l ++ [a] ++ [z])[l.length + 1]? = some z:=by
 rw [List.getElem?_append_right (by simp)]; simp
theorem sn2 {α:Type} (l:List α) (a z x:α):(l ++ [a] ++ [z]).set (l.length + 1) x=l ++ [a] ++ [x]:=by
 rw [List.set_append_right _ _ (by simp)]; simp
section
variable [Tabs Try.prog] {objs:List OB} {K:List OB → AV → Prop}
theorem zd2 (v:JV) (e x:Int) (b:Nat) (hb:objs[b]? = some (zbF v e)) (hk:K (objs.set b (zbF v (orE e x))) (.tup [])):zae Try.prog 55 [.p b 0,.i .i64 x] objs K:=by
 unfold zbF at hb hk
 rw [zag] at hb hk
 refine zbj is_jrd_failure_fail fun C _ => ?_
 rw [c_jrd_failure_fail]
 unfold orE at hk
 by_cases c:e=0
 ·rw [if_pos c] at hk
  simp only [sxZ,z5,z6,z7,z8,j4,j5,j6,j7,j8,j9,x9,y3,y4,y5,y6,reduceCtorEq,↓reduceIte,hb,c]
  exact hk
 ·rw [if_neg c,set_same hb] at hk
  simp only [sxZ,z5,z6,z7,z8,j4,j5,j6,j7,j8,j9,x9,y3,y4,y5,y6,reduceCtorEq,↓reduceIte,hb,c]
  exact hk
theorem zed (v:JV) (e kind:Int) (name:List UInt8) (b:Nat) (hv:JOk v) (hj:JBd v) (hb:objs[b]? = some (zbF v e)) (hk:∀ o,Ext objs o b (zbF v (zaW v e name kind).1) → K o (.tup [.agg (zad (zaW v e name kind).2.1),.b (zaW v e name kind).2.2])):zae Try.prog 56 [.p b 0,.s name,.i .i64 kind] objs K:=by
 have hbl:=(List.getElem?_eq_some_iff.1 hb).1
 refine zdb (zdR (zaW v e name kind).2) ?_
 have hk':∀ o,Ext objs o b (zbF v (zaW v e name kind).1) → K o (zdR (zaW v e name kind).2):=hk
 clear hk
 refine zbj is_jrd_decoder_member fun C _ => ?_
 rw [c_jrd_decoder_member]
 have hb':=hb
 unfold zbF at hb
 rw [zag] at hb
 refine zaa fun Z hZ => ?_
 simp only [sxZ,z5,z6,z7,z8,j4,j5,j6,j7,j8,j9,x9,y3,y4,y5,y6,reduceCtorEq,↓reduceIte]
 subst hZ
 refine zaa fun Z hZ => ?_
 have hb1:∀ z,(objs ++ [z])[b]? = some (.box 71 [.i .i64 e,.i .i64 v.kind,.s v.text,.row v.keys.length (v.keys.map .s),.row v.items.length (zab v.items)]):=fun z => by rw [List.getElem?_append_left hbl]; exact hb
 by_cases c:e=0
 ·subst c
  simp only [sxZ,z5,z6,z7,z8,j4,j5,j6,j7,j8,j9,x9,y3,y4,y5,y6,reduceCtorEq,↓reduceIte,hb1]
  subst hZ
  refine zaa fun Z hZ => ?_
  simp only [sxZ,z5,z6,z7,z8,j4,j5,j6,j7,j8,j9,x9,y3,y4,y5,y6,reduceCtorEq,↓reduceIte,hb1]
  have ej:AV.agg [.i .i64 v.kind,.s v.text,.row v.keys.length (v.keys.map .s),.row v.items.length (zab v.items)]=.agg (zad v):=by rw [zag]
  rw [ej]
  refine zaj (jGet14_k v name hv hj ?_)
  have hm:zaW v 0 name kind=if (zby v name).2=true ∧ (zby v name).1.kind ≠ kind then (160,(zby v name).1,false) else (0,(zby v name).1,(zby v name).2 && decide ((zby v name).1.kind=kind)):=by
   unfold zaW; rw [if_neg (by simp)]
  obtain ⟨⟨x,ok⟩,hx⟩:∃ R,zby v name=R:=⟨_,rfl⟩
  rw [hx] at hm ⊢
  unfold zdR
  rw [zag x]
  simp only [sxZ,z5,z6,z7,z8,j4,j5,j6,j7,j8,j9,x9,y3,y4,y5,y6,reduceCtorEq,↓reduceIte,gn1,sn1,gn2,sn2,List.length_append,List.length_cons,List.length_nil]
  have hE:=((Ext.refl hb').app (.box 25 [.i .i64 0,.s [],.nil,.nil])).app (.box 25 [.i .i64 x.kind,.s x.text,.row x.keys.length (x.keys.map .s),.row x.items.length (zab x.items)])
  have eA:(objs ++ [OB.box 25 [.i .i64 0,.s [],.nil,.nil]] ++ [OB.box 25 [.i .i64 x.kind,.s x.text,.row x.keys.length (x.keys.map .s),.row x.items.length (zab x.items)]])[objs.length]? = some (.box 25 [.i .i64 0,.s [],.nil,.nil]):=by
   rw [List.getElem?_append_left (by simp)]; exact gn1 _ _
  have eB:(objs ++ [OB.box 25 [.i .i64 0,.s [],.nil,.nil]] ++ [OB.box 25 [.i .i64 x.kind,.s x.text,.row x.keys.length (x.keys.map .s),.row x.items.length (zab x.items)]])[objs.length + 1]? = some (.box 25 [.i .i64 x.kind,.s x.text,.row x.keys.length (x.keys.map .s),.row x.items.length (zab x.items)]):=by
   rw [List.getElem?_append_right (by simp)]; simp
  generalize objs ++ [OB.box 25 [.i .i64 0,.s [],.nil,.nil]] ++ [OB.box 25 [.i .i64 x.kind,.s x.text,.row x.keys.length (x.keys.map .s),.row x.items.length (zab x.items)]]=o1 at hE eA eB ⊢
  have hol:objs.length < o1.length:=(List.getElem?_eq_some_iff.1 eA).1
  have ejx:zad x=[.i .i64 x.kind,.s x.text,.row x.keys.length (x.keys.map .s),.row x.items.length (zab x.items)]:=zag x
  subst hZ
  refine zaa fun Z hZ => ?_
  cases ok with
  | false =>
   have hm2:zaW v 0 name kind=(0,x,false):=by rw [hm]; simp
   rw [hm2] at hk' ⊢
   simp only [sxZ,z5,z6,z7,z8,j4,j5,j6,j7,j8,j9,x9,y3,y4,y5,y6,reduceCtorEq,↓reduceIte,eB]
   subst hZ
   simp only [sxZ,z5,z6,z7,z8,j4,j5,j6,j7,j8,j9,x9,y3,y4,y5,y6,reduceCtorEq,↓reduceIte,eB,eA,List.getElem?_set_self hol]
   have hf:=hk' _ (hE.own objs.length (.box 25 (zad x)) (Nat.le_refl _) hbl)
   unfold zdR at hf
   rw [ejx] at hf ⊢
   exact ⟨fun G I y hy => hy,hf⟩
  | true =>
   by_cases c2:x.kind=kind
   ·have hm2:zaW v 0 name kind=(0,x,true):=by rw [hm]; simp [c2]
    rw [hm2] at hk' ⊢
    simp only [sxZ,z5,z6,z7,z8,j4,j5,j6,j7,j8,j9,x9,y3,y4,y5,y6,reduceCtorEq,↓reduceIte,eB,c2]
    subst hZ
    simp only [sxZ,z5,z6,z7,z8,j4,j5,j6,j7,j8,j9,x9,y3,y4,y5,y6,reduceCtorEq,↓reduceIte,eB,eA,c2,List.getElem?_set_self hol]
    refine ⟨by omega,?_⟩
    have hf:=hk' _ (hE.own objs.length (.box 25 (zad x)) (Nat.le_refl _) hbl)
    unfold zdR at hf
    rw [ejx,c2] at hf ⊢
    exact ⟨fun G I y hy => hy,hf⟩
   ·have hm2:zaW v 0 name kind=(160,x,false):=by rw [hm]; simp [c2]
    rw [hm2] at hk' ⊢
    simp only [sxZ,z5,z6,z7,z8,j4,j5,j6,j7,j8,j9,x9,y3,y4,y5,y6,reduceCtorEq,↓reduceIte,eB,c2]
    refine zaj (zd2 v 0 160 b hE.1 ?_)
    have hE2:=hE.set (zbF v (orE 0 160))
    have eA2:(o1.set b (zbF v (orE 0 160)))[objs.length]? = some (.box 25 [.i .i64 0,.s [],.nil,.nil]):=by rw [List.getElem?_set_ne (by omega)]; exact eA
    have eB2:(o1.set b (zbF v (orE 0 160)))[objs.length + 1]? = some (.box 25 [.i .i64 x.kind,.s x.text,.row x.keys.length (x.keys.map .s),.row x.items.length (zab x.items)]):=by rw [List.getElem?_set_ne (by omega)]; exact eB
    have hor:orE 0 160=160:=by rfl
    rw [hor] at hE2 eA2 eB2 ⊢
    generalize o1.set b (zbF v 160)=o2 at hE2 eA2 eB2 ⊢
    have hol2:objs.length < o2.length:=(List.getElem?_eq_some_iff.1 eA2).1
    simp only [sxZ,z5,z6,z7,z8,j4,j5,j6,j7,j8,j9,x9,y3,y4,y5,y6,reduceCtorEq,↓reduceIte]
    subst hZ
    simp only [sxZ,z5,z6,z7,z8,j4,j5,j6,j7,j8,j9,x9,y3,y4,y5,y6,reduceCtorEq,↓reduceIte,eB2,eA2,c2,List.getElem?_set_self hol2]
    refine ⟨by omega,?_⟩
    have hf:=hk' _ (hE2.own objs.length (.box 25 (zad x)) (Nat.le_refl _) hbl)
    unfold zdR at hf
    rw [ejx] at hf ⊢
    exact ⟨fun G I y hy => hy,hf⟩
 ·simp only [sxZ,z5,z6,z7,z8,j4,j5,j6,j7,j8,j9,x9,y3,y4,y5,y6,reduceCtorEq,↓reduceIte,hb1,c,gn1,sn1]
  have hm:zaW v e name kind=(e,jvZ,false):=by unfold zaW; rw [if_pos c]
  rw [hm] at hk' ⊢
  exact ⟨fun G I y hy => zmo hy,hk' _ ((Ext.refl hb').app _)⟩
theorem zf0 (v:JV) (e:Int) (name:List UInt8) (b:Nat) (hv:JOk v) (hj:JBd v) (hb:objs[b]? = some (zbF v e)) (hk:∀ o,Ext objs o b (zbF v (zaW v e name 5).1) → K o (.s (zaW v e name 5).2.1.text)):zae Try.prog 27 [.p b 0,.s name] objs K:=by
 have hbl:=(List.getElem?_eq_some_iff.1 hb).1
 refine zbj is_jrd_decoder_text fun C _ => ?_
 rw [c_jrd_decoder_text]
 refine zaa fun Z hZ => ?_
 simp only [sxZ,z5,z6,z7,z8,j4,j5,j6,j7,j8,j9,x9,y3,y4,y5,y6,reduceCtorEq,↓reduceIte]
 subst hZ
 refine zaa fun Z hZ => ?_
 simp only [sxZ,z5,z6,z7,z8,j4,j5,j6,j7,j8,j9,x9,y3,y4,y5,y6,reduceCtorEq,↓reduceIte]
 refine zaj (zed v e 5 name b hv hj hb fun o ho => ?_)
 generalize zaW v e name 5=M at hk ho ⊢
 obtain ⟨e1,x,ok⟩:=M
 have hl:=ho.2.1
 dsimp only at hk ho ⊢
 rw [zag x]
 simp only [sxZ,z5,z6,z7,z8,j4,j5,j6,j7,j8,j9,x9,y3,y4,y5,y6,reduceCtorEq,↓reduceIte,gn1,sn1]
 subst hZ
 simp only [sxZ,z5,z6,z7,z8,j4,j5,j6,j7,j8,j9,x9,y3,y4,y5,y6,reduceCtorEq,↓reduceIte,gn1]
 exact hk _ (ho.app _)
theorem dreq_k (v:JV) (e:Int) (name:List UInt8) (b:Nat) (hv:JOk v) (hj:JBd v) (hb:objs[b]? = some (zbF v e)) (hk:∀ o,Ext objs o b (zbF v (if (zaW v e name 5).2.2=true then (zaW v e name 5).1 else orE (zaW v e name 5).1 160)) → K o (.s (zaW v e name 5).2.1.text)):zae Try.prog 58 [.p b 0,.s name] objs K:=by
 have hbl:=(List.getElem?_eq_some_iff.1 hb).1
 refine zbj is_jrd_decoder_requiredText fun C _ => ?_
 rw [c_jrd_decoder_requiredText]
 refine zaa fun Z hZ => ?_
 simp only [sxZ,z5,z6,z7,z8,j4,j5,j6,j7,j8,j9,x9,y3,y4,y5,y6,reduceCtorEq,↓reduceIte]
 subst hZ
 refine zaa fun Z hZ => ?_
 simp only [sxZ,z5,z6,z7,z8,j4,j5,j6,j7,j8,j9,x9,y3,y4,y5,y6,reduceCtorEq,↓reduceIte]
 refine zaj (zed v e 5 name b hv hj hb fun o ho => ?_)
 generalize zaW v e name 5=M at hk ho ⊢
 obtain ⟨e1,x,ok⟩:=M
 have hl:=ho.2.1
 dsimp only at hk ho ⊢
 rw [zag x]
 simp only [sxZ,z5,z6,z7,z8,j4,j5,j6,j7,j8,j9,x9,y3,y4,y5,y6,reduceCtorEq,↓reduceIte,gn1,sn1]
 have hE:=ho.app (.box 25 [.i .i64 x.kind,.s x.text,.row x.keys.length (x.keys.map .s),.row x.items.length (zab x.items)])
 have eB:(o ++ [OB.box 25 [.i .i64 x.kind,.s x.text,.row x.keys.length (x.keys.map .s),.row x.items.length (zab x.items)]])[o.length]? = some (.box 25 [.i .i64 x.kind,.s x.text,.row x.keys.length (x.keys.map .s),.row x.items.length (zab x.items)]):=gn1 _ _
 generalize o ++ [OB.box 25 [.i .i64 x.kind,.s x.text,.row x.keys.length (x.keys.map .s),.row x.items.length (zab x.items)]]=o1 at hE eB ⊢
 subst hZ
 refine zaa fun Z hZ => ?_
 cases ok with
 | true =>
  simp only [sxZ,z5,z6,z7,z8,j4,j5,j6,j7,j8,j9,x9,y3,y4,y5,y6,reduceCtorEq,↓reduceIte]
  subst hZ
  simp only [sxZ,z5,z6,z7,z8,j4,j5,j6,j7,j8,j9,x9,y3,y4,y5,y6,reduceCtorEq,↓reduceIte,eB]
  exact hk _ hE
 | false =>
  simp only [sxZ,z5,z6,z7,z8,j4,j5,j6,j7,j8,j9,x9,y3,y4,y5,y6,reduceCtorEq,↓reduceIte]
  refine zaj (zd2 v e1 160 b hE.1 ?_)
  have eB2:(o1.set b (zbF v (orE e1 160)))[o.length]? = some (.box 25 [.i .i64 x.kind,.s x.text,.row x.keys.length (x.keys.map .s),.row x.items.length (zab x.items)]):=by rw [List.getElem?_set_ne (by omega)]; exact eB
  have hE2:=hE.set (zbF v (orE e1 160))
  generalize o1.set b (zbF v (orE e1 160))=o2 at hE2 eB2 ⊢
  simp only [sxZ,z5,z6,z7,z8,j4,j5,j6,j7,j8,j9,x9,y3,y4,y5,y6,reduceCtorEq,↓reduceIte]
  subst hZ
  simp only [sxZ,z5,z6,z7,z8,j4,j5,j6,j7,j8,j9,x9,y3,y4,y5,y6,reduceCtorEq,↓reduceIte,eB2]
  exact hk _ hE2
theorem zi9 (v:JV) (e:Int) (name:List UInt8) (most b:Nat) (hv:JOk v) (hj:JBd v) (hb:objs[b]? = some (zbF v e)) (hk:∀ o,Ext objs o b (zbF v (itE v e name most).1) → K o (.row (itE v e name most).2.length (zab (itE v e name most).2))):zae Try.prog 57 [.p b 0,.s name,.i .i64 (most:Int)] objs K:=by
 have hbl:=(List.getElem?_eq_some_iff.1 hb).1
 refine zdb (.row (itE v e name most).2.length (zab (itE v e name most).2)) ?_
 refine zbj is_jrd_decoder_items fun C _ => ?_
 rw [c_jrd_decoder_items]
 refine zaa fun Z hZ => ?_
 simp only [sxZ,z5,z6,z7,z8,j4,j5,j6,j7,j8,j9,x9,y3,y4,y5,y6,reduceCtorEq,↓reduceIte]
 subst hZ
 refine zaa fun Z hZ => ?_
 simp only [sxZ,z5,z6,z7,z8,j4,j5,j6,j7,j8,j9,x9,y3,y4,y5,y6,reduceCtorEq,↓reduceIte]
 refine zaj (zed v e 6 name b hv hj hb fun o ho => ?_)
 have hmo:=zlc (v:=v) (e:=e) (kind:=6) (name:=name)
 unfold itE at hk ⊢
 generalize zaW v e name 6=M at hk ho hmo ⊢
 obtain ⟨e1,x,ok⟩:=M
 have hl:=ho.2.1
 dsimp only at hk ho hmo ⊢
 rw [zag x]
 simp only [sxZ,z5,z6,z7,z8,j4,j5,j6,j7,j8,j9,x9,y3,y4,y5,y6,reduceCtorEq,↓reduceIte,gn1,sn1]
 have hE:=ho.app (.box 25 [.i .i64 x.kind,.s x.text,.row x.keys.length (x.keys.map .s),.row x.items.length (zab x.items)])
 have eB:(o ++ [OB.box 25 [.i .i64 x.kind,.s x.text,.row x.keys.length (x.keys.map .s),.row x.items.length (zab x.items)]])[o.length]? = some (.box 25 [.i .i64 x.kind,.s x.text,.row x.keys.length (x.keys.map .s),.row x.items.length (zab x.items)]):=gn1 _ _
 generalize o ++ [OB.box 25 [.i .i64 x.kind,.s x.text,.row x.keys.length (x.keys.map .s),.row x.items.length (zab x.items)]]=o1 at hE eB ⊢
 subst hZ
 refine zaa fun Z hZ => ?_
 cases ok with
 | false =>
  rw [if_neg (by simp)] at hk ⊢
  simp only [sxZ,z5,z6,z7,z8,j4,j5,j6,j7,j8,j9,x9,y3,y4,y5,y6,reduceCtorEq,↓reduceIte]
  subst hZ
  simp only [sxZ,z5,z6,z7,z8,j4,j5,j6,j7,j8,j9,x9,y3,y4,y5,y6,reduceCtorEq,↓reduceIte,eB]
  exact ⟨fun G I y hy => hy,hk _ hE⟩
 | true =>
  by_cases c:(most:Int) < (x.items.length:Int)
  ·rw [if_pos ⟨rfl,by omega⟩] at hk ⊢
   simp only [sxZ,z5,z6,z7,z8,j4,j5,j6,j7,j8,j9,x9,y3,y4,y5,y6,reduceCtorEq,↓reduceIte,eB,c]
   refine zaj (zd2 v e1 161 b hE.1 ?_)
   have hE2:=hE.set (zbF v (orE e1 161))
   rw [hmo rfl,show orE 0 161=161 from rfl] at hE2 ⊢
   simp only [sxZ,z5,z6,z7,z8,j4,j5,j6,j7,j8,j9,x9,y3,y4,y5,y6,reduceCtorEq,↓reduceIte]
   exact ⟨fun G I y hy => zaT hy,hk _ hE2⟩
  ·rw [if_neg (fun h => c (by have:=h.2; omega))] at hk ⊢
   simp only [sxZ,z5,z6,z7,z8,j4,j5,j6,j7,j8,j9,x9,y3,y4,y5,y6,reduceCtorEq,↓reduceIte,eB,c]
   subst hZ
   simp only [sxZ,z5,z6,z7,z8,j4,j5,j6,j7,j8,j9,x9,y3,y4,y5,y6,reduceCtorEq,↓reduceIte,eB]
   exact ⟨fun G I y hy => hy,hk _ hE⟩
theorem zil (v:JV) (hk:∀ o b,objs.length ≤ b → o[b]? = some (zbF v (if v.kind=7 then 0 else 160)) → objs.length ≤ o.length → (∀ i,i < objs.length → o[i]? = objs[i]?) → K o (.p b 0)):zae Try.prog 26 [.agg (zad v)] objs K:=by
 refine zbj is_jrd_newDecoder fun C _ => ?_
 rw [c_jrd_newDecoder]
 rw [zag]
 refine zaa fun Z hZ => ?_
 simp only [sxZ,z5,z6,z7,z8,j4,j5,j6,j7,j8,j9,x9,y3,y4,y5,y6,reduceCtorEq,↓reduceIte]
 subst hZ
 refine zaa fun Z hZ => ?_
 simp only [sxZ,z5,z6,z7,z8,j4,j5,j6,j7,j8,j9,x9,y3,y4,y5,y6,reduceCtorEq,↓reduceIte,gn1,gn2,List.length_append,List.length_cons,List.length_nil]
 have eB:(objs ++ [OB.box 25 [.i .i64 v.kind,.s v.text,.row v.keys.length (v.keys.map .s),.row v.items.length (zab v.items)]] ++ [OB.box 71 [.i .i64 0,.i .i64 v.kind,.s v.text,.row v.keys.length (v.keys.map .s),.row v.items.length (zab v.items)]])[objs.length + 1]? = some (zbF v 0):=by rw [gn2]; unfold zbF; rw [zag]
 have eA:(objs ++ [OB.box 25 [.i .i64 v.kind,.s v.text,.row v.keys.length (v.keys.map .s),.row v.items.length (zab v.items)]] ++ [OB.box 71 [.i .i64 0,.i .i64 v.kind,.s v.text,.row v.keys.length (v.keys.map .s),.row v.items.length (zab v.items)]])[objs.length]? = some (.box 25 [.i .i64 v.kind,.s v.text,.row v.keys.length (v.keys.map .s),.row v.items.length (zab v.items)]):=by rw [List.getElem?_append_left (by simp)]; exact gn1 _ _
 have eO:∀ i,i < objs.length → (objs ++ [OB.box 25 [.i .i64 v.kind,.s v.text,.row v.keys.length (v.keys.map .s),.row v.items.length (zab v.items)]] ++ [OB.box 71 [.i .i64 0,.i .i64 v.kind,.s v.text,.row v.keys.length (v.keys.map .s),.row v.items.length (zab v.items)]])[i]? = objs[i]?:=fun i hi => by rw [List.getElem?_append_left (by simp; omega),List.getElem?_append_left hi]
 generalize objs ++ [OB.box 25 [.i .i64 v.kind,.s v.text,.row v.keys.length (v.keys.map .s),.row v.items.length (zab v.items)]] ++ [OB.box 71 [.i .i64 0,.i .i64 v.kind,.s v.text,.row v.keys.length (v.keys.map .s),.row v.items.length (zab v.items)]]=o1 at eA eB eO ⊢
 have hol:objs.length + 1 < o1.length:=(List.getElem?_eq_some_iff.1 eB).1
 subst hZ
 refine zaa fun Z hZ => ?_
 by_cases c:v.kind=7
 ·rw [if_pos c] at hk
  simp only [sxZ,z5,z6,z7,z8,j4,j5,j6,j7,j8,j9,x9,y3,y4,y5,y6,reduceCtorEq,↓reduceIte,eA,c]
  subst hZ
  simp only [sxZ,z5,z6,z7,z8,j4,j5,j6,j7,j8,j9,x9,y3,y4,y5,y6,reduceCtorEq,↓reduceIte]
  exact hk _ _ (by omega) eB (by omega) eO
 ·rw [if_neg c] at hk
  simp only [sxZ,z5,z6,z7,z8,j4,j5,j6,j7,j8,j9,x9,y3,y4,y5,y6,reduceCtorEq,↓reduceIte,eA,c]
  refine zaj (zd2 v 0 160 (objs.length + 1) eB ?_)
  simp only [sxZ,z5,z6,z7,z8,j4,j5,j6,j7,j8,j9,x9,y3,y4,y5,y6,reduceCtorEq,↓reduceIte]
  subst hZ
  simp only [sxZ,z5,z6,z7,z8,j4,j5,j6,j7,j8,j9,x9,y3,y4,y5,y6,reduceCtorEq,↓reduceIte]
  refine hk _ _ (by omega) (List.getElem?_set_self hol) (by rw [List.length_set]; omega) fun i hi => ?_
  rw [List.getElem?_set_ne (by omega)]; exact eO i hi
end
end
section
attribute [local irreducible] run
theorem zf5 (v:JV) (e:Int):PlO (zbF v e):=by
 show zam (_ :: zad v)=true
 simp only [zam,AV.plain,zbt,Bool.and_self]
section
variable [Tabs Try.prog] {objs:List OB} {K:List OB → AV → Prop}
theorem dtexts_k (v:JV) (e:Int) (name:List UInt8) (b:Nat) (hv:JOk v) (hj:JBd v) (hb:objs[b]? = some (zbF v e)) (hk:∀ o,Ext objs o b (zbF v (tsE v e name).1) → K o (.row (tsE v e name).2.length ((tsE v e name).2.map .s))):zae Try.prog 28 [.p b 0,.s name] objs K:=by
 have hbl:=(List.getElem?_eq_some_iff.1 hb).1
 obtain ⟨R,hR⟩:∃ R,tsE v e name=R:=⟨_,rfl⟩
 rw [hR] at hk
 refine zdb (.row R.2.length (R.2.map .s)) ?_
 refine zbg ?_
 refine zbj is_jrd_decoder_texts fun C _ => ?_
 rw [c_jrd_decoder_texts]
 refine zaa fun Z hZ => ?_
 simp only [sxZ,z5,z6,z7,z8,j4,j5,j6,j7,j8,j9,x9,y3,y4,y5,y6,reduceCtorEq,↓reduceIte]
 subst hZ
 refine zaa fun Z hZ => ?_
 simp only [sxZ,z5,z6,z7,z8,j4,j5,j6,j7,j8,j9,x9,y3,y4,y5,y6,reduceCtorEq,↓reduceIte]
 subst hZ
 refine zaa fun Z hZ => ?_
 refine zaa fun W hW => ?_
 simp only [sxZ,z5,z6,z7,z8,j4,j5,j6,j7,j8,j9,x9,y3,y4,y5,y6,reduceCtorEq,↓reduceIte]
 refine zaj (zi9 v e name 64 b hv hj hb fun o ho => ?_)
 have hit:=zlQ hj e name 64
 unfold tsE at hR
 generalize itE v e name 64=M at hR ho hit ⊢
 obtain ⟨e1,its⟩:=M
 dsimp only at hR ho hit ⊢
 have hl4:=zat its
 simp only [sxZ,z5,z6,z7,z8,j4,j5,j6,j7,j8,j9,x9,y3,y4,y5,y6,reduceCtorEq,↓reduceIte]
 subst hW
 rw [zaw]
 refine zax (fun m o tm => ∃ (i:Nat),i ≤ its.length ∧ m=its.length - i ∧ Ext objs o b (zbF v e1) ∧ (∀ x ∈ its.take i,x.kind=5) ∧ RowT objs.length ((its.take i).map JV.text) o (tm[5]?.getD .u) ∧ tm.length=30 ∧ tm[0]? = some (.p b 0) ∧ tm[10]? = some (.row its.length (zab its)) ∧ tm[11]? = some (.i .i64 (its.length:Int)) ∧ tm[12]? = some (.i .i64 (i:Int))) its.length ⟨0,Nat.zero_le _,rfl,ho,by simp,.inl ⟨rfl,rfl⟩,rfl,rfl,rfl,rfl,rfl⟩ ?_
 clear ho
 rintro m o tm ⟨i,hi,rfl,ho,hall,hA,hlen,t0,t10,t11,t12⟩
 obtain ⟨a5,t5⟩:∃ a,tm[5]? = some a:=⟨_,List.getElem?_eq_getElem (by omega)⟩
 rw [t5,Option.getD_some] at hA
 refine zaa fun W hW => ?_
 by_cases hlt:(i:Int) < (its.length:Int)
 ·have hi':i < its.length:=by omega
  have kv:=zeI hi'
  have hmem:=List.getElem_mem hi'
  have htk:its.take (i + 1)=its.take i ++ [its[i]]:=by rw [List.take_add_one,List.getElem?_eq_getElem hi']; rfl
  have hfl:((its.take i).map JV.text).length=i:=by rw [List.length_map,List.length_take]; omega
  generalize its[i]=y at kv htk hmem
  rw [zag y] at kv
  simp only [sxZ,z5,z6,z7,z8,j4,j5,j6,j7,j8,j9,x9,y3,y4,y5,y6,reduceCtorEq,↓reduceIte,List.getElem?_set,hlen,t10,t11,t12,hlt]
  subst hW
  refine zaa fun W hW => ?_
  simp only [sxZ,z5,z6,z7,z8,j4,j5,j6,j7,j8,j9,x9,y3,y4,y5,y6,reduceCtorEq,↓reduceIte,List.getElem?_set,hlen]
  subst hW
  refine zaa fun V hV => ?_
  rw [zaw]
  refine zaa fun W hW => ?_
  simp only [sxZ,z5,z6,z7,z8,j4,j5,j6,j7,j8,j9,x9,y3,y4,y5,y6,reduceCtorEq,↓reduceIte,List.getElem?_set,hlen,t10,t12,kv]
  refine ⟨⟨by omega,by omega,by omega⟩,by omega,?_⟩
  simp only [sxZ,z5,z6,z7,z8,j4,j5,j6,j7,j8,j9,x9,y3,y4,y5,y6,reduceCtorEq,↓reduceIte,List.getElem?_set,hlen,gn1,sn1]
  subst hW
  have hE:=ho.app (.box 25 [.i .i64 y.kind,.s y.text,.row y.keys.length (y.keys.map .s),.row y.items.length (zab y.items)])
  have hA2:=hA.mono (.box 25 [.i .i64 y.kind,.s y.text,.row y.keys.length (y.keys.map .s),.row y.items.length (zab y.items)])
  have eB:(o ++ [OB.box 25 [.i .i64 y.kind,.s y.text,.row y.keys.length (y.keys.map .s),.row y.items.length (zab y.items)]])[o.length]? = some (.box 25 [.i .i64 y.kind,.s y.text,.row y.keys.length (y.keys.map .s),.row y.items.length (zab y.items)]):=gn1 _ _
  have hol:=ho.2.1
  generalize o ++ [OB.box 25 [.i .i64 y.kind,.s y.text,.row y.keys.length (y.keys.map .s),.row y.items.length (zab y.items)]]=o1 at hE hA2 eB ⊢
  refine zaa fun W hW => ?_
  by_cases c:y.kind=5
  ·simp only [sxZ,z5,z6,z7,z8,j4,j5,j6,j7,j8,j9,x9,y3,y4,y5,y6,reduceCtorEq,↓reduceIte,List.getElem?_set,hlen,eB,c]
   subst hW
   refine zaA (fun o3 t3 => Ext objs o3 b (zbF v e1) ∧ RowT objs.length (((its.take i).map JV.text) ++ [y.text]) o3 (t3[5]?.getD .u) ∧ t3.length=30 ∧ t3[0]? = some (.p b 0) ∧ t3[10]? = some (.row its.length (zab its)) ∧ t3[11]? = some (.i .i64 (its.length:Int)) ∧ t3[12]? = some (.i .i64 (i:Int))) ?_ ?_
   ·generalize (its.take i).map JV.text=acc at hA2 hfl
    rcases hA2 with ⟨rfl,rfl⟩ | ⟨r,g,rfl,hr0,hr⟩
    ·simp only [sxZ,z5,z6,z7,z8,j4,j5,j6,j7,j8,j9,x9,y3,y4,y5,y6,reduceCtorEq,↓reduceIte,List.getElem?_set,hlen,t0,t5,t10,t11,t12,eB,zac]
     refine ⟨hE.app _,.inr ⟨_,0,rfl,by have:=hE.2.1; omega,?_⟩⟩
     rw [gn1]; simp
    ·have hrl:=(List.getElem?_eq_some_iff.1 hr).1
     simp only [sxZ,z5,z6,z7,z8,j4,j5,j6,j7,j8,j9,x9,y3,y4,y5,y6,reduceCtorEq,↓reduceIte,List.getElem?_set,hlen,t0,t5,t10,t11,t12,eB,hr,zac]
     refine ⟨⟨by omega,by omega⟩,hE.own r _ hr0 hbl,.inr ⟨r,g + 1,rfl,hr0,?_⟩⟩
     rw [List.getElem?_set_self hrl,List.length_append,List.map_append]
     rfl
   rintro o3 tm2 ⟨hE3,hA3,hlen2,k0,k10,k11,k12⟩
   simp only [sxZ,z5,z6,z7,z8,j4,j5,j6,j7,j8,j9,x9,y3,y4,y5,y6,reduceCtorEq,↓reduceIte]
   subst hV
   simp only [sxZ,z5,z6,z7,z8,j4,j5,j6,j7,j8,j9,x9,y3,y4,y5,y6,reduceCtorEq,↓reduceIte,List.getElem?_set,hlen2,k0,k10,k11,k12]
   refine ⟨by omega,its.length - (i + 1),by omega,i + 1,by omega,rfl,hE3,fun x hx => ?_,?_,rfl⟩
   ·rw [htk] at hx
    rcases List.mem_append.1 hx with hx | hx
    ·exact hall x hx
    ·rw [List.mem_singleton] at hx; rw [hx]; exact c
   ·rw [htk,List.map_append]; exact hA3
  ·simp only [sxZ,z5,z6,z7,z8,j4,j5,j6,j7,j8,j9,x9,y3,y4,y5,y6,reduceCtorEq,↓reduceIte,List.getElem?_set,hlen,eB,c,t0]
   refine zaj (zd2 v e1 160 b hE.1 ?_)
   have hE2:=hE.set (zbF v (orE e1 160))
   have hno:¬ its.all (fun x => decide (x.kind=5))=true:=fun h => c (by have:=List.all_eq_true.1 h y hmem; simpa using this)
   rw [if_neg hno] at hR
   subst hR
   generalize o1.set b (zbF v (orE e1 160))=o2 at hE2 ⊢
   simp only [sxZ,z5,z6,z7,z8,j4,j5,j6,j7,j8,j9,x9,y3,y4,y5,y6,reduceCtorEq,↓reduceIte,List.getElem?_set,hlen]
   exact .inl ⟨fun G I y hy => zaT hy,hk _ hE2⟩
 have hn:i=its.length:=by omega
 rw [hn,List.take_of_length_le (Nat.le_refl _)] at hA hall
 rw [if_pos (List.all_eq_true.2 fun x hx => decide_eq_true (hall x hx))] at hR
 subst hR
 simp only [sxZ,z5,z6,z7,z8,j4,j5,j6,j7,j8,j9,x9,y3,y4,y5,y6,reduceCtorEq,↓reduceIte,List.getElem?_set,hlen,t10,t11,t12,hlt]
 subst hW
 simp only [sxZ,z5,z6,z7,z8,j4,j5,j6,j7,j8,j9,x9,y3,y4,y5,y6,reduceCtorEq,↓reduceIte,List.getElem?_set,hlen]
 subst hZ
 rcases hA with ⟨h0,rfl⟩ | ⟨r,g,rfl,hr0,hr⟩
 ·simp only [sxZ,z5,z6,z7,z8,j4,j5,j6,j7,j8,j9,x9,y3,y4,y5,y6,reduceCtorEq,↓reduceIte,List.getElem?_set,hlen,t5]
  rw [h0] at hk ⊢
  exact .inl ⟨fun G I y hy => zaT hy,hk _ ho⟩
 ·simp only [sxZ,z5,z6,z7,z8,j4,j5,j6,j7,j8,j9,x9,y3,y4,y5,y6,reduceCtorEq,↓reduceIte,List.getElem?_set,hlen,t5]
  refine .inr ⟨r,_,_,_,_,_,hr,fun G I y hy => ?_,hk _ (ho.pub (zf5 _ _) r g _ _ hr0 hbl)⟩
  simpa [zhQ,zaY] using hy
end
end
section
attribute [local irreducible] run
section
variable [Tabs Try.prog] {objs:List OB} {K:List OB → AV → Prop}
theorem zf1 (v:JV) (e:Int) (name:List UInt8) (null:Bool) (b:Nat) (hv:JOk v) (hj:JBd v) (hb:objs[b]? = some (zbF v e)) (hk:∀ o,Ext objs o b (zbF v (prE v e name null).1) → K o (.row (prE v e name null).2.length (zaH (prE v e name null).2))):zae Try.prog 29 [.p b 0,.s name,.b null] objs K:=by
 have hbl:=(List.getElem?_eq_some_iff.1 hb).1
 obtain ⟨R,hR⟩:∃ R,prE v e name null=R:=⟨_,rfl⟩
 rw [hR] at hk
 refine zdb (.row R.2.length (zaH R.2)) ?_
 refine zbg ?_
 refine zbj is_jrd_decoder_properties fun C _ => ?_
 rw [c_jrd_decoder_properties]
 refine zaa fun Z hZ => ?_
 simp only [sxZ,z5,z6,z7,z8,j4,j5,j6,j7,j8,j9,x9,y3,y4,y5,y6,reduceCtorEq,↓reduceIte]
 subst hZ
 refine zaa fun Z hZ => ?_
 simp only [sxZ,z5,z6,z7,z8,j4,j5,j6,j7,j8,j9,x9,y3,y4,y5,y6,reduceCtorEq,↓reduceIte]
 refine zaj (zed v e 7 name b hv hj hb fun o ho => ?_)
 have hbd:=(zhq hj e 7 name).lens
 have hmo:=zlc (v:=v) (e:=e) (kind:=7) (name:=name)
 unfold prE at hR
 generalize zaW v e name 7=M at hR ho hbd hmo ⊢
 obtain ⟨e1,x,ok⟩:=M
 dsimp only at hR ho hbd hmo ⊢
 obtain ⟨bd1,bd2⟩:=hbd
 rw [zag x]
 simp only [sxZ,z5,z6,z7,z8,j4,j5,j6,j7,j8,j9,x9,y3,y4,y5,y6,reduceCtorEq,↓reduceIte,gn1,sn1]
 have hE:=ho.app (.box 25 [.i .i64 x.kind,.s x.text,.row x.keys.length (x.keys.map .s),.row x.items.length (zab x.items)])
 have eV:(o ++ [.box 25 [.i .i64 x.kind,.s x.text,.row x.keys.length (x.keys.map .s),.row x.items.length (zab x.items)]])[o.length]? = some (.box 25 [.i .i64 x.kind,.s x.text,.row x.keys.length (x.keys.map .s),.row x.items.length (zab x.items)]):=gn1 _ _
 have hq:=ho.2.1
 generalize hqq:o.length=q at eV hq ⊢
 generalize o ++ [.box 25 [.i .i64 x.kind,.s x.text,.row x.keys.length (x.keys.map .s),.row x.items.length (zab x.items)]]=o1 at hE eV ⊢
 clear ho hqq
 subst hZ
 refine zaa fun Z hZ => ?_
 simp only [sxZ,z5,z6,z7,z8,j4,j5,j6,j7,j8,j9,x9,y3,y4,y5,y6,reduceCtorEq,↓reduceIte,eV]
 have hmn:(if (x.items.length:Int) < (x.keys.length:Int) then (x.items.length:Int) else (x.keys.length:Int))=((min x.keys.length x.items.length:Nat):Int):=by split <;> omega
 rw [hmn]
 have hzl:(x.keys.zip x.items).length=min x.keys.length x.items.length:=List.length_zip
 generalize hn:min x.keys.length x.items.length=n at hR hzl ⊢
 have hn1:n ≤ x.keys.length ∧ n ≤ x.items.length:=by omega
 subst hZ
 refine zaa fun Z hZ => ?_
 have main:¬ (ok=true ∧ 64 < n) → R=(if (x.keys.zip x.items).all (okP null)=true then (e1,(x.keys.zip x.items).map (mkP null)) else (orE e1 160,[])) → ∀ tm:List AV,tm.length=81 → tm[0]? = some (.p b 0) → tm[2]? = some (.b null) → tm[7]? = some (.p q 0) → tm[9]? = some (.i .i64 (n:Int)) → run Try.prog C [.code Z] o1 tm (endI [SRes.tmp 6] fun o r => ((∀ (G:Gh) (I:Imm) (y:Value),Den G I r y → Den G I (.row R.2.length (zaH R.2)) y) ∧ K o (.row R.2.length (zaH R.2))) ∨ ∃ b E sz gen n xs,o[b]? = some (.orow E sz gen n xs) ∧ (∀ (G:Gh) (I:Imm) (y:Value),Den G I (zhQ b gen n xs r) y → Den G I (.row R.2.length (zaH R.2)) y) ∧ K (zcN o b gen n xs) (.row R.2.length (zaH R.2))):=by
  intro _ hR2 tm hlen t0 t2 t7 t9
  have hl4:=zat x.items
  subst hZ
  refine zaa fun Z hZ => ?_
  simp only [sxZ,z5,z6,z7,z8,j4,j5,j6,j7,j8,j9,x9,y3,y4,y5,y6,reduceCtorEq,↓reduceIte,List.getElem?_set,hlen]
  subst hZ
  refine zaa fun Z hZ => ?_
  refine zaa fun W hW => ?_
  simp only [sxZ,z5,z6,z7,z8,j4,j5,j6,j7,j8,j9,x9,y3,y4,y5,y6,reduceCtorEq,↓reduceIte,List.getElem?_set,hlen,t9]
  subst hW
  rw [zaw]
  refine zax (fun m o tm => ∃ (i:Nat),i ≤ n ∧ m=n - i ∧ Ext objs o b (zbF v e1) ∧ o[q]? = some (.box 25 [.i .i64 x.kind,.s x.text,.row x.keys.length (x.keys.map .s),.row x.items.length (zab x.items)]) ∧ (∀ z ∈ (x.keys.zip x.items).take i,okP null z=true) ∧ RowP objs.length (((x.keys.zip x.items).take i).map (mkP null)) o (tm[10]?.getD .u) ∧ tm.length=81 ∧ tm[0]? = some (.p b 0) ∧ tm[2]? = some (.b null) ∧ tm[7]? = some (.p q 0) ∧ tm[37]? = some (.i .i64 (n:Int)) ∧ tm[38]? = some (.i .i64 (i:Int))) n ⟨0,Nat.zero_le _,rfl,hE,eV,by simp,.inl ⟨rfl,?_⟩,?_,?_,?_,?_,?_,?_⟩ ?_
  ·simp only [sxZ,z5,z6,z7,z8,j4,j5,j6,j7,j8,j9,x9,y3,y4,y5,y6,reduceCtorEq,↓reduceIte,List.getElem?_set,hlen,Option.getD_some]
  ·simp only [List.length_set,hlen]
  ·simp only [sxZ,z5,z6,z7,z8,j4,j5,j6,j7,j8,j9,x9,y3,y4,y5,y6,reduceCtorEq,↓reduceIte,List.getElem?_set,hlen,t0]
  ·simp only [sxZ,z5,z6,z7,z8,j4,j5,j6,j7,j8,j9,x9,y3,y4,y5,y6,reduceCtorEq,↓reduceIte,List.getElem?_set,hlen,t2]
  ·simp only [sxZ,z5,z6,z7,z8,j4,j5,j6,j7,j8,j9,x9,y3,y4,y5,y6,reduceCtorEq,↓reduceIte,List.getElem?_set,hlen,t7]
  ·simp only [sxZ,z5,z6,z7,z8,j4,j5,j6,j7,j8,j9,x9,y3,y4,y5,y6,reduceCtorEq,↓reduceIte,List.getElem?_set,hlen]
  ·simp only [sxZ,z5,z6,z7,z8,j4,j5,j6,j7,j8,j9,x9,y3,y4,y5,y6,reduceCtorEq,↓reduceIte,List.getElem?_set,hlen]; rfl
  clear t0 t2 t7 t9 hlen eV hE tm
  rintro m o tm ⟨i,hi,rfl,hE,eV,hall,hA,hlen,t0,t2,t7,t37,t38⟩
  obtain ⟨a10,t10⟩:∃ a,tm[10]? = some a:=⟨_,List.getElem?_eq_getElem (by omega)⟩
  rw [t10,Option.getD_some] at hA
  refine zaa fun W hW => ?_
  by_cases hlt:(i:Int) < (n:Int)
  ·have hi':i < x.items.length:=by omega
   have hk':i < x.keys.length:=by omega
   have hz':i < (x.keys.zip x.items).length:=by omega
   have kv:=zeI hi'
   have kk:(x.keys.map AV.s)[i * 1]? = some (.s x.keys[i]):=by rw [Nat.mul_one,List.getElem?_map,List.getElem?_eq_getElem hk']; rfl
   have hmem:(x.keys[i],x.items[i]) ∈ x.keys.zip x.items:=by rw [← List.getElem_zip (h:=hz')]; exact List.getElem_mem hz'
   have htk:(x.keys.zip x.items).take (i + 1)=(x.keys.zip x.items).take i ++ [(x.keys[i],x.items[i])]:=by rw [List.take_add_one,List.getElem?_eq_getElem hz',List.getElem_zip]; rfl
   have hfl:(((x.keys.zip x.items).take i).map (mkP null)).length=i:=by rw [List.length_map,List.length_take]; omega
   generalize x.items[i]=y at kv htk hmem
   generalize x.keys[i]=key at kk htk hmem
   rw [zag y] at kv
   simp only [sxZ,z5,z6,z7,z8,j4,j5,j6,j7,j8,j9,x9,y3,y4,y5,y6,reduceCtorEq,↓reduceIte,List.getElem?_set,hlen,t37,t38,hlt]
   subst hW
   refine zaa fun W hW => ?_
   simp only [sxZ,z5,z6,z7,z8,j4,j5,j6,j7,j8,j9,x9,y3,y4,y5,y6,reduceCtorEq,↓reduceIte,List.getElem?_set,hlen]
   subst hW
   refine zaa fun V hV => ?_
   rw [zaw]
   refine zaA (fun o3 t3 => Ext objs o3 b (zbF v e1) ∧ o3[q]? = some (.box 25 [.i .i64 x.kind,.s x.text,.row x.keys.length (x.keys.map .s),.row x.items.length (zab x.items)]) ∧ okP null (key,y)=true ∧ RowP objs.length (((x.keys.zip x.items).take i).map (mkP null) ++ [mkP null (key,y)]) o3 (t3[10]?.getD .u) ∧ t3.length=81 ∧ t3[0]? = some (.p b 0) ∧ t3[2]? = some (.b null) ∧ t3[7]? = some (.p q 0) ∧ t3[37]? = some (.i .i64 (n:Int)) ∧ t3[38]? = some (.i .i64 (i:Int))) ?_ ?_
   ·refine zaa fun W hW => ?_
    simp only [sxZ,z5,z6,z7,z8,j4,j5,j6,j7,j8,j9,x9,y3,y4,y5,y6,reduceCtorEq,↓reduceIte,List.getElem?_set,hlen,t38]
    subst hW
    refine zaa fun W hW => ?_
    simp only [sxZ,z5,z6,z7,z8,j4,j5,j6,j7,j8,j9,x9,y3,y4,y5,y6,reduceCtorEq,↓reduceIte,List.getElem?_set,hlen,t7,eV,kv]
    refine ⟨⟨by omega,by omega,by omega⟩,by omega,?_⟩
    simp only [sxZ,z5,z6,z7,z8,j4,j5,j6,j7,j8,j9,x9,y3,y4,y5,y6,reduceCtorEq,↓reduceIte,List.getElem?_set,hlen,gn1,sn1]
    subst hW
    have hE1:=hE.app (.box 25 [.i .i64 y.kind,.s y.text,.row y.keys.length (y.keys.map .s),.row y.items.length (zab y.items)])
    have hA1:=hA.mono (.box 25 [.i .i64 y.kind,.s y.text,.row y.keys.length (y.keys.map .s),.row y.items.length (zab y.items)])
    have eV1:(o ++ [.box 25 [.i .i64 y.kind,.s y.text,.row y.keys.length (y.keys.map .s),.row y.items.length (zab y.items)]])[q]? = some (.box 25 [.i .i64 x.kind,.s x.text,.row x.keys.length (x.keys.map .s),.row x.items.length (zab x.items)]):=by rw [List.getElem?_append_left (List.getElem?_eq_some_iff.1 eV).1]; exact eV
    have eY:(o ++ [.box 25 [.i .i64 y.kind,.s y.text,.row y.keys.length (y.keys.map .s),.row y.items.length (zab y.items)]])[o.length]? = some (.box 25 [.i .i64 y.kind,.s y.text,.row y.keys.length (y.keys.map .s),.row y.items.length (zab y.items)]):=gn1 _ _
    have hol:=hE.2.1
    have hqo:=(List.getElem?_eq_some_iff.1 eV).1
    generalize hpp:o.length=p at eY hol hqo ⊢
    generalize o ++ [.box 25 [.i .i64 y.kind,.s y.text,.row y.keys.length (y.keys.map .s),.row y.items.length (zab y.items)]]=o2 at hE1 hA1 eV1 eY ⊢
    refine zbp (fun t3 => t3.length=81 ∧ t3[0]? = some (.p b 0) ∧ t3[2]? = some (.b null) ∧ t3[7]? = some (.p q 0) ∧ t3[10]? = some a10 ∧ t3[11]? = some (.i .i64 (i:Int)) ∧ t3[12]? = some (.p p 0) ∧ t3[37]? = some (.i .i64 (n:Int)) ∧ t3[38]? = some (.i .i64 (i:Int))) ?_ ?_
    ·simp only [sxZ,z5,z6,z7,z8,j4,j5,j6,j7,j8,j9,x9,y3,y4,y5,y6,reduceCtorEq,↓reduceIte,List.length_set,List.getElem?_set,hlen,t0,t2,t7,t10,t37,t38,and_self]
    rintro tm2 ⟨hlen2,u0,u2,u7,u10,u11,u12,u37,u38⟩
    refine zaa fun W hW => ?_
    obtain ⟨nl,hnl⟩:∃ nl,(null && decide (y.kind=1))=nl:=⟨_,rfl⟩
    refine zaA (fun o3 t3 => o3=o2 ∧ t3.length=81 ∧ t3[0]? = some (.p b 0) ∧ t3[2]? = some (.b null) ∧ t3[7]? = some (.p q 0) ∧ t3[10]? = some a10 ∧ t3[11]? = some (.i .i64 (i:Int)) ∧ t3[12]? = some (.p p 0) ∧ t3[37]? = some (.i .i64 (n:Int)) ∧ t3[38]? = some (.i .i64 (i:Int)) ∧ t3[13]? = some (.b nl)) ?_ ?_
    ·cases null with
     | false =>
      rw [Bool.false_and] at hnl
      subst hnl
      simp only [sxZ,z5,z6,z7,z8,j4,j5,j6,j7,j8,j9,x9,y3,y4,y5,y6,reduceCtorEq,↓reduceIte,List.getElem?_set,hlen2,u0,u2,u7,u10,u11,u12,u37,u38,zac,and_self]
     | true =>
      rw [Bool.true_and] at hnl
      by_cases c:y.kind=1
      ·rw [decide_eq_true c] at hnl
       subst hnl
       simp only [sxZ,z5,z6,z7,z8,j4,j5,j6,j7,j8,j9,x9,y3,y4,y5,y6,reduceCtorEq,↓reduceIte,List.getElem?_set,hlen2,u0,u2,u7,u10,u11,u12,u37,u38,eY,c,zac,and_self,decide_true]
      ·rw [decide_eq_false c] at hnl
       subst hnl
       simp only [sxZ,z5,z6,z7,z8,j4,j5,j6,j7,j8,j9,x9,y3,y4,y5,y6,reduceCtorEq,↓reduceIte,List.getElem?_set,hlen2,u0,u2,u7,u10,u11,u12,u37,u38,eY,c,zac,and_self,decide_false]
    rintro o3 tm3 ⟨rfl,hlen3,w0,w2,w7,w10,w11,w12,w37,w38,w13⟩
    clear hlen2 u0 u2 u7 u10 u11 u12 u37 u38
    subst hW
    refine zaa fun W hW => ?_
    have hokd:okP null (key,y)=(decide (y.kind=5) || nl):=by unfold okP; rw [hnl]
    have hmk:mkP null (key,y)=⟨key,if nl=true then [] else y.text,nl⟩:=by unfold mkP; rw [hnl]
    rw [hmk,hokd]
    cases nl with
    | true =>
     simp only [sxZ,z5,z6,z7,z8,j4,j5,j6,j7,j8,j9,x9,y3,y4,y5,y6,reduceCtorEq,↓reduceIte,List.getElem?_set,hlen3,w0,w2,w7,w10,w11,w12,w37,w38,w13]
     subst hW
     refine zaa fun W hW => ?_
     simp only [sxZ,z5,z6,z7,z8,j4,j5,j6,j7,j8,j9,x9,y3,y4,y5,y6,reduceCtorEq,↓reduceIte,List.getElem?_set,hlen3,w0,w2,w7,w10,w11,w12,w37,w38,w13,eV1,kk,List.length_map]
     refine ⟨⟨by omega,by omega,by omega⟩,?_⟩
     simp only [sxZ,z5,z6,z7,z8,j4,j5,j6,j7,j8,j9,x9,y3,y4,y5,y6,reduceCtorEq,↓reduceIte,List.getElem?_set,hlen3,w0,w2,w7,w10,w11,w12,w37,w38,w13,gn1,sn1]
     have hE2:=hE1.app (.box 83 [.s key,.s [],.b true])
     have hA2:=hA1.mono (.box 83 [.s key,.s [],.b true])
     have eV2:(o3 ++ [.box 83 [.s key,.s [],.b true]])[q]? = some (.box 25 [.i .i64 x.kind,.s x.text,.row x.keys.length (x.keys.map .s),.row x.items.length (zab x.items)]):=by rw [List.getElem?_append_left (List.getElem?_eq_some_iff.1 eV1).1]; exact eV1
     have eP2:(o3 ++ [.box 83 [.s key,.s [],.b true]])[o3.length]? = some (.box 83 [.s key,.s [],.b true]):=gn1 _ _
     have eY2:∀ z,(o3 ++ [z])[p]? = some (.box 25 [.i .i64 y.kind,.s y.text,.row y.keys.length (y.keys.map .s),.row y.items.length (zab y.items)]):=fun z => by rw [List.getElem?_append_left (List.getElem?_eq_some_iff.1 eY).1]; exact eY
     have hqo3:=(List.getElem?_eq_some_iff.1 eV1).1
     have hpo3:=(List.getElem?_eq_some_iff.1 eY).1
     subst hW
     refine zaa fun W hW => ?_
     simp only [sxZ,z5,z6,z7,z8,j4,j5,j6,j7,j8,j9,x9,y3,y4,y5,y6,reduceCtorEq,↓reduceIte,List.getElem?_set,hlen3,w0,w2,w7,w10,w11,w12,w37,w38,w13]
     generalize o3 ++ [OB.box 83 [.s key,.s [],.b true]]=o4 at hE2 hA2 eV2 eP2 ⊢
     have hol4:=hE2.2.1
     subst hW
     generalize ((x.keys.zip x.items).take i).map (mkP null)=acc at hA2 hfl
     have hla:=zcl acc
     rcases hA2 with ⟨rfl,rfl⟩ | ⟨r,g,rfl,hr0,hr⟩
     ·simp only [sxZ,z5,z6,z7,z8,j4,j5,j6,j7,j8,j9,x9,y3,y4,y5,y6,reduceCtorEq,↓reduceIte,List.getElem?_set,hlen3,w0,w2,w7,w10,w11,w12,w37,w38,eP2,zac]
      refine ⟨hE2.app _,?_,by simp,.inr ⟨_,0,rfl,by omega,?_⟩⟩
      ·rw [List.getElem?_append_left (List.getElem?_eq_some_iff.1 eV2).1]; exact eV2
      ·rw [gn1]; rfl
     ·have hrl:=(List.getElem?_eq_some_iff.1 hr).1
      have hrq:r ≠ q:=fun h => by rw [h,eV2] at hr; cases hr
      simp only [sxZ,z5,z6,z7,z8,j4,j5,j6,j7,j8,j9,x9,y3,y4,y5,y6,reduceCtorEq,↓reduceIte,List.getElem?_set,hlen3,w0,w2,w7,w10,w11,w12,w37,w38,eP2,hr,zac]
      refine ⟨⟨by omega,by omega⟩,hE2.own r _ hr0 hbl,?_,by simp,.inr ⟨r,g + 1,rfl,hr0,?_⟩⟩
      ·rw [if_neg hrq]; exact eV2
      ·rw [List.getElem?_set_self hrl,zib,List.length_append]; rfl
    | false =>
     by_cases c:y.kind=5
     ·simp only [sxZ,z5,z6,z7,z8,j4,j5,j6,j7,j8,j9,x9,y3,y4,y5,y6,reduceCtorEq,↓reduceIte,List.getElem?_set,hlen3,w0,w2,w7,w10,w11,w12,w37,w38,w13,eY,c]
      subst hW
      refine zaa fun W hW => ?_
      simp only [sxZ,z5,z6,z7,z8,j4,j5,j6,j7,j8,j9,x9,y3,y4,y5,y6,reduceCtorEq,↓reduceIte,List.getElem?_set,hlen3,w0,w2,w7,w10,w11,w12,w37,w38,w13,eV1,kk,List.length_map]
      refine ⟨⟨by omega,by omega,by omega⟩,?_⟩
      simp only [sxZ,z5,z6,z7,z8,j4,j5,j6,j7,j8,j9,x9,y3,y4,y5,y6,reduceCtorEq,↓reduceIte,List.getElem?_set,hlen3,w0,w2,w7,w10,w11,w12,w37,w38,w13,gn1,sn1]
      have hE2:=hE1.app (.box 83 [.s key,.s y.text,.b false])
      have hA2:=hA1.mono (.box 83 [.s key,.s y.text,.b false])
      have eV2:(o3 ++ [.box 83 [.s key,.s y.text,.b false]])[q]? = some (.box 25 [.i .i64 x.kind,.s x.text,.row x.keys.length (x.keys.map .s),.row x.items.length (zab x.items)]):=by rw [List.getElem?_append_left (List.getElem?_eq_some_iff.1 eV1).1]; exact eV1
      have eP2:(o3 ++ [.box 83 [.s key,.s y.text,.b false]])[o3.length]? = some (.box 83 [.s key,.s y.text,.b false]):=gn1 _ _
      have eY2:∀ z,(o3 ++ [z])[p]? = some (.box 25 [.i .i64 y.kind,.s y.text,.row y.keys.length (y.keys.map .s),.row y.items.length (zab y.items)]):=fun z => by rw [List.getElem?_append_left (List.getElem?_eq_some_iff.1 eY).1]; exact eY
      have hqo3:=(List.getElem?_eq_some_iff.1 eV1).1
      have hpo3:=(List.getElem?_eq_some_iff.1 eY).1
      subst hW
      refine zaa fun W hW => ?_
      simp only [sxZ,z5,z6,z7,z8,j4,j5,j6,j7,j8,j9,x9,y3,y4,y5,y6,reduceCtorEq,↓reduceIte,List.getElem?_set,hlen3,w0,w2,w7,w10,w11,w12,w37,w38,w13,eY2,gn1,sn1,c]
      generalize o3 ++ [OB.box 83 [.s key,.s y.text,.b false]]=o4 at hE2 hA2 eV2 eP2 ⊢
      have hol4:=hE2.2.1
      subst hW
      generalize ((x.keys.zip x.items).take i).map (mkP null)=acc at hA2 hfl
      have hla:=zcl acc
      rcases hA2 with ⟨rfl,rfl⟩ | ⟨r,g,rfl,hr0,hr⟩
      ·simp only [sxZ,z5,z6,z7,z8,j4,j5,j6,j7,j8,j9,x9,y3,y4,y5,y6,reduceCtorEq,↓reduceIte,List.getElem?_set,hlen3,w0,w2,w7,w10,w11,w12,w37,w38,eP2,zac]
       refine ⟨hE2.app _,?_,by simp,.inr ⟨_,0,rfl,by omega,?_⟩⟩
       ·rw [List.getElem?_append_left (List.getElem?_eq_some_iff.1 eV2).1]; exact eV2
       ·rw [gn1]; rfl
      ·have hrl:=(List.getElem?_eq_some_iff.1 hr).1
       have hrq:r ≠ q:=fun h => by rw [h,eV2] at hr; cases hr
       simp only [sxZ,z5,z6,z7,z8,j4,j5,j6,j7,j8,j9,x9,y3,y4,y5,y6,reduceCtorEq,↓reduceIte,List.getElem?_set,hlen3,w0,w2,w7,w10,w11,w12,w37,w38,eP2,hr,zac]
       refine ⟨⟨by omega,by omega⟩,hE2.own r _ hr0 hbl,?_,by simp,.inr ⟨r,g + 1,rfl,hr0,?_⟩⟩
       ·rw [if_neg hrq]; exact eV2
       ·rw [List.getElem?_set_self hrl,zib,List.length_append]; rfl
     ·simp only [sxZ,z5,z6,z7,z8,j4,j5,j6,j7,j8,j9,x9,y3,y4,y5,y6,reduceCtorEq,↓reduceIte,List.getElem?_set,hlen3,w0,w2,w7,w10,w11,w12,w37,w38,w13,eY,c]
      refine zaj (zd2 v e1 160 b hE1.1 ?_)
      have hE2:=hE1.set (zbF v (orE e1 160))
      have hno:¬ (x.keys.zip x.items).all (okP null)=true:=fun h => by
       have h2:=List.all_eq_true.1 h _ hmem
       rw [hokd,decide_eq_false c] at h2
       cases h2
      rw [if_neg hno] at hR2
      subst hR2
      generalize o3.set b (zbF v (orE e1 160))=o4 at hE2 ⊢
      simp only [sxZ,z5,z6,z7,z8,j4,j5,j6,j7,j8,j9,x9,y3,y4,y5,y6,reduceCtorEq,↓reduceIte,List.getElem?_set,hlen3,w0,w2,w7,w10,w11,w12,w37,w38,cutF_ret]
      exact .inl ⟨fun G I y hy => zaT hy,hk _ hE2⟩
   rintro o3 tm2 ⟨hE3,eV3,hok,hA3,hlen2,k0,k2,k7,k37,k38⟩
   simp only [sxZ,z5,z6,z7,z8,j4,j5,j6,j7,j8,j9,x9,y3,y4,y5,y6,reduceCtorEq,↓reduceIte]
   subst hV
   simp only [sxZ,z5,z6,z7,z8,j4,j5,j6,j7,j8,j9,x9,y3,y4,y5,y6,reduceCtorEq,↓reduceIte,List.getElem?_set,hlen2,k0,k2,k7,k37,k38]
   refine ⟨by omega,n - (i + 1),by omega,i + 1,by omega,rfl,hE3,eV3,fun z hz => ?_,?_,rfl⟩
   ·rw [htk] at hz
    rcases List.mem_append.1 hz with hz | hz
    ·exact hall z hz
    ·rw [List.mem_singleton] at hz; rw [hz]; exact hok
   ·rw [htk,List.map_append]; exact hA3
  have hin:i=(x.keys.zip x.items).length:=by omega
  rw [hin,List.take_of_length_le (Nat.le_refl _)] at hA hall
  rw [if_pos (List.all_eq_true.2 hall)] at hR2
  subst hR2
  simp only [sxZ,z5,z6,z7,z8,j4,j5,j6,j7,j8,j9,x9,y3,y4,y5,y6,reduceCtorEq,↓reduceIte,List.getElem?_set,hlen,t37,t38,hlt]
  subst hW
  simp only [sxZ,z5,z6,z7,z8,j4,j5,j6,j7,j8,j9,x9,y3,y4,y5,y6,reduceCtorEq,↓reduceIte,List.getElem?_set,hlen]
  subst hZ
  rcases hA with ⟨h0,rfl⟩ | ⟨r,g,rfl,hr0,hr⟩
  ·simp only [sxZ,z5,z6,z7,z8,j4,j5,j6,j7,j8,j9,x9,y3,y4,y5,y6,reduceCtorEq,↓reduceIte,List.getElem?_set,hlen,t10]
   dsimp only at hk ⊢
   rw [h0] at hk ⊢
   exact .inl ⟨fun G I y hy => zaT hy,hk _ hE⟩
  ·simp only [sxZ,z5,z6,z7,z8,j4,j5,j6,j7,j8,j9,x9,y3,y4,y5,y6,reduceCtorEq,↓reduceIte,List.getElem?_set,hlen,t10]
   refine .inr ⟨r,_,_,_,_,_,hr,fun G I y hy => ?_,hk _ (hE.pub (zf5 _ _) r g _ _ hr0 hbl)⟩
   simpa [zhQ,zaY] using hy
 by_cases c:ok=true ∧ 64 < n
 ·obtain ⟨rfl,c⟩:=c
  rw [if_pos ⟨rfl,c⟩] at hR
  subst hR
  have c':(64:Int) < (n:Int):=by omega
  simp only [sxZ,z5,z6,z7,z8,j4,j5,j6,j7,j8,j9,x9,y3,y4,y5,y6,reduceCtorEq,↓reduceIte,c']
  refine zaj (zd2 v e1 161 b hE.1 ?_)
  have hE2:=hE.set (zbF v (orE e1 161))
  rw [hmo rfl,show orE 0 161=161 from rfl] at hE2 ⊢
  generalize o1.set b (zbF v 161)=o2 at hE2 ⊢
  simp only [sxZ,z5,z6,z7,z8,j4,j5,j6,j7,j8,j9,x9,y3,y4,y5,y6,reduceCtorEq,↓reduceIte]
  exact .inl ⟨fun G I y hy => zaT hy,hk _ hE2⟩
 ·rw [if_neg c] at hR
  have main2:=main c hR.symm
  cases ok with
  | false =>
   simp only [sxZ,z5,z6,z7,z8,j4,j5,j6,j7,j8,j9,x9,y3,y4,y5,y6,reduceCtorEq,↓reduceIte]
   exact main2 _ rfl rfl rfl rfl rfl
  | true =>
   have c':¬ (64:Int) < (n:Int):=fun h => c ⟨rfl,by omega⟩
   simp only [sxZ,z5,z6,z7,z8,j4,j5,j6,j7,j8,j9,x9,y3,y4,y5,y6,reduceCtorEq,↓reduceIte,c']
   exact main2 _ rfl rfl rfl rfl rfl
end
end
section
attribute [local irreducible] run
section
variable [Tabs Try.prog] {objs:List OB} {K:List OB → AV → Prop}
theorem dlinks_k (v:JV) (e:Int) (name:List UInt8) (b:Nat) (hv:JOk v) (hj:JBd v) (hb:objs[b]? = some (zbF v e)) (hk:∀ o,Ext objs o b (zbF v (lsE v e name).1) → K o (.row (lsE v e name).2.length (zbv (lsE v e name).2))):zae Try.prog 30 [.p b 0,.s name] objs K:=by
 have hbl:=(List.getElem?_eq_some_iff.1 hb).1
 obtain ⟨R,hR⟩:∃ R,lsE v e name=R:=⟨_,rfl⟩
 rw [hR] at hk
 refine zdb (.row R.2.length (zbv R.2)) ?_
 refine zbg ?_
 refine zbj is_jrd_decoder_links fun C _ => ?_
 rw [c_jrd_decoder_links]
 refine zaa fun Z hZ => ?_
 simp only [sxZ,z5,z6,z7,z8,j4,j5,j6,j7,j8,j9,x9,y3,y4,y5,y6,reduceCtorEq,↓reduceIte]
 subst hZ
 refine zaa fun Z hZ => ?_
 simp only [sxZ,z5,z6,z7,z8,j4,j5,j6,j7,j8,j9,x9,y3,y4,y5,y6,reduceCtorEq,↓reduceIte]
 subst hZ
 refine zaa fun Z hZ => ?_
 refine zaa fun W hW => ?_
 simp only [sxZ,z5,z6,z7,z8,j4,j5,j6,j7,j8,j9,x9,y3,y4,y5,y6,reduceCtorEq,↓reduceIte]
 refine zaj (zi9 v e name 64 b hv hj hb fun o ho => ?_)
 have hit:=zlQ hj e name 64
 have hok:=itE_ok hv hj e name 64
 unfold lsE at hR
 generalize itE v e name 64=M at hR ho hit hok ⊢
 obtain ⟨e1,its⟩:=M
 dsimp only at hR ho hit hok ⊢
 have hl4:=zat its
 simp only [sxZ,z5,z6,z7,z8,j4,j5,j6,j7,j8,j9,x9,y3,y4,y5,y6,reduceCtorEq,↓reduceIte]
 subst hW
 rw [zaw]
 refine zax (fun m o tm => ∃ (i:Nat),i ≤ its.length ∧ m=its.length - i ∧ Ext objs o b (zbF v e1) ∧ (∀ x ∈ its.take i,lk6 x=0) ∧ RowL objs.length ((its.take i).map lkV) o (tm[5]?.getD .u) ∧ tm.length=52 ∧ tm[0]? = some (.p b 0) ∧ tm[11]? = some (.row its.length (zab its)) ∧ tm[12]? = some (.i .i64 (its.length:Int)) ∧ tm[13]? = some (.i .i64 (i:Int))) its.length ⟨0,Nat.zero_le _,rfl,ho,by simp,.inl ⟨rfl,rfl⟩,rfl,rfl,rfl,rfl,rfl⟩ ?_
 clear ho
 rintro m o tm ⟨i,hi,rfl,ho,hall,hA,hlen,t0,t11,t12,t13⟩
 obtain ⟨a5,t5⟩:∃ a,tm[5]? = some a:=⟨_,List.getElem?_eq_getElem (by omega)⟩
 rw [t5,Option.getD_some] at hA
 refine zaa fun W hW => ?_
 by_cases hlt:(i:Int) < (its.length:Int)
 ·have hi':i < its.length:=by omega
  have kv:=zeI hi'
  have hyok:=hok its[i] (List.getElem_mem hi')
  have hfi:=fiE_take hi' hall
  have htk:its.take (i + 1)=its.take i ++ [its[i]]:=by rw [List.take_add_one,List.getElem?_eq_getElem hi']; rfl
  have hfl:((its.take i).map lkV).length=i:=by rw [List.length_map,List.length_take]; omega
  generalize its[i]=y at kv htk hyok hfi
  obtain ⟨hy1,hy2⟩:=hyok
  have ejy:=zag y
  rw [ejy] at kv
  simp only [sxZ,z5,z6,z7,z8,j4,j5,j6,j7,j8,j9,x9,y3,y4,y5,y6,reduceCtorEq,↓reduceIte,List.getElem?_set,hlen,t11,t12,t13,hlt]
  subst hW
  refine zaa fun W hW => ?_
  simp only [sxZ,z5,z6,z7,z8,j4,j5,j6,j7,j8,j9,x9,y3,y4,y5,y6,reduceCtorEq,↓reduceIte,List.getElem?_set,hlen]
  subst hW
  refine zaa fun V hV => ?_
  rw [zaw]
  refine zaa fun W hW => ?_
  simp only [sxZ,z5,z6,z7,z8,j4,j5,j6,j7,j8,j9,x9,y3,y4,y5,y6,reduceCtorEq,↓reduceIte,List.getElem?_set,hlen,t11,t13,kv]
  refine ⟨⟨by omega,by omega,by omega⟩,by omega,?_⟩
  simp only [sxZ,z5,z6,z7,z8,j4,j5,j6,j7,j8,j9,x9,y3,y4,y5,y6,reduceCtorEq,↓reduceIte,List.getElem?_set,hlen,gn1,sn1]
  subst hW
  have hE:=ho.app (.box 25 [.i .i64 y.kind,.s y.text,.row y.keys.length (y.keys.map .s),.row y.items.length (zab y.items)])
  have hA2:=hA.mono (.box 25 [.i .i64 y.kind,.s y.text,.row y.keys.length (y.keys.map .s),.row y.items.length (zab y.items)])
  have eB:(o ++ [.box 25 [.i .i64 y.kind,.s y.text,.row y.keys.length (y.keys.map .s),.row y.items.length (zab y.items)]])[o.length]? = some (.box 25 [.i .i64 y.kind,.s y.text,.row y.keys.length (y.keys.map .s),.row y.items.length (zab y.items)]):=gn1 _ _
  have hol:=ho.2.1
  generalize o ++ [.box 25 [.i .i64 y.kind,.s y.text,.row y.keys.length (y.keys.map .s),.row y.items.length (zab y.items)]]=o1 at hE hA2 eB ⊢
  refine zaa fun W hW => ?_
  simp only [sxZ,z5,z6,z7,z8,j4,j5,j6,j7,j8,j9,x9,y3,y4,y5,y6,reduceCtorEq,↓reduceIte,List.getElem?_set,hlen,eB]
  rw [← ejy]
  refine zaj (zil y fun o2 b2 hb2 n1 n2 n3 => ?_)
  have n1':o2[b2]? = some (zbF y (shE y)):=n1
  simp only [sxZ,z5,z6,z7,z8,j4,j5,j6,j7,j8,j9,x9,y3,y4,y5,y6,reduceCtorEq,↓reduceIte,List.getElem?_set,hlen]
  subst hW
  refine zbp (fun t3 => t3.length=52 ∧ t3[0]? = some (.p b 0) ∧ t3[5]? = some a5 ∧ t3[8]? = some (.p b2 0) ∧ t3[11]? = some (.row its.length (zab its)) ∧ t3[12]? = some (.i .i64 (its.length:Int)) ∧ t3[13]? = some (.i .i64 (i:Int))) ?_ ?_
  ·simp only [sxZ,z5,z6,z7,z8,j4,j5,j6,j7,j8,j9,x9,y3,y4,y5,y6,reduceCtorEq,↓reduceIte,List.length_set,List.getElem?_set,hlen,t0,t5,t11,t12,t13,and_self]
  rintro tm2 ⟨hlen2,u0,u5,u8,u11,u12,u13⟩
  refine zaa fun W hW => ?_
  refine zaA (fun o9 t3 => Ext objs o9 b (zbF v e1) ∧ o9[b2]? = some (zbF y (lk6 y)) ∧ RowL objs.length (((its.take i).map lkV) ++ [lkV y]) o9 (t3[5]?.getD .u) ∧ t3.length=52 ∧ t3[0]? = some (.p b 0) ∧ t3[8]? = some (.p b2 0) ∧ t3[11]? = some (.row its.length (zab its)) ∧ t3[12]? = some (.i .i64 (its.length:Int)) ∧ t3[13]? = some (.i .i64 (i:Int))) ?_ ?_
  simp only [sxZ,z5,z6,z7,z8,j4,j5,j6,j7,j8,j9,x9,y3,y4,y5,y6,reduceCtorEq,↓reduceIte,List.getElem?_set,hlen2,u5,u8]
  refine zaj (dreq_k y (shE y) zeU b2 hy1 hy2 n1' fun o3 x3 => ?_)
  simp only [sxZ,z5,z6,z7,z8,j4,j5,j6,j7,j8,j9,x9,y3,y4,y5,y6,reduceCtorEq,↓reduceIte,List.getElem?_set,hlen2,u5,u8]
  refine zaj (zf0 y (lk1 y) zci b2 hy1 hy2 x3.1 fun o4 x4 => ?_)
  simp only [sxZ,z5,z6,z7,z8,j4,j5,j6,j7,j8,j9,x9,y3,y4,y5,y6,reduceCtorEq,↓reduceIte,List.getElem?_set,hlen2,u5,u8]
  refine zaj (zf0 y (lk2 y) zcp b2 hy1 hy2 x4.1 fun o5 x5 => ?_)
  simp only [sxZ,z5,z6,z7,z8,j4,j5,j6,j7,j8,j9,x9,y3,y4,y5,y6,reduceCtorEq,↓reduceIte,List.getElem?_set,hlen2,u5,u8]
  refine zaj (zf0 y (lk3 y) zc3 b2 hy1 hy2 x5.1 fun o6 x6 => ?_)
  simp only [sxZ,z5,z6,z7,z8,j4,j5,j6,j7,j8,j9,x9,y3,y4,y5,y6,reduceCtorEq,↓reduceIte,List.getElem?_set,hlen2,u5,u8]
  refine zaj (zf1 y (lk4 y) zdk false b2 hy1 hy2 x6.1 fun o7 x7 => ?_)
  simp only [sxZ,z5,z6,z7,z8,j4,j5,j6,j7,j8,j9,x9,y3,y4,y5,y6,reduceCtorEq,↓reduceIte,List.getElem?_set,hlen2,u5,u8]
  refine zaj (zf1 y (lk5 y) zbr true b2 hy1 hy2 x7.1 fun o8 x8 => ?_)
  simp only [sxZ,z5,z6,z7,z8,j4,j5,j6,j7,j8,j9,x9,y3,y4,y5,y6,reduceCtorEq,↓reduceIte,List.getElem?_set,hlen2,u5,u8]
  ·have x18:Ext o2 o8 b2 (zbF y (lk6 y)):=((((x3.trans x4).trans x5).trans x6).trans x7).trans x8
   have hE8:=hE.over (zf5 _ _) n3 n2 x18 hb2
   have hA8:=hA2.over n3 x18 hb2
   clear x3 x4 x5 x6 x7 x8
   have eb2:=x18.1
   have hbb:=(List.getElem?_eq_some_iff.1 hE.1).1
   have hlo:=hE8.2.1
   have hlv:lkc (lkV y)=[.s (zaW y (shE y) zeU 5).2.1.text,.s (zaW y (lk1 y) zci 5).2.1.text,.s (zaW y (lk2 y) zcp 5).2.1.text,.s (zaW y (lk3 y) zc3 5).2.1.text,.row (prE y (lk4 y) zdk false).2.length (zaH (prE y (lk4 y) zdk false).2),.row (prE y (lk5 y) zbr true).2.length (zaH (prE y (lk5 y) zbr true).2)]:=rfl
   rw [← hlv]
   have hlk1:zbv [lkV y]=lkc (lkV y):=by unfold zbv; simp
   have hlk6:(lkc (lkV y)).length=6:=rfl
   generalize (its.take i).map lkV=acc at hA8 hfl ⊢
   have hla:=zbs acc
   rcases hA8 with ⟨rfl,rfl⟩ | ⟨r,g,rfl,hr0,hr⟩
   ·simp only [sxZ,z5,z6,z7,z8,j4,j5,j6,j7,j8,j9,x9,y3,y4,y5,y6,reduceCtorEq,↓reduceIte,List.getElem?_set,hlen2,u0,u5,u8,u11,u12,u13,zac]
    refine ⟨hlk6,hE8.app _,?_,.inr ⟨_,0,rfl,by omega,?_⟩⟩
    ·rw [List.getElem?_append_left (List.getElem?_eq_some_iff.1 eb2).1]; exact eb2
    ·rw [gn1,← hlk1]; rfl
   ·have hrl:=(List.getElem?_eq_some_iff.1 hr).1
    have hrb:r ≠ b2:=fun h => by rw [h,eb2] at hr; cases hr
    simp only [sxZ,z5,z6,z7,z8,j4,j5,j6,j7,j8,j9,x9,y3,y4,y5,y6,reduceCtorEq,↓reduceIte,List.getElem?_set,hlen2,u0,u5,u8,u11,u12,u13,hr,zac]
    refine ⟨⟨hlk6,by omega,by omega⟩,hE8.own r _ hr0 hbl,?_,.inr ⟨r,g + 1,rfl,hr0,?_⟩⟩
    ·rw [if_neg hrb]; exact eb2
    ·rw [List.getElem?_set_self hrl,zfT,List.length_append,hlk1]; rfl
  rintro o9 tm3 ⟨hE9,eb9,hA9,hlen3,k0,k8,k11,k12,k13⟩
  have eb9':=eb9
  unfold zbF at eb9'
  rw [ejy] at eb9'
  subst hW
  refine zaa fun W hW => ?_
  by_cases c:lk6 y=0
  ·simp only [sxZ,z5,z6,z7,z8,j4,j5,j6,j7,j8,j9,x9,y3,y4,y5,y6,reduceCtorEq,↓reduceIte,List.getElem?_set,hlen3,k0,k8,k11,k12,k13,eb9',c]
   subst hW
   simp only [sxZ,z5,z6,z7,z8,j4,j5,j6,j7,j8,j9,x9,y3,y4,y5,y6,reduceCtorEq,↓reduceIte,List.getElem?_set,hlen3,k0,k8,k11,k12,k13]
   subst hV
   simp only [sxZ,z5,z6,z7,z8,j4,j5,j6,j7,j8,j9,x9,y3,y4,y5,y6,reduceCtorEq,↓reduceIte,List.getElem?_set,hlen3,k0,k8,k11,k12,k13]
   refine ⟨by omega,its.length - (i + 1),by omega,i + 1,by omega,rfl,hE9,fun x hx => ?_,?_,rfl⟩
   ·rw [htk] at hx
    rcases List.mem_append.1 hx with hx | hx
    ·exact hall x hx
    ·rw [List.mem_singleton] at hx; rw [hx]; exact c
   ·rw [htk,List.map_append]; exact hA9
  ·have hf:=hfi c
   rw [if_neg (by rw [hf]; exact c),hf] at hR
   subst hR
   simp only [sxZ,z5,z6,z7,z8,j4,j5,j6,j7,j8,j9,x9,y3,y4,y5,y6,reduceCtorEq,↓reduceIte,List.getElem?_set,hlen3,k0,k8,k11,k12,k13,eb9',c]
   subst hW
   simp only [sxZ,z5,z6,z7,z8,j4,j5,j6,j7,j8,j9,x9,y3,y4,y5,y6,reduceCtorEq,↓reduceIte,List.getElem?_set,hlen3,k0,k8,k11,k12,k13,eb9']
   refine zaj (zd2 v e1 (lk6 y) b hE9.1 ?_)
   have hE2:=hE9.set (zbF v (orE e1 (lk6 y)))
   generalize o9.set b (zbF v (orE e1 (lk6 y)))=o10 at hE2 ⊢
   simp only [sxZ,z5,z6,z7,z8,j4,j5,j6,j7,j8,j9,x9,y3,y4,y5,y6,reduceCtorEq,↓reduceIte,List.getElem?_set,hlen3,k0,k8,k11,k12,k13]
   exact .inl ⟨fun G I y hy => zaT hy,hk _ hE2⟩
 have hn:i=its.length:=by omega
 rw [hn,List.take_of_length_le (Nat.le_refl _)] at hA hall
 rw [if_pos (fiE_all hall)] at hR
 subst hR
 simp only [sxZ,z5,z6,z7,z8,j4,j5,j6,j7,j8,j9,x9,y3,y4,y5,y6,reduceCtorEq,↓reduceIte,List.getElem?_set,hlen,t11,t12,t13,hlt]
 subst hW
 simp only [sxZ,z5,z6,z7,z8,j4,j5,j6,j7,j8,j9,x9,y3,y4,y5,y6,reduceCtorEq,↓reduceIte,List.getElem?_set,hlen]
 subst hZ
 rcases hA with ⟨h0,rfl⟩ | ⟨r,g,rfl,hr0,hr⟩
 ·simp only [sxZ,z5,z6,z7,z8,j4,j5,j6,j7,j8,j9,x9,y3,y4,y5,y6,reduceCtorEq,↓reduceIte,List.getElem?_set,hlen,t5]
  dsimp only at hk ⊢
  rw [h0] at hk ⊢
  exact .inl ⟨fun G I y hy => zaT hy,hk _ ho⟩
 ·simp only [sxZ,z5,z6,z7,z8,j4,j5,j6,j7,j8,j9,x9,y3,y4,y5,y6,reduceCtorEq,↓reduceIte,List.getElem?_set,hlen,t5]
  refine .inr ⟨r,_,_,_,_,_,hr,fun G I y hy => ?_,hk _ (ho.pub (zf5 _ _) r g _ _ hr0 hbl)⟩
  simpa [zhQ,zaY] using hy
end
end
section
attribute [local irreducible] run
def jdV (v:JV):AV:=zcm (zaW v (shE v) zbP 5).2.1.text (tsE v (jd1 v) zb3).2 (prE v (jd2 v) zbr true).2 (lsE v (jd3 v) zbG).2
def jdAV (v:JV):AV:=if jd4 v=0 then jdV v else zcm [] [] [] []
theorem den_jrz {G:Gh} {I:Imm} {y:Value} {x:AV} (h:Den G I (.tup [.agg [.s [],.nil,.nil,.nil],x]) y):Den G I (.tup [zcm [] [] [] [],x]) y:=by
 unfold zcm
 have e1:(AV.row ([]:List (List UInt8)).length (([]:List (List UInt8)).map .s))=.row 0 []:=rfl
 have e2:(AV.row ([]:List PrP).length (zaH []))=.row 0 []:=rfl
 have e3:(AV.row ([]:List LkP).length (zbv []))=.row 0 []:=rfl
 rw [e1,e2,e3]
 simp only [zah,Den] at h ⊢
 obtain ⟨ys,h1,y0,l0,rfl,⟨zs,rfl,⟨z0,m0,rfl,q0,z1,m1,rfl,q1,z2,m2,rfl,q2,z3,m3,rfl,q3,q4⟩,hz⟩,h2⟩:=h
 refine ⟨_,h1,_,_,rfl,⟨_,rfl,⟨_,_,rfl,q0,_,_,rfl,?_,_,_,rfl,?_,_,_,rfl,?_,q4⟩,hz⟩,h2⟩
 ·exact ⟨none,0,[],q1,⟨Nat.le_refl _,fun ad h => by cases h⟩,rfl,by simp,by simp⟩
 ·exact ⟨none,0,[],q2,⟨Nat.le_refl _,fun ad h => by cases h⟩,rfl,by simp,by simp⟩
 ·exact ⟨none,0,[],q3,⟨Nat.le_refl _,fun ad h => by cases h⟩,rfl,by simp,by simp⟩
section
variable [Tabs Try.prog] {objs:List OB} {K:List OB → AV → Prop}
theorem zdu (v:JV) (hv:JOk v) (hj:JBd v) (hk:K objs (.tup [jdAV v,.i .i64 (jd4 v)])):zae Try.prog 11 [.agg (zad v)] objs K:=by
 refine zdb (.tup [jdAV v,.i .i64 (jd4 v)]) ?_
 refine zaQ is_jrd_Decode (by simp only [zam,AV.plain,zbt,Bool.and_self]) fun C _ => ?_
 rw [c_jrd_Decode]
 have ejv:=zag v
 rw [ejv]
 refine zaa fun Z hZ => ?_
 simp only [sxZ,z5,z6,z7,z8,j4,j5,j6,j7,j8,j9,x9,y3,y4,y5,y6,reduceCtorEq,↓reduceIte]
 subst hZ
 refine zaa fun Z hZ => ?_
 simp only [sxZ,z5,z6,z7,z8,j4,j5,j6,j7,j8,j9,x9,y3,y4,y5,y6,reduceCtorEq,↓reduceIte]
 rw [← ejv]
 refine zaj (zil v fun o2 b hb n1 n2 n3 => ?_)
 have n1':o2[b]? = some (zbF v (shE v)):=n1
 have q1:o2[1]? = some (.box 34 [.s [],.nil,.nil,.nil]):=n3 1 (by simp)
 have hb2:2 ≤ b:=hb
 simp only [sxZ,z5,z6,z7,z8,j4,j5,j6,j7,j8,j9,x9,y3,y4,y5,y6,reduceCtorEq,↓reduceIte]
 subst hZ
 refine zaa fun Z hZ => ?_
 simp only [sxZ,z5,z6,z7,z8,j4,j5,j6,j7,j8,j9,x9,y3,y4,y5,y6,reduceCtorEq,↓reduceIte]
 refine zaj (zf0 v (shE v) zbP b hv hj n1' fun o3 x3 => ?_)
 simp only [sxZ,z5,z6,z7,z8,j4,j5,j6,j7,j8,j9,x9,y3,y4,y5,y6,reduceCtorEq,↓reduceIte]
 refine zaj (dtexts_k v (jd1 v) zb3 b hv hj x3.1 fun o4 x4 => ?_)
 simp only [sxZ,z5,z6,z7,z8,j4,j5,j6,j7,j8,j9,x9,y3,y4,y5,y6,reduceCtorEq,↓reduceIte]
 refine zaj (zf1 v (jd2 v) zbr true b hv hj x4.1 fun o5 x5 => ?_)
 simp only [sxZ,z5,z6,z7,z8,j4,j5,j6,j7,j8,j9,x9,y3,y4,y5,y6,reduceCtorEq,↓reduceIte]
 refine zaj (dlinks_k v (jd3 v) zbG b hv hj x5.1 fun o6 x6 => ?_)
 have x16:Ext o2 o6 b (zbF v (jd4 v)):=((x3.trans x4).trans x5).trans x6
 have q6:=x16.2.2 1 _ (by omega) q1 rfl
 have e6:=x16.1
 have hl6:=(List.getElem?_eq_some_iff.1 q6).1
 clear x3 x4 x5 x6 x16 n1 n1' n2 n3 q1
 have e6':=e6
 unfold zbF at e6'
 rw [ejv] at e6'
 have r1:∀ z,(o6 ++ [z])[1]? = some (.box 34 [.s [],.nil,.nil,.nil]):=fun z => by rw [List.getElem?_append_left hl6]; exact q6
 have r2:∀ z,(o6 ++ [z])[b]? = some (.box 71 [.i .i64 (jd4 v),.i .i64 v.kind,.s v.text,.row v.keys.length (v.keys.map .s),.row v.items.length (zab v.items)]):=fun z => by rw [List.getElem?_append_left (List.getElem?_eq_some_iff.1 e6).1]; exact e6'
 have s1:∀ z X,((o6 ++ [z]).set 1 X)[1]? = some X:=fun z X => List.getElem?_set_self (by rw [List.length_append]; omega)
 simp only [sxZ,z5,z6,z7,z8,j4,j5,j6,j7,j8,j9,x9,y3,y4,y5,y6,reduceCtorEq,↓reduceIte,gn1,sn1]
 subst hZ
 refine zaa fun Z hZ => ?_
 by_cases c:jd4 v=0
 ·simp only [sxZ,z5,z6,z7,z8,j4,j5,j6,j7,j8,j9,x9,y3,y4,y5,y6,reduceCtorEq,↓reduceIte,r2,c]
  subst hZ
  simp only [sxZ,z5,z6,z7,z8,j4,j5,j6,j7,j8,j9,x9,y3,y4,y5,y6,reduceCtorEq,↓reduceIte,gn1,r1,s1,zaX,za9,zcB,Bool.and_self]
  have e:jdAV v=jdV v:=if_pos c
  rw [c] at hk
  rw [e] at hk ⊢
  exact ⟨fun G I y hy => hy,hk⟩
 ·simp only [sxZ,z5,z6,z7,z8,j4,j5,j6,j7,j8,j9,x9,y3,y4,y5,y6,reduceCtorEq,↓reduceIte,r1,s1,r2,c]
  have e:jdAV v=zcm [] [] [] []:=if_neg c
  rw [e] at hk ⊢
  exact ⟨by omega,fun G I y hy => den_jrz hy,hk⟩
end
end
section
attribute [local irreducible] run
def zjn (m:Nat) (l:List JV) (o:List OB) (X:AV):Prop:=(l=[] ∧ X=.nil) ∨ ∃ r g,X=.orow r g ∧ m ≤ r ∧ o[r]? = some (.orow 25 4 g l.length (zab l))
def ObR (m b:Nat) (ks:List (List UInt8)) (its:List JV) (o:List OB):Prop:=∃ X Y,o[b]? = some (.box 85 [X,Y]) ∧ RowT m ks o X ∧ zjn m its o Y
def jtx (s:List UInt8):JV:=.mk 5 s [] []
def jar (l:List JV):JV:=.mk 6 [] [] l
theorem zjn.mono {m:Nat} {l:List JV} {o:List OB} {X:AV} (h:zjn m l o X) (z:OB):zjn m l (o ++ [z]) X:=by
 rcases h with h | ⟨r,g,h1,h0,h2⟩
 ·exact .inl h
 ·exact .inr ⟨r,g,h1,h0,by rw [List.getElem?_append_left (List.getElem?_eq_some_iff.1 h2).1]; exact h2⟩
theorem zjn.set {m:Nat} {l:List JV} {o:List OB} {X:AV} (h:zjn m l o X) {r:Nat} {Z:OB} (hz:o[r]? = some Z) (hne:∀ g n cs,Z ≠ .orow 25 4 g n cs) (W:OB):zjn m l (o.set r W) X:=by
 rcases h with h | ⟨r',g,h1,h0,h2⟩
 ·exact .inl h
 ·refine .inr ⟨r',g,h1,h0,?_⟩
  rw [List.getElem?_set_ne (fun e => by rw [e,h2] at hz; injection hz with hz; exact hne _ _ _ hz.symm)]; exact h2
theorem RowT.set {m:Nat} {l:List (List UInt8)} {o:List OB} {X:AV} (h:RowT m l o X) {r:Nat} {Z:OB} (hz:o[r]? = some Z) (hne:∀ g n cs,Z ≠ .orow 9 1 g n cs) (W:OB):RowT m l (o.set r W) X:=by
 rcases h with h | ⟨r',g,h1,h0,h2⟩
 ·exact .inl h
 ·refine .inr ⟨r',g,h1,h0,?_⟩
  rw [List.getElem?_set_ne (fun e => by rw [e,h2] at hz; injection hz with hz; exact hne _ _ _ hz.symm)]; exact h2
theorem zdU {k:Int} {t:List UInt8} {G:Gh} {I:Imm} {y:Value} (h:Den G I (.agg [.i .i64 k,.s t,.nil,.nil]) y):Den G I (.agg (zad (.mk k t [] []))) y:=by
 rw [zad,zal]
 simp only [zah,Den] at h ⊢
 obtain ⟨zs,rfl,⟨z0,m0,rfl,q0,z1,m1,rfl,q1,z2,m2,rfl,q2,z3,m3,rfl,q3,q4⟩,hz⟩:=h
 refine ⟨_,rfl,⟨_,_,rfl,q0,_,_,rfl,q1,_,_,rfl,?_,_,_,rfl,?_,q4⟩,hz⟩
 ·exact ⟨none,0,[],q2,⟨Nat.le_refl _,fun ad h => by cases h⟩,rfl,by simp,by simp⟩
 ·exact ⟨none,0,[],q3,⟨Nat.le_refl _,fun ad h => by cases h⟩,rfl,by simp,by simp⟩
theorem zhB {k:Int} {t:List UInt8} {n:Nat} {cs:List AV} {its:List JV} (hn:n=its.length) (hc:cs=zab its) {G:Gh} {I:Imm} {y:Value} (h:Den G I (.agg [.i .i64 k,.s t,.nil,.row n cs]) y):Den G I (.agg (zad (.mk k t [] its))) y:=by
 subst hn hc
 rw [zad]
 simp only [zah,Den] at h ⊢
 obtain ⟨zs,rfl,⟨z0,m0,rfl,q0,z1,m1,rfl,q1,z2,m2,rfl,q2,z3,m3,rfl,q3,q4⟩,hz⟩:=h
 refine ⟨_,rfl,⟨_,_,rfl,q0,_,_,rfl,q1,_,_,rfl,?_,_,_,rfl,q3,q4⟩,hz⟩
 exact ⟨none,0,[],q2,⟨Nat.le_refl _,fun ad h => by cases h⟩,rfl,by simp,by simp⟩
section
variable [Tabs Try.prog] {objs:List OB} {K:List OB → AV → Prop}
theorem zcn (s:List UInt8) (hk:K objs (.agg (zad (jtx s)))):zae Try.prog 39 [.s s] objs K:=by
 refine zdb (.agg (zad (jtx s))) ?_
 refine zaQ is_jsonmake_Text rfl fun C _ => ?_
 rw [c_jsonmake_Text]
 simp only [sxZ,z5,z6,z7,z8,j4,j5,j6,j7,j8,j9,x9,y3,y4,y5,y6,reduceCtorEq,↓reduceIte]
 exact ⟨fun G I y hy => zdU hy,hk⟩
theorem zdt (l:List JV) (hk:K objs (.agg (zad (jar l)))):zae Try.prog 43 [.row l.length (zab l)] objs K:=by
 refine zdb (.agg (zad (jar l))) ?_
 refine zaQ is_jsonmake_Array (by simp only [zam,AV.plain,zaB,Bool.and_self]) fun C _ => ?_
 rw [c_jsonmake_Array]
 simp only [sxZ,z5,z6,z7,z8,j4,j5,j6,j7,j8,j9,x9,y3,y4,y5,y6,reduceCtorEq,↓reduceIte,zaB]
 exact ⟨fun G I y hy => zhB rfl rfl hy,hk⟩
theorem zeG (m b:Nat) (ks:List (List UInt8)) (its:List JV) (key:List UInt8) (v:JV) (hb:ObR m b ks its objs) (hm:m ≤ objs.length) (hbm:b < m) (h1:ks.length ≤ 1000000) (h2:its.length ≤ 1000000) (hk:∀ o,ObR m b (ks ++ [key]) (its ++ [v]) o → objs.length ≤ o.length → (∀ i,i < m → i ≠ b → o[i]? = objs[i]?) → K o (.tup [])):zae Try.prog 60 [.p b 0,.s key,.agg (zad v)] objs K:=by
 obtain ⟨X,Y,e0,hX,hY⟩:=hb
 have hl4:=zat its
 obtain ⟨v0,v1,v2,v3,hv⟩:∃ v0 v1 v2 v3,zad v=[v0,v1,v2,v3]:=⟨_,_,_,_,zag v⟩
 rw [hv]
 refine zbj is_jsonmake_Object_Add fun C _ => ?_
 rw [c_jsonmake_Object_Add]
 refine zaa fun Z hZ => ?_
 simp only [sxZ,z5,z6,z7,z8,j4,j5,j6,j7,j8,j9,x9,y3,y4,y5,y6,reduceCtorEq,↓reduceIte]
 have f0:(objs ++ [OB.box 25 [v0,v1,v2,v3]])[b]? = some (.box 85 [X,Y]):=by rw [List.getElem?_append_left (by omega)]; exact e0
 have fv:(objs ++ [OB.box 25 [v0,v1,v2,v3]])[objs.length]? = some (.box 25 [v0,v1,v2,v3]):=gn1 _ _
 have hX1:=hX.mono (.box 25 [v0,v1,v2,v3])
 subst hZ
 refine zaa fun Z hZ => ?_
 have hY1:=hY.mono (.box 25 [v0,v1,v2,v3])
 have hol:(objs ++ [OB.box 25 [v0,v1,v2,v3]]).length=objs.length + 1:=by simp
 refine zaA (fun o2 t2 => ∃ X',o2[b]? = some (.box 85 [X',Y]) ∧ RowT m (ks ++ [key]) o2 X' ∧ zjn m its o2 Y ∧ o2[objs.length]? = some (.box 25 [v0,v1,v2,v3]) ∧ objs.length + 1 ≤ o2.length ∧ (∀ i,i < m → i ≠ b → o2[i]? = objs[i]?) ∧ t2.length=27 ∧ t2[0]? = some (.p b 0) ∧ t2[5]? = some (.p objs.length 0)) ?_ ?_
 ·rcases hX1 with ⟨rfl,rfl⟩ | ⟨r,g,rfl,hr0,hr⟩
  ·have f1:∀ z,(objs ++ [OB.box 25 [v0,v1,v2,v3]] ++ [z])[b]? = some (.box 85 [.nil,Y]):=fun z => by rw [List.getElem?_append_left (by omega)]; exact f0
   simp only [sxZ,z5,z6,z7,z8,j4,j5,j6,j7,j8,j9,x9,y3,y4,y5,y6,reduceCtorEq,↓reduceIte,f0,f1,zac]
   refine ⟨_,List.getElem?_set_self (by simp; omega),.inr ⟨objs.length + 1,0,rfl,by omega,?_⟩,?_,?_,by simp,fun i hi hn => ?_⟩
   ·rw [List.getElem?_set_ne (by omega),gn2]; rfl
   ·exact (hY1.mono _).set (f1 _) (fun _ _ _ h => by cases h) _
   ·rw [List.getElem?_set_ne (by omega),List.getElem?_append_left (by omega)]; exact fv
   ·rw [List.getElem?_set_ne (by omega),List.getElem?_append_left (by omega),List.getElem?_append_left (by omega)]
  ·have hrl:=(List.getElem?_eq_some_iff.1 hr).1
   have hrv:r ≠ objs.length:=fun h => by rw [h,fv] at hr; cases hr
   have f1:∀ W,((objs ++ [OB.box 25 [v0,v1,v2,v3]]).set r W)[b]? = some (.box 85 [.orow r g,Y]):=fun W => by rw [List.getElem?_set_ne (by omega)]; exact f0
   simp only [sxZ,z5,z6,z7,z8,j4,j5,j6,j7,j8,j9,x9,y3,y4,y5,y6,reduceCtorEq,↓reduceIte,f0,f1,hr,zac]
   refine ⟨⟨by omega,by omega⟩,_,List.getElem?_set_self (by simp; omega),.inr ⟨r,g + 1,rfl,hr0,?_⟩,?_,?_,by simp,fun i hi hn => ?_⟩
   ·rw [List.getElem?_set_ne (by omega),List.getElem?_set_self hrl,List.length_append,List.map_append]; rfl
   ·exact (hY1.set hr (fun _ _ _ h => by cases h) _).set (f1 _) (fun _ _ _ h => by cases h) _
   ·rw [List.getElem?_set_ne (by omega),List.getElem?_set_ne hrv]; exact fv
   ·rw [List.getElem?_set_ne (by omega),List.getElem?_set_ne (by omega),List.getElem?_append_left (by omega)]
 rintro o2 tm2 ⟨X',g0,hX2,hY2,gv,hlo,hfr,hlen,t0,t5⟩
 subst hZ
 have hl4':=zcb v
 rcases hY2 with ⟨rfl,rfl⟩ | ⟨r,g,rfl,hr0,hr⟩
 ·have g1:∀ z,(o2 ++ [z])[b]? = some (.box 85 [X',.nil]):=fun z => by rw [List.getElem?_append_left (by omega)]; exact g0
  simp only [sxZ,z5,z6,z7,z8,j4,j5,j6,j7,j8,j9,x9,y3,y4,y5,y6,reduceCtorEq,↓reduceIte,List.getElem?_set,hlen,t0,t5,g0,gv,gn1,sn1,g1,Int.toNat_zero]
  refine ⟨by omega,by omega,?_⟩
  refine hk _ ⟨X',.orow o2.length 0,List.getElem?_set_self (by simp; omega),?_,.inr ⟨o2.length,0,rfl,by omega,?_⟩⟩ (by simp; omega) fun i hi hn => ?_
  ·exact (hX2.mono _).set (g1 _) (fun _ _ _ h => by cases h) _
  ·rw [List.getElem?_set_ne (by omega),gn1,← hv]
   simp [zap,zal]
  ·rw [List.getElem?_set_ne (by omega),List.getElem?_append_left (by omega)]; exact hfr i hi hn
 ·have hrl:=(List.getElem?_eq_some_iff.1 hr).1
  have hrb:r ≠ b:=by omega
  simp only [sxZ,z5,z6,z7,z8,j4,j5,j6,j7,j8,j9,x9,y3,y4,y5,y6,reduceCtorEq,↓reduceIte,List.getElem?_set,hlen,t0,t5,g0,gv,hr,hrl,hrb]
  refine ⟨⟨by omega,by omega⟩,⟨by omega,by omega⟩,by omega,?_⟩
  rw [spE _ _ _ _ _ _ _ _ _ _ hl4,List.set_set]
  have g2:∀ W,(o2.set r W)[b]? = some (.box 85 [X',.orow r g]):=fun W => by rw [List.getElem?_set_ne hrb]; exact g0
  refine hk _ ⟨X',.orow r (g + 1),List.getElem?_set_self (by simp; omega),?_,.inr ⟨r,g + 1,rfl,hr0,?_⟩⟩ (by simp; omega) fun i hi hn => ?_
  ·exact (hX2.set hr (fun _ _ _ h => by cases h) _).set (g2 _) (fun _ _ _ h => by cases h) _
  ·rw [List.getElem?_set_ne (by omega),List.getElem?_set_self hrl,← hv]
   simp [zaO,zap,zal]
  ·rw [List.getElem?_set_ne (by omega),List.getElem?_set_ne (by omega)]; exact hfr i hi hn
end
end
section
attribute [local irreducible] run
def zcv (v:JV):Bool:=!decide (v.text=[]) || decide (0 < v.items.length)
def zbe (ks:List (List UInt8)) (key:List UInt8) (v:JV):List (List UInt8):=if zcv v=true then ks ++ [key] else ks
def zbC (its:List JV) (v:JV):List JV:=if zcv v=true then its ++ [v] else its
def job (ks:List (List UInt8)) (its:List JV):JV:=.mk 7 [] ks its
theorem ObR.app {m b:Nat} {ks:List (List UInt8)} {its:List JV} {o:List OB} (h:ObR m b ks its o) (z:OB):ObR m b ks its (o ++ [z]):=by
 obtain ⟨X,Y,h1,h2,h3⟩:=h
 exact ⟨X,Y,by rw [List.getElem?_append_left (List.getElem?_eq_some_iff.1 h1).1]; exact h1,h2.mono z,h3.mono z⟩
section
variable [Tabs Try.prog] {objs:List OB} {K:List OB → AV → Prop}
theorem zbB (m b:Nat) (ks:List (List UInt8)) (its:List JV) (key:List UInt8) (v:JV) (hb:ObR m b ks its objs) (hm:m ≤ objs.length) (hbm:b < m) (h1:ks.length ≤ 1000000) (h2:its.length ≤ 1000000) (hk:∀ o,ObR m b (zbe ks key v) (zbC its v) o → objs.length ≤ o.length → (∀ i,i < m → i ≠ b → o[i]? = objs[i]?) → K o (.tup [])):zae Try.prog 38 [.p b 0,.s key,.agg (zad v)] objs K:=by
 have ejv:=zag v
 rw [ejv]
 refine zbj is_jsonmake_Object_AddFilled fun C _ => ?_
 rw [c_jsonmake_Object_AddFilled]
 refine zaa fun Z hZ => ?_
 simp only [sxZ,z5,z6,z7,z8,j4,j5,j6,j7,j8,j9,x9,y3,y4,y5,y6,reduceCtorEq,↓reduceIte]
 rw [← ejv]
 have hB:=hb.app (.box 25 (zad v))
 have fv:(objs ++ [OB.box 25 (zad v)])[objs.length]? = some (.box 25 [.i .i64 v.kind,.s v.text,.row v.keys.length (v.keys.map .s),.row v.items.length (zab v.items)]):=by rw [gn1,ejv]
 have hfr:∀ i,i < m → (objs ++ [OB.box 25 (zad v)])[i]? = objs[i]?:=fun i hi => List.getElem?_append_left (by omega)
 have hln:(objs ++ [OB.box 25 (zad v)]).length=objs.length + 1:=by simp
 generalize objs ++ [OB.box 25 (zad v)]=o1 at hB fv hfr hln ⊢
 subst hZ
 refine zaa fun Z hZ => ?_
 unfold zbe zbC at hk
 by_cases c:v.text=[]
 ·by_cases c2:(0:Int) < (v.items.length:Int)
  ·have hf:zcv v=true:=by unfold zcv; rw [decide_eq_true (show 0 < v.items.length by omega)]; simp
   rw [if_pos hf,if_pos hf] at hk
   simp only [sxZ,z5,z6,z7,z8,j4,j5,j6,j7,j8,j9,x9,y3,y4,y5,y6,reduceCtorEq,↓reduceIte,fv,c,c2]
   subst hZ
   simp only [sxZ,z5,z6,z7,z8,j4,j5,j6,j7,j8,j9,x9,y3,y4,y5,y6,reduceCtorEq,↓reduceIte,fv]
   rw [← ejv]
   refine zaj (zeG m b ks its key v hB (by omega) hbm h1 h2 fun o3 q1 q2 q3 => ?_)
   simp only [sxZ,z5,z6,z7,z8,j4,j5,j6,j7,j8,j9,x9,y3,y4,y5,y6,reduceCtorEq,↓reduceIte]
   exact hk _ q1 (by omega) fun i hi hn => by rw [q3 i hi hn]; exact hfr i hi
  ·have hf:¬ zcv v=true:=by unfold zcv; rw [c,decide_eq_false (show ¬ 0 < v.items.length by omega)]; simp
   rw [if_neg hf,if_neg hf] at hk
   simp only [sxZ,z5,z6,z7,z8,j4,j5,j6,j7,j8,j9,x9,y3,y4,y5,y6,reduceCtorEq,↓reduceIte,fv,c,c2]
   subst hZ
   simp only [sxZ,z5,z6,z7,z8,j4,j5,j6,j7,j8,j9,x9,y3,y4,y5,y6,reduceCtorEq,↓reduceIte,fv]
   exact hk _ hB (by omega) fun i hi _ => hfr i hi
 ·have hf:zcv v=true:=by unfold zcv; rw [decide_eq_false c]; rfl
  rw [if_pos hf,if_pos hf] at hk
  simp only [sxZ,z5,z6,z7,z8,j4,j5,j6,j7,j8,j9,x9,y3,y4,y5,y6,reduceCtorEq,↓reduceIte,fv,c]
  subst hZ
  simp only [sxZ,z5,z6,z7,z8,j4,j5,j6,j7,j8,j9,x9,y3,y4,y5,y6,reduceCtorEq,↓reduceIte,fv]
  rw [← ejv]
  refine zaj (zeG m b ks its key v hB (by omega) hbm h1 h2 fun o3 q1 q2 q3 => ?_)
  simp only [sxZ,z5,z6,z7,z8,j4,j5,j6,j7,j8,j9,x9,y3,y4,y5,y6,reduceCtorEq,↓reduceIte]
  exact hk _ q1 (by omega) fun i hi hn => by rw [q3 i hi hn]; exact hfr i hi
end
theorem zeA {o:List OB} {r r' g n E sz g' n':Nat} {xs xs':List AV} (h:o[r']? = some (.orow E sz g' n' xs')) (hn:r' ≠ r):(zcN o r g n xs)[r']? = some (.orow E sz g' n' xs'):=by
 unfold zcN
 rw [List.getElem?_set_ne (fun e => hn e.symm),List.getElem?_map,h]; rfl
theorem zcM (o:List OB) (r g n:Nat) (xs:List AV):(zcN o r g n xs).length=o.length:=by unfold zcN; simp
theorem zfL {o o':List OB} {m b r g n:Nat} {xs:List AV} (h:∀ i Y,i < m → i ≠ b → o[i]? = some Y → PlO Y → o'[i]? = some Y) (hr:m ≤ r):∀ i Y,i < m → i ≠ b → o[i]? = some Y → PlO Y → (zcN o' r g n xs)[i]? = some Y:=by
 intro i Y hi hn ho hp
 unfold zcN
 rw [List.getElem?_set_ne (by omega),List.getElem?_map,h i Y hi hn ho hp,Option.map_some,zg6 hp]
theorem zf4 {ks:List (List UInt8)} {its:List JV} {X Y:AV} (hX:(ks=[] ∧ X=.nil) ∨ X=.row ks.length (ks.map .s)) (hY:(its=[] ∧ Y=.nil) ∨ Y=.row its.length (zab its)) {G:Gh} {I:Imm} {y:Value} (h:Den G I (.agg [.i .i64 7,.s [],X,Y]) y):Den G I (.agg (zad (job ks its))) y:=by
 unfold job
 rw [zad]
 have hX':∀ {z:Value},Den G I X z → Den G I (.row ks.length (ks.map .s)) z:=by
  intro z hz
  rcases hX with ⟨rfl,rfl⟩ | rfl
  ·exact zaT hz
  ·exact hz
 have hY':∀ {z:Value},Den G I Y z → Den G I (.row its.length (zab its)) z:=by
  intro z hz
  rcases hY with ⟨rfl,rfl⟩ | rfl
  ·rw [zal]; exact zaT hz
  ·exact hz
 generalize AV.row ks.length (ks.map .s)=A at hX' ⊢
 generalize AV.row its.length (zab its)=B at hY' ⊢
 simp only [zah,Den] at h ⊢
 obtain ⟨zs,rfl,⟨z0,m0,rfl,q0,z1,m1,rfl,q1,z2,m2,rfl,q2,z3,m3,rfl,q3,q4⟩,hz⟩:=h
 exact ⟨_,rfl,⟨_,_,rfl,q0,_,_,rfl,q1,_,_,rfl,hX' q2,_,_,rfl,hY' q3,q4⟩,hz⟩
section
variable [Tabs Try.prog] {objs:List OB} {K:List OB → AV → Prop}
theorem zds (m b:Nat) (ks:List (List UInt8)) (its:List JV) (hb:ObR m b ks its objs) (hm:m ≤ objs.length) (hbm:b < m) (hk:∀ o,objs.length ≤ o.length → (∀ i Y,i < m → i ≠ b → objs[i]? = some Y → PlO Y → o[i]? = some Y) → K o (.agg (zad (job ks its)))):zae Try.prog 44 [.p b 0] objs K:=by
 refine zdb (.agg (zad (job ks its))) ?_
 refine zbg ?_
 refine zbg ?_
 obtain ⟨X,Y,e0,hX,hY⟩:=hb
 refine zbj is_jsonmake_Object_Value fun C _ => ?_
 rw [c_jsonmake_Object_Value]
 refine zaa fun Z hZ => ?_
 simp only [sxZ,z5,z6,z7,z8,j4,j5,j6,j7,j8,j9,x9,y3,y4,y5,y6,reduceCtorEq,↓reduceIte]
 have g1:∀ z,(objs ++ [z])[b]? = some (.box 85 [X,Y]):=fun z => by rw [List.getElem?_append_left (by omega)]; exact e0
 subst hZ
 have hfr:∀ z i Y,i < m → i ≠ b → objs[i]? = some Y → PlO Y → (objs ++ [z])[i]? = some Y:=fun z i Y hi _ h _ => by rw [List.getElem?_append_left (by omega)]; exact h
 have hln:∀ z,(objs ++ [z]).length=objs.length + 1:=fun z => by simp
 rcases hX with ⟨x0,rfl⟩ | ⟨r,g,rfl,hr0,hr⟩
 ·rcases hY with ⟨y0,rfl⟩ | ⟨r',g',rfl,hs0,hs⟩
  ·simp only [sxZ,z5,z6,z7,z8,j4,j5,j6,j7,j8,j9,x9,y3,y4,y5,y6,reduceCtorEq,↓reduceIte,g1,gn1,sn1]
   exact .inl (.inl ⟨fun G I y hy => zf4 (.inl ⟨x0,rfl⟩) (.inl ⟨y0,rfl⟩) hy,hk _ (by rw [hln]; omega) (hfr _)⟩)
  ·simp only [sxZ,z5,z6,z7,z8,j4,j5,j6,j7,j8,j9,x9,y3,y4,y5,y6,reduceCtorEq,↓reduceIte,g1,gn1,sn1]
   refine .inr ⟨r',_,_,_,_,_,by rw [List.getElem?_append_left (List.getElem?_eq_some_iff.1 hs).1]; exact hs,.inl ⟨fun G I y hy => ?_,hk _ (by rw [zcM,hln]; omega) (zfL (hfr _) hs0)⟩⟩
   refine zf4 (X:=.nil) (.inl ⟨x0,rfl⟩) (.inr rfl) ?_
   simpa [zhQ,zaY] using hy
 ·rcases hY with ⟨y0,rfl⟩ | ⟨r',g',rfl,hs0,hs⟩
  ·simp only [sxZ,z5,z6,z7,z8,j4,j5,j6,j7,j8,j9,x9,y3,y4,y5,y6,reduceCtorEq,↓reduceIte,g1,gn1,sn1]
   refine .inr ⟨r,_,_,_,_,_,by rw [List.getElem?_append_left (List.getElem?_eq_some_iff.1 hr).1]; exact hr,.inl ⟨fun G I y hy => ?_,hk _ (by rw [zcM,hln]; omega) (zfL (hfr _) hr0)⟩⟩
   refine zf4 (Y:=.nil) (.inr rfl) (.inl ⟨y0,rfl⟩) ?_
   simpa [zhQ,zaY] using hy
  ·simp only [sxZ,z5,z6,z7,z8,j4,j5,j6,j7,j8,j9,x9,y3,y4,y5,y6,reduceCtorEq,↓reduceIte,g1,gn1,sn1]
   have hne:r' ≠ r:=fun h => by rw [h,hr] at hs; cases hs
   refine .inr ⟨r,_,_,_,_,_,by rw [List.getElem?_append_left (List.getElem?_eq_some_iff.1 hr).1]; exact hr,.inr ⟨r',_,_,_,_,_,zeA (by rw [List.getElem?_append_left (List.getElem?_eq_some_iff.1 hs).1]; exact hs) hne,fun G I y hy => ?_,hk _ (by rw [zcM,zcM,hln]; omega) (zfL (zfL (hfr _) hr0) hs0)⟩⟩
   refine zf4 (.inr rfl) (.inr rfl) ?_
   simpa [zhQ,zaY,hne,Ne.symm hne] using hy
end
end
end Go.Proofs.Ytceenajkieomoaa
namespace Go.Proofs.Ytceenajkieomoaa
open Go.RowKit Sx
theorem zeT {P:Program} [Tabs P] {f:FuncId} {rest:List AV} {objs:List OB} {K:List OB → AV → Prop} (h:zae P f (.row 0 [] :: rest) objs K):zae P f (.nil :: rest) objs K:=by
 intro C _ G I w hin hm ys hd
 refine h C G I w hin hm ys ?_
 simp only [zah] at hd ⊢
 obtain ⟨y,ys',rfl,h1,h2⟩:=hd
 refine ⟨y,ys',rfl,?_,h2⟩
 simp only [zah,Den] at h1 ⊢
 exact ⟨none,0,[],h1,⟨Nat.le_refl _,fun ad h => by cases h⟩,rfl,by simp,by simp⟩
end Go.Proofs.Ytceenajkieomoaa
namespace Go.Proofs.Ytceenajkieomoaa
open Nat renaming reduceAdd → z5, reduceSub → z6, reduceLeDiff → z7, reduceLT → z8, reduceMul → j4, reduceEqDiff → j5
open Int renaming reduceToNat → j6, reduceAdd → j7, reduceSub → j8, reduceMul → j9, reduceNeg → x9, reduceLT → y3, reduceLE → y4, reduceEq → y5, reduceNe → y6
open Go.RowKit Sx
section
attribute [local irreducible] run
theorem zca (s:List UInt8):zad (jtx s)=[.i .i64 5,.s s,.row 0 [],.row 0 []]:=by
 unfold jtx
 rw [zad,zal]; rfl
section
variable [Tabs Try.prog] {objs:List OB} {K:List OB → AV → Prop}
theorem zlI (l:List (List UInt8)) (hl:l.length ≤ 1000000) (hk:K objs (.agg (zad (jar (l.map jtx))))):zae Try.prog 40 [.row l.length (l.map .s)] objs K:=by
 refine zaQ is_jsonmake_Texts (by simp only [zam,AV.plain,zaX,Bool.and_self]) fun C _ => ?_
 rw [c_jsonmake_Texts]
 refine zaa fun Z hZ => ?_
 simp only [sxZ,z5,z6,z7,z8,j4,j5,j6,j7,j8,j9,x9,y3,y4,y5,y6,reduceCtorEq,↓reduceIte]
 subst hZ
 refine zaa fun Z hZ => ?_
 simp only [sxZ,z5,z6,z7,z8,j4,j5,j6,j7,j8,j9,x9,y3,y4,y5,y6,reduceCtorEq,↓reduceIte]
 subst hZ
 refine zaa fun Z hZ => ?_
 refine zaa fun W hW => ?_
 simp only [sxZ,z5,z6,z7,z8,j4,j5,j6,j7,j8,j9,x9,y3,y4,y5,y6,reduceCtorEq,↓reduceIte]
 subst hW
 rw [zaw]
 refine zax (fun n o tm => ∃ i:Nat,i ≤ l.length ∧ n=l.length - i ∧ (∃ z,o[0]? = some (.box 25 z) ∧ z.length=4) ∧ zjn 1 ((l.take i).map jtx) o (tm[3]?.getD .u) ∧ tm.length=20 ∧ tm[2]? = some (.p 0 0) ∧ tm[6]? = some (.row l.length (l.map .s)) ∧ tm[7]? = some (.i .i64 (l.length:Int)) ∧ tm[8]? = some (.i .i64 (i:Int))) l.length ⟨0,Nat.zero_le _,rfl,⟨_,rfl,rfl⟩,.inl ⟨rfl,rfl⟩,rfl,rfl,rfl,rfl,rfl⟩ ?_
 rintro n o tm ⟨i,hi,rfl,⟨z,e0,hz⟩,hA,hlen,t2,t6,t7,t8⟩
 obtain ⟨a3,t3⟩:∃ a,tm[3]? = some a:=⟨_,List.getElem?_eq_getElem (by omega)⟩
 rw [t3,Option.getD_some] at hA
 have hol:=(List.getElem?_eq_some_iff.1 e0).1
 refine zaa fun W hW => ?_
 by_cases hlt:(i:Int) < (l.length:Int)
 ·have hi':i < l.length:=by omega
  have kv:(l.map AV.s)[i * 1]? = some (.s l[i]):=by rw [Nat.mul_one,List.getElem?_map,List.getElem?_eq_getElem hi']; rfl
  have htk:(l.take (i + 1)).map jtx=(l.take i).map jtx ++ [jtx l[i]]:=by rw [List.take_add_one,List.getElem?_eq_getElem hi',List.map_append]; rfl
  have hfl:((l.take i).map jtx).length=i:=by rw [List.length_map,List.length_take]; omega
  generalize l[i]=y at kv htk
  generalize (l.take i).map jtx=acc at hA htk hfl
  have hl4:=zat acc
  simp only [sxZ,z5,z6,z7,z8,j4,j5,j6,j7,j8,j9,x9,y3,y4,y5,y6,reduceCtorEq,↓reduceIte,List.getElem?_set,hlen,t6,t7,t8,hlt]
  subst hW
  refine zaa fun W hW => ?_
  simp only [sxZ,z5,z6,z7,z8,j4,j5,j6,j7,j8,j9,x9,y3,y4,y5,y6,reduceCtorEq,↓reduceIte,List.getElem?_set,hlen]
  subst hW
  refine zaa fun V hV => ?_
  rw [zaw]
  refine zaa fun W hW => ?_
  simp only [sxZ,z5,z6,z7,z8,j4,j5,j6,j7,j8,j9,x9,y3,y4,y5,y6,reduceCtorEq,↓reduceIte,List.getElem?_set,hlen,t6,t8,kv,List.length_map]
  refine ⟨⟨by omega,by omega,by omega⟩,?_⟩
  subst hW
  simp only [sxZ,z5,z6,z7,z8,j4,j5,j6,j7,j8,j9,x9,y3,y4,y5,y6,reduceCtorEq,↓reduceIte,List.getElem?_set,hlen,t3]
  refine zaj (zcn y ?_)
  rw [zca]
  rcases hA with ⟨h0,rfl⟩ | ⟨r,g,rfl,hr0,hr⟩
  ·simp only [sxZ,z5,z6,z7,z8,j4,j5,j6,j7,j8,j9,x9,y3,y4,y5,y6,reduceCtorEq,↓reduceIte,List.getElem?_set,hlen,t3]
   subst hV
   simp only [sxZ,z5,z6,z7,z8,j4,j5,j6,j7,j8,j9,x9,y3,y4,y5,y6,reduceCtorEq,↓reduceIte,List.getElem?_set,hlen,t2,t6,t7,t8]
   refine ⟨by omega,l.length - (i + 1),by omega,i + 1,by omega,rfl,⟨z,by rw [List.getElem?_append_left hol]; exact e0,hz⟩,?_,rfl⟩
   rw [htk,h0]
   exact .inr ⟨_,0,rfl,by omega,by rw [gn1,List.nil_append,zap,zal,zca]; rfl⟩
  ·have hrl:=(List.getElem?_eq_some_iff.1 hr).1
   simp only [sxZ,z5,z6,z7,z8,j4,j5,j6,j7,j8,j9,x9,y3,y4,y5,y6,reduceCtorEq,↓reduceIte,List.getElem?_set,hlen,t3,hr]
   refine ⟨⟨by omega,by omega⟩,?_⟩
   subst hV
   simp only [sxZ,z5,z6,z7,z8,j4,j5,j6,j7,j8,j9,x9,y3,y4,y5,y6,reduceCtorEq,↓reduceIte,List.getElem?_set,hlen,t2,t6,t7,t8]
   refine ⟨by omega,l.length - (i + 1),by omega,i + 1,by omega,rfl,⟨z,?_,hz⟩,?_,rfl⟩
   ·rw [if_neg (by omega)]; exact e0
   ·rw [htk]
    refine .inr ⟨r,g + 1,rfl,hr0,?_⟩
    rw [List.getElem?_set_self hrl,List.length_append,zaO,zap,zal,zca]; rfl
 have hn:i=l.length:=by omega
 rw [hn,List.take_of_length_le (Nat.le_refl _)] at hA
 simp only [sxZ,z5,z6,z7,z8,j4,j5,j6,j7,j8,j9,x9,y3,y4,y5,y6,reduceCtorEq,↓reduceIte,List.getElem?_set,hlen,t6,t7,t8,hlt]
 subst hW
 simp only [sxZ,z5,z6,z7,z8,j4,j5,j6,j7,j8,j9,x9,y3,y4,y5,y6,reduceCtorEq,↓reduceIte,List.getElem?_set,hlen]
 subst hZ
 have hc:zad (jar (l.map jtx))=[.i .i64 6,.s [],.row 0 [],.row (l.map jtx).length (zab (l.map jtx))]:=by rw [zag]; rfl
 obtain ⟨z0,z1,z2,z3,rfl⟩:∃ z0 z1 z2 z3,z=[z0,z1,z2,z3]:=by
  match z,hz with
  | [a,b,c,d],_ => exact ⟨a,b,c,d,rfl⟩
 rw [hc] at hk
 have hjL:=zaB (l.map jtx)
 rcases hA with ⟨h0,rfl⟩ | ⟨r,g,rfl,hr0,hr⟩
 ·simp only [sxZ,z5,z6,z7,z8,j4,j5,j6,j7,j8,j9,x9,y3,y4,y5,y6,reduceCtorEq,↓reduceIte,List.getElem?_set,hlen,t3]
  refine zaj (zeT ?_)
  have hA2:∀ {K:List OB → AV → Prop},K o (.agg (zad (jar []))) → zae Try.prog 43 [.row 0 []] o K:=fun {K} h => by
   have:=zdt (objs:=o) (K:=K) [] h
   rwa [zal] at this
  refine hA2 ?_
  rw [← h0,hc]
  simp only [sxZ,z5,z6,z7,z8,j4,j5,j6,j7,j8,j9,x9,y3,y4,y5,y6,reduceCtorEq,↓reduceIte,List.getElem?_set,hlen,t2,e0,hol,hjL]
  exact hk
 ·simp only [sxZ,z5,z6,z7,z8,j4,j5,j6,j7,j8,j9,x9,y3,y4,y5,y6,reduceCtorEq,↓reduceIte,List.getElem?_set,hlen,t3]
  refine zaj (zfo (b:=r) hr ?_)
  simp only [zaY,List.map_cons,List.map_nil,and_self,if_true]
  refine zdt (l.map jtx) ?_
  rw [hc]
  generalize hcs:zab (l.map jtx)=cs at hr hk hjL ⊢
  have e1:∃ w0 w1 w2 w3,(zcN o r g (l.map jtx).length cs)[0]? = some (.box 25 [w0,w1,w2,w3]):=by
   unfold zcN
   rw [List.getElem?_set_ne (by omega),List.getElem?_map,e0]
   exact ⟨_,_,_,_,rfl⟩
  obtain ⟨w0,w1,w2,w3,e1⟩:=e1
  have hl2:=(List.getElem?_eq_some_iff.1 e1).1
  generalize zcN o r g (l.map jtx).length cs=o2 at e1 hl2 ⊢
  simp only [sxZ,z5,z6,z7,z8,j4,j5,j6,j7,j8,j9,x9,y3,y4,y5,y6,reduceCtorEq,↓reduceIte,List.getElem?_set,hlen,t2,e1,hl2,hjL]
  exact hk
end
end
section
attribute [local irreducible] run
theorem zic:∀ {l:List PrP} {i:Nat} (hi:i < l.length),((zaH l).drop (i * 3)).take 3=[.s l[i].name,.s l[i].val,.b l[i].nul]
 | x :: l,0,hi => by
  rw [Nat.zero_mul,List.drop_zero]
  unfold zaH
  rw [List.flatMap_cons]; rfl
 | x :: l,i + 1,hi => by
  have h:=zic (l:=l) (i:=i) (by simpa using hi)
  rw [List.getElem_cons_succ,← h]
  have e:(zaH (x :: l)).drop ((i + 1) * 3)=(zaH l).drop (i * 3):=by
   unfold zaH
   rw [List.flatMap_cons,List.drop_append,List.drop_of_length_le (by simp only [List.length_cons,List.length_nil]; omega)]
   have:(i + 1) * 3 - [AV.s x.name,.s x.val,.b x.nul].length=i * 3:=by simp only [List.length_cons,List.length_nil]; omega
   rw [this,List.nil_append]
  rw [e]
section
variable [Tabs Try.prog] {objs:List OB} {K:List OB → AV → Prop}
theorem zc6 (l:List PrP) (hl:l.length ≤ 1099511627780) (hk:K objs (.b true)):zae Try.prog 36 [.row l.length (zaH l),.row l.length (zaH l)] objs K:=by
 have hlen3:=zcl l
 refine zaQ is_ref16_sameProperties (by simp only [zam,AV.plain,za9,Bool.and_self]) fun C _ => ?_
 rw [c_ref16_sameProperties]
 refine zaa fun Y hY => ?_
 simp only [sxZ,z5,z6,z7,z8,j4,j5,j6,j7,j8,j9,x9,y3,y4,y5,y6,reduceCtorEq,↓reduceIte]
 subst hY
 refine zaa fun Y hY => ?_
 refine zaa fun Z hZ => ?_
 simp only [sxZ,z5,z6,z7,z8,j4,j5,j6,j7,j8,j9,x9,y3,y4,y5,y6,reduceCtorEq,↓reduceIte]
 subst hZ
 simp only [sxZ,z5,z6,z7,z8,j4,j5,j6,j7,j8,j9,x9,y3,y4,y5,y6,reduceCtorEq,↓reduceIte]
 subst hY
 refine zaa fun Y hY => ?_
 refine zaa fun Z hZ => ?_
 simp only [sxZ,z5,z6,z7,z8,j4,j5,j6,j7,j8,j9,x9,y3,y4,y5,y6,reduceCtorEq,↓reduceIte]
 subst hZ
 rw [zaw]
 refine zax (fun n o tm => ∃ i:Nat,i ≤ l.length ∧ n=l.length - i ∧ o=[] ∧ tm.length=26 ∧ tm[0]? = some (.row l.length (zaH l)) ∧ tm[1]? = some (.row l.length (zaH l)) ∧ tm[12]? = some (.i .i64 (l.length:Int)) ∧ tm[13]? = some (.i .i64 (i:Int))) l.length ⟨0,Nat.zero_le _,rfl,rfl,rfl,rfl,rfl,rfl,rfl⟩ ?_
 rintro n _ tm ⟨i,hi,rfl,rfl,hlen,t0,t1,t12,t13⟩
 refine zaa fun Z hZ => ?_
 by_cases hlt:(i:Int) < (l.length:Int)
 ·have hi':i < l.length:=by omega
  have kv:=zic hi'
  generalize l[i]=y at kv
  simp only [sxZ,z5,z6,z7,z8,j4,j5,j6,j7,j8,j9,x9,y3,y4,y5,y6,reduceCtorEq,↓reduceIte,List.getElem?_set,hlen,t0,t1,t12,t13,hlt]
  subst hZ
  refine zaa fun Z hZ => ?_
  simp only [sxZ,z5,z6,z7,z8,j4,j5,j6,j7,j8,j9,x9,y3,y4,y5,y6,reduceCtorEq,↓reduceIte,List.getElem?_set,hlen]
  subst hZ
  refine zaa fun W hW => ?_
  rw [zaw]
  refine zaa fun Z hZ => ?_
  simp only [sxZ,z5,z6,z7,z8,j4,j5,j6,j7,j8,j9,x9,y3,y4,y5,y6,reduceCtorEq,↓reduceIte,List.getElem?_set,hlen,t13]
  subst hZ
  simp only [sxZ,z5,z6,z7,z8,j4,j5,j6,j7,j8,j9,x9,y3,y4,y5,y6,reduceCtorEq,↓reduceIte,List.getElem?_set,hlen,t0,t1,kv]
  (and_intros <;> try omega)
  subst hW
  simp only [sxZ,z5,z6,z7,z8,j4,j5,j6,j7,j8,j9,x9,y3,y4,y5,y6,reduceCtorEq,↓reduceIte,List.getElem?_set,hlen,t0,t1,t12,t13]
  exact ⟨by omega,l.length - (i + 1),by omega,i + 1,by omega,rfl,rfl⟩
 simp only [sxZ,z5,z6,z7,z8,j4,j5,j6,j7,j8,j9,x9,y3,y4,y5,y6,reduceCtorEq,↓reduceIte,List.getElem?_set,hlen,t0,t1,t12,t13,hlt]
 subst hZ
 subst hY
 simp only [sxZ,z5,z6,z7,z8,j4,j5,j6,j7,j8,j9,x9,y3,y4,y5,y6,reduceCtorEq,↓reduceIte,List.getElem?_set,hlen]
 exact hk
theorem ze6 (x:LkP) (h1:x.tit.length ≤ 1099511627780) (h2:x.pro.length ≤ 1099511627780) (hk:K objs (.b true)):zae Try.prog 20 [.agg (lkc x),.agg (lkc x)] objs K:=by
 refine zaQ is_ref16_SameLink (by unfold lkc; simp only [zam,AV.plain,za9,Bool.and_self]) fun C _ => ?_
 rw [c_ref16_SameLink]
 unfold lkc
 refine zaa fun Y hY => ?_
 simp only [sxZ,z5,z6,z7,z8,j4,j5,j6,j7,j8,j9,x9,y3,y4,y5,y6,reduceCtorEq,↓reduceIte]
 subst hY
 simp only [sxZ,z5,z6,z7,z8,j4,j5,j6,j7,j8,j9,x9,y3,y4,y5,y6,reduceCtorEq,↓reduceIte]
 refine zaj (zc6 x.tit h1 ?_)
 simp only [sxZ,z5,z6,z7,z8,j4,j5,j6,j7,j8,j9,x9,y3,y4,y5,y6,reduceCtorEq,↓reduceIte]
 refine zaj (zc6 x.pro h2 ?_)
 simp only [sxZ,z5,z6,z7,z8,j4,j5,j6,j7,j8,j9,x9,y3,y4,y5,y6,reduceCtorEq,↓reduceIte]
 exact hk
theorem same16_k (subj:List UInt8) (al:List (List UInt8)) (pr:List PrP) (lk:List LkP) (h1:al.length ≤ 1099511627780) (h2:pr.length ≤ 1099511627780) (h3:lk.length ≤ 1099511627780) (h4:∀ x ∈ lk,x.tit.length ≤ 1099511627780 ∧ x.pro.length ≤ 1099511627780) (hk:K objs (.b true)):zae Try.prog 13 [zcm subj al pr lk,zcm subj al pr lk] objs K:=by
 have hlen6:=zbs lk
 refine zaQ is_ref16_Same (by unfold zcm; simp only [zam,AV.plain,zaX,za9,zcB,Bool.and_self]) fun C _ => ?_
 rw [c_ref16_Same]
 unfold zcm
 refine zaa fun Y hY => ?_
 simp only [sxZ,z5,z6,z7,z8,j4,j5,j6,j7,j8,j9,x9,y3,y4,y5,y6,reduceCtorEq,↓reduceIte]
 subst hY
 refine zaa fun Y hY => ?_
 refine zaa fun Z hZ => ?_
 simp only [sxZ,z5,z6,z7,z8,j4,j5,j6,j7,j8,j9,x9,y3,y4,y5,y6,reduceCtorEq,↓reduceIte]
 refine zaj (zc6 pr h2 ?_)
 simp only [sxZ,z5,z6,z7,z8,j4,j5,j6,j7,j8,j9,x9,y3,y4,y5,y6,reduceCtorEq,↓reduceIte]
 subst hZ
 simp only [sxZ,z5,z6,z7,z8,j4,j5,j6,j7,j8,j9,x9,y3,y4,y5,y6,reduceCtorEq,↓reduceIte]
 subst hY
 refine zaa fun Y hY => ?_
 refine zaa fun Z hZ => ?_
 simp only [sxZ,z5,z6,z7,z8,j4,j5,j6,j7,j8,j9,x9,y3,y4,y5,y6,reduceCtorEq,↓reduceIte]
 subst hZ
 rw [zaw]
 refine zax (fun n o tm => ∃ i:Nat,i ≤ al.length ∧ n=al.length - i ∧ o[0]? = some (.box 34 [.s subj,.row al.length (al.map .s),.row pr.length (zaH pr),.row lk.length (zbv lk)]) ∧ o[1]? = some (.box 34 [.s subj,.row al.length (al.map .s),.row pr.length (zaH pr),.row lk.length (zbv lk)]) ∧ tm.length=75 ∧ tm[2]? = some (.p 0 0) ∧ tm[3]? = some (.p 1 0) ∧ tm[40]? = some (.i .i64 (al.length:Int)) ∧ tm[41]? = some (.i .i64 (i:Int))) al.length ⟨0,Nat.zero_le _,rfl,rfl,rfl,rfl,rfl,rfl,rfl,rfl⟩ ?_
 rintro n o tm ⟨i,hi,rfl,e0,e1,hlen,t2,t3,t40,t41⟩
 refine zaa fun Z hZ => ?_
 by_cases hlt:(i:Int) < (al.length:Int)
 ·have hi':i < al.length:=by omega
  have kv:(al.map AV.s)[i * 1]? = some (.s al[i]):=by rw [Nat.mul_one,List.getElem?_map,List.getElem?_eq_getElem hi']; rfl
  generalize al[i]=y at kv
  simp only [sxZ,z5,z6,z7,z8,j4,j5,j6,j7,j8,j9,x9,y3,y4,y5,y6,reduceCtorEq,↓reduceIte,List.getElem?_set,hlen,t40,t41,hlt]
  subst hZ
  refine zaa fun Z hZ => ?_
  simp only [sxZ,z5,z6,z7,z8,j4,j5,j6,j7,j8,j9,x9,y3,y4,y5,y6,reduceCtorEq,↓reduceIte,List.getElem?_set,hlen]
  subst hZ
  refine zaa fun W hW => ?_
  rw [zaw]
  refine zaa fun Z hZ => ?_
  simp only [sxZ,z5,z6,z7,z8,j4,j5,j6,j7,j8,j9,x9,y3,y4,y5,y6,reduceCtorEq,↓reduceIte,List.getElem?_set,hlen,t41]
  subst hZ
  simp only [sxZ,z5,z6,z7,z8,j4,j5,j6,j7,j8,j9,x9,y3,y4,y5,y6,reduceCtorEq,↓reduceIte,List.getElem?_set,hlen,t2,t3,e0,e1,kv,List.length_map]
  (and_intros <;> try omega)
  subst hW
  simp only [sxZ,z5,z6,z7,z8,j4,j5,j6,j7,j8,j9,x9,y3,y4,y5,y6,reduceCtorEq,↓reduceIte,List.getElem?_set,hlen,t2,t3,t40,t41]
  exact ⟨by omega,al.length - (i + 1),by omega,i + 1,by omega,rfl,e0,e1,rfl⟩
 simp only [sxZ,z5,z6,z7,z8,j4,j5,j6,j7,j8,j9,x9,y3,y4,y5,y6,reduceCtorEq,↓reduceIte,List.getElem?_set,hlen,t40,t41,hlt]
 subst hZ
 simp only [sxZ,z5,z6,z7,z8,j4,j5,j6,j7,j8,j9,x9,y3,y4,y5,y6,reduceCtorEq,↓reduceIte,List.getElem?_set,hlen]
 subst hY
 refine zaa fun Y hY => ?_
 refine zaa fun Z hZ => ?_
 simp only [sxZ,z5,z6,z7,z8,j4,j5,j6,j7,j8,j9,x9,y3,y4,y5,y6,reduceCtorEq,↓reduceIte,List.getElem?_set,hlen,t2,e0]
 subst hZ
 rw [zaw]
 refine zax (fun n o tm => ∃ i:Nat,i ≤ lk.length ∧ n=lk.length - i ∧ o[0]? = some (.box 34 [.s subj,.row al.length (al.map .s),.row pr.length (zaH pr),.row lk.length (zbv lk)]) ∧ o[1]? = some (.box 34 [.s subj,.row al.length (al.map .s),.row pr.length (zaH pr),.row lk.length (zbv lk)]) ∧ tm.length=75 ∧ tm[2]? = some (.p 0 0) ∧ tm[3]? = some (.p 1 0) ∧ tm[58]? = some (.i .i64 (lk.length:Int)) ∧ tm[59]? = some (.i .i64 (i:Int))) lk.length ⟨0,Nat.zero_le _,rfl,e0,e1,?_⟩ ?_
 ·simp only [sxZ,z5,z6,z7,z8,j4,j5,j6,j7,j8,j9,x9,y3,y4,y5,y6,reduceCtorEq,↓reduceIte,List.length_set,List.getElem?_set,hlen,t2,t3,Int.cast_ofNat_Int,and_self]
 clear hlen t2 t3 t40 t41 e0 e1 hlt hi
 rintro n o tm ⟨i,hi,rfl,e0,e1,hlen,t2,t3,t58,t59⟩
 refine zaa fun Z hZ => ?_
 by_cases hlt:(i:Int) < (lk.length:Int)
 ·have hi':i < lk.length:=by omega
  have kv:=zgF hi'
  have hm:=h4 lk[i] (List.getElem_mem hi')
  generalize lk[i]=y at kv hm
  simp only [sxZ,z5,z6,z7,z8,j4,j5,j6,j7,j8,j9,x9,y3,y4,y5,y6,reduceCtorEq,↓reduceIte,List.getElem?_set,hlen,t58,t59,hlt]
  subst hZ
  refine zaa fun Z hZ => ?_
  simp only [sxZ,z5,z6,z7,z8,j4,j5,j6,j7,j8,j9,x9,y3,y4,y5,y6,reduceCtorEq,↓reduceIte,List.getElem?_set,hlen]
  subst hZ
  refine zaa fun W hW => ?_
  rw [zaw]
  refine zaa fun Z hZ => ?_
  simp only [sxZ,z5,z6,z7,z8,j4,j5,j6,j7,j8,j9,x9,y3,y4,y5,y6,reduceCtorEq,↓reduceIte,List.getElem?_set,hlen,t59]
  subst hZ
  refine zaa fun Z hZ => ?_
  simp only [sxZ,z5,z6,z7,z8,j4,j5,j6,j7,j8,j9,x9,y3,y4,y5,y6,reduceCtorEq,↓reduceIte,List.getElem?_set,hlen,t2,t3,e0,e1,kv]
  (and_intros <;> try omega)
  refine za1 (ze6 y hm.1 hm.2 ⟨rfl,rfl⟩) ?_
  simp only [sxZ,z5,z6,z7,z8,j4,j5,j6,j7,j8,j9,x9,y3,y4,y5,y6,reduceCtorEq,↓reduceIte,List.getElem?_set,hlen]
  subst hZ
  simp only [sxZ,z5,z6,z7,z8,j4,j5,j6,j7,j8,j9,x9,y3,y4,y5,y6,reduceCtorEq,↓reduceIte,List.getElem?_set,hlen]
  subst hW
  simp only [sxZ,z5,z6,z7,z8,j4,j5,j6,j7,j8,j9,x9,y3,y4,y5,y6,reduceCtorEq,↓reduceIte,List.getElem?_set,hlen,t2,t3,t58,t59]
  exact ⟨by omega,lk.length - (i + 1),by omega,i + 1,by omega,rfl,e0,e1,rfl⟩
 simp only [sxZ,z5,z6,z7,z8,j4,j5,j6,j7,j8,j9,x9,y3,y4,y5,y6,reduceCtorEq,↓reduceIte,List.getElem?_set,hlen,t58,t59,hlt]
 subst hZ
 subst hY
 simp only [sxZ,z5,z6,z7,z8,j4,j5,j6,j7,j8,j9,x9,y3,y4,y5,y6,reduceCtorEq,↓reduceIte,List.getElem?_set,hlen]
 exact hk
end
end
section
attribute [local irreducible] run
def enP (p:PrP):JV:=if p.nul=true then .mk 1 [] [] [] else jtx p.val
def zcR (l:List PrP):JV:=job (l.map (·.name)) (l.map enP)
section
variable [Tabs Try.prog] {objs:List OB} {K:List OB → AV → Prop}
theorem zfp {f:FuncId} {p:AV} {key:List UInt8} (h:zae Try.prog f [p,.s key,.agg (zad (.mk 1 [] [] []))] objs K):zae Try.prog f [p,.s key,.agg [.i .i64 1,.s [],.nil,.nil]] objs K:=by
 intro C _ G I w hin hm ys hd
 refine h C G I w hin hm ys ?_
 rw [zah] at hd ⊢
 obtain ⟨y0,l0,rfl,q0,hd⟩:=hd
 refine ⟨y0,l0,rfl,q0,?_⟩
 rw [zah] at hd ⊢
 obtain ⟨y1,l1,rfl,q1,hd⟩:=hd
 refine ⟨y1,l1,rfl,q1,?_⟩
 rw [zah] at hd ⊢
 obtain ⟨y2,l2,rfl,q2,hd⟩:=hd
 exact ⟨y2,l2,rfl,zdU q2,hd⟩
theorem zdT (l:List PrP) (hl:l.length ≤ 1000000) (hk:K objs (.agg (zad (zcR l)))):zae Try.prog 41 [.row l.length (zaH l)] objs K:=by
 have hl3:=zcl l
 refine zaQ is_jrd_encodeProperties (by simp only [zam,AV.plain,za9,Bool.and_self]) fun C _ => ?_
 rw [c_jrd_encodeProperties]
 refine zaa fun Z hZ => ?_
 simp only [sxZ,z5,z6,z7,z8,j4,j5,j6,j7,j8,j9,x9,y3,y4,y5,y6,reduceCtorEq,↓reduceIte]
 subst hZ
 refine zaa fun Z hZ => ?_
 simp only [sxZ,z5,z6,z7,z8,j4,j5,j6,j7,j8,j9,x9,y3,y4,y5,y6,reduceCtorEq,↓reduceIte]
 subst hZ
 refine zaa fun Z hZ => ?_
 refine zaa fun W hW => ?_
 simp only [sxZ,z5,z6,z7,z8,j4,j5,j6,j7,j8,j9,x9,y3,y4,y5,y6,reduceCtorEq,↓reduceIte]
 subst hW
 rw [zaw]
 refine zax (fun n o tm => ∃ i:Nat,i ≤ l.length ∧ n=l.length - i ∧ o[0]? = some (.box 25 [.i .i64 0,.s [],.nil,.nil]) ∧ 2 ≤ o.length ∧ ObR 2 1 ((l.take i).map (·.name)) ((l.take i).map enP) o ∧ tm.length=26 ∧ tm[2]? = some (.p 0 0) ∧ tm[3]? = some (.p 1 0) ∧ tm[6]? = some (.row l.length (zaH l)) ∧ tm[7]? = some (.i .i64 (l.length:Int)) ∧ tm[8]? = some (.i .i64 (i:Int))) l.length ⟨0,Nat.zero_le _,rfl,rfl,by simp,⟨.nil,.nil,rfl,.inl ⟨rfl,rfl⟩,.inl ⟨rfl,rfl⟩⟩,rfl,rfl,rfl,rfl,rfl,rfl⟩ ?_
 rintro n o tm ⟨i,hi,rfl,e0,ho2,hO,hlen,t2,t3,t6,t7,t8⟩
 refine zaa fun W hW => ?_
 by_cases hlt:(i:Int) < (l.length:Int)
 ·have hi':i < l.length:=by omega
  have kv:=zic hi'
  have htk:(l.take (i + 1)).map (·.name)=(l.take i).map (·.name) ++ [l[i].name]:=by rw [List.take_add_one,List.getElem?_eq_getElem hi',List.map_append]; rfl
  have htv:(l.take (i + 1)).map enP=(l.take i).map enP ++ [enP l[i]]:=by rw [List.take_add_one,List.getElem?_eq_getElem hi',List.map_append]; rfl
  have hf1:((l.take i).map (·.name)).length=i:=by rw [List.length_map,List.length_take]; omega
  have hf2:((l.take i).map enP).length=i:=by rw [List.length_map,List.length_take]; omega
  generalize l[i]=y at kv htk htv
  simp only [sxZ,z5,z6,z7,z8,j4,j5,j6,j7,j8,j9,x9,y3,y4,y5,y6,reduceCtorEq,↓reduceIte,List.getElem?_set,hlen,t6,t7,t8,hlt]
  subst hW
  refine zaa fun W hW => ?_
  simp only [sxZ,z5,z6,z7,z8,j4,j5,j6,j7,j8,j9,x9,y3,y4,y5,y6,reduceCtorEq,↓reduceIte,List.getElem?_set,hlen]
  subst hW
  refine zaa fun V hV => ?_
  rw [zaw]
  refine zaa fun W hW => ?_
  simp only [sxZ,z5,z6,z7,z8,j4,j5,j6,j7,j8,j9,x9,y3,y4,y5,y6,reduceCtorEq,↓reduceIte,List.getElem?_set,hlen,t6,t8,kv]
  refine ⟨⟨by omega,by omega,by omega⟩,by omega,?_⟩
  simp only [sxZ,z5,z6,z7,z8,j4,j5,j6,j7,j8,j9,x9,y3,y4,y5,y6,reduceCtorEq,↓reduceIte,List.getElem?_set,hlen,gn1,sn1]
  subst hW
  have hO1:=hO.app (.box 83 [.s y.name,.s y.val,.b y.nul])
  have fy:(o ++ [OB.box 83 [.s y.name,.s y.val,.b y.nul]])[o.length]? = some (.box 83 [.s y.name,.s y.val,.b y.nul]):=gn1 _ _
  have f0:(o ++ [OB.box 83 [.s y.name,.s y.val,.b y.nul]])[0]? = some (.box 25 [.i .i64 0,.s [],.nil,.nil]):=by rw [List.getElem?_append_left (by omega)]; exact e0
  have hln:(o ++ [OB.box 83 [.s y.name,.s y.val,.b y.nul]]).length=o.length + 1:=by simp
  generalize o ++ [OB.box 83 [.s y.name,.s y.val,.b y.nul]]=o1 at hO1 fy f0 hln ⊢
  refine zaa fun W hW => ?_
  simp only [sxZ,z5,z6,z7,z8,j4,j5,j6,j7,j8,j9,x9,y3,y4,y5,y6,reduceCtorEq,↓reduceIte,List.getElem?_set,hlen,fy]
  subst hW
  cases c:y.nul with
  | true =>
   have he:enP y=.mk 1 [] [] []:=by unfold enP; rw [if_pos c]
   rw [c] at fy
   simp only [sxZ,z5,z6,z7,z8,j4,j5,j6,j7,j8,j9,x9,y3,y4,y5,y6,reduceCtorEq,↓reduceIte,List.getElem?_set,hlen,fy,t3]
   refine zaj (zfp (zeG 2 1 _ _ y.name (.mk 1 [] [] []) hO1 (by omega) (by omega) (by omega) (by omega) fun o3 q1 q2 q3 => ?_))
   simp only [sxZ,z5,z6,z7,z8,j4,j5,j6,j7,j8,j9,x9,y3,y4,y5,y6,reduceCtorEq,↓reduceIte,List.getElem?_set,hlen]
   subst hV
   simp only [sxZ,z5,z6,z7,z8,j4,j5,j6,j7,j8,j9,x9,y3,y4,y5,y6,reduceCtorEq,↓reduceIte,List.getElem?_set,hlen,t2,t3,t6,t7,t8]
   refine ⟨by omega,l.length - (i + 1),by omega,i + 1,by omega,rfl,by rw [q3 0 (by omega) (by omega)]; exact f0,by omega,?_,rfl⟩
   rw [htk,htv,he]; exact q1
  | false =>
   have he:enP y=jtx y.val:=by unfold enP; rw [if_neg (by rw [c]; decide)]
   rw [c] at fy
   simp only [sxZ,z5,z6,z7,z8,j4,j5,j6,j7,j8,j9,x9,y3,y4,y5,y6,reduceCtorEq,↓reduceIte,List.getElem?_set,hlen,fy,t3]
   refine za1 (zcn y.val ⟨rfl,rfl⟩) ?_
   simp only [sxZ,z5,z6,z7,z8,j4,j5,j6,j7,j8,j9,x9,y3,y4,y5,y6,reduceCtorEq,↓reduceIte,List.getElem?_set,hlen,t3]
   refine zaj (zeG 2 1 _ _ y.name (jtx y.val) hO1 (by omega) (by omega) (by omega) (by omega) fun o3 q1 q2 q3 => ?_)
   simp only [sxZ,z5,z6,z7,z8,j4,j5,j6,j7,j8,j9,x9,y3,y4,y5,y6,reduceCtorEq,↓reduceIte,List.getElem?_set,hlen]
   subst hV
   simp only [sxZ,z5,z6,z7,z8,j4,j5,j6,j7,j8,j9,x9,y3,y4,y5,y6,reduceCtorEq,↓reduceIte,List.getElem?_set,hlen,t2,t3,t6,t7,t8]
   refine ⟨by omega,l.length - (i + 1),by omega,i + 1,by omega,rfl,by rw [q3 0 (by omega) (by omega)]; exact f0,by omega,?_,rfl⟩
   rw [htk,htv,he]; exact q1
 have hn:i=l.length:=by omega
 rw [hn,List.take_of_length_le (Nat.le_refl _)] at hO
 simp only [sxZ,z5,z6,z7,z8,j4,j5,j6,j7,j8,j9,x9,y3,y4,y5,y6,reduceCtorEq,↓reduceIte,List.getElem?_set,hlen,t6,t7,t8,hlt]
 subst hW
 simp only [sxZ,z5,z6,z7,z8,j4,j5,j6,j7,j8,j9,x9,y3,y4,y5,y6,reduceCtorEq,↓reduceIte,List.getElem?_set,hlen]
 subst hZ
 simp only [sxZ,z5,z6,z7,z8,j4,j5,j6,j7,j8,j9,x9,y3,y4,y5,y6,reduceCtorEq,↓reduceIte,List.getElem?_set,hlen,t3]
 refine zaj (zds 2 1 _ _ hO ho2 (by omega) fun o3 q1 q2 => ?_)
 have e3:=q2 0 _ (by omega) (by omega) e0 rfl
 have hl0:=(List.getElem?_eq_some_iff.1 e3).1
 have hc:zad (job (l.map (·.name)) (l.map enP))=[.i .i64 7,.s [],.row (l.map (·.name)).length ((l.map (·.name)).map .s),.row (l.map enP).length (zab (l.map enP))]:=by rw [zag]; rfl
 unfold zcR at hk
 rw [hc] at hk ⊢
 have hj1:=zaB (l.map enP)
 have hj2:=zaX (l.map (·.name))
 generalize zab (l.map enP)=cs at hj1 hk ⊢
 generalize (l.map (·.name)).map AV.s=ks at hj2 hk ⊢
 simp only [sxZ,z5,z6,z7,z8,j4,j5,j6,j7,j8,j9,x9,y3,y4,y5,y6,reduceCtorEq,↓reduceIte,List.getElem?_set,hlen,t2,e3,hl0,hj1,hj2]
 exact hk
end
end
section
attribute [local irreducible] run
theorem jc_snoc (k:Int) (t:List UInt8) (ks:List (List UInt8)) (its:List JV) (key:List UInt8) (v:JV):zad (.mk k t (ks ++ [key]) (its ++ [v]))=[.i .i64 k,.s t,.row (ks.length + 1) (ks.map .s ++ [.s key]),.row (its.length + 1) (zab its ++ zad v)]:=by
 rw [zag]
 show [AV.i .i64 k,.s t,AV.row (ks ++ [key]).length ((ks ++ [key]).map .s),AV.row (its ++ [v]).length (zab (its ++ [v]))]=_
 rw [List.map_append,List.length_append,List.length_append,zaO,zap,zal,List.append_nil]; rfl
theorem zhu (k:Int) (t:List UInt8) (ks:List (List UInt8)) (its:List JV):zad (.mk k t ks its)=[.i .i64 k,.s t,.row ks.length (ks.map .s),.row its.length (zab its)]:=zag _
mutual
theorem pub_pl {o:List OB}:∀ {d:Nat} {x:AV},x.plain=true → pub o d x=some x
 | d,.agg cs,h => by
  simp only [pub]
  rw [zfK (show zam cs=true from h)]; rfl
 | d,.tup cs,h => by
  simp only [pub]
  rw [zfK (show zam cs=true from h)]; rfl
 | d,.s l,h => by cases d <;> (simp only [pub]; rfl)
 | d,.i k n,h => by cases d <;> (simp only [pub]; rfl)
 | d,.b x,h => by cases d <;> (simp only [pub]; rfl)
 | d,.nil,h => by cases d <;> (simp only [pub]; rfl)
 | d,.zn x,h => by cases d <;> (simp only [pub]; rfl)
 | d,.o v,h => by cases d <;> (simp only [pub]; rfl)
 | d,.u,h => by cases d <;> (simp only [pub]; rfl)
 | d,.row n xs,h => by cases d <;> (simp only [pub]; rw [if_pos h])
 | d,.crow n xs,h => by cases d <;> (simp only [pub]; rw [if_pos h])
 | d,.prow xs j,h => by cases d <;> (simp only [pub]; rw [if_pos h])
 | d,.fn f fs cs,h => by cases d <;> (simp only [pub]; rw [if_pos h])
 | d,.p b off,h => by simp [AV.plain] at h
 | d,.orow b g,h => by simp [AV.plain] at h
 | d,.porow b g j,h => by simp [AV.plain] at h
 | d,.bsl b off n,h => by simp [AV.plain] at h
 | d,.m b,h => by simp [AV.plain] at h
theorem zfK {o:List OB}:∀ {d:Nat} {xs:List AV},zam xs=true → zda o d xs=some xs
 | d,[],h => by simp only [zda]
 | d,x :: xs,h => by
  simp only [zam,Bool.and_eq_true] at h
  simp only [zda]
  rw [pub_pl h.1,zfK h.2]
end
section
variable [Tabs Try.prog] {objs:List OB} {K:List OB → AV → Prop}
theorem zmz {f:FuncId} {k:Int} {t:List UInt8} {a b:AV} (h:zae Try.prog f [.agg (zad (.mk k t [] [])),a,b] objs K):zae Try.prog f [.agg [.i .i64 k,.s t,.nil,.nil],a,b] objs K:=by
 intro C _ G I w hin hm ys hd
 refine h C G I w hin hm ys ?_
 rw [zah] at hd ⊢
 obtain ⟨y0,l0,rfl,q0,hd⟩:=hd
 exact ⟨y0,l0,rfl,zdU q0,hd⟩
theorem rTx_k (s:List UInt8) (hk:K objs (.agg (zad (jtx s)))):zae Try.prog 21 [.s s] objs K:=by
 refine zdb (.agg (zad (jtx s))) ?_
 refine zaQ is_ref16_Text rfl fun C _ => ?_
 rw [c_ref16_Text]
 simp only [sxZ,z5,z6,z7,z8,j4,j5,j6,j7,j8,j9,x9,y3,y4,y5,y6,reduceCtorEq,↓reduceIte]
 exact ⟨fun G I y hy => zdU hy,hk⟩
theorem with_k (k:Int) (t:List UInt8) (ks:List (List UInt8)) (its:List JV) (key:List UInt8) (v:JV) (h1:ks.length ≤ 1000000) (h2:its.length ≤ 1000000) (hk:K objs (.agg (zad (.mk k t (ks ++ [key]) (its ++ [v]))))):zae Try.prog 46 [.agg (zad (.mk k t ks its)),.s key,.agg (zad v)] objs K:=by
 have hl:=zat its
 have hp:=zaB its
 have hv:=zbt v
 have hks:=zaX ks
 have hkl:(ks.map AV.s).length=ks.length:=List.length_map _
 rw [jc_snoc] at hk
 rw [zhu]
 obtain ⟨v0,v1,v2,v3,hv4⟩:∃ v0 v1 v2 v3,zad v=[v0,v1,v2,v3]:=⟨_,_,_,_,zag v⟩
 rw [hv4] at hk hv ⊢
 have hva:zam (zab its ++ [v0,v1,v2,v3])=true:=by rw [zdc,hp,hv]; rfl
 have hka:zam (ks.map AV.s ++ [.s key])=true:=by rw [zdc,hks]; rfl
 generalize ks.map AV.s=kc at *
 generalize zab its=ic at *
 refine zaQ is_ref16_with (by simp only [zam,AV.plain,hks,hp,Bool.and_self,Bool.and_true,Bool.true_and]; simpa only [zam,Bool.and_true] using hv) fun C _ => ?_
 rw [c_ref16_with]
 refine zaa fun Z hZ => ?_
 simp only [sxZ,z5,z6,z7,z8,j4,j5,j6,j7,j8,j9,x9,y3,y4,y5,y6,reduceCtorEq,↓reduceIte]
 subst hZ
 refine zaa fun Z hZ => ?_
 simp only [sxZ,z5,z6,z7,z8,j4,j5,j6,j7,j8,j9,x9,y3,y4,y5,y6,reduceCtorEq,↓reduceIte]
 refine ⟨⟨by omega,by omega,by omega⟩,⟨by omega,by omega,by omega⟩,?_⟩
 subst hZ
 simp only [sxZ,z5,z6,z7,z8,j4,j5,j6,j7,j8,j9,x9,y3,y4,y5,y6,reduceCtorEq,↓reduceIte,hva,hka]
 exact hk
def ObX (k:Int) (t:List UInt8) (ks:List (List UInt8)) (its:List JV) (X:List AV):Prop:=X=zad (.mk k t ks its) ∨ (ks=[] ∧ its=[] ∧ X=[.i .i64 k,.s t,.nil,.nil])
omit [Tabs Try.prog] in
theorem zkJ {o:List OB} {d n:Nat} {xs:List AV} (h:zam xs=true):pub o d (.row n xs)=some (.row n xs):=by
 have h2:(AV.row n xs).plain=true:=h
 cases d <;> (simp only [pub]; rw [if_pos h2])
omit [Tabs Try.prog] in
theorem zkK {o:List OB} {d:Nat}:pub o d .nil=some .nil:=by cases d <;> (simp only [pub]; rfl)
omit [Tabs Try.prog] in
theorem ObX.sh {k:Int} {t:List UInt8} {ks:List (List UInt8)} {its:List JV} {X:List AV} (h:ObX k t ks its X):∃ A B,X=[.i .i64 k,.s t,A,B] ∧ A.plain=true ∧ B.plain=true ∧ (∀ o d,pub o d A=some A) ∧ ∀ o d,pub o d B=some B:=by
 rcases h with rfl | ⟨_,_,rfl⟩
 ·rw [zhu]
  exact ⟨_,_,rfl,zaD ks,zaB its,fun o d => zkJ (zaD ks),fun o d => zkJ (zaB its)⟩
 ·exact ⟨_,_,rfl,rfl,rfl,fun o d => zkK,fun o d => zkK⟩
def smX (X:List AV) (k:Int) (t:List UInt8) (ks:List (List UInt8)) (its:List JV) (key:List UInt8) (v:JV):List AV:=if zcv v=true then zad (.mk k t (ks ++ [key]) (its ++ [v])) else X
omit [Tabs Try.prog] in
theorem ze2 {X:List AV} {k:Int} {t:List UInt8} {ks:List (List UInt8)} {its:List JV} (key:List UInt8) (v:JV) (h:ObX k t ks its X):ObX k t (zbe ks key v) (zbC its v) (smX X k t ks its key v):=by
 unfold smX zbe zbC
 by_cases c:zcv v=true
 ·rw [if_pos c,if_pos c,if_pos c]; exact .inl rfl
 ·rw [if_neg c,if_neg c,if_neg c]; exact h
omit [Tabs Try.prog] in
theorem zj4 (k:Int) (t:List UInt8) (ks:List (List UInt8)) (its:List JV) (key:List UInt8) (v:JV):smX (zad (.mk k t ks its)) k t ks its key v=zad (.mk k t (zbe ks key v) (zbC its v)):=by
 unfold smX zbe zbC
 by_cases c:zcv v=true
 ·rw [if_pos c,if_pos c,if_pos c]
 ·rw [if_neg c,if_neg c,if_neg c]
theorem zek {k:Int} {t:List UInt8} {ks:List (List UInt8)} {its:List JV} {X:List AV} (hX:ObX k t ks its X) (key:List UInt8) (v:JV) (h1:ks.length ≤ 1000000) (h2:its.length ≤ 1000000) (hk:K objs (.agg (zad (.mk k t (ks ++ [key]) (its ++ [v]))))):zae Try.prog 46 [.agg X,.s key,.agg (zad v)] objs K:=by
 rcases hX with rfl | ⟨rfl,rfl,rfl⟩
 ·exact with_k k t ks its key v h1 h2 hk
 ·exact zmz (with_k k t [] [] key v h1 h2 hk)
theorem zmA {f:FuncId} {p:AV} {key t:List UInt8} {k:Int} {n:Nat} {cs:List AV} {its:List JV} (hn:n=its.length) (hc:cs=zab its) (h:zae Try.prog f [p,.s key,.agg (zad (.mk k t [] its))] objs K):zae Try.prog f [p,.s key,.agg [.i .i64 k,.s t,.nil,.row n cs]] objs K:=by
 intro C _ G I w hin hm ys hd
 refine h C G I w hin hm ys ?_
 rw [zah] at hd ⊢
 obtain ⟨y0,l0,rfl,q0,hd⟩:=hd
 refine ⟨y0,l0,rfl,q0,?_⟩
 rw [zah] at hd ⊢
 obtain ⟨y1,l1,rfl,q1,hd⟩:=hd
 refine ⟨y1,l1,rfl,q1,?_⟩
 rw [zah] at hd ⊢
 obtain ⟨y2,l2,rfl,q2,hd⟩:=hd
 exact ⟨y2,l2,rfl,zhB hn hc q2,hd⟩
theorem zhR {k:Int} {t:List UInt8} {ks:List (List UInt8)} {its:List JV} {X:List AV} (hX:ObX k t ks its X) (key s:List UInt8) (h1:ks.length ≤ 1000000) (h2:its.length ≤ 1000000) (hk:K objs (.agg (smX X k t ks its key (jtx s)))):zae Try.prog 45 [.agg X,.s key,.s s] objs K:=by
 obtain ⟨A,B,rfl,pA,pB,qA,qB⟩:=hX.sh
 refine zaQ is_ref16_some (by simp only [zam,AV.plain,pA,pB,Bool.and_self]) fun C _ => ?_
 rw [c_ref16_some]
 refine zaa fun Z hZ => ?_
 simp only [sxZ,z5,z6,z7,z8,j4,j5,j6,j7,j8,j9,x9,y3,y4,y5,y6,reduceCtorEq,↓reduceIte]
 subst hZ
 refine zaa fun Z hZ => ?_
 by_cases hs:s=[]
 ·simp only [sxZ,z5,z6,z7,z8,j4,j5,j6,j7,j8,j9,x9,y3,y4,y5,y6,reduceCtorEq,↓reduceIte,hs,qA,qB]
  subst hs
  unfold smX at hk
  rw [if_neg (by decide)] at hk
  exact hk
 ·simp only [sxZ,z5,z6,z7,z8,j4,j5,j6,j7,j8,j9,x9,y3,y4,y5,y6,reduceCtorEq,↓reduceIte,hs]
  subst hZ
  refine zaa fun Z hZ => ?_
  simp only [sxZ,z5,z6,z7,z8,j4,j5,j6,j7,j8,j9,x9,y3,y4,y5,y6,reduceCtorEq,↓reduceIte]
  refine za1 (rTx_k s ⟨rfl,rfl⟩) ?_
  simp only [sxZ,z5,z6,z7,z8,j4,j5,j6,j7,j8,j9,x9,y3,y4,y5,y6,reduceCtorEq,↓reduceIte]
  have hf:zcv (jtx s)=true:=by unfold zcv; show (!decide (s=[]) || _)=true; rw [decide_eq_false hs]; rfl
  unfold smX at hk
  rw [if_pos hf] at hk
  refine za1 (zek hX key (jtx s) h1 h2 ⟨rfl,rfl⟩) ?_
  rw [zhu] at hk ⊢
  simp only [sxZ,z5,z6,z7,z8,j4,j5,j6,j7,j8,j9,x9,y3,y4,y5,y6,reduceCtorEq,↓reduceIte]
  subst hZ
  simp only [sxZ,z5,z6,z7,z8,j4,j5,j6,j7,j8,j9,x9,y3,y4,y5,y6,reduceCtorEq,↓reduceIte,zaD,zaB]
  rw [List.length_append,List.length_append] at hk
  exact hk
theorem rAr_k (l:List (List UInt8)) (hl:l.length ≤ 1000000) (hk:K objs (.agg (zad (jar (l.map jtx))))):zae Try.prog 47 [.row l.length (l.map .s)] objs K:=by
 refine zdb (.agg (zad (jar (l.map jtx)))) ?_
 refine zaQ is_ref16_Array (by simp only [zam,AV.plain,zaX,Bool.and_self]) fun C _ => ?_
 rw [c_ref16_Array]
 refine zaa fun Z hZ => ?_
 simp only [sxZ,z5,z6,z7,z8,j4,j5,j6,j7,j8,j9,x9,y3,y4,y5,y6,reduceCtorEq,↓reduceIte]
 subst hZ
 refine zaa fun Z hZ => ?_
 simp only [sxZ,z5,z6,z7,z8,j4,j5,j6,j7,j8,j9,x9,y3,y4,y5,y6,reduceCtorEq,↓reduceIte]
 subst hZ
 refine zaa fun Z hZ => ?_
 refine zaa fun W hW => ?_
 simp only [sxZ,z5,z6,z7,z8,j4,j5,j6,j7,j8,j9,x9,y3,y4,y5,y6,reduceCtorEq,↓reduceIte]
 subst hW
 rw [zaw]
 refine zax (fun n o tm => ∃ i:Nat,i ≤ l.length ∧ n=l.length - i ∧ (∃ z,o[0]? = some (.box 25 z) ∧ z.length=4) ∧ (∃ X,o[1]? = some (.box 25 [.i .i64 6,.s [],.nil,X]) ∧ zjn 2 ((l.take i).map jtx) o X) ∧ tm.length=22 ∧ tm[2]? = some (.p 0 0) ∧ tm[3]? = some (.p 1 0) ∧ tm[7]? = some (.row l.length (l.map .s)) ∧ tm[8]? = some (.i .i64 (l.length:Int)) ∧ tm[9]? = some (.i .i64 (i:Int))) l.length ⟨0,Nat.zero_le _,rfl,⟨_,rfl,rfl⟩,⟨.nil,rfl,.inl ⟨rfl,rfl⟩⟩,rfl,rfl,rfl,rfl,rfl,rfl⟩ ?_
 rintro n o tm ⟨i,hi,rfl,⟨z,e0,hz⟩,⟨X,e1,hA⟩,hlen,t2,t3,t7,t8,t9⟩
 have hol:=(List.getElem?_eq_some_iff.1 e1).1
 refine zaa fun W hW => ?_
 by_cases hlt:(i:Int) < (l.length:Int)
 ·have hi':i < l.length:=by omega
  have kv:(l.map AV.s)[i * 1]? = some (.s l[i]):=by rw [Nat.mul_one,List.getElem?_map,List.getElem?_eq_getElem hi']; rfl
  have htk:(l.take (i + 1)).map jtx=(l.take i).map jtx ++ [jtx l[i]]:=by rw [List.take_add_one,List.getElem?_eq_getElem hi',List.map_append]; rfl
  have hfl:((l.take i).map jtx).length=i:=by rw [List.length_map,List.length_take]; omega
  generalize l[i]=y at kv htk
  generalize (l.take i).map jtx=acc at hA htk hfl
  have hl4:=zat acc
  simp only [sxZ,z5,z6,z7,z8,j4,j5,j6,j7,j8,j9,x9,y3,y4,y5,y6,reduceCtorEq,↓reduceIte,List.getElem?_set,hlen,t7,t8,t9,hlt]
  subst hW
  refine zaa fun W hW => ?_
  simp only [sxZ,z5,z6,z7,z8,j4,j5,j6,j7,j8,j9,x9,y3,y4,y5,y6,reduceCtorEq,↓reduceIte,List.getElem?_set,hlen]
  subst hW
  refine zaa fun V hV => ?_
  rw [zaw]
  refine zaa fun W hW => ?_
  simp only [sxZ,z5,z6,z7,z8,j4,j5,j6,j7,j8,j9,x9,y3,y4,y5,y6,reduceCtorEq,↓reduceIte,List.getElem?_set,hlen,t7,t9,kv,List.length_map]
  refine ⟨⟨by omega,by omega,by omega⟩,?_⟩
  subst hW
  simp only [sxZ,z5,z6,z7,z8,j4,j5,j6,j7,j8,j9,x9,y3,y4,y5,y6,reduceCtorEq,↓reduceIte,List.getElem?_set,hlen,t3,e1]
  refine za1 (rTx_k y ⟨rfl,rfl⟩) ?_
  rw [zca]
  rcases hA with ⟨h0,rfl⟩ | ⟨r,g,rfl,hr0,hr⟩
  ·have e1':∀ z,(o ++ [z])[1]? = some (.box 25 [.i .i64 6,.s [],.nil,.nil]):=fun z => by rw [List.getElem?_append_left (by omega)]; exact e1
   simp only [sxZ,z5,z6,z7,z8,j4,j5,j6,j7,j8,j9,x9,y3,y4,y5,y6,reduceCtorEq,↓reduceIte,List.getElem?_set,hlen,t3,e1,e1']
   subst hV
   simp only [sxZ,z5,z6,z7,z8,j4,j5,j6,j7,j8,j9,x9,y3,y4,y5,y6,reduceCtorEq,↓reduceIte,List.getElem?_set,hlen,t2,t3,t7,t8,t9]
   refine ⟨by omega,l.length - (i + 1),by omega,i + 1,by omega,rfl,⟨z,by rw [List.getElem?_append_left (by omega)]; exact e0,hz⟩,⟨_,by rw [if_pos (by omega)],?_⟩,rfl⟩
   rw [htk,h0]
   refine .inr ⟨o.length,0,rfl,by omega,?_⟩
   rw [List.getElem?_set_ne (by omega),gn1,List.nil_append,zap,zal,zca]; rfl
  ·have hrl:=(List.getElem?_eq_some_iff.1 hr).1
   have hne:¬ r=1:=by omega
   simp only [sxZ,z5,z6,z7,z8,j4,j5,j6,j7,j8,j9,x9,y3,y4,y5,y6,reduceCtorEq,↓reduceIte,List.getElem?_set,hlen,t3,hr,e1,hne]
   refine ⟨⟨by omega,by omega⟩,?_⟩
   subst hV
   simp only [sxZ,z5,z6,z7,z8,j4,j5,j6,j7,j8,j9,x9,y3,y4,y5,y6,reduceCtorEq,↓reduceIte,List.getElem?_set,hlen,t2,t3,t7,t8,t9]
   refine ⟨by omega,l.length - (i + 1),by omega,i + 1,by omega,rfl,⟨z,?_,hz⟩,⟨.orow r (g + 1),?_,?_⟩,rfl⟩
   ·rw [if_neg (by omega)]; exact e0
   ·rw [if_pos hol]
   ·rw [htk]
    refine .inr ⟨r,g + 1,rfl,hr0,?_⟩
    rw [List.getElem?_set_ne (by omega),List.getElem?_set_self hrl,List.length_append,zaO,zap,zal,zca]; rfl
 have hn:i=l.length:=by omega
 rw [hn,List.take_of_length_le (Nat.le_refl _)] at hA
 have hol0:=(List.getElem?_eq_some_iff.1 e0).1
 simp only [sxZ,z5,z6,z7,z8,j4,j5,j6,j7,j8,j9,x9,y3,y4,y5,y6,reduceCtorEq,↓reduceIte,List.getElem?_set,hlen,t7,t8,t9,hlt]
 subst hW
 simp only [sxZ,z5,z6,z7,z8,j4,j5,j6,j7,j8,j9,x9,y3,y4,y5,y6,reduceCtorEq,↓reduceIte,List.getElem?_set,hlen]
 subst hZ
 obtain ⟨z0,z1,z2,z3,rfl⟩:∃ z0 z1 z2 z3,z=[z0,z1,z2,z3]:=by
  match z,hz with
  | [a,b,c,d],_ => exact ⟨a,b,c,d,rfl⟩
 rcases hA with ⟨h0,rfl⟩ | ⟨r,g,rfl,hr0,hr⟩
 ·simp only [sxZ,z5,z6,z7,z8,j4,j5,j6,j7,j8,j9,x9,y3,y4,y5,y6,reduceCtorEq,↓reduceIte,List.getElem?_set,hlen,t2,t3,e0,e1,hol0]
  rw [h0] at hk ⊢
  exact ⟨fun G I y hy => zdU hy,hk⟩
 ·have hne:¬ 0=r:=by omega
  have hpb:zda (o.set 0 (.box 25 [.i .i64 6,.s [],.nil,.orow r g])) 4 (zab (l.map jtx))=some (zab (l.map jtx)):=zfK (zaB _)
  simp only [sxZ,z5,z6,z7,z8,j4,j5,j6,j7,j8,j9,x9,y3,y4,y5,y6,reduceCtorEq,↓reduceIte,List.getElem?_set,hlen,t2,t3,e0,e1,hol0,hr,zaB,hne,hpb]
  exact ⟨fun G I y hy => zhB rfl rfl hy,hk⟩
theorem zeD {k:Int} {t:List UInt8} {ks:List (List UInt8)} {its:List JV} {X:List AV} (hX:ObX k t ks its X) (key:List UInt8) (l:List PrP) (h1:ks.length ≤ 1000000) (h2:its.length ≤ 1000000) (h3:l.length ≤ 1000000) (hk:K objs (.agg (smX X k t ks its key (zcR l)))):zae Try.prog 48 [.agg X,.s key,.row l.length (zaH l)] objs K:=by
 obtain ⟨A,B,rfl,pA,pB,qA,qB⟩:=hX.sh
 have hl3:=zcl l
 refine zaQ is_ref16_members (by simp only [zam,AV.plain,pA,pB,za9,Bool.and_self]) fun C _ => ?_
 rw [c_ref16_members]
 refine zaa fun Z hZ => ?_
 simp only [sxZ,z5,z6,z7,z8,j4,j5,j6,j7,j8,j9,x9,y3,y4,y5,y6,reduceCtorEq,↓reduceIte]
 subst hZ
 refine zaa fun Z hZ => ?_
 by_cases hs:l=[]
 ·subst hs
  simp only [sxZ,z5,z6,z7,z8,j4,j5,j6,j7,j8,j9,x9,y3,y4,y5,y6,reduceCtorEq,↓reduceIte,List.length_nil,qA,qB,show (((0:Nat):Int)=0)=True by simp,decide_true]
  unfold smX at hk
  rw [if_neg (by decide)] at hk
  exact hk
 have hpos:0 < l.length:=List.length_pos_iff.2 hs
 have hz:((l.length:Int)=0)=False:=by simp; exact hs
 simp only [sxZ,z5,z6,z7,z8,j4,j5,j6,j7,j8,j9,x9,y3,y4,y5,y6,reduceCtorEq,↓reduceIte,hz,decide_false]
 subst hZ
 refine zaa fun Z hZ => ?_
 simp only [sxZ,z5,z6,z7,z8,j4,j5,j6,j7,j8,j9,x9,y3,y4,y5,y6,reduceCtorEq,↓reduceIte]
 subst hZ
 refine zaa fun Z hZ => ?_
 refine zaa fun W hW => ?_
 simp only [sxZ,z5,z6,z7,z8,j4,j5,j6,j7,j8,j9,x9,y3,y4,y5,y6,reduceCtorEq,↓reduceIte]
 subst hW
 rw [zaw]
 refine zax (fun n o tm => ∃ i:Nat,i ≤ l.length ∧ n=l.length - i ∧ o[0]? = some (.box 25 [.i .i64 k,.s t,A,B]) ∧ (∃ z,o[1]? = some (.box 25 z) ∧ z.length=4) ∧ (∃ Y,o[2]? = some (.box 25 Y) ∧ ObX 7 [] ((l.take i).map (·.name)) ((l.take i).map enP) Y) ∧ tm.length=40 ∧ tm[1]? = some (.s key) ∧ tm[3]? = some (.p 0 0) ∧ tm[6]? = some (.p 1 0) ∧ tm[7]? = some (.p 2 0) ∧ tm[15]? = some (.row l.length (zaH l)) ∧ tm[16]? = some (.i .i64 (l.length:Int)) ∧ tm[17]? = some (.i .i64 (i:Int))) l.length ⟨0,Nat.zero_le _,rfl,rfl,⟨_,rfl,rfl⟩,⟨_,rfl,.inr ⟨rfl,rfl,rfl⟩⟩,rfl,rfl,rfl,rfl,rfl,rfl,rfl,rfl⟩ ?_
 rintro n o tm ⟨i,hi,rfl,e0,⟨z,e1,hz4⟩,⟨Y,e2,hY⟩,hlen,t1,t3,t6,t7,t15,t16,t17⟩
 have hol:=(List.getElem?_eq_some_iff.1 e2).1
 refine zaa fun W hW => ?_
 by_cases hlt:(i:Int) < (l.length:Int)
 ·have hi':i < l.length:=by omega
  have kv:=zic hi'
  have htk:(l.take (i + 1)).map (·.name)=(l.take i).map (·.name) ++ [l[i].name]:=by rw [List.take_add_one,List.getElem?_eq_getElem hi',List.map_append]; rfl
  have htv:(l.take (i + 1)).map enP=(l.take i).map enP ++ [enP l[i]]:=by rw [List.take_add_one,List.getElem?_eq_getElem hi',List.map_append]; rfl
  have hf1:((l.take i).map (·.name)).length=i:=by rw [List.length_map,List.length_take]; omega
  have hf2:((l.take i).map enP).length=i:=by rw [List.length_map,List.length_take]; omega
  generalize l[i]=y at kv htk htv
  generalize (l.take i).map (·.name)=nk at hY htk hf1
  generalize (l.take i).map enP=ni at hY htv hf2
  obtain ⟨D,E,rfl,pD,pE,qD,qE⟩:=hY.sh
  simp only [sxZ,z5,z6,z7,z8,j4,j5,j6,j7,j8,j9,x9,y3,y4,y5,y6,reduceCtorEq,↓reduceIte,List.getElem?_set,hlen,t15,t16,t17,hlt]
  subst hW
  refine zaa fun W hW => ?_
  simp only [sxZ,z5,z6,z7,z8,j4,j5,j6,j7,j8,j9,x9,y3,y4,y5,y6,reduceCtorEq,↓reduceIte,List.getElem?_set,hlen]
  subst hW
  refine zaa fun V hV => ?_
  rw [zaw]
  refine zaa fun W hW => ?_
  simp only [sxZ,z5,z6,z7,z8,j4,j5,j6,j7,j8,j9,x9,y3,y4,y5,y6,reduceCtorEq,↓reduceIte,List.getElem?_set,hlen,t15,t17,kv]
  refine ⟨⟨by omega,by omega,by omega⟩,by omega,?_⟩
  simp only [sxZ,z5,z6,z7,z8,j4,j5,j6,j7,j8,j9,x9,y3,y4,y5,y6,reduceCtorEq,↓reduceIte,List.getElem?_set,hlen,gn1,sn1]
  subst hW
  have fy:(o ++ [OB.box 83 [.s y.name,.s y.val,.b y.nul]])[o.length]? = some (.box 83 [.s y.name,.s y.val,.b y.nul]):=gn1 _ _
  have f0:(o ++ [OB.box 83 [.s y.name,.s y.val,.b y.nul]])[0]? = some (.box 25 [.i .i64 k,.s t,A,B]):=by rw [List.getElem?_append_left (by omega)]; exact e0
  have f1:(o ++ [OB.box 83 [.s y.name,.s y.val,.b y.nul]])[1]? = some (.box 25 z):=by rw [List.getElem?_append_left (by omega)]; exact e1
  have f2:(o ++ [OB.box 83 [.s y.name,.s y.val,.b y.nul]])[2]? = some (.box 25 [.i .i64 7,.s [],D,E]):=by rw [List.getElem?_append_left (by omega)]; exact e2
  have hln:(o ++ [OB.box 83 [.s y.name,.s y.val,.b y.nul]]).length=o.length + 1:=by simp
  generalize o ++ [OB.box 83 [.s y.name,.s y.val,.b y.nul]]=o1 at fy f0 f1 f2 hln ⊢
  have ho2:2 < o1.length:=by omega
  refine zaa fun W hW => ?_
  simp only [sxZ,z5,z6,z7,z8,j4,j5,j6,j7,j8,j9,x9,y3,y4,y5,y6,reduceCtorEq,↓reduceIte,List.getElem?_set,hlen,fy]
  subst hW
  have hY':ObX 7 [] (nk ++ [y.name]) (ni ++ [enP y]) (zad (.mk 7 [] (nk ++ [y.name]) (ni ++ [enP y]))):=.inl rfl
  obtain ⟨q0,q1,q2,q3,hq⟩:∃ q0 q1 q2 q3,zad (.mk 7 [] (nk ++ [y.name]) (ni ++ [enP y]))=[q0,q1,q2,q3]:=⟨_,_,_,_,zag _⟩
  rw [hq] at hY'
  cases c:y.nul with
  | true =>
   have he:enP y=.mk 1 [] [] []:=by unfold enP; rw [if_pos c]
   rw [c] at fy
   simp only [sxZ,z5,z6,z7,z8,j4,j5,j6,j7,j8,j9,x9,y3,y4,y5,y6,reduceCtorEq,↓reduceIte,List.getElem?_set,hlen,fy,t7,f2]
   rw [he] at hq hY'
   refine zaj (zfp (zek hY y.name (.mk 1 [] [] []) (by omega) (by omega) ?_))
   rw [hq]
   simp only [sxZ,z5,z6,z7,z8,j4,j5,j6,j7,j8,j9,x9,y3,y4,y5,y6,reduceCtorEq,↓reduceIte,List.getElem?_set,hlen,t7,f2]
   subst hV
   simp only [sxZ,z5,z6,z7,z8,j4,j5,j6,j7,j8,j9,x9,y3,y4,y5,y6,reduceCtorEq,↓reduceIte,List.getElem?_set,hlen,t1,t3,t6,t7,t15,t16,t17]
   refine ⟨by omega,l.length - (i + 1),by omega,i + 1,by omega,rfl,f0,⟨z,f1,hz4⟩,⟨_,by rw [if_pos ho2],?_⟩,rfl⟩
   rw [htk,htv,he]; exact hY'
  | false =>
   have he:enP y=jtx y.val:=by unfold enP; rw [if_neg (by rw [c]; decide)]
   rw [c] at fy
   simp only [sxZ,z5,z6,z7,z8,j4,j5,j6,j7,j8,j9,x9,y3,y4,y5,y6,reduceCtorEq,↓reduceIte,List.getElem?_set,hlen,fy,t7,f2]
   refine za1 (rTx_k y.val ⟨rfl,rfl⟩) ?_
   rw [he] at hq hY'
   simp only [sxZ,z5,z6,z7,z8,j4,j5,j6,j7,j8,j9,x9,y3,y4,y5,y6,reduceCtorEq,↓reduceIte,List.getElem?_set,hlen,fy,t7,f2]
   refine za1 (zek hY y.name (jtx y.val) (by omega) (by omega) ⟨rfl,rfl⟩) ?_
   rw [hq]
   simp only [sxZ,z5,z6,z7,z8,j4,j5,j6,j7,j8,j9,x9,y3,y4,y5,y6,reduceCtorEq,↓reduceIte,List.getElem?_set,hlen,t7,f2]
   subst hV
   simp only [sxZ,z5,z6,z7,z8,j4,j5,j6,j7,j8,j9,x9,y3,y4,y5,y6,reduceCtorEq,↓reduceIte,List.getElem?_set,hlen,t1,t3,t6,t7,t15,t16,t17]
   refine ⟨by omega,l.length - (i + 1),by omega,i + 1,by omega,rfl,f0,⟨z,f1,hz4⟩,⟨_,by rw [if_pos ho2],?_⟩,rfl⟩
   rw [htk,htv,he]; exact hY'
 have hn:i=l.length:=by omega
 rw [hn,List.take_of_length_le (Nat.le_refl _)] at hY
 have hYj:Y=zad (zcR l):=by
  rcases hY with h | ⟨h,_,_⟩
  ·exact h
  ·exact absurd (List.map_eq_nil_iff.1 h) hs
 subst hYj
 obtain ⟨q0,q1,q2,q3,hq⟩:∃ q0 q1 q2 q3,zad (zcR l)=[q0,q1,q2,q3]:=⟨_,_,_,_,zag _⟩
 rw [hq] at e2
 simp only [sxZ,z5,z6,z7,z8,j4,j5,j6,j7,j8,j9,x9,y3,y4,y5,y6,reduceCtorEq,↓reduceIte,List.getElem?_set,hlen,t15,t16,t17,hlt]
 subst hW
 simp only [sxZ,z5,z6,z7,z8,j4,j5,j6,j7,j8,j9,x9,y3,y4,y5,y6,reduceCtorEq,↓reduceIte,List.getElem?_set,hlen]
 subst hZ
 obtain ⟨z0,z1,z2,z3,rfl⟩:∃ z0 z1 z2 z3,z=[z0,z1,z2,z3]:=by
  match z,hz4 with
  | [a,b,c,d],_ => exact ⟨a,b,c,d,rfl⟩
 have hf:zcv (zcR l)=true:=by
  unfold zcv
  show (_ || decide (0 < (l.map enP).length))=true
  rw [List.length_map,decide_eq_true hpos,Bool.or_true]
 unfold smX at hk
 rw [if_pos hf] at hk
 simp only [sxZ,z5,z6,z7,z8,j4,j5,j6,j7,j8,j9,x9,y3,y4,y5,y6,reduceCtorEq,↓reduceIte,List.getElem?_set,hlen,t1,t3,t7,e0,e2]
 rw [← hq]
 refine zaj (zek hX key (zcR l) h1 h2 ?_)
 rw [zhu] at hk ⊢
 have hol1:1 < o.length:=by omega
 simp only [sxZ,z5,z6,z7,z8,j4,j5,j6,j7,j8,j9,x9,y3,y4,y5,y6,reduceCtorEq,↓reduceIte,List.getElem?_set,hlen,t6,e1,hol1,zaD,zaB]
 rw [List.length_append,List.length_append] at hk
 exact hk
end
end
section
attribute [local irreducible] run
theorem zaP (ks:List (List UInt8)) (key:List UInt8) (v:JV):(zbe ks key v).length ≤ ks.length + 1:=by
 unfold zbe; split <;> simp
theorem za2 (its:List JV) (v:JV):(zbC its v).length ≤ its.length + 1:=by
 unfold zbC; split <;> simp
def lkK (x:LkP):List (List UInt8):=zbe (zbe (zbe (zbe (zbe [zeU] zci (jtx x.typ)) zcp (jtx x.href)) zc3 (jtx x.tmp)) zdk (zcR x.tit)) zbr (zcR x.pro)
def lkI (x:LkP):List JV:=zbC (zbC (zbC (zbC (zbC [jtx x.rel] (jtx x.typ)) (jtx x.href)) (jtx x.tmp)) (zcR x.tit)) (zcR x.pro)
def zbH (x:LkP):JV:=job (lkK x) (lkI x)
section
variable [Tabs Try.prog] {objs:List OB} {K:List OB → AV → Prop}
theorem zl4 (x:LkP) (h1:x.tit.length ≤ 1000000) (h2:x.pro.length ≤ 1000000) (hk:K objs (.agg (zad (zbH x)))):zae Try.prog 42 [.agg (lkc x)] objs K:=by
 refine zaQ is_jrd_encodeLink (by unfold lkc; simp only [zam,AV.plain,za9,Bool.and_self]) fun C _ => ?_
 rw [c_jrd_encodeLink]
 unfold lkc
 refine zaa fun Z hZ => ?_
 simp only [sxZ,z5,z6,z7,z8,j4,j5,j6,j7,j8,j9,x9,y3,y4,y5,y6,reduceCtorEq,↓reduceIte]
 subst hZ
 refine zaa fun Z hZ => ?_
 simp only [sxZ,z5,z6,z7,z8,j4,j5,j6,j7,j8,j9,x9,y3,y4,y5,y6,reduceCtorEq,↓reduceIte]
 have hO:ObR 3 2 [] [] [OB.box 45 [.s x.rel,.s x.typ,.s x.href,.s x.tmp,.row x.tit.length (zaH x.tit),.row x.pro.length (zaH x.pro)],.box 25 [.i .i64 0,.s [],.nil,.nil],.box 85 [.nil,.nil]]:=⟨.nil,.nil,rfl,.inl ⟨rfl,rfl⟩,.inl ⟨rfl,rfl⟩⟩
 have e0:[OB.box 45 [.s x.rel,.s x.typ,.s x.href,.s x.tmp,.row x.tit.length (zaH x.tit),.row x.pro.length (zaH x.pro)],.box 25 [.i .i64 0,.s [],.nil,.nil],.box 85 [.nil,.nil]][0]? = some (OB.box 45 [.s x.rel,.s x.typ,.s x.href,.s x.tmp,.row x.tit.length (zaH x.tit),.row x.pro.length (zaH x.pro)]):=rfl
 have e1:[OB.box 45 [.s x.rel,.s x.typ,.s x.href,.s x.tmp,.row x.tit.length (zaH x.tit),.row x.pro.length (zaH x.pro)],.box 25 [.i .i64 0,.s [],.nil,.nil],.box 85 [.nil,.nil]][1]? = some (OB.box 25 [.i .i64 0,.s [],.nil,.nil]):=rfl
 have hl:3 ≤ [OB.box 45 [.s x.rel,.s x.typ,.s x.href,.s x.tmp,.row x.tit.length (zaH x.tit),.row x.pro.length (zaH x.pro)],.box 25 [.i .i64 0,.s [],.nil,.nil],.box 85 [.nil,.nil]].length:=by simp
 generalize [OB.box 45 [.s x.rel,.s x.typ,.s x.href,.s x.tmp,.row x.tit.length (zaH x.tit),.row x.pro.length (zaH x.pro)],.box 25 [.i .i64 0,.s [],.nil,.nil],.box 85 [.nil,.nil]]=o0 at hO e0 e1 hl ⊢
 subst hZ
 refine zaa fun Z hZ => ?_
 simp only [sxZ,z5,z6,z7,z8,j4,j5,j6,j7,j8,j9,x9,y3,y4,y5,y6,reduceCtorEq,↓reduceIte,e0]
 refine zaj (zcn x.rel ?_)
 simp only [sxZ,z5,z6,z7,z8,j4,j5,j6,j7,j8,j9,x9,y3,y4,y5,y6,reduceCtorEq,↓reduceIte]
 refine zaj (zeG 3 2 _ _ zeU (jtx x.rel) hO hl (by omega) (by simp) (by simp) fun o1 O1 l1 q1 => ?_)
 rw [List.nil_append,List.nil_append] at O1
 have f0:=(q1 0 (by omega) (by omega)).trans e0
 have f1:=(q1 1 (by omega) (by omega)).trans e1
 simp only [sxZ,z5,z6,z7,z8,j4,j5,j6,j7,j8,j9,x9,y3,y4,y5,y6,reduceCtorEq,↓reduceIte]
 subst hZ
 refine zaa fun Z hZ => ?_
 clear hO e0 e1 q1
 simp only [sxZ,z5,z6,z7,z8,j4,j5,j6,j7,j8,j9,x9,y3,y4,y5,y6,reduceCtorEq,↓reduceIte,f0]
 refine zaj (zcn x.typ ?_)
 simp only [sxZ,z5,z6,z7,z8,j4,j5,j6,j7,j8,j9,x9,y3,y4,y5,y6,reduceCtorEq,↓reduceIte]
 refine zaj (zbB 3 2 _ _ zci (jtx x.typ) O1 (by omega) (by omega) (by simp) (by simp) fun o2 O2 l2 q2 => ?_)
 have b2:=zaP [zeU] zci (jtx x.typ)
 have d2:=za2 [jtx x.rel] (jtx x.typ)
 have f0:=(q2 0 (by omega) (by omega)).trans f0
 have f1:=(q2 1 (by omega) (by omega)).trans f1
 simp only [sxZ,z5,z6,z7,z8,j4,j5,j6,j7,j8,j9,x9,y3,y4,y5,y6,reduceCtorEq,↓reduceIte]
 subst hZ
 refine zaa fun Z hZ => ?_
 clear O1 q2
 simp only [sxZ,z5,z6,z7,z8,j4,j5,j6,j7,j8,j9,x9,y3,y4,y5,y6,reduceCtorEq,↓reduceIte,f0]
 refine zaj (zcn x.href ?_)
 simp only [sxZ,z5,z6,z7,z8,j4,j5,j6,j7,j8,j9,x9,y3,y4,y5,y6,reduceCtorEq,↓reduceIte]
 simp only [List.length_cons,List.length_nil] at b2 d2
 refine zaj (zbB 3 2 _ _ zcp (jtx x.href) O2 (by omega) (by omega) (by omega) (by omega) fun o3 O3 l3 q3 => ?_)
 have b3:=zaP (zbe [zeU] zci (jtx x.typ)) zcp (jtx x.href)
 have d3:=za2 (zbC [jtx x.rel] (jtx x.typ)) (jtx x.href)
 have f0:=(q3 0 (by omega) (by omega)).trans f0
 have f1:=(q3 1 (by omega) (by omega)).trans f1
 simp only [sxZ,z5,z6,z7,z8,j4,j5,j6,j7,j8,j9,x9,y3,y4,y5,y6,reduceCtorEq,↓reduceIte]
 subst hZ
 refine zaa fun Z hZ => ?_
 clear O2 q3
 simp only [sxZ,z5,z6,z7,z8,j4,j5,j6,j7,j8,j9,x9,y3,y4,y5,y6,reduceCtorEq,↓reduceIte,f0]
 refine zaj (zcn x.tmp ?_)
 simp only [sxZ,z5,z6,z7,z8,j4,j5,j6,j7,j8,j9,x9,y3,y4,y5,y6,reduceCtorEq,↓reduceIte]
 refine zaj (zbB 3 2 _ _ zc3 (jtx x.tmp) O3 (by omega) (by omega) (by omega) (by omega) fun o4 O4 l4 q4 => ?_)
 have b4:=zaP (zbe (zbe [zeU] zci (jtx x.typ)) zcp (jtx x.href)) zc3 (jtx x.tmp)
 have d4:=za2 (zbC (zbC [jtx x.rel] (jtx x.typ)) (jtx x.href)) (jtx x.tmp)
 have f0:=(q4 0 (by omega) (by omega)).trans f0
 have f1:=(q4 1 (by omega) (by omega)).trans f1
 simp only [sxZ,z5,z6,z7,z8,j4,j5,j6,j7,j8,j9,x9,y3,y4,y5,y6,reduceCtorEq,↓reduceIte]
 subst hZ
 refine zaa fun Z hZ => ?_
 clear O3 q4
 simp only [sxZ,z5,z6,z7,z8,j4,j5,j6,j7,j8,j9,x9,y3,y4,y5,y6,reduceCtorEq,↓reduceIte,f0]
 refine zaj (zdT x.tit h1 ?_)
 simp only [sxZ,z5,z6,z7,z8,j4,j5,j6,j7,j8,j9,x9,y3,y4,y5,y6,reduceCtorEq,↓reduceIte]
 refine zaj (zbB 3 2 _ _ zdk (zcR x.tit) O4 (by omega) (by omega) (by omega) (by omega) fun o5 O5 l5 q5 => ?_)
 have b5:=zaP (zbe (zbe (zbe [zeU] zci (jtx x.typ)) zcp (jtx x.href)) zc3 (jtx x.tmp)) zdk (zcR x.tit)
 have d5:=za2 (zbC (zbC (zbC [jtx x.rel] (jtx x.typ)) (jtx x.href)) (jtx x.tmp)) (zcR x.tit)
 have f0:=(q5 0 (by omega) (by omega)).trans f0
 have f1:=(q5 1 (by omega) (by omega)).trans f1
 simp only [sxZ,z5,z6,z7,z8,j4,j5,j6,j7,j8,j9,x9,y3,y4,y5,y6,reduceCtorEq,↓reduceIte]
 subst hZ
 refine zaa fun Z hZ => ?_
 clear O4 q5
 simp only [sxZ,z5,z6,z7,z8,j4,j5,j6,j7,j8,j9,x9,y3,y4,y5,y6,reduceCtorEq,↓reduceIte,f0]
 refine zaj (zdT x.pro h2 ?_)
 simp only [sxZ,z5,z6,z7,z8,j4,j5,j6,j7,j8,j9,x9,y3,y4,y5,y6,reduceCtorEq,↓reduceIte]
 refine zaj (zbB 3 2 _ _ zbr (zcR x.pro) O5 (by omega) (by omega) (by omega) (by omega) fun o6 O6 l6 q6 => ?_)
 have f0:=(q6 0 (by omega) (by omega)).trans f0
 have f1:=(q6 1 (by omega) (by omega)).trans f1
 simp only [sxZ,z5,z6,z7,z8,j4,j5,j6,j7,j8,j9,x9,y3,y4,y5,y6,reduceCtorEq,↓reduceIte]
 subst hZ
 clear O5 q6
 simp only [sxZ,z5,z6,z7,z8,j4,j5,j6,j7,j8,j9,x9,y3,y4,y5,y6,reduceCtorEq,↓reduceIte]
 refine zaj (zds 3 2 _ _ O6 (by omega) (by omega) fun o7 l7 q7 => ?_)
 have e3:=q7 1 _ (by omega) (by omega) f1 rfl
 have hl0:=(List.getElem?_eq_some_iff.1 e3).1
 have hk':K objs (.agg (zad (job (lkK x) (lkI x)))):=hk
 have hc:zad (job (lkK x) (lkI x))=[.i .i64 7,.s [],.row (lkK x).length ((lkK x).map .s),.row (lkI x).length (zab (lkI x))]:=by rw [zag]; rfl
 have ej:job (zbe (zbe (zbe (zbe (zbe [zeU] zci (jtx x.typ)) zcp (jtx x.href)) zc3 (jtx x.tmp)) zdk (zcR x.tit)) zbr (zcR x.pro)) (zbC (zbC (zbC (zbC (zbC [jtx x.rel] (jtx x.typ)) (jtx x.href)) (jtx x.tmp)) (zcR x.tit)) (zcR x.pro))=job (lkK x) (lkI x):=rfl
 rw [ej]
 rw [hc] at hk' ⊢
 have hj1:=zaB (lkI x)
 have hj2:=zaX (lkK x)
 generalize zab (lkI x)=cs at hj1 hk' ⊢
 generalize (lkK x).map AV.s=ks at hj2 hk' ⊢
 have s1:∀ X,(o7.set 1 X)[1]? = some X:=fun X => List.getElem?_set_self hl0
 simp only [sxZ,z5,z6,z7,z8,j4,j5,j6,j7,j8,j9,x9,y3,y4,y5,y6,reduceCtorEq,↓reduceIte,e3,s1,hj1,hj2]
 exact hk'
end
end
section
attribute [local irreducible] run
theorem ObR.pub {m b:Nat} {ks:List (List UInt8)} {its:List JV} {oS o:List OB} (h:ObR m b ks its oS) (hfr:∀ i,i < oS.length → o[i]? = oS[i]?) (r g n:Nat) (xs:List AV) (hr:oS.length ≤ r):ObR m b ks its (zcN o r g n xs):=by
 obtain ⟨X,Y,h1,h2,h3⟩:=h
 have hb:=(List.getElem?_eq_some_iff.1 h1).1
 have eX:zaY r g n xs X=X:=by
  rcases h2 with ⟨_,rfl⟩ | ⟨r1,g1,rfl,_,hr1⟩
  ·rfl
  ·have:=(List.getElem?_eq_some_iff.1 hr1).1
   simp only [zaY]; rw [if_neg (by omega)]
 have eY:zaY r g n xs Y=Y:=by
  rcases h3 with ⟨_,rfl⟩ | ⟨r1,g1,rfl,_,hr1⟩
  ·rfl
  ·have:=(List.getElem?_eq_some_iff.1 hr1).1
   simp only [zaY]; rw [if_neg (by omega)]
 refine ⟨X,Y,?_,?_,?_⟩
 ·unfold zcN
  rw [List.getElem?_set_ne (by omega),List.getElem?_map,hfr b hb,h1]
  simp only [Option.map_some,zfz,List.map_cons,List.map_nil,eX,eY]
 ·rcases h2 with h | ⟨r1,g1,e,h0,hr1⟩
  ·exact .inl h
  ·have:=(List.getElem?_eq_some_iff.1 hr1).1
   exact .inr ⟨r1,g1,e,h0,zeA (by rw [hfr r1 this]; exact hr1) (by omega)⟩
 ·rcases h3 with h | ⟨r1,g1,e,h0,hr1⟩
  ·exact .inl h
  ·have:=(List.getElem?_eq_some_iff.1 hr1).1
   exact .inr ⟨r1,g1,e,h0,zeA (by rw [hfr r1 this]; exact hr1) (by omega)⟩
theorem ObR.tr {m b:Nat} {ks:List (List UInt8)} {its:List JV} {oS o:List OB} (h:ObR m b ks its oS) (hfr:∀ i,i < oS.length → o[i]? = oS[i]?):ObR m b ks its o:=by
 obtain ⟨X,Y,h1,h2,h3⟩:=h
 refine ⟨X,Y,by rw [hfr b (List.getElem?_eq_some_iff.1 h1).1]; exact h1,?_,?_⟩
 ·rcases h2 with h | ⟨r1,g1,e,h0,hr1⟩
  ·exact .inl h
  ·exact .inr ⟨r1,g1,e,h0,by rw [hfr r1 (List.getElem?_eq_some_iff.1 hr1).1]; exact hr1⟩
 ·rcases h3 with h | ⟨r1,g1,e,h0,hr1⟩
  ·exact .inl h
  ·exact .inr ⟨r1,g1,e,h0,by rw [hfr r1 (List.getElem?_eq_some_iff.1 hr1).1]; exact hr1⟩
def jeK (subj:List UInt8) (al:List (List UInt8)) (pr:List PrP):List (List UInt8):=zbe (zbe (zbe [] zbP (jtx subj)) zb3 (jar (al.map jtx))) zbr (zcR pr)
def jeI (subj:List UInt8) (al:List (List UInt8)) (pr:List PrP):List JV:=zbC (zbC (zbC [] (jtx subj)) (jar (al.map jtx))) (zcR pr)
def enJ (subj:List UInt8) (al:List (List UInt8)) (pr:List PrP) (lk:List LkP):JV:=job (zbe (jeK subj al pr) zbG (jar (lk.map zbH))) (zbC (jeI subj al pr) (jar (lk.map zbH)))
section
variable [Tabs Try.prog] {objs:List OB} {K:List OB → AV → Prop}
theorem zlO (subj:List UInt8) (al:List (List UInt8)) (pr:List PrP) (lk:List LkP) (h1:al.length ≤ 1000000) (h2:pr.length ≤ 1000000) (h3:lk.length ≤ 1000000) (h4:∀ x ∈ lk,x.tit.length ≤ 1000000 ∧ x.pro.length ≤ 1000000) (hk:K objs (.agg (zad (enJ subj al pr lk)))):zae Try.prog 18 [zcm subj al pr lk] objs K:=by
 have hl6:=zbs lk
 refine zaQ is_jrd_Encode (by unfold zcm; simp only [zam,AV.plain,zaX,za9,zcB,Bool.and_self]) fun C _ => ?_
 rw [c_jrd_Encode]
 unfold zcm
 refine zaa fun Z hZ => ?_
 simp only [sxZ,z5,z6,z7,z8,j4,j5,j6,j7,j8,j9,x9,y3,y4,y5,y6,reduceCtorEq,↓reduceIte]
 subst hZ
 refine zaa fun Z hZ => ?_
 simp only [sxZ,z5,z6,z7,z8,j4,j5,j6,j7,j8,j9,x9,y3,y4,y5,y6,reduceCtorEq,↓reduceIte]
 have hO:ObR 3 2 [] [] [OB.box 34 [.s subj,.row al.length (al.map .s),.row pr.length (zaH pr),.row lk.length (zbv lk)],.box 25 [.i .i64 0,.s [],.nil,.nil],.box 85 [.nil,.nil]]:=⟨.nil,.nil,rfl,.inl ⟨rfl,rfl⟩,.inl ⟨rfl,rfl⟩⟩
 have e0:[OB.box 34 [.s subj,.row al.length (al.map .s),.row pr.length (zaH pr),.row lk.length (zbv lk)],.box 25 [.i .i64 0,.s [],.nil,.nil],.box 85 [.nil,.nil]][0]? = some (OB.box 34 [.s subj,.row al.length (al.map .s),.row pr.length (zaH pr),.row lk.length (zbv lk)]):=rfl
 have e1:[OB.box 34 [.s subj,.row al.length (al.map .s),.row pr.length (zaH pr),.row lk.length (zbv lk)],.box 25 [.i .i64 0,.s [],.nil,.nil],.box 85 [.nil,.nil]][1]? = some (OB.box 25 [.i .i64 0,.s [],.nil,.nil]):=rfl
 have hl:3 ≤ [OB.box 34 [.s subj,.row al.length (al.map .s),.row pr.length (zaH pr),.row lk.length (zbv lk)],.box 25 [.i .i64 0,.s [],.nil,.nil],.box 85 [.nil,.nil]].length:=by simp
 generalize [OB.box 34 [.s subj,.row al.length (al.map .s),.row pr.length (zaH pr),.row lk.length (zbv lk)],.box 25 [.i .i64 0,.s [],.nil,.nil],.box 85 [.nil,.nil]]=o0 at hO e0 e1 hl ⊢
 subst hZ
 refine zaa fun Z hZ => ?_
 simp only [sxZ,z5,z6,z7,z8,j4,j5,j6,j7,j8,j9,x9,y3,y4,y5,y6,reduceCtorEq,↓reduceIte,e0]
 refine zaj (zcn subj ?_)
 simp only [sxZ,z5,z6,z7,z8,j4,j5,j6,j7,j8,j9,x9,y3,y4,y5,y6,reduceCtorEq,↓reduceIte]
 refine zaj (zbB 3 2 _ _ zbP (jtx subj) hO hl (by omega) (by simp) (by simp) fun o1 O1 l1 q1 => ?_)
 have b1:=zaP [] zbP (jtx subj)
 have d1:=za2 [] (jtx subj)
 simp only [List.length_nil] at b1 d1
 have f0:=(q1 0 (by omega) (by omega)).trans e0
 have f1:=(q1 1 (by omega) (by omega)).trans e1
 simp only [sxZ,z5,z6,z7,z8,j4,j5,j6,j7,j8,j9,x9,y3,y4,y5,y6,reduceCtorEq,↓reduceIte]
 subst hZ
 refine zaa fun Z hZ => ?_
 clear hO e0 e1 q1
 simp only [sxZ,z5,z6,z7,z8,j4,j5,j6,j7,j8,j9,x9,y3,y4,y5,y6,reduceCtorEq,↓reduceIte,f0]
 refine zaj (zlI al h1 ?_)
 simp only [sxZ,z5,z6,z7,z8,j4,j5,j6,j7,j8,j9,x9,y3,y4,y5,y6,reduceCtorEq,↓reduceIte]
 refine zaj (zbB 3 2 _ _ zb3 (jar (al.map jtx)) O1 (by omega) (by omega) (by omega) (by omega) fun o2 O2 l2 q2 => ?_)
 have b2:=zaP (zbe [] zbP (jtx subj)) zb3 (jar (al.map jtx))
 have d2:=za2 (zbC [] (jtx subj)) (jar (al.map jtx))
 have f0:=(q2 0 (by omega) (by omega)).trans f0
 have f1:=(q2 1 (by omega) (by omega)).trans f1
 simp only [sxZ,z5,z6,z7,z8,j4,j5,j6,j7,j8,j9,x9,y3,y4,y5,y6,reduceCtorEq,↓reduceIte]
 subst hZ
 refine zaa fun Z hZ => ?_
 clear O1 q2
 simp only [sxZ,z5,z6,z7,z8,j4,j5,j6,j7,j8,j9,x9,y3,y4,y5,y6,reduceCtorEq,↓reduceIte,f0]
 refine zaj (zdT pr h2 ?_)
 simp only [sxZ,z5,z6,z7,z8,j4,j5,j6,j7,j8,j9,x9,y3,y4,y5,y6,reduceCtorEq,↓reduceIte]
 refine zaj (zbB 3 2 _ _ zbr (zcR pr) O2 (by omega) (by omega) (by omega) (by omega) fun o3 O3 l3 q3 => ?_)
 have O3':ObR 3 2 (jeK subj al pr) (jeI subj al pr) o3:=O3
 have b3:(jeK subj al pr).length ≤ 3:=Nat.le_trans (zaP _ _ _) (by omega)
 have d3:(jeI subj al pr).length ≤ 3:=Nat.le_trans (za2 _ _) (by omega)
 have f0:=(q3 0 (by omega) (by omega)).trans f0
 have f1:=(q3 1 (by omega) (by omega)).trans f1
 simp only [sxZ,z5,z6,z7,z8,j4,j5,j6,j7,j8,j9,x9,y3,y4,y5,y6,reduceCtorEq,↓reduceIte]
 subst hZ
 refine zaa fun Z hZ => ?_
 clear O2 O3 q3 b1 b2 d1 d2
 simp only [sxZ,z5,z6,z7,z8,j4,j5,j6,j7,j8,j9,x9,y3,y4,y5,y6,reduceCtorEq,↓reduceIte]
 subst hZ
 refine zaa fun Z hZ => ?_
 refine zaa fun W hW => ?_
 simp only [sxZ,z5,z6,z7,z8,j4,j5,j6,j7,j8,j9,x9,y3,y4,y5,y6,reduceCtorEq,↓reduceIte,f0]
 subst hW
 rw [zaw]
 refine zax (fun n o tm => ∃ i:Nat,i ≤ lk.length ∧ n=lk.length - i ∧ (∀ j,j < o3.length → o[j]? = o3[j]?) ∧ o3.length ≤ o.length ∧ zjn o3.length ((lk.take i).map zbH) o (tm[4]?.getD .u) ∧ tm.length=36 ∧ tm[2]? = some (.p 1 0) ∧ tm[3]? = some (.p 2 0) ∧ tm[20]? = some (.row lk.length (zbv lk)) ∧ tm[21]? = some (.i .i64 (lk.length:Int)) ∧ tm[22]? = some (.i .i64 (i:Int))) lk.length ⟨0,Nat.zero_le _,rfl,fun _ _ => rfl,Nat.le_refl _,.inl ⟨rfl,rfl⟩,rfl,rfl,rfl,rfl,rfl,rfl⟩ ?_
 rintro n o tm ⟨i,hi,rfl,hfr,hlo,hA,hlen,t2,t3,t20,t21,t22⟩
 obtain ⟨a4,t4⟩:∃ a,tm[4]? = some a:=⟨_,List.getElem?_eq_getElem (by omega)⟩
 rw [t4,Option.getD_some] at hA
 refine zaa fun W hW => ?_
 by_cases hlt:(i:Int) < (lk.length:Int)
 ·have hi':i < lk.length:=by omega
  have kv:=zgF hi'
  have hm:=h4 lk[i] (List.getElem_mem hi')
  have htk:(lk.take (i + 1)).map zbH=(lk.take i).map zbH ++ [zbH lk[i]]:=by rw [List.take_add_one,List.getElem?_eq_getElem hi',List.map_append]; rfl
  have hfl:((lk.take i).map zbH).length=i:=by rw [List.length_map,List.length_take]; omega
  generalize lk[i]=y at kv hm htk
  generalize (lk.take i).map zbH=acc at hA htk hfl
  have hl4:=zat acc
  have elk:lkc y=[.s y.rel,.s y.typ,.s y.href,.s y.tmp,.row y.tit.length (zaH y.tit),.row y.pro.length (zaH y.pro)]:=rfl
  rw [elk] at kv
  simp only [sxZ,z5,z6,z7,z8,j4,j5,j6,j7,j8,j9,x9,y3,y4,y5,y6,reduceCtorEq,↓reduceIte,List.getElem?_set,hlen,t20,t21,t22,hlt]
  subst hW
  refine zaa fun W hW => ?_
  simp only [sxZ,z5,z6,z7,z8,j4,j5,j6,j7,j8,j9,x9,y3,y4,y5,y6,reduceCtorEq,↓reduceIte,List.getElem?_set,hlen]
  subst hW
  refine zaa fun V hV => ?_
  rw [zaw]
  refine zaa fun W hW => ?_
  simp only [sxZ,z5,z6,z7,z8,j4,j5,j6,j7,j8,j9,x9,y3,y4,y5,y6,reduceCtorEq,↓reduceIte,List.getElem?_set,hlen,t20,t22,kv]
  refine ⟨⟨by omega,by omega,by omega⟩,by omega,?_⟩
  simp only [sxZ,z5,z6,z7,z8,j4,j5,j6,j7,j8,j9,x9,y3,y4,y5,y6,reduceCtorEq,↓reduceIte,List.getElem?_set,hlen,gn1,sn1]
  subst hW
  have hA1:=hA.mono (.box 45 [.s y.rel,.s y.typ,.s y.href,.s y.tmp,.row y.tit.length (zaH y.tit),.row y.pro.length (zaH y.pro)])
  have fy:(o ++ [OB.box 45 [.s y.rel,.s y.typ,.s y.href,.s y.tmp,.row y.tit.length (zaH y.tit),.row y.pro.length (zaH y.pro)]])[o.length]? = some (.box 45 [.s y.rel,.s y.typ,.s y.href,.s y.tmp,.row y.tit.length (zaH y.tit),.row y.pro.length (zaH y.pro)]):=gn1 _ _
  have hfr1:∀ j,j < o3.length → (o ++ [OB.box 45 [.s y.rel,.s y.typ,.s y.href,.s y.tmp,.row y.tit.length (zaH y.tit),.row y.pro.length (zaH y.pro)]])[j]? = o3[j]?:=fun j hj => by rw [List.getElem?_append_left (by omega)]; exact hfr j hj
  have hln:(o ++ [OB.box 45 [.s y.rel,.s y.typ,.s y.href,.s y.tmp,.row y.tit.length (zaH y.tit),.row y.pro.length (zaH y.pro)]]).length=o.length + 1:=by simp
  generalize o ++ [OB.box 45 [.s y.rel,.s y.typ,.s y.href,.s y.tmp,.row y.tit.length (zaH y.tit),.row y.pro.length (zaH y.pro)]]=o4 at hA1 fy hfr1 hln ⊢
  simp only [sxZ,z5,z6,z7,z8,j4,j5,j6,j7,j8,j9,x9,y3,y4,y5,y6,reduceCtorEq,↓reduceIte,List.getElem?_set,hlen,t4,fy]
  rw [← elk]
  refine zaj (zl4 y hm.1 hm.2 ?_)
  obtain ⟨c0,c1,c2,c3,hc⟩:∃ c0 c1 c2 c3,zad (zbH y)=[c0,c1,c2,c3]:=⟨_,_,_,_,zag _⟩
  rw [hc]
  rcases hA1 with ⟨h0,rfl⟩ | ⟨r,g,rfl,hr0,hr⟩
  ·simp only [sxZ,z5,z6,z7,z8,j4,j5,j6,j7,j8,j9,x9,y3,y4,y5,y6,reduceCtorEq,↓reduceIte,List.getElem?_set,hlen,t4]
   subst hV
   simp only [sxZ,z5,z6,z7,z8,j4,j5,j6,j7,j8,j9,x9,y3,y4,y5,y6,reduceCtorEq,↓reduceIte,List.getElem?_set,hlen,t2,t3,t20,t21,t22]
   refine ⟨by omega,lk.length - (i + 1),by omega,i + 1,by omega,rfl,fun j hj => by rw [List.getElem?_append_left (by omega)]; exact hfr1 j hj,by omega,?_,rfl⟩
   rw [htk,h0]
   exact .inr ⟨_,0,rfl,by omega,by rw [gn1,List.nil_append,zap,zal,hc]; rfl⟩
  ·have hrl:=(List.getElem?_eq_some_iff.1 hr).1
   simp only [sxZ,z5,z6,z7,z8,j4,j5,j6,j7,j8,j9,x9,y3,y4,y5,y6,reduceCtorEq,↓reduceIte,List.getElem?_set,hlen,t4,hr]
   refine ⟨⟨by omega,by omega⟩,?_⟩
   subst hV
   simp only [sxZ,z5,z6,z7,z8,j4,j5,j6,j7,j8,j9,x9,y3,y4,y5,y6,reduceCtorEq,↓reduceIte,List.getElem?_set,hlen,t2,t3,t20,t21,t22]
   refine ⟨by omega,lk.length - (i + 1),by omega,i + 1,by omega,rfl,fun j hj => ?_,by omega,?_,rfl⟩
   ·rw [if_neg (by omega)]; exact hfr1 j hj
   ·rw [htk]
    refine .inr ⟨r,g + 1,rfl,hr0,?_⟩
    rw [List.getElem?_set_self hrl,List.length_append,zaO,zap,zal,hc,List.append_nil]; rfl
 have hn:i=lk.length:=by omega
 rw [hn,List.take_of_length_le (Nat.le_refl _)] at hA
 simp only [sxZ,z5,z6,z7,z8,j4,j5,j6,j7,j8,j9,x9,y3,y4,y5,y6,reduceCtorEq,↓reduceIte,List.getElem?_set,hlen,t20,t21,t22,hlt]
 subst hW
 simp only [sxZ,z5,z6,z7,z8,j4,j5,j6,j7,j8,j9,x9,y3,y4,y5,y6,reduceCtorEq,↓reduceIte,List.getElem?_set,hlen]
 subst hZ
 have hl3o:3 ≤ o3.length:=by omega
 have e1o:o[1]? = some (.box 25 [.i .i64 0,.s [],.nil,.nil]):=(hfr 1 (by omega)).trans f1
 refine zaa fun Z hZ => ?_
 rcases hA with ⟨h0,rfl⟩ | ⟨r,g,rfl,hr0,hr⟩
 ·simp only [sxZ,z5,z6,z7,z8,j4,j5,j6,j7,j8,j9,x9,y3,y4,y5,y6,reduceCtorEq,↓reduceIte,List.getElem?_set,hlen,t4]
  refine zaj (zeT ?_)
  have hA2:∀ {K:List OB → AV → Prop},K o (.agg (zad (jar []))) → zae Try.prog 43 [.row 0 []] o K:=fun {K} h => by
   have:=zdt (objs:=o) (K:=K) [] h
   rwa [zal] at this
  refine hA2 ?_
  rw [← h0]
  have O5:=O3'.tr hfr
  have hl5:3 ≤ o.length:=by omega
  have e5:=e1o
  simp only [sxZ,z5,z6,z7,z8,j4,j5,j6,j7,j8,j9,x9,y3,y4,y5,y6,reduceCtorEq,↓reduceIte,List.getElem?_set,hlen,t3]
  refine zaj (zbB 3 2 _ _ zbG (jar (lk.map zbH)) O5 hl5 (by omega) (by omega) (by omega) fun o6 O6 l6 q6 => ?_)
  have g1:=(q6 1 (by omega) (by omega)).trans e5
  simp only [sxZ,z5,z6,z7,z8,j4,j5,j6,j7,j8,j9,x9,y3,y4,y5,y6,reduceCtorEq,↓reduceIte,List.getElem?_set,hlen]
  subst hZ
  simp only [sxZ,z5,z6,z7,z8,j4,j5,j6,j7,j8,j9,x9,y3,y4,y5,y6,reduceCtorEq,↓reduceIte,List.getElem?_set,hlen,t3]
  refine zaj (zds 3 2 _ _ O6 (by omega) (by omega) fun o7 l7 q7 => ?_)
  have e7:=q7 1 _ (by omega) (by omega) g1 rfl
  have hl7:=(List.getElem?_eq_some_iff.1 e7).1
  have s1:∀ X,(o7.set 1 X)[1]? = some X:=fun X => List.getElem?_set_self hl7
  unfold enJ at hk
  have hk':=hk
  generalize zbe (jeK subj al pr) zbG (jar (lk.map zbH))=kk at hk' ⊢
  generalize zbC (jeI subj al pr) (jar (lk.map zbH))=ii at hk' ⊢
  have hc:zad (job kk ii)=[.i .i64 7,.s [],.row kk.length (kk.map .s),.row ii.length (zab ii)]:=by rw [zag]; rfl
  rw [hc] at hk' ⊢
  have hj1:=zaB ii
  have hj2:=zaX kk
  generalize zab ii=cs at hj1 hk' ⊢
  generalize kk.map AV.s=ks at hj2 hk' ⊢
  simp only [sxZ,z5,z6,z7,z8,j4,j5,j6,j7,j8,j9,x9,y3,y4,y5,y6,reduceCtorEq,↓reduceIte,List.getElem?_set,hlen,t2,e7,hl7,s1,hj1,hj2]
  exact hk'
 ·simp only [sxZ,z5,z6,z7,z8,j4,j5,j6,j7,j8,j9,x9,y3,y4,y5,y6,reduceCtorEq,↓reduceIte,List.getElem?_set,hlen,t4]
  refine zaj (zfo (b:=r) hr ?_)
  simp only [zaY,List.map_cons,List.map_nil,and_self,if_true]
  refine zdt (lk.map zbH) ?_
  have O5:=O3'.pub hfr r g (lk.map zbH).length (zab (lk.map zbH)) hr0
  have hl5:3 ≤ (zcN o r g (lk.map zbH).length (zab (lk.map zbH))).length:=by rw [zcM]; omega
  have e5:(zcN o r g (lk.map zbH).length (zab (lk.map zbH)))[1]? = some (.box 25 [.i .i64 0,.s [],.nil,.nil]):=by
   unfold zcN
   rw [List.getElem?_set_ne (by omega),List.getElem?_map,e1o]; rfl
  generalize zcN o r g (lk.map zbH).length (zab (lk.map zbH))=o5 at O5 hl5 e5 ⊢
  simp only [sxZ,z5,z6,z7,z8,j4,j5,j6,j7,j8,j9,x9,y3,y4,y5,y6,reduceCtorEq,↓reduceIte,List.getElem?_set,hlen,t3]
  refine zaj (zbB 3 2 _ _ zbG (jar (lk.map zbH)) O5 hl5 (by omega) (by omega) (by omega) fun o6 O6 l6 q6 => ?_)
  have g1:=(q6 1 (by omega) (by omega)).trans e5
  simp only [sxZ,z5,z6,z7,z8,j4,j5,j6,j7,j8,j9,x9,y3,y4,y5,y6,reduceCtorEq,↓reduceIte,List.getElem?_set,hlen]
  subst hZ
  simp only [sxZ,z5,z6,z7,z8,j4,j5,j6,j7,j8,j9,x9,y3,y4,y5,y6,reduceCtorEq,↓reduceIte,List.getElem?_set,hlen,t3]
  refine zaj (zds 3 2 _ _ O6 (by omega) (by omega) fun o7 l7 q7 => ?_)
  have e7:=q7 1 _ (by omega) (by omega) g1 rfl
  have hl7:=(List.getElem?_eq_some_iff.1 e7).1
  have s1:∀ X,(o7.set 1 X)[1]? = some X:=fun X => List.getElem?_set_self hl7
  unfold enJ at hk
  have hk':=hk
  generalize zbe (jeK subj al pr) zbG (jar (lk.map zbH))=kk at hk' ⊢
  generalize zbC (jeI subj al pr) (jar (lk.map zbH))=ii at hk' ⊢
  have hc:zad (job kk ii)=[.i .i64 7,.s [],.row kk.length (kk.map .s),.row ii.length (zab ii)]:=by rw [zag]; rfl
  rw [hc] at hk' ⊢
  have hj1:=zaB ii
  have hj2:=zaX kk
  generalize zab ii=cs at hj1 hk' ⊢
  generalize kk.map AV.s=ks at hj2 hk' ⊢
  simp only [sxZ,z5,z6,z7,z8,j4,j5,j6,j7,j8,j9,x9,y3,y4,y5,y6,reduceCtorEq,↓reduceIte,List.getElem?_set,hlen,t2,e7,hl7,s1,hj1,hj2]
  exact hk'
end
end
end Go.Proofs.Ytceenajkieomoaa
namespace Go.Proofs.Ytceenajkieomoaa.Sx
open Go.RowKit
def zg7 (b gen n:Nat) (xs:List AV):AV → AV
 | .agg cs => .agg (cs.map (zaY b gen n xs))
 | x => zaY b gen n xs x
theorem den_sub2 {G:Gh} {I:Imm} {objs:List OB} {w:World} (hm:MemOk G I objs w) {b E sz gen n:Nat} {xs:List AV} (hb:objs[b]? = some (.orow E sz gen n xs)) (x:AV) (y:Value) (h:Den G I x y):Den (zgb G b gen) (zia I G b w) (zg7 b gen n xs x) y:=by
 cases x with
 | agg cs =>
  simp only [Den,zg7] at h ⊢
  obtain ⟨ys,h1,h2,h3⟩:=h
  exact ⟨ys,h1,zdx hm hb cs ys h2,h3⟩
 | _ => exact zhA hm hb _ y h
theorem zgV {G:Gh} {I:Imm} {objs:List OB} {w:World} (hm:MemOk G I objs w) {b E sz gen n:Nat} {xs:List AV} (hb:objs[b]? = some (.orow E sz gen n xs)):∀ (l:List AV) (ys:List Value),zah G I l ys → zah (zgb G b gen) (zia I G b w) (l.map (zg7 b gen n xs)) ys
 | [],ys,h => by simpa [zah] using h
 | x :: l,ys,h => by
  simp only [zah,List.map_cons] at h ⊢
  obtain ⟨y,ys',h1,h2,h3⟩:=h
  exact ⟨y,ys',h1,den_sub2 hm hb x y h2,zgV hm hb l ys' h3⟩
theorem zdg {P:Program} [Tabs P] {f:FuncId} {args:List AV} {objs:List OB} {K:List OB → AV → Prop} {b E sz gen n:Nat} {xs:List AV} (hb:objs[b]? = some (.orow E sz gen n xs)) (hc:zae P f (args.map (zg7 b gen n xs)) (zcN objs b gen n xs) K):zae P f args objs K:=by
 intro C _ G I w hin hm ys hd
 obtain ⟨v',vs,m1,m2,m3,m4,m5⟩:=hm.row b E sz gen n xs hb
 have hG:=zeB m1
 have hI:Imm.le I (zia I G b w):=fun _ _ _ h => .inl h
 obtain ⟨hin',hm'⟩:=zhp (P:=P) hb hin hm
 refine (hc C _ _ w hin' hm' ys (zgV hm hb _ _ hd)).mono ?_
 rintro e w' ⟨y,objs',r,G',I',he,hk,h1,h2,h3,h4,hy⟩
 exact ⟨y,objs',r,G',I',he,hk,hG.trans h1,fun g o v h => h2 g o v (hI g o v h),h3,h4,hy⟩
end Go.Proofs.Ytceenajkieomoaa.Sx
namespace Go.Proofs.Ytceenajkieomoaa
open Nat renaming reduceAdd → z5, reduceSub → z6, reduceLeDiff → z7, reduceLT → z8, reduceMul → j4, reduceEqDiff → j5
open Int renaming reduceToNat → j6, reduceAdd → j7, reduceSub → j8, reduceMul → j9, reduceNeg → x9, reduceLT → y3, reduceLE → y4, reduceEq → y5, reduceNe → y6
open Go.RowKit Sx
section
attribute [local irreducible] run
section
variable [Tabs Try.prog] {objs:List OB} {K:List OB → AV → Prop}
theorem zkF (subj:List UInt8) (al:List (List UInt8)) (pr:List PrP) (lk:List LkP) (h1:al.length ≤ 1000000) (h2:pr.length ≤ 1000000) (h3:lk.length ≤ 1000000) (h4:∀ x ∈ lk,x.tit.length ≤ 1000000 ∧ x.pro.length ≤ 1000000) (hk:∀ X,ObX 7 [] (zbe (jeK subj al pr) zbG (jar (lk.map zbH))) (zbC (jeI subj al pr) (jar (lk.map zbH))) X → K objs (.agg X)):zae Try.prog 19 [zcm subj al pr lk] objs K:=by
 have hl6:=zbs lk
 refine zaQ is_ref16_Encode (by unfold zcm; simp only [zam,AV.plain,zaX,za9,zcB,Bool.and_self]) fun C _ => ?_
 rw [c_ref16_Encode]
 unfold zcm
 refine zaa fun Z hZ => ?_
 simp only [sxZ,z5,z6,z7,z8,j4,j5,j6,j7,j8,j9,x9,y3,y4,y5,y6,reduceCtorEq,↓reduceIte]
 subst hZ
 refine zaa fun Z hZ => ?_
 simp only [sxZ,z5,z6,z7,z8,j4,j5,j6,j7,j8,j9,x9,y3,y4,y5,y6,reduceCtorEq,↓reduceIte]
 have hX0:ObX 7 [] [] [] [.i .i64 7,.s [],.nil,.nil]:=.inr ⟨rfl,rfl,rfl⟩
 refine zaj (zhR hX0 zbP subj (by decide) (by decide) ?_)
 have hX1:=ze2 zbP (jtx subj) hX0
 have b1:=zaP [] zbP (jtx subj)
 have d1:=za2 [] (jtx subj)
 simp only [List.length_nil] at b1 d1
 generalize smX [.i .i64 7,.s [],.nil,.nil] 7 [] [] [] zbP (jtx subj)=X1 at hX1 ⊢
 obtain ⟨A1,B1,rfl,pA1,pB1,qA1,qB1⟩:=hX1.sh
 simp only [sxZ,z5,z6,z7,z8,j4,j5,j6,j7,j8,j9,x9,y3,y4,y5,y6,reduceCtorEq,↓reduceIte,gn1,sn1]
 subst hZ
 refine zaa fun Z hZ => ?_
 refine zaA (fun o tm => ∃ A B,o=[OB.box 34 [.s subj,.row al.length (al.map .s),.row pr.length (zaH pr),.row lk.length (zbv lk)],.box 25 [.i .i64 0,.s [],.nil,.nil],.box 25 [.i .i64 7,.s [],A,B]] ∧ ObX 7 [] (zbe (zbe [] zbP (jtx subj)) zb3 (jar (al.map jtx))) (zbC (zbC [] (jtx subj)) (jar (al.map jtx))) [.i .i64 7,.s [],A,B] ∧ tm.length=70 ∧ tm[1]? = some (.p 0 0) ∧ tm[2]? = some (.p 1 0) ∧ tm[3]? = some (.p 2 0)) ?_ ?_
 ·by_cases ha:al=[]
  ·subst ha
   have hz0:((0:Int) < ((0:Nat):Int))=False:=by simp
   simp only [sxZ,z5,z6,z7,z8,j4,j5,j6,j7,j8,j9,x9,y3,y4,y5,y6,reduceCtorEq,↓reduceIte,List.length_nil,hz0,decide_false,zac,za8]
   have:=ze2 zb3 (jar (([]:List (List UInt8)).map jtx)) hX1
   unfold smX at this
   rw [if_neg (by decide)] at this
   exact ⟨A1,B1,rfl,this⟩
  ·have hpos:0 < al.length:=List.length_pos_iff.2 ha
   have hz:((0:Int) < (al.length:Int))=True:=by simp; omega
   simp only [sxZ,z5,z6,z7,z8,j4,j5,j6,j7,j8,j9,x9,y3,y4,y5,y6,reduceCtorEq,↓reduceIte,hz,decide_true]
   refine za1 (rAr_k al h1 ⟨rfl,rfl⟩) ?_
   simp only [sxZ,z5,z6,z7,z8,j4,j5,j6,j7,j8,j9,x9,y3,y4,y5,y6,reduceCtorEq,↓reduceIte]
   refine za1 (zek hX1 zb3 (jar (al.map jtx)) (by omega) (by omega) ⟨rfl,rfl⟩) ?_
   have hX2:=ze2 zb3 (jar (al.map jtx)) hX1
   unfold smX at hX2
   rw [if_pos (by unfold zcv; show (_ || decide (0 < (al.map jtx).length))=true; rw [List.length_map,decide_eq_true hpos,Bool.or_true])] at hX2
   rw [zhu] at hX2 ⊢
   simp only [sxZ,z5,z6,z7,z8,j4,j5,j6,j7,j8,j9,x9,y3,y4,y5,y6,reduceCtorEq,↓reduceIte,zac,za8]
   rw [List.length_append,List.length_append] at hX2
   exact ⟨_,_,rfl,hX2⟩
 rintro o tm ⟨A2,B2,rfl,hX2,hlen,t1,t2,t3⟩
 have b2:=zaP (zbe [] zbP (jtx subj)) zb3 (jar (al.map jtx))
 have d2:=za2 (zbC [] (jtx subj)) (jar (al.map jtx))
 subst hZ
 refine zaa fun Z hZ => ?_
 simp only [sxZ,z5,z6,z7,z8,j4,j5,j6,j7,j8,j9,x9,y3,y4,y5,y6,reduceCtorEq,↓reduceIte,List.getElem?_set,hlen,t1,t3]
 refine zaj (zeD hX2 zbr pr (by omega) (by omega) h2 ?_)
 have hX3:ObX 7 [] (jeK subj al pr) (jeI subj al pr) _:=ze2 zbr (zcR pr) hX2
 have b3:(jeK subj al pr).length ≤ 3:=Nat.le_trans (zaP _ _ _) (by omega)
 have d3:(jeI subj al pr).length ≤ 3:=Nat.le_trans (za2 _ _) (by omega)
 generalize smX [.i .i64 7,.s [],A2,B2] 7 [] _ _ zbr (zcR pr)=X3 at hX3 ⊢
 obtain ⟨A3,B3,rfl,pA3,pB3,qA3,qB3⟩:=hX3.sh
 simp only [sxZ,z5,z6,z7,z8,j4,j5,j6,j7,j8,j9,x9,y3,y4,y5,y6,reduceCtorEq,↓reduceIte,List.getElem?_set,hlen,t1,t3]
 subst hZ
 refine zaa fun Z hZ => ?_
 by_cases hn:lk=[]
 ·subst hn
  simp only [sxZ,z5,z6,z7,z8,j4,j5,j6,j7,j8,j9,x9,y3,y4,y5,y6,reduceCtorEq,↓reduceIte,List.getElem?_set,hlen,t1,t2,t3,List.length_nil,show (((0:Nat):Int)=0)=True by simp,decide_true,qA3,qB3]
  refine hk _ ?_
  have:=ze2 zbG (jar (([]:List LkP).map zbH)) hX3
  unfold smX at this
  rw [if_neg (by decide)] at this
  exact this
 have hpos:0 < lk.length:=List.length_pos_iff.2 hn
 have hz:((lk.length:Int)=0)=False:=by simp; exact hn
 simp only [sxZ,z5,z6,z7,z8,j4,j5,j6,j7,j8,j9,x9,y3,y4,y5,y6,reduceCtorEq,↓reduceIte,List.getElem?_set,hlen,t1,t2,t3,hz,decide_false]
 subst hZ
 refine zaa fun Z hZ => ?_
 simp only [sxZ,z5,z6,z7,z8,j4,j5,j6,j7,j8,j9,x9,y3,y4,y5,y6,reduceCtorEq,↓reduceIte,List.getElem?_set,hlen,t1,t2,t3]
 subst hZ
 refine zaa fun Z hZ => ?_
 refine zaa fun W hW => ?_
 simp only [sxZ,z5,z6,z7,z8,j4,j5,j6,j7,j8,j9,x9,y3,y4,y5,y6,reduceCtorEq,↓reduceIte,List.getElem?_set,hlen,t1,t2,t3]
 subst hW
 rw [zaw]
 refine zax (fun n o tm => ∃ i:Nat,i ≤ lk.length ∧ n=lk.length - i ∧ o[1]? = some (.box 25 [.i .i64 0,.s [],.nil,.nil]) ∧ o[2]? = some (.box 25 [.i .i64 7,.s [],A3,B3]) ∧ (∃ X,o[3]? = some (.box 25 [.i .i64 6,.s [],.nil,X]) ∧ zjn 4 ((lk.take i).map zbH) o X) ∧ tm.length=70 ∧ tm[2]? = some (.p 1 0) ∧ tm[3]? = some (.p 2 0) ∧ tm[4]? = some (.p 3 0) ∧ tm[32]? = some (.row lk.length (zbv lk)) ∧ tm[33]? = some (.i .i64 (lk.length:Int)) ∧ tm[34]? = some (.i .i64 (i:Int))) lk.length ?_ ?_
 ·exact ⟨0,Nat.zero_le _,rfl,rfl,rfl,⟨.nil,rfl,.inl ⟨rfl,rfl⟩⟩,by simp only [List.length_set,hlen],by simp only [List.getElem?_set,hlen,t2]; rfl,by simp only [List.getElem?_set,hlen,t3]; rfl,by simp only [List.getElem?_set,List.length_set,hlen]; rfl,by simp only [List.getElem?_set,List.length_set,hlen]; rfl,by simp only [List.getElem?_set,List.length_set,hlen]; rfl,by simp only [List.getElem?_set,List.length_set,hlen]; rfl⟩
 rintro n o tm ⟨i,hi,rfl,e1,e2,⟨X,e3,hA⟩,hlen,t2,t3,t4,t32,t33,t34⟩
 have hol:=(List.getElem?_eq_some_iff.1 e3).1
 refine zaa fun W hW => ?_
 by_cases hlt:(i:Int) < (lk.length:Int)
 ·have hi':i < lk.length:=by omega
  have kv:=zgF hi'
  have hm:=h4 lk[i] (List.getElem_mem hi')
  have htk:(lk.take (i + 1)).map zbH=(lk.take i).map zbH ++ [zbH lk[i]]:=by rw [List.take_add_one,List.getElem?_eq_getElem hi',List.map_append]; rfl
  have hfl:((lk.take i).map zbH).length=i:=by rw [List.length_map,List.length_take]; omega
  generalize lk[i]=y at kv hm htk
  generalize (lk.take i).map zbH=acc at hA htk hfl
  have hl4:=zat acc
  have elk:lkc y=[.s y.rel,.s y.typ,.s y.href,.s y.tmp,.row y.tit.length (zaH y.tit),.row y.pro.length (zaH y.pro)]:=rfl
  rw [elk] at kv
  simp only [sxZ,z5,z6,z7,z8,j4,j5,j6,j7,j8,j9,x9,y3,y4,y5,y6,reduceCtorEq,↓reduceIte,List.getElem?_set,hlen,t32,t33,t34,hlt]
  subst hW
  refine zaa fun W hW => ?_
  simp only [sxZ,z5,z6,z7,z8,j4,j5,j6,j7,j8,j9,x9,y3,y4,y5,y6,reduceCtorEq,↓reduceIte,List.getElem?_set,hlen]
  subst hW
  refine zaa fun V hV => ?_
  rw [zaw]
  refine zaa fun W hW => ?_
  simp only [sxZ,z5,z6,z7,z8,j4,j5,j6,j7,j8,j9,x9,y3,y4,y5,y6,reduceCtorEq,↓reduceIte,List.getElem?_set,hlen,t32,t34,kv]
  refine ⟨⟨by omega,by omega,by omega⟩,by omega,?_⟩
  simp only [sxZ,z5,z6,z7,z8,j4,j5,j6,j7,j8,j9,x9,y3,y4,y5,y6,reduceCtorEq,↓reduceIte,List.getElem?_set,hlen,gn1,sn1]
  subst hW
  have hA1:=hA.mono (.box 45 [.s y.rel,.s y.typ,.s y.href,.s y.tmp,.row y.tit.length (zaH y.tit),.row y.pro.length (zaH y.pro)])
  have fy:(o ++ [OB.box 45 [.s y.rel,.s y.typ,.s y.href,.s y.tmp,.row y.tit.length (zaH y.tit),.row y.pro.length (zaH y.pro)]])[o.length]? = some (.box 45 [.s y.rel,.s y.typ,.s y.href,.s y.tmp,.row y.tit.length (zaH y.tit),.row y.pro.length (zaH y.pro)]):=gn1 _ _
  have f1:(o ++ [OB.box 45 [.s y.rel,.s y.typ,.s y.href,.s y.tmp,.row y.tit.length (zaH y.tit),.row y.pro.length (zaH y.pro)]])[1]? = some (.box 25 [.i .i64 0,.s [],.nil,.nil]):=by rw [List.getElem?_append_left (by omega)]; exact e1
  have f2:(o ++ [OB.box 45 [.s y.rel,.s y.typ,.s y.href,.s y.tmp,.row y.tit.length (zaH y.tit),.row y.pro.length (zaH y.pro)]])[2]? = some (.box 25 [.i .i64 7,.s [],A3,B3]):=by rw [List.getElem?_append_left (by omega)]; exact e2
  have f3:(o ++ [OB.box 45 [.s y.rel,.s y.typ,.s y.href,.s y.tmp,.row y.tit.length (zaH y.tit),.row y.pro.length (zaH y.pro)]])[3]? = some (.box 25 [.i .i64 6,.s [],.nil,X]):=by rw [List.getElem?_append_left (by omega)]; exact e3
  have hln:(o ++ [OB.box 45 [.s y.rel,.s y.typ,.s y.href,.s y.tmp,.row y.tit.length (zaH y.tit),.row y.pro.length (zaH y.pro)]]).length=o.length + 1:=by simp
  generalize o ++ [OB.box 45 [.s y.rel,.s y.typ,.s y.href,.s y.tmp,.row y.tit.length (zaH y.tit),.row y.pro.length (zaH y.pro)]]=o4 at hA1 fy f1 f2 f3 hln ⊢
  refine zaa fun W hW => ?_
  simp only [sxZ,z5,z6,z7,z8,j4,j5,j6,j7,j8,j9,x9,y3,y4,y5,y6,reduceCtorEq,↓reduceIte,List.getElem?_set,hlen,fy]
  refine zaj (rTx_k y.rel ?_)
  simp only [sxZ,z5,z6,z7,z8,j4,j5,j6,j7,j8,j9,x9,y3,y4,y5,y6,reduceCtorEq,↓reduceIte,List.getElem?_set,hlen,fy]
  have hY0:ObX 7 [] [] [] [.i .i64 7,.s [],.nil,.nil]:=.inr ⟨rfl,rfl,rfl⟩
  refine zaj (zek hY0 zeU (jtx y.rel) (by decide) (by decide) ?_)
  rw [List.nil_append,List.nil_append]
  obtain ⟨q0,q1,q2,q3,hq⟩:∃ q0 q1 q2 q3,zad (.mk 7 [] [zeU] [jtx y.rel])=[q0,q1,q2,q3]:=⟨_,_,_,_,zag _⟩
  rw [hq]
  simp only [sxZ,z5,z6,z7,z8,j4,j5,j6,j7,j8,j9,x9,y3,y4,y5,y6,reduceCtorEq,↓reduceIte,List.getElem?_set,hlen,gn1,sn1]
  have hA2:=hA1.mono (.box 25 [q0,q1,q2,q3])
  have gy:(o4 ++ [OB.box 25 [q0,q1,q2,q3]])[o.length]? = some (.box 45 [.s y.rel,.s y.typ,.s y.href,.s y.tmp,.row y.tit.length (zaH y.tit),.row y.pro.length (zaH y.pro)]):=by rw [List.getElem?_append_left (by omega)]; exact fy
  have g1:(o4 ++ [OB.box 25 [q0,q1,q2,q3]])[1]? = some (.box 25 [.i .i64 0,.s [],.nil,.nil]):=by rw [List.getElem?_append_left (by omega)]; exact f1
  have g2:(o4 ++ [OB.box 25 [q0,q1,q2,q3]])[2]? = some (.box 25 [.i .i64 7,.s [],A3,B3]):=by rw [List.getElem?_append_left (by omega)]; exact f2
  have g3:(o4 ++ [OB.box 25 [q0,q1,q2,q3]])[3]? = some (.box 25 [.i .i64 6,.s [],.nil,X]):=by rw [List.getElem?_append_left (by omega)]; exact f3
  have gv:(o4 ++ [OB.box 25 [q0,q1,q2,q3]])[o4.length]? = some (.box 25 [q0,q1,q2,q3]):=gn1 _ _
  have hl5:(o4 ++ [OB.box 25 [q0,q1,q2,q3]]).length=o4.length + 1:=by simp
  generalize o4 ++ [OB.box 25 [q0,q1,q2,q3]]=o5 at hA2 gy g1 g2 g3 gv hl5 ⊢
  have ho5:o4.length < o5.length:=by omega
  subst hW
  refine zaa fun W hW => ?_
  simp only [sxZ,z5,z6,z7,z8,j4,j5,j6,j7,j8,j9,x9,y3,y4,y5,y6,reduceCtorEq,↓reduceIte,List.getElem?_set,hlen,gy,gv]
  rw [← hq]
  have c1:=zaP [zeU] zci (jtx y.typ)
  have c1':=za2 [jtx y.rel] (jtx y.typ)
  have c2:=zaP (zbe [zeU] zci (jtx y.typ)) zcp (jtx y.href)
  have c2':=za2 (zbC [jtx y.rel] (jtx y.typ)) (jtx y.href)
  have c3:=zaP (zbe (zbe [zeU] zci (jtx y.typ)) zcp (jtx y.href)) zc3 (jtx y.tmp)
  have c3':=za2 (zbC (zbC [jtx y.rel] (jtx y.typ)) (jtx y.href)) (jtx y.tmp)
  have c4:=zaP (zbe (zbe (zbe [zeU] zci (jtx y.typ)) zcp (jtx y.href)) zc3 (jtx y.tmp)) zdk (zcR y.tit)
  have c4':=za2 (zbC (zbC (zbC [jtx y.rel] (jtx y.typ)) (jtx y.href)) (jtx y.tmp)) (zcR y.tit)
  simp only [List.length_cons,List.length_nil] at c1 c1'
  refine za1 (zhR (.inl rfl) zci y.typ (by simp) (by simp) ⟨rfl,rfl⟩) ?_
  rw [zj4]
  simp only [sxZ,z5,z6,z7,z8,j4,j5,j6,j7,j8,j9,x9,y3,y4,y5,y6,reduceCtorEq,↓reduceIte,List.getElem?_set,hlen,gy]
  refine za1 (zhR (.inl rfl) zcp y.href (by omega) (by omega) ⟨rfl,rfl⟩) ?_
  rw [zj4]
  simp only [sxZ,z5,z6,z7,z8,j4,j5,j6,j7,j8,j9,x9,y3,y4,y5,y6,reduceCtorEq,↓reduceIte,List.getElem?_set,hlen,gy]
  refine za1 (zhR (.inl rfl) zc3 y.tmp (by omega) (by omega) ⟨rfl,rfl⟩) ?_
  rw [zj4]
  obtain ⟨u0,u1,u2,u3,hu⟩:∃ u0 u1 u2 u3,zad (.mk 7 [] (zbe (zbe (zbe [zeU] zci (jtx y.typ)) zcp (jtx y.href)) zc3 (jtx y.tmp)) (zbC (zbC (zbC [jtx y.rel] (jtx y.typ)) (jtx y.href)) (jtx y.tmp)))=[u0,u1,u2,u3]:=⟨_,_,_,_,zag _⟩
  rw [hu]
  simp only [sxZ,z5,z6,z7,z8,j4,j5,j6,j7,j8,j9,x9,y3,y4,y5,y6,reduceCtorEq,↓reduceIte,List.getElem?_set,hlen,gv]
  have hA3:zjn 4 acc (o5.set o4.length (.box 25 [u0,u1,u2,u3])) X:=hA2.set gv (by intro _ _ _ h; cases h) _
  have ky:(o5.set o4.length (.box 25 [u0,u1,u2,u3]))[o.length]? = some (.box 45 [.s y.rel,.s y.typ,.s y.href,.s y.tmp,.row y.tit.length (zaH y.tit),.row y.pro.length (zaH y.pro)]):=by rw [List.getElem?_set_ne (by omega)]; exact gy
  have k1:(o5.set o4.length (.box 25 [u0,u1,u2,u3]))[1]? = some (.box 25 [.i .i64 0,.s [],.nil,.nil]):=by rw [List.getElem?_set_ne (by omega)]; exact g1
  have k2:(o5.set o4.length (.box 25 [u0,u1,u2,u3]))[2]? = some (.box 25 [.i .i64 7,.s [],A3,B3]):=by rw [List.getElem?_set_ne (by omega)]; exact g2
  have k3:(o5.set o4.length (.box 25 [u0,u1,u2,u3]))[3]? = some (.box 25 [.i .i64 6,.s [],.nil,X]):=by rw [List.getElem?_set_ne (by omega)]; exact g3
  have kv5:(o5.set o4.length (.box 25 [u0,u1,u2,u3]))[o4.length]? = some (.box 25 [u0,u1,u2,u3]):=List.getElem?_set_self ho5
  have hl6':(o5.set o4.length (.box 25 [u0,u1,u2,u3])).length=o4.length + 1:=by rw [List.length_set]; exact hl5
  generalize o5.set o4.length (.box 25 [u0,u1,u2,u3])=o6 at hA3 ky k1 k2 k3 kv5 hl6' ⊢
  have ho6:o4.length < o6.length:=by omega
  subst hW
  refine zaa fun W hW => ?_
  simp only [sxZ,z5,z6,z7,z8,j4,j5,j6,j7,j8,j9,x9,y3,y4,y5,y6,reduceCtorEq,↓reduceIte,List.getElem?_set,hlen,ky,kv5]
  rw [← hu]
  refine za1 (zeD (.inl rfl) zdk y.tit (by omega) (by omega) hm.1 ⟨rfl,rfl⟩) ?_
  rw [zj4]
  simp only [sxZ,z5,z6,z7,z8,j4,j5,j6,j7,j8,j9,x9,y3,y4,y5,y6,reduceCtorEq,↓reduceIte,List.getElem?_set,hlen,ky]
  refine za1 (zeD (.inl rfl) zbr y.pro (by omega) (by omega) hm.2 ⟨rfl,rfl⟩) ?_
  rw [zj4]
  have hen:zad (.mk 7 [] (zbe (zbe (zbe (zbe (zbe [zeU] zci (jtx y.typ)) zcp (jtx y.href)) zc3 (jtx y.tmp)) zdk (zcR y.tit)) zbr (zcR y.pro)) (zbC (zbC (zbC (zbC (zbC [jtx y.rel] (jtx y.typ)) (jtx y.href)) (jtx y.tmp)) (zcR y.tit)) (zcR y.pro)))=zad (zbH y):=rfl
  rw [hen]
  obtain ⟨w0,w1,w2,w3,hw⟩:∃ w0 w1 w2 w3,zad (zbH y)=[w0,w1,w2,w3]:=⟨_,_,_,_,zag _⟩
  rw [hw]
  simp only [sxZ,z5,z6,z7,z8,j4,j5,j6,j7,j8,j9,x9,y3,y4,y5,y6,reduceCtorEq,↓reduceIte,List.getElem?_set,hlen,kv5]
  have hA4:zjn 4 acc (o6.set o4.length (.box 25 [w0,w1,w2,w3])) X:=hA3.set kv5 (by intro _ _ _ h; cases h) _
  have m1:(o6.set o4.length (.box 25 [w0,w1,w2,w3]))[1]? = some (.box 25 [.i .i64 0,.s [],.nil,.nil]):=by rw [List.getElem?_set_ne (by omega)]; exact k1
  have m2:(o6.set o4.length (.box 25 [w0,w1,w2,w3]))[2]? = some (.box 25 [.i .i64 7,.s [],A3,B3]):=by rw [List.getElem?_set_ne (by omega)]; exact k2
  have m3:(o6.set o4.length (.box 25 [w0,w1,w2,w3]))[3]? = some (.box 25 [.i .i64 6,.s [],.nil,X]):=by rw [List.getElem?_set_ne (by omega)]; exact k3
  have mv:(o6.set o4.length (.box 25 [w0,w1,w2,w3]))[o4.length]? = some (.box 25 [w0,w1,w2,w3]):=List.getElem?_set_self ho6
  have hl7:(o6.set o4.length (.box 25 [w0,w1,w2,w3])).length=o4.length + 1:=by rw [List.length_set]; exact hl6'
  generalize o6.set o4.length (.box 25 [w0,w1,w2,w3])=o7 at hA4 m1 m2 m3 mv hl7 ⊢
  have ho7:3 < o7.length:=by omega
  subst hW
  rcases hA4 with ⟨h0,rfl⟩ | ⟨r,g,rfl,hr0,hr⟩
  ·have m3':∀ z,(o7 ++ [z])[3]? = some (.box 25 [.i .i64 6,.s [],.nil,.nil]):=fun z => by rw [List.getElem?_append_left ho7]; exact m3
   simp only [sxZ,z5,z6,z7,z8,j4,j5,j6,j7,j8,j9,x9,y3,y4,y5,y6,reduceCtorEq,↓reduceIte,List.getElem?_set,hlen,t4,m3,mv,m3']
   subst hV
   simp only [sxZ,z5,z6,z7,z8,j4,j5,j6,j7,j8,j9,x9,y3,y4,y5,y6,reduceCtorEq,↓reduceIte,List.getElem?_set,hlen,t2,t3,t4,t32,t33,t34]
   refine ⟨by omega,lk.length - (i + 1),by omega,i + 1,by omega,rfl,by rw [List.getElem?_append_left (by omega)]; exact m1,by rw [List.getElem?_append_left (by omega)]; exact m2,⟨.orow o7.length 0,by rw [if_pos (by omega)],?_⟩,rfl⟩
   rw [htk,h0]
   refine .inr ⟨o7.length,0,rfl,by omega,?_⟩
   rw [List.getElem?_set_ne (by omega),gn1,List.nil_append,zap,zal,hw]; rfl
  ·have hrl:=(List.getElem?_eq_some_iff.1 hr).1
   have hne:¬ r=3:=by omega
   simp only [sxZ,z5,z6,z7,z8,j4,j5,j6,j7,j8,j9,x9,y3,y4,y5,y6,reduceCtorEq,↓reduceIte,List.getElem?_set,hlen,t4,m3,mv,hr,hne]
   refine ⟨⟨by omega,by omega⟩,?_⟩
   subst hV
   simp only [sxZ,z5,z6,z7,z8,j4,j5,j6,j7,j8,j9,x9,y3,y4,y5,y6,reduceCtorEq,↓reduceIte,List.getElem?_set,hlen,t2,t3,t4,t32,t33,t34]
   refine ⟨by omega,lk.length - (i + 1),by omega,i + 1,by omega,rfl,?_,?_,⟨.orow r (g + 1),?_,?_⟩,rfl⟩
   ·rw [if_neg (by omega)]; exact m1
   ·rw [if_neg (by omega)]; exact m2
   ·rw [if_pos ho7]
   ·rw [htk]
    refine .inr ⟨r,g + 1,rfl,hr0,?_⟩
    rw [List.getElem?_set_ne (by omega),List.getElem?_set_self hrl,List.length_append,zaO,zap,zal,hw]; rfl
 have hn':i=lk.length:=by omega
 rw [hn',List.take_of_length_le (Nat.le_refl _)] at hA
 simp only [sxZ,z5,z6,z7,z8,j4,j5,j6,j7,j8,j9,x9,y3,y4,y5,y6,reduceCtorEq,↓reduceIte,List.getElem?_set,hlen,t32,t33,t34,hlt]
 subst hW
 simp only [sxZ,z5,z6,z7,z8,j4,j5,j6,j7,j8,j9,x9,y3,y4,y5,y6,reduceCtorEq,↓reduceIte,List.getElem?_set,hlen]
 subst hZ
 rcases hA with ⟨h0,_⟩ | ⟨r,g,rfl,hr0,hr⟩
 ·exact absurd (List.map_eq_nil_iff.1 h0) hn
 simp only [sxZ,z5,z6,z7,z8,j4,j5,j6,j7,j8,j9,x9,y3,y4,y5,y6,reduceCtorEq,↓reduceIte,List.getElem?_set,hlen,t3,t4,e2,e3]
 refine zaj (zdg (b:=r) hr ?_)
 simp only [zg7,List.map_cons,List.map_nil,zep pA3,zep pB3]
 simp only [zaY,and_self,if_true]
 refine zmA rfl rfl (zek hX3 zbG (jar (lk.map zbH)) (by omega) (by omega) ?_)
 have f1:(zcN o r g (lk.map zbH).length (zab (lk.map zbH)))[1]? = some (.box 25 [.i .i64 0,.s [],.nil,.nil]):=by
  unfold zcN
  rw [List.getElem?_set_ne (by omega),List.getElem?_map,e1]; rfl
 have hl1:1 < (zcN o r g (lk.map zbH).length (zab (lk.map zbH))).length:=by rw [zcM]; omega
 generalize zcN o r g (lk.map zbH).length (zab (lk.map zbH))=o5 at f1 hl1 ⊢
 have hX4:=ze2 zbG (jar (lk.map zbH)) hX3
 unfold smX at hX4
 rw [if_pos (by unfold zcv; show (_ || decide (0 < (lk.map zbH).length))=true; rw [List.length_map,decide_eq_true hpos,Bool.or_true])] at hX4
 have hk:=hk _ hX4
 rw [zhu] at hk ⊢
 simp only [sxZ,z5,z6,z7,z8,j4,j5,j6,j7,j8,j9,x9,y3,y4,y5,y6,reduceCtorEq,↓reduceIte,List.getElem?_set,hlen,t2,f1,hl1,zaD,zaB]
 rw [List.length_append,List.length_append] at hk
 exact hk
end
end
end Go.Proofs.Ytceenajkieomoaa
namespace Go.Proofs.Ytceenajkieomoaa
open Go.RowKit Sx
section
attribute [local irreducible] run
theorem zgM {ks:List (List UInt8)} {its:List JV} {key:List UInt8} (h:key ∉ ks):zby (job ks its) key=(jvZ,false) :=
 getJ_no fun j hj => .inl fun e => h (List.mem_of_getElem? e)
theorem zf8 {ks:List (List UInt8)} {its:List JV} {key:List UInt8} {v:JV} (hl:ks.length=its.length):(zbe ks key v).length=(zbC its v).length:=by
 unfold zbe zbC; split <;> simp [hl]
theorem zbA {ks:List (List UInt8)} {k key:List UInt8} {v:JV} (h:key ∉ ks) (hn:k ≠ key):key ∉ zbe ks k v:=by
 unfold zbe
 split
 ·intro h2
  rcases List.mem_append.1 h2 with h2 | h2
  ·exact h h2
  ·rw [List.mem_singleton] at h2; exact hn h2.symm
 ·exact h
end
end Go.Proofs.Ytceenajkieomoaa
namespace Go.Proofs.Ytceenajkieomoaa
open Go.RowKit Sx
section
attribute [local irreducible] run
def PrOk (null:Bool) (p:PrP):Prop:=p.nul=true → null=true ∧ p.val=[]
theorem mkP_ok (null:Bool) (z:List UInt8 × JV):PrOk null (mkP null z):=by
 intro h
 unfold mkP at h ⊢
 dsimp only at h ⊢
 rw [if_pos h]
 rw [Bool.and_eq_true] at h
 exact ⟨h.1,rfl⟩
end
end Go.Proofs.Ytceenajkieomoaa
namespace Go.Proofs.Ytceenajkieomoaa
open Go.RowKit Sx
section
attribute [local irreducible] run
theorem jok_leaf {k:Int} {t:List UInt8} (hk:(Lit.int .i64 k).wf=true) (ht:t.length ≤ 1048576):JOk (.mk k t [] []):=by
 rw [JOk]; exact ⟨hk,by omega,by simp,by simp,by simp,by rw [zcX]; trivial⟩
theorem ziF:∀ {a b:List JV},zcX a → zcX b → zcX (a ++ b)
 | [],b,_,hb => hb
 | v :: l,b,ha,hb => by
  rw [zcX] at ha
  rw [List.cons_append,zcX]
  exact ⟨ha.1,ziF ha.2 hb⟩
end
end Go.Proofs.Ytceenajkieomoaa
namespace Go.Proofs.Ytceenajkieomoaa
open Go.RowKit Sx
section
attribute [local irreducible] run
def PrF (null:Bool) (p:PrP):Prop:=PrOk null p ∧ p.name.length ≤ 140737488351232 ∧ p.val.length ≤ 140737488351232
def PsF (null:Bool) (l:List PrP):Prop:=l.length ≤ 64 ∧ ∀ p ∈ l,PrF null p
structure LkF (x:LkP):Prop where
 rel:x.rel.length ≤ 140737488351232
 typ:x.typ.length ≤ 140737488351232
 href:x.href.length ≤ 140737488351232
 tmp:x.tmp.length ≤ 140737488351232
 tit:PsF false x.tit
 pro:PsF true x.pro
structure JrF (subj:List UInt8) (al:List (List UInt8)) (pr:List PrP) (lk:List LkP):Prop where
 sl:subj.length ≤ 140737488351232
 aln:al.length ≤ 64
 alb:∀ a ∈ al,a.length ≤ 140737488351232
 prf:PsF true pr
 lkn:lk.length ≤ 64
 lkf:∀ x ∈ lk,LkF x
theorem PsF.ok {null:Bool} {l:List PrP} (h:PsF null l):∀ p ∈ l,PrOk null p:=fun p hp => (h.2 p hp).1
/-! what a decoder gives is as it should be, if there was no error -/
theorem memE_err {v:JV} {e kind:Int} {name:List UInt8} (h:e ≠ 0):zaW v e name kind=(e,jvZ,false):=by
 unfold zaW; rw [if_pos h]
theorem zkV {a:Int} {b:Int} (hb:b ≠ 0):orE a b ≠ 0:=by
 unfold orE; split <;> assumption
theorem zgN {v:JV} {key:List UInt8} (h:(zby v key).2=false):(zby v key).1=jvZ:=by
 unfold zby at h ⊢
 split
 ·rename_i c
  rw [if_pos c] at h
  split
  ·rename_i x hx; rw [hx] at h; cases h
  ·rfl
 ·rfl
theorem zgC {v:JV} {e kind:Int} {name:List UInt8} (h:(zaW v e name kind).1=0):e=0 ∧ ((zaW v e name kind).2.2=true ∨ (zaW v e name kind).2.1=jvZ):=by
 by_cases he:e=0
 ·refine ⟨he,?_⟩
  unfold zaW at h ⊢
  rw [if_neg (fun c => c he)] at h ⊢
  by_cases c:(zby v name).2=true ∧ (zby v name).1.kind ≠ kind
  ·rw [if_pos c] at h; exact absurd (show (160:Int)=0 from h) (by decide)
  ·rw [if_neg c]
   by_cases c2:(zby v name).2=true
   ·left
    have c3:(zby v name).1.kind=kind:=by
     by_cases c4:(zby v name).1.kind=kind
     ·exact c4
     ·exact absurd ⟨c2,c4⟩ c
    show ((zby v name).2 && decide _)=true
    rw [c2,decide_eq_true c3]; rfl
   ·right; exact zgN (by simpa using c2)
 ·rw [memE_err he] at h; exact absurd h he
theorem ziK {v:JV} {e:Int} {name:List UInt8} {most:Nat} (h:(itE v e name most).1=0):e=0 ∧ (itE v e name most).2.length ≤ most:=by
 unfold itE at h ⊢
 by_cases c:(zaW v e name 6).2.2=true ∧ most < (zaW v e name 6).2.1.items.length
 ·rw [if_pos c] at h; exact absurd (show (161:Int)=0 from h) (by decide)
 ·rw [if_neg c] at h ⊢
  obtain ⟨h1,h2⟩:=zgC h
  refine ⟨h1,?_⟩
  rcases h2 with h2 | h2
  ·show (zaW v e name 6).2.1.items.length ≤ most
   rcases Nat.lt_or_ge most (zaW v e name 6).2.1.items.length with h3 | h3
   ·exact absurd ⟨h2,h3⟩ c
   ·exact h3
  ·show (zaW v e name 6).2.1.items.length ≤ most
   rw [h2]; exact Nat.zero_le _
theorem JOk.txt {v:JV} (h:JOk v):v.text.length ≤ 140737488351232:=h.lens.2.2.1
theorem zlR {v:JV} (hv:JOk v) (e:Int) (name:List UInt8) (most:Nat):∀ y ∈ (itE v e name most).2,JOk y:=by
 unfold itE
 split
 ·intro y hy; cases hy
 ·intro y hy
  obtain ⟨i,hi,rfl⟩:=List.mem_iff_getElem.1 hy
  exact (zbV hv e 6 name).its hi
theorem tsE_zero {v:JV} {e:Int} {name:List UInt8} (hv:JOk v) (h:(tsE v e name).1=0):e=0 ∧ (tsE v e name).2.length ≤ 64 ∧ ∀ a ∈ (tsE v e name).2,a.length ≤ 140737488351232:=by
 unfold tsE at h ⊢
 split at h
 ·rename_i c
  rw [if_pos c]
  obtain ⟨h1,h2⟩:=ziK h
  refine ⟨h1,by show (List.map _ _).length ≤ _; rw [List.length_map]; exact h2,fun a ha => ?_⟩
  obtain ⟨y,hy,rfl⟩:=List.mem_map.1 ha
  exact (zlR hv e name 64 y hy).txt
 ·exact absurd h (zkV (by decide))
theorem zfM {v:JV} {e:Int} {name:List UInt8} {null:Bool} (hv:JOk v) (h:(prE v e name null).1=0):e=0 ∧ PsF null (prE v e name null).2:=by
 have hm:=zbV hv e 7 name
 unfold prE at h ⊢
 by_cases c:(zaW v e name 7).2.2=true ∧ 64 < min (zaW v e name 7).2.1.keys.length (zaW v e name 7).2.1.items.length
 ·rw [if_pos c] at h; exact absurd (show (161:Int)=0 from h) (by decide)
 rw [if_neg c] at h ⊢
 split at h
 ·rename_i c2
  rw [if_pos c2]
  obtain ⟨h1,h2⟩:=zgC h
  refine ⟨h1,?_,fun p hp => ?_⟩
  ·show (List.map _ _).length ≤ 64
   rw [List.length_map,List.length_zip]
   rcases h2 with h2 | h2
   ·rcases Nat.lt_or_ge 64 (min (zaW v e name 7).2.1.keys.length (zaW v e name 7).2.1.items.length) with h3 | h3
    ·exact absurd ⟨h2,h3⟩ c
    ·exact h3
   ·rw [h2]; exact Nat.zero_le _
  ·obtain ⟨z,hz,rfl⟩:=List.mem_map.1 hp
   have hz1:=(List.of_mem_zip (a:=z.1) (b:=z.2) hz)
   refine ⟨mkP_ok null z,hm.lens.2.2.2 _ hz1.1,?_⟩
   show (if _ then [] else z.2.text).length ≤ _
   split
   ·exact Nat.zero_le _
   ·obtain ⟨i,hi,e⟩:=List.mem_iff_getElem.1 hz1.2
    rw [← e]; exact (hm.its hi).txt
 ·exact absurd h (zkV (by decide))
theorem lk_fit {y:JV} (hv:JOk y) (h:lk6 y=0):LkF (lkV y):=by
 obtain ⟨h5,p5⟩:=zfM (v:=y) (e:=lk5 y) (name:=zbr) (null:=true) hv h
 obtain ⟨h4,p4⟩:=zfM (v:=y) (e:=lk4 y) (name:=zdk) (null:=false) hv h5
 exact ⟨(zbV hv _ 5 _).txt,(zbV hv _ 5 _).txt,(zbV hv _ 5 _).txt,(zbV hv _ 5 _).txt,p4,p5⟩
theorem ziQ:∀ {l:List JV},fiE l=0 → ∀ y ∈ l,lk6 y=0
 | [],_,y,hy => by cases hy
 | a :: l,h,y,hy => by
  rw [fiE] at h
  by_cases c:lk6 a=0
  ·rw [if_pos c] at h
   rcases List.mem_cons.1 hy with rfl | hy
   ·exact c
   ·exact ziQ h y hy
  ·rw [if_neg c] at h; exact absurd h c
theorem lsE_zero {v:JV} {e:Int} {name:List UInt8} (hv:JOk v) (h:(lsE v e name).1=0):e=0 ∧ (lsE v e name).2.length ≤ 64 ∧ ∀ x ∈ (lsE v e name).2,LkF x:=by
 unfold lsE at h ⊢
 by_cases c:fiE (itE v e name 64).2=0
 ·rw [if_pos c] at h ⊢
  obtain ⟨h1,h2⟩:=ziK h
  refine ⟨h1,by show (List.map _ _).length ≤ _; rw [List.length_map]; exact h2,fun x hx => ?_⟩
  obtain ⟨y,hy,rfl⟩:=List.mem_map.1 hx
  exact lk_fit (zlR hv e name 64 y hy) (ziQ c y hy)
 ·rw [if_neg c] at h; exact absurd h (zkV c)
def jdF (v:JV):Prop:=JrF (zaW v (shE v) zbP 5).2.1.text (tsE v (jd1 v) zb3).2 (prE v (jd2 v) zbr true).2 (lsE v (jd3 v) zbG).2
theorem jd_fit {v:JV} (hv:JOk v) (h:jd4 v=0):jdF v:=by
 obtain ⟨h3,a3,b3⟩:=lsE_zero (v:=v) (e:=jd3 v) (name:=zbG) hv h
 obtain ⟨h2,a2⟩:=zfM (v:=v) (e:=jd2 v) (name:=zbr) (null:=true) hv h3
 obtain ⟨h1,a1,b1⟩:=tsE_zero (v:=v) (e:=jd1 v) (name:=zb3) hv h2
 exact ⟨(zbV hv _ 5 _).txt,a1,b1,a2,a3,b3⟩
/-! the value that was made is a value that may be decoded -/
structure ObF (ks:List (List UInt8)) (its:List JV) (n:Nat):Prop where
 kl:ks.length ≤ n
 il:its.length ≤ n
 kb:∀ k ∈ ks,k.length ≤ 140737488351232
 ok:zcX its
 bd:zcY its
theorem ObF.nil:ObF [] [] 0:=⟨Nat.le_refl 0,Nat.le_refl 0,by simp,by rw [zcX]; trivial,by rw [zcY]; trivial⟩
theorem ObF.snoc {ks:List (List UInt8)} {its:List JV} {n:Nat} {key:List UInt8} {v:JV} (h:ObF ks its n) (hk:key.length ≤ 140737488351232) (hv:JOk v ∧ JBd v):ObF (ks ++ [key]) (its ++ [v]) (n + 1) :=
 ⟨by have:=h.kl; simp; exact this,by have:=h.il; simp; exact this,fun k hm => by
  rcases List.mem_append.1 hm with hm | hm
  ·exact h.kb k hm
  ·rw [List.mem_singleton] at hm; subst hm; exact hk,ziF h.ok (by rw [zcX,zcX]; exact ⟨hv.1,trivial⟩),ziI h.bd (by rw [zcY,zcY]; exact ⟨hv.2,trivial⟩)⟩
theorem ObF.add {ks:List (List UInt8)} {its:List JV} {n:Nat} {key:List UInt8} {v:JV} (h:ObF ks its n) (hk:key.length ≤ 140737488351232) (hv:JOk v ∧ JBd v):ObF (zbe ks key v) (zbC its v) (n + 1):=by
 unfold zbe zbC
 by_cases c:zcv v=true
 ·rw [if_pos c,if_pos c]; exact h.snoc hk hv
 ·rw [if_neg c,if_neg c]; exact ⟨Nat.le_succ_of_le h.kl,Nat.le_succ_of_le h.il,h.kb,h.ok,h.bd⟩
theorem ObF.val {ks:List (List UInt8)} {its:List JV} {n:Nat} (h:ObF ks its n) (hn:n ≤ 1000000):JOk (job ks its) ∧ JBd (job ks its):=by
 have h1:=h.kl
 have h2:=h.il
 unfold job
 rw [JOk,JBd]
 exact ⟨⟨by decide,by simp,by omega,h.kb,by omega,h.ok⟩,by omega,by omega,h.bd⟩
theorem zeF {s:List UInt8} (h:s.length ≤ 140737488351232):JOk (jtx s) ∧ JBd (jtx s):=by
 unfold jtx
 rw [JOk]; exact ⟨⟨by decide,h,by simp,by simp,by simp,by rw [zcX]; trivial⟩,ziJ _ _⟩
theorem zfU:∀ {l:List JV},(∀ y ∈ l,JOk y ∧ JBd y) → zcX l ∧ zcY l
 | [],_ => by rw [zcX,zcY]; exact ⟨trivial,trivial⟩
 | v :: l,h => by
  rw [zcX,zcY]
  have h1:=h v (List.mem_cons_self ..)
  have h2:=zfU fun y hy => h y (List.mem_cons_of_mem _ hy)
  exact ⟨⟨h1.1,h2.1⟩,h1.2,h2.2⟩
theorem jar_ok {l:List JV} (hl:l.length ≤ 1000000) (h:∀ y ∈ l,JOk y ∧ JBd y):JOk (jar l) ∧ JBd (jar l):=by
 have h2:=zfU h
 unfold jar
 rw [JOk,JBd]
 exact ⟨⟨by decide,by simp,by simp,by simp,by omega,h2.1⟩,by simp,by omega,h2.2⟩
def PsB (l:List PrP):Prop:=l.length ≤ 1000000 ∧ ∀ p ∈ l,p.name.length ≤ 140737488351232 ∧ p.val.length ≤ 140737488351232
theorem PsF.b {null:Bool} {l:List PrP} (h:PsF null l):PsB l:=⟨Nat.le_trans h.1 (by decide),fun p hp => (h.2 p hp).2⟩
structure LkB (x:LkP):Prop where
 rel:x.rel.length ≤ 140737488351232
 typ:x.typ.length ≤ 140737488351232
 href:x.href.length ≤ 140737488351232
 tmp:x.tmp.length ≤ 140737488351232
 tit:PsB x.tit
 pro:PsB x.pro
theorem LkF.b {x:LkP} (h:LkF x):LkB x:=⟨h.rel,h.typ,h.href,h.tmp,h.tit.b,h.pro.b⟩
structure JrBd (subj:List UInt8) (al:List (List UInt8)) (pr:List PrP) (lk:List LkP):Prop where
 sl:subj.length ≤ 140737488351232
 aln:al.length ≤ 1000000
 alb:∀ a ∈ al,a.length ≤ 140737488351232
 prf:PsB pr
 lkn:lk.length ≤ 1000000
 lkf:∀ x ∈ lk,LkB x
theorem JrF.b {subj:List UInt8} {al:List (List UInt8)} {pr:List PrP} {lk:List LkP} (h:JrF subj al pr lk):JrBd subj al pr lk :=
 ⟨h.sl,Nat.le_trans h.aln (by decide),h.alb,h.prf.b,Nat.le_trans h.lkn (by decide),fun x hx => (h.lkf x hx).b⟩
theorem zhz {l:List PrP} (h:PsB l):JOk (zcR l) ∧ JBd (zcR l):=by
 have h1:=h.1
 have h2:∀ y ∈ l.map enP,JOk y ∧ JBd y:=fun y hy => by
  obtain ⟨p,hp,rfl⟩:=List.mem_map.1 hy
  unfold enP
  split
  ·exact ⟨jok_leaf (by decide) (Nat.zero_le _),ziJ _ _⟩
  ·exact zeF (h.2 p hp).2
 have h3:=zfU h2
 exact ObF.val (n:=1000000) ⟨by rw [List.length_map]; exact h1,by rw [List.length_map]; exact h1,fun k hk => by obtain ⟨p,hp,rfl⟩:=List.mem_map.1 hk; exact (h.2 p hp).1,h3.1,h3.2⟩ (by decide)
theorem enLk_ok {x:LkP} (h:LkB x):JOk (zbH x) ∧ JBd (zbH x):=by
 unfold zbH lkK lkI
 exact (((((ObF.nil.snoc (key:=zeU) (by decide) (zeF h.rel)).add (key:=zci) (by decide) (zeF h.typ)).add (key:=zcp) (by decide) (zeF h.href)).add (key:=zc3) (by decide) (zeF h.tmp)).add (key:=zdk) (by decide) (zhz h.tit)).add (key:=zbr) (by decide) (zhz h.pro) |>.val (by decide)
theorem enJ_ok {subj:List UInt8} {al:List (List UInt8)} {pr:List PrP} {lk:List LkP} (h:JrBd subj al pr lk):JOk (enJ subj al pr lk) ∧ JBd (enJ subj al pr lk):=by
 have h1:=h.aln
 have h2:=h.lkn
 unfold enJ jeK jeI
 exact (((ObF.nil.add (key:=zbP) (by decide) (zeF h.sl)).add (key:=zb3) (by decide) (jar_ok (by rw [List.length_map]; omega) fun y hy => by obtain ⟨a,ha,rfl⟩:=List.mem_map.1 hy; exact zeF (h.alb a ha))).add (key:=zbr) (by decide) (zhz h.prf)).add (key:=zbG) (by decide) (jar_ok (by rw [List.length_map]; omega) fun y hy => by obtain ⟨x,hx,rfl⟩:=List.mem_map.1 hy; exact enLk_ok (h.lkf x hx)) |>.val (by decide)
end
end Go.Proofs.Ytceenajkieomoaa
namespace Go.Proofs.Ytceenajkieomoaa
open Nat renaming reduceAdd → z5, reduceSub → z6, reduceLeDiff → z7, reduceLT → z8, reduceMul → j4, reduceEqDiff → j5
open Int renaming reduceToNat → j6, reduceAdd → j7, reduceSub → j8, reduceMul → j9, reduceNeg → x9, reduceLT → y3, reduceLE → y4, reduceEq → y5, reduceNe → y6
open Go.RowKit Sx
section
attribute [local irreducible] run
def vB14 (X Y:AV):OB:=.box 25 [.i .i64 7,.s [],X,Y]
section
variable [Tabs Try.prog] {objs:List OB} {K:List OB → AV → Prop} {L:List (Nat × OB)}
theorem zkA {X Y:AV} {R1 R2:List (Nat × OB)} (ks:List (List UInt8)) (its:List JV) (key:List UInt8) (hl:its.length=ks.length) (hlen0:ks.length ≤ 10000000) (hX:SlO 9 1 ks.length (ks.map .s) X R1) (hY:SlO 25 4 its.length (zab its) Y R2) (hO:zaF (R1 ++ (R2 ++ L)) objs)
  (h1:key ∈ ks → ∀ o w,zaF (R1 ++ (R2 ++ L)) o → K o (.tup [.agg (zad w),.b true])) (h2:¬ key ∈ ks → ∀ o,zaF (R1 ++ (R2 ++ L)) o → K o (.tup [.agg [.i .i64 0,.s [],.nil,.nil],.b false])):zae Try.prog 59 [.agg [.i .i64 7,.s [],X,Y],.s key] objs K:=by
 refine zbj is_ref14_Get fun C _ => ?_
 rw [c_ref14_Get]
 have hO2:=(hO.new (vB14 X Y)).new zvB
 unfold vB14 zvB at hO2
 refine zaa fun Z hZ => ?_
 have flatX:X.flat=true:=by rcases hX with ⟨_,_,rfl,_⟩ | ⟨_,_,rfl,_⟩ <;> rfl
 have flatY:Y.flat=true:=by rcases hY with ⟨_,_,rfl,_⟩ | ⟨_,_,rfl,_⟩ <;> rfl
 have flatV:(AV.agg [.i .i64 7,.s [],X,Y]).flat=true:=by
  rcases hX with ⟨_,_,rfl,_⟩ | ⟨_,_,rfl,_⟩ <;> rcases hY with ⟨_,_,rfl,_⟩ | ⟨_,_,rfl,_⟩ <;> rfl
 simp only [sxZ,z5,z6,z7,z8,j4,j5,j6,j7,j8,j9,x9,y3,y4,y5,y6,reduceCtorEq,↓reduceIte,flatV]
 have elen:(objs ++ [OB.box 25 [.i .i64 7,.s [],X,Y]]).length=objs.length + 1:=by simp
 rw [elen] at hO2
 generalize objs.length=qv at hO2 ⊢
 generalize objs ++ [OB.box 25 [.i .i64 7,.s [],X,Y]] ++ [OB.box 25 [.i .i64 0,.s [],.nil,.nil]]=o at hO2 ⊢
 have e0:=hO2.get (i:=qv) (x:=.box 25 [.i .i64 7,.s [],X,Y]) (by simp)
 have e1:=hO2.get (i:=qv + 1) (x:=.box 25 [.i .i64 0,.s [],.nil,.nil]) (by simp)
 have gs:∀ x,(o.set (qv + 1) x)[qv + 1]? = some x:=fun x => List.getElem?_set_self (hO2.lt (i:=qv + 1) (x:=.box 25 [.i .i64 0,.s [],.nil,.nil]) (by simp))
 have fin:∀ x,zaF (R1 ++ (R2 ++ L)) (o.set (qv + 1) x):=fun x => (zaF.set (A:=[]) x hO2).sub ((List.sublist_cons_self _ _).trans (List.sublist_cons_self _ _))
 subst hZ
 refine zaa fun Z hZ => ?_
 simp only [sxZ,z5,z6,z7,z8,j4,j5,j6,j7,j8,j9,x9,y3,y4,y5,y6,reduceCtorEq,↓reduceIte,e0,decide_true,Bool.not_true]
 subst hZ
 refine zaa fun Z hZ => ?_
 refine zaa fun W hW => ?_
 refine zaA (fun o' tm => o=o' ∧ tm.length=38 ∧ tm[1]? = some (.s key) ∧ tm[2]? = some (.p qv 0) ∧ tm[4]? = some (.p (qv + 1) 0) ∧ tm[13]? = some (.i .i64 (ks.length:Int)) ∧ tm[14]? = some (.i .i64 0)) ?_ ?_
 ·rcases id hX with ⟨z1,z2,rfl,_⟩ | ⟨b1,g1,rfl,rfl⟩
  ·simp only [sxZ,z5,z6,z7,z8,j4,j5,j6,j7,j8,j9,x9,y3,y4,y5,y6,reduceCtorEq,↓reduceIte,zac,e0,z1,Int.cast_ofNat_Int,and_self]
  ·have eb1:=hO2.get (i:=b1) (x:=.orow 9 1 g1 ks.length (ks.map .s)) (by simp)
   simp only [sxZ,z5,z6,z7,z8,j4,j5,j6,j7,j8,j9,x9,y3,y4,y5,y6,reduceCtorEq,↓reduceIte,zac,e0,eb1,and_self]
 rintro _ tm ⟨rfl,hlen,t1,t2,t4,t13,t14⟩
 subst hW
 rw [zaw]
 refine zax (fun n o' tm => ∃ i:Nat,i ≤ ks.length ∧ n=ks.length - i ∧ o=o' ∧ (∀ j,j < i → ks[j]? ≠ some key) ∧ tm.length=38 ∧ tm[1]? = some (.s key) ∧ tm[2]? = some (.p qv 0) ∧ tm[4]? = some (.p (qv + 1) 0) ∧ tm[13]? = some (.i .i64 (ks.length:Int)) ∧ tm[14]? = some (.i .i64 (i:Int))) ks.length ⟨0,Nat.zero_le _,rfl,rfl,fun j h => by omega,hlen,t1,t2,t4,t13,t14⟩ ?_
 clear hlen t1 t2 t4 t13 t14
 rintro n _ tm ⟨i,hi,rfl,rfl,hall,hlen,t1,t2,t4,t13,t14⟩
 refine zaa fun W hW => ?_
 by_cases hlt:(i:Int) < (ks.length:Int)
 ·have hi':i < ks.length:=by omega
  have hi2:i < its.length:=by omega
  rcases hX with ⟨z1,_⟩ | ⟨b1,g1,rfl,rfl⟩
  ·omega
  rcases hY with ⟨z1,_⟩ | ⟨b2,g2,rfl,rfl⟩
  ·omega
  have eb1:=hO2.get (i:=b1) (x:=.orow 9 1 g1 ks.length (ks.map .s)) (by simp)
  have eb2:=hO2.get (i:=b2) (x:=.orow 25 4 g2 its.length (zab its)) (by simp)
  have kv:(ks.map AV.s)[i * 1]? = some (.s ks[i]):=by rw [Nat.mul_one,List.getElem?_map,List.getElem?_eq_getElem hi']; rfl
  have kv2:ks[i]? = some ks[i]:=List.getElem?_eq_getElem hi'
  have kv3:ks[i] ∈ ks:=List.getElem_mem hi'
  generalize ks[i]=x at kv kv2 kv3
  simp only [sxZ,z5,z6,z7,z8,j4,j5,j6,j7,j8,j9,x9,y3,y4,y5,y6,reduceCtorEq,↓reduceIte,List.getElem?_set,hlen,t1,t2,t4,t13,t14,hlt]
  subst hW
  refine zaa fun W hW => ?_
  simp only [sxZ,z5,z6,z7,z8,j4,j5,j6,j7,j8,j9,x9,y3,y4,y5,y6,reduceCtorEq,↓reduceIte,List.getElem?_set,hlen]
  subst hW
  refine zaa fun V hV => ?_
  rw [zaw]
  refine zaa fun W hW => ?_
  simp only [sxZ,z5,z6,z7,z8,j4,j5,j6,j7,j8,j9,x9,y3,y4,y5,y6,reduceCtorEq,↓reduceIte,List.getElem?_set,hlen,t14]
  subst hW
  refine zaa fun W hW => ?_
  by_cases c2:x=key
  ·have hlt2:(i:Int) < (its.length:Int):=by omega
   have jv:=zeI hi2
   have jvl:=zat its
   have hw:=fun o ho => h1 (by rw [← c2]; exact kv3) o its[i] ho
   have hq:=zag its[i]
   rw [hq] at jv
   simp only [sxZ,z5,z6,z7,z8,j4,j5,j6,j7,j8,j9,x9,y3,y4,y5,y6,reduceCtorEq,↓reduceIte,List.getElem?_set,hlen,t1,t2,e0,eb1,eb2,kv,List.length_map,c2,hlt2,decide_true]
   refine ⟨⟨by omega,by omega⟩,?_⟩
   subst hW
   simp only [sxZ,z5,z6,z7,z8,j4,j5,j6,j7,j8,j9,x9,y3,y4,y5,y6,reduceCtorEq,↓reduceIte,List.getElem?_set,hlen,t1,t2,t4,e0,e1,eb2,jv,gs]
   refine ⟨⟨by omega,by omega⟩,by omega,?_⟩
   rw [← hq]
   exact hw _ (fin _)
  ·simp only [sxZ,z5,z6,z7,z8,j4,j5,j6,j7,j8,j9,x9,y3,y4,y5,y6,reduceCtorEq,↓reduceIte,List.getElem?_set,hlen,t1,t2,e0,eb1,kv,List.length_map,c2,decide_false]
   refine ⟨⟨by omega,by omega⟩,?_⟩
   subst hW
   simp only [sxZ,z5,z6,z7,z8,j4,j5,j6,j7,j8,j9,x9,y3,y4,y5,y6,reduceCtorEq,↓reduceIte,List.getElem?_set,hlen,t1,t2,t4]
   subst hV
   simp only [sxZ,z5,z6,z7,z8,j4,j5,j6,j7,j8,j9,x9,y3,y4,y5,y6,reduceCtorEq,↓reduceIte,List.getElem?_set,hlen,t1,t2,t4,t13,t14]
   refine ⟨by omega,ks.length - (i + 1),by omega,i + 1,by omega,rfl,fun j hj => ?_,rfl⟩
   by_cases e:j=i
   ·subst e
    rw [kv2]; intro h; injection h with h; exact c2 h
   ·exact hall j (by omega)
 simp only [sxZ,z5,z6,z7,z8,j4,j5,j6,j7,j8,j9,x9,y3,y4,y5,y6,reduceCtorEq,↓reduceIte,List.getElem?_set,hlen,t1,t2,t4,t13,t14,hlt]
 subst hW
 subst hZ
 simp only [sxZ,z5,z6,z7,z8,j4,j5,j6,j7,j8,j9,x9,y3,y4,y5,y6,reduceCtorEq,↓reduceIte,List.getElem?_set,hlen,t1,t2,t4,t13,t14,hlt,e1,gs]
 refine h2 (fun h => ?_) _ (fin _)
 obtain ⟨j,hj⟩:=List.mem_iff_getElem?.1 h
 exact hall j (by have:=(List.getElem?_eq_some_iff.1 hj).1; omega) hj
end
end
section
attribute [local irreducible] run
theorem zhG {i:Nat} {T T':Nat} {cs cs':List AV} {L:List (Nat × OB)} (h:zaE ((i,.box T cs) :: L)) (hp:zam cs'=true):zaE ((i,.box T' cs') :: L):=by
 intro y hy b g n xs hb
 rcases List.mem_cons.1 hy with rfl | hy
 ·show OB.box T' _=_; rw [zc4 hp]
 ·exact h y (List.mem_cons_of_mem _ hy) b g n xs fun y hy => by
   rcases List.mem_cons.1 hy with rfl | hy
   ·exact hb (i,.box T' cs') (by simp)
   ·exact hb y (List.mem_cons_of_mem _ hy)
theorem zeR {p:Nat} {s:List UInt8} {ρ ρ':Rs} {L:List (Nat × OB)} (h:zaE ((p,zaC s ρ) :: L)):zaE ((p,zaC s ρ') :: L):=zhG h rfl
theorem zfl {E1 s1 n1 E2 s2 n2:Nat} {x1 x2:List AV} {X Y:AV} {R1 R2 L:List (Nat × OB)} {p qt qv qr:Nat} {s:List UInt8} {ρ ρ':Rs} {T:Tk} {k:Int} (h1:SlO E1 s1 n1 x1 X R1) (h2:SlO E2 s2 n2 x2 Y R2) (h:zaE ((p,zaC s ρ) :: L)):zaE ((p,zaC s ρ') :: (qt,zaM T) :: (qv,jvB k X Y) :: (qr,zvB) :: (R1 ++ (R2 ++ L))):=by
 intro y hy b g m ys hb
 simp only [List.mem_cons,List.mem_append] at hy
 rcases hy with rfl | rfl | rfl | rfl | hy | hy | hy
 ·exact congrArg (OB.box _) (zc4 rfl)
 ·exact congrArg (OB.box _) (zc4 rfl)
 ·have q1:=zg9 h1 (b:=b) (g:=g) (m:=m) (ys:=ys) fun y hy => hb y (by simp [hy])
  have q2:=zg9 h2 (b:=b) (g:=g) (m:=m) (ys:=ys) fun y hy => hb y (by simp [hy])
  show OB.box _ _=_
  simp only [List.map_cons,List.map_nil,q1,q2]
  rfl
 ·exact congrArg (OB.box _) (zc4 rfl)
 ·rcases h1 with ⟨_,_,_,rfl⟩ | ⟨b',g',_,rfl⟩
  ·cases hy
  ·simp only [List.mem_cons,List.not_mem_nil,or_false] at hy
   subst hy; rfl
 ·rcases h2 with ⟨_,_,_,rfl⟩ | ⟨b',g',_,rfl⟩
  ·cases hy
  ·simp only [List.mem_cons,List.not_mem_nil,or_false] at hy
   subst hy; rfl
 ·refine h y (List.mem_cons_of_mem _ hy) b g m ys fun z hz => ?_
  rcases List.mem_cons.1 hz with rfl | hz
  ·exact hb (p,zaC s ρ') (by simp)
  ·exact hb z (by simp [hz])
section
variable [Tabs Try.prog] [Utf Try.prog] {objs:List OB} {K:List OB → AV → Prop} {L:List (Nat × OB)} {p:Nat} {s:List UInt8} {ρ:Rs}
def ValK (s:List UInt8) (p:Nat) (d:Nat) (val:Rs → Tk → JV × Rs):Prop :=
 ∀ {objs:List OB} {K:List OB → AV → Prop} {L:List (Nat × OB)} {ρ:Rs} (t:Tk),GB s ρ → GT ρ t → t.2.1.length ≤ s.length → zaE ((p,zaC s ρ) :: L) → zaF ((p,zaC s ρ) :: L) objs → (∀ o,zaF ((p,zaC s (val ρ t).2) :: L) o → K o (.agg (zad (val ρ t).1))) → zae Try.prog 23 [.p p 0,zge t,.i .i64 (d:Int)] objs K
omit [Tabs Try.prog] [Utf Try.prog] in
theorem zbo (h:GB s ρ):(zan s ρ).1.2.1.length ≤ s.length:=by
 unfold zan
 split
 ·exact Nat.zero_le _
 split
 ·exact Nat.zero_le _
 ·rename_i h1 h2
  have:=zik (s:=s) h.p0 (by simpa using h2)
  exact this.2.1
theorem array_k {val:Rs → Tk → JV × Rs} {d:Nat} (hv:ValK s p d val) (hg:GV s val) (hn:∀ ρ t,(val ρ t).2.fail=0 → ρ.nodes + 1 ≤ (val ρ t).2.nodes) (hs:s.length ≤ 1048576) (hB:GB s ρ) (hC:zaE ((p,zaC s ρ) :: L)) (hO:zaF ((p,zaC s ρ) :: L) objs)
  (hk:∀ o,zaF ((p,zaC s (zfJ s val ρ).2) :: L) o → K o (.agg (zad (zfJ s val ρ).1))):zae Try.prog 52 [.p p 0,.i .i64 (d:Int)] objs K:=by
 refine zky (E1:=9) (s1:=1) (E2:=25) (s2:=4) (zfJ s val ρ).1 (zeR hC) hk ?_
 refine zbj is_ref14_parser_array fun C _ => ?_
 have fin:∀ {o:List OB} {ρ':Rs} {acc:List JV} {X:AV} {R:List (Nat × OB)} {qt qv qr:Nat} {T V W:OB},zfJ s val ρ=(.mk 6 [] [] acc,ρ') → SlO 25 4 acc.length (zab acc) X R → zaF ((p,zaC s ρ') :: (qt,T) :: (qv,V) :: (qr,W) :: (R ++ L)) o →
   ∃ X' R1 Y R2,SlO 9 1 (zfJ s val ρ).1.keys.length ((zfJ s val ρ).1.keys.map .s) X' R1 ∧ SlO 25 4 (zfJ s val ρ).1.items.length (zab (zfJ s val ρ).1.items) Y R2 ∧ zaF ((p,zaC s (zfJ s val ρ).2) :: (R1 ++ (R2 ++ L))) (o.set qr (jvB 6 .nil X)) ∧ AV.agg [.i .i64 6,.s [],.nil,X]=.agg [.i .i64 (zfJ s val ρ).1.kind,.s (zfJ s val ρ).1.text,X',Y]:=by
  intro o ρ' acc X R qt qv qr T V W he hS hO
  rw [he]
  refine ⟨.nil,[],X,R,.inl ⟨rfl,rfl,rfl,rfl⟩,hS,?_,rfl⟩
  exact (zaF.set (A:=[(p,zaC s ρ'),(qt,T),(qv,V)]) (jvB 6 .nil X) hO).sub ((((List.sublist_cons_self _ _).trans (List.sublist_cons_self _ _)).trans (List.sublist_cons_self _ _)).cons_cons _)
 rw [c_ref14_parser_array]
 refine zaa fun Y hY => ?_
 simp only [sxZ,z5,z6,z7,z8,j4,j5,j6,j7,j8,j9,x9,y3,y4,y5,y6,reduceCtorEq,↓reduceIte]
 have hO1:=hO.new zvB
 unfold zvB at hO1
 generalize hqr:objs.length=qr at hO1 ⊢
 generalize objs ++ [OB.box 25 [.i .i64 0,.s [],.nil,.nil]]=o1 at hO1 ⊢
 subst hY
 refine zaa fun Y hY => ?_
 simp only [sxZ,z5,z6,z7,z8,j4,j5,j6,j7,j8,j9,x9,y3,y4,y5,y6,reduceCtorEq,↓reduceIte,gn1,sn1]
 have hO2:=hO1.new (jvB 6 .nil .nil)
 unfold jvB at hO2
 generalize hqv:o1.length=qv at hO2 ⊢
 generalize o1 ++ [OB.box 25 [.i .i64 6,.s [],.nil,.nil]]=o2 at hO2 ⊢
 subst hY
 refine zaa fun Y hY => ?_
 simp only [sxZ,z5,z6,z7,z8,j4,j5,j6,j7,j8,j9,x9,y3,y4,y5,y6,reduceCtorEq,↓reduceIte]
 have hO2':zaF ((p,zaC s ρ) :: (qv,jvB 6 .nil .nil) :: (qr,zvB) :: L) o2:=hO2.perm ((List.Perm.cons _ (List.Perm.swap _ _ _)).trans (List.Perm.swap _ _ _))
 refine zaj (zb1 (by omega) hO2' fun o3 hO3 => ?_)
 have hB1:=za7 hB
 have hT1:=zbo hB
 have hrarr:zfJ s val ρ=if isP (zan s ρ).1 93=true then (.mk 6 [] [] [],(zan s ρ).2) else (.mk 6 [] [] (zc9 s val (s.length + 2) (zan s ρ).2 (zan s ρ).1 []).1,(zc9 s val (s.length + 2) (zan s ρ).2 (zan s ρ).1 []).2):=rfl
 have hn0:=zaZ s ρ
 generalize zan s ρ=N at hO3 hB1 hT1 hrarr hn0 ⊢
 obtain ⟨T,ρ1⟩:=N
 simp only at hO3 hB1 hT1 hrarr hn0 ⊢
 unfold zge tkC
 simp only [sxZ,z5,z6,z7,z8,j4,j5,j6,j7,j8,j9,x9,y3,y4,y5,y6,reduceCtorEq,↓reduceIte,gn1,sn1]
 have f1:∀ x y z,OB.box 59 [.i .i64 x,.s y,.i .i64 z]=zaM (x,y,z):=fun _ _ _ => rfl
 rw [f1]
 have hO4:=hO3.new (zaM T)
 have hO4:zaF ((p,zaC s ρ1) :: (o3.length,zaM T) :: (qv,jvB 6 .nil .nil) :: (qr,zvB) :: ([] ++ L)) (o3 ++ [zaM T]):=hO4.perm (List.Perm.swap _ _ _)
 generalize o3.length=qt at hO4 ⊢
 generalize o3 ++ [zaM (T.1,T.2.1,T.2.2)]=o4 at hO4 ⊢
 have st:∀ (o:List OB) (ρ':Rs) (T':Tk) (X:AV) (R:List (Nat × OB)),zaF ((p,zaC s ρ') :: (qt,zaM T') :: (qv,jvB 6 .nil X) :: (qr,zvB) :: (R ++ L)) o → o[p]? = some (.box 56 [.s s,.i .i64 ρ'.pos,.i .i64 (ρ'.nodes:Int),.i .i64 ρ'.fail,.i .i64 ρ'.wh]) ∧ o[qt]? = some (.box 59 [.i .i64 T'.1,.s T'.2.1,.i .i64 T'.2.2]) ∧ o[qv]? = some (.box 25 [.i .i64 6,.s [],.nil,X]) ∧ o[qr]? = some (.box 25 [.i .i64 0,.s [],.nil,.nil]) ∧ (∀ x,(o.set qr x)[qr]? = some x) ∧ (∀ x,(o.set qt x)[qt]? = some x) ∧ (∀ x,(o.set qv x)[qv]? = some x) :=
  fun o ρ' T' X R h => ⟨h.get (by simp [zaC]),h.get (by simp [zaM,tkC]),h.get (by simp [jvB]),h.get (by simp [zvB]),fun x => List.getElem?_set_self (h.lt (i:=qr) (x:=zvB) (by simp)),fun x => List.getElem?_set_self (h.lt (i:=qt) (x:=zaM T') (by simp)),fun x => List.getElem?_set_self (h.lt (i:=qv) (x:=jvB 6 .nil X) (by simp))⟩
 subst hY
 refine zaa fun Y hY => ?_
 obtain ⟨e1,e2,e3,e4,s1,s2,s3⟩:=st _ _ _ _ _ hO4
 simp only [sxZ,z5,z6,z7,z8,j4,j5,j6,j7,j8,j9,x9,y3,y4,y5,y6,reduceCtorEq,↓reduceIte,e2]
 refine zaj (zev T 93 ?_)
 cases hcl:isP T 93 with
 | true =>
  rw [hcl,if_pos rfl] at hrarr
  simp only [sxZ,z5,z6,z7,z8,j4,j5,j6,j7,j8,j9,x9,y3,y4,y5,y6,reduceCtorEq,↓reduceIte,e3,e4,s1]
  exact fin hrarr (.inl ⟨rfl,by rw [zal],rfl,rfl⟩) hO4
 | false =>
  rw [hcl,if_neg Bool.false_ne_true] at hrarr
  simp only [sxZ,z5,z6,z7,z8,j4,j5,j6,j7,j8,j9,x9,y3,y4,y5,y6,reduceCtorEq,↓reduceIte]
  subst hY
  refine zaa fun Y hY => ?_
  clear e1 e2 e3 e4 s1 s2 s3
  have last:∀ (o:List OB) (ρ':Rs) (T':Tk) (acc:List JV) (X:AV) (R:List (Nat × OB)) (tm:List AV),zfJ s val ρ=(.mk 6 [] [] acc,ρ') → SlO 25 4 acc.length (zab acc) X R → zaF ((p,zaC s ρ') :: (qt,zaM T') :: (qv,jvB 6 .nil X) :: (qr,zvB) :: (R ++ L)) o → True:=fun _ _ _ _ _ _ _ _ _ _ => trivial
  simp only [sxZ,z5,z6,z7,z8,j4,j5,j6,j7,j8,j9,x9,y3,y4,y5,y6,reduceCtorEq,↓reduceIte]
  refine zax (fun n o tm => ∃ (i:Nat) (ρ':Rs) (T':Tk) (acc:List JV) (X:AV) (R:List (Nat × OB)),n=s.length + 2 - i ∧ acc.length=i ∧ zfJ s val ρ=(.mk 6 [] [] (zc9 s val n ρ' T' acc).1,(zc9 s val n ρ' T' acc).2) ∧ GB s ρ' ∧ GT ρ' T' ∧ T'.2.1.length ≤ s.length ∧ (ρ'.fail=0 → i ≤ ρ'.nodes) ∧ SlO 25 4 acc.length (zab acc) X R ∧ zaF ((p,zaC s ρ') :: (qt,zaM T') :: (qv,jvB 6 .nil X) :: (qr,zvB) :: (R ++ L)) o ∧
    tm.length=49 ∧ tm[0]? = some (.p p 0) ∧ tm[1]? = some (.i .i64 (d:Int)) ∧ tm[4]? = some (.p qr 0) ∧ tm[5]? = some (.p qv 0) ∧ tm[6]? = some (.p qt 0)) (s.length + 2) ⟨0,ρ1,T,[],.nil,[],rfl,rfl,hrarr,hB1.1,hB1.2,hT1,fun _ => Nat.zero_le _,.inl ⟨rfl,by rw [zal],rfl,rfl⟩,hO4,rfl,rfl,rfl,rfl,rfl,rfl⟩ ?_
  clear hO hO1 hO2 hO2' hO3 hO4 hrarr hB1 hT1 hcl hn0
  rintro n o tm ⟨i,ρ',T',acc,X,R,rfl,hi,hrarr,hGB,hGT,hTx,hnd,hS,hO,hlen,t0,t1,t4,t5,t6⟩
  obtain ⟨e1,e2,e3,e4,s1,s2,s3⟩:=st _ _ _ _ _ hO
  refine zaa fun Z hZ => ?_
  by_cases c1:ρ'.fail=0
  rotate_left
  ·have he:zc9 s val (s.length + 2 - i) ρ' T' acc=(acc,ρ'):=by
    cases s.length + 2 - i with
    | zero => rw [zc9]
    | succ m => rw [zc9,if_pos c1]
   rw [he] at hrarr
   simp only [sxZ,z5,z6,z7,z8,j4,j5,j6,j7,j8,j9,x9,y3,y4,y5,y6,reduceCtorEq,↓reduceIte,List.getElem?_set,hlen,t0,e1,c1]
   subst hZ
   subst hY
   simp only [sxZ,z5,z6,z7,z8,j4,j5,j6,j7,j8,j9,x9,y3,y4,y5,y6,reduceCtorEq,↓reduceIte,List.getElem?_set,hlen,t4,t5,e3,e4,s1]
   exact fin hrarr hS hO
  have hil:i ≤ s.length:=by
   have h1:=hnd c1
   have h2:=hGB.n0 c1
   have h3:=hGB.p1
   omega
  obtain ⟨m,hm⟩:∃ m,s.length + 2 - i=m + 1:=⟨s.length + 1 - i,by omega⟩
  rw [hm,zc9,if_neg (fun h => h c1)] at hrarr
  simp only at hrarr
  simp only [sxZ,z5,z6,z7,z8,j4,j5,j6,j7,j8,j9,x9,y3,y4,y5,y6,reduceCtorEq,↓reduceIte,List.getElem?_set,hlen,t0,e1,c1]
  subst hZ
  rw [zaw]
  refine zaa fun Z hZ => ?_
  have hvc:=fun {objs:List OB} {K:List OB → AV → Prop} {L:List (Nat × OB)} (h1) (h2) (h3) => hv (objs:=objs) (K:=K) (L:=L) (ρ:=ρ') T' hGB hGT hTx h1 h2 h3
  have hg1:=hg ρ' T' hGB hGT
  have hn1:=hn ρ' T'
  generalize val ρ' T'=a at hvc hg1 hn1 hrarr
  obtain ⟨v,ρ2⟩:=a
  simp only at hvc hg1 hn1 hrarr
  obtain ⟨c0,c1',c2,c3,hcv⟩:∃ c0 c1 c2 c3,zad v=[c0,c1,c2,c3]:=⟨_,_,_,_,zag v⟩
  have hCL:zaE ((p,zaC s ρ') :: (qt,zaM T') :: (qv,jvB 6 .nil X) :: (qr,zvB) :: (R ++ L)):=zfl (E1:=0) (s1:=0) (R1:=[]) (.inl ⟨rfl,rfl,rfl,rfl⟩) hS hC
  refine zaA (fun o tm => ∃ X' R',SlO 25 4 (acc ++ [v]).length (zab (acc ++ [v])) X' R' ∧ zaF ((p,zaC s ρ2) :: (qt,zaM T') :: (qv,jvB 6 .nil X') :: (qr,zvB) :: (R' ++ L)) o ∧ tm.length=49 ∧ tm[0]? = some (.p p 0) ∧ tm[1]? = some (.i .i64 (d:Int)) ∧ tm[4]? = some (.p qr 0) ∧ tm[5]? = some (.p qv 0) ∧ tm[6]? = some (.p qt 0)) ?_ ?_
  ·simp only [sxZ,z5,z6,z7,z8,j4,j5,j6,j7,j8,j9,x9,y3,y4,y5,y6,reduceCtorEq,↓reduceIte,List.getElem?_set,hlen,t0,t1,t5,t6,e2,e3]
   refine zaj (hvc hCL hO fun o2 hO2 => ?_)
   obtain ⟨e1',e2',e3',e4',s1',s2',s3'⟩:=st _ _ _ _ _ hO2
   rw [hcv]
   rcases hS with ⟨z1,z2,rfl,rfl⟩ | ⟨b,g,rfl,rfl⟩
   ·have a0:acc=[]:=List.eq_nil_of_length_eq_zero z1
    have hlt:=hO2.lt (i:=qv) (x:=jvB 6 .nil .nil) (by simp)
    have hne:¬ o2.length=qv:=by omega
    have gx:∀ x,(o2 ++ [x])[qv]? = some (.box 25 [.i .i64 6,.s [],.nil,.nil]):=fun x => by rw [List.getElem?_append_left hlt]; exact e3'
    simp only [sxZ,z5,z6,z7,z8,j4,j5,j6,j7,j8,j9,x9,y3,y4,y5,y6,reduceCtorEq,↓reduceIte,List.getElem?_set,hlen,t0,t1,t5,t6,e2',e3',gn1,sn1,gx,hne,zac,List.length_set,t4,and_self,and_true]
    have hN:=hO2.new (.orow 25 4 0 1 [c0,c1',c2,c3])
    have hR:=hN.set (A:=[(o2.length,OB.orow 25 4 0 1 [c0,c1',c2,c3]),(p,zaC s ρ2),(qt,zaM T')]) (jvB 6 .nil (.orow o2.length 0))
    refine ⟨_,[(o2.length,.orow 25 4 0 1 [c0,c1',c2,c3])],.inr ⟨_,_,rfl,by rw [a0,List.nil_append,zap,zal,hcv]; rfl⟩,hR.perm ?_⟩
    exact List.perm_middle (l₁:=[(p,zaC s ρ2),(qt,zaM T'),(qv,jvB 6 .nil (.orow o2.length 0)),(qr,zvB)]).symm
   ·have e5:=hO2.get (i:=b) (x:=.orow 25 4 g acc.length (zab acc)) (by simp)
    have hlt:=hO2.lt (i:=qv) (x:=jvB 6 .nil (.orow b g)) (by simp)
    have hlt4:=hO2.lt (i:=b) (x:=.orow 25 4 g acc.length (zab acc)) (by simp)
    have hne:¬ b=qv:=by
     intro h
     have:=hO2.1
     simp only [List.map_cons,List.map_append,List.nodup_cons] at this
     exact this.2.2.1 (by simp [h])
    have gs:∀ x,(o2.set b x)[b]? = some x:=fun x => List.getElem?_set_self hlt4
    have gx:∀ x,(o2.set b x)[qv]? = some (.box 25 [.i .i64 6,.s [],.nil,.orow b g]):=fun x => by rw [List.getElem?_set_ne hne]; exact e3'
    have hjl:=zat acc
    simp only [sxZ,z5,z6,z7,z8,j4,j5,j6,j7,j8,j9,x9,y3,y4,y5,y6,reduceCtorEq,↓reduceIte,List.getElem?_set,hlen,t0,t1,t5,t6,e2',e3',e5,gs,gx,hne,zac,List.length_set,t4,and_self,and_true]
    refine ⟨⟨by omega,by omega⟩,?_⟩
    have hN:=hO2.set (A:=[(p,zaC s ρ2),(qt,zaM T'),(qv,jvB 6 .nil (.orow b g)),(qr,zvB)]) (.orow 25 4 (g + 1) (acc.length + 1) (zab acc ++ [c0,c1',c2,c3]))
    have hR:=hN.set (A:=[(p,zaC s ρ2),(qt,zaM T')]) (jvB 6 .nil (.orow b (g + 1)))
    exact ⟨_,[(b,.orow 25 4 (g + 1) (acc.length + 1) (zab acc ++ [c0,c1',c2,c3]))],.inr ⟨_,_,rfl,by rw [zaO,zap,zal,hcv]; rfl⟩,hR⟩
  ·clear hO hS hlen t0 t1 t4 t5 t6 e1 e2 e3 e4 s1 s2 s3 hCL hvc hv hg hn
   rintro o5 tm ⟨X',R',hS,hO5,hlen,t0,t1,t4,t5,t6⟩
   subst hZ
   refine zaa fun Z hZ => ?_
   simp only [sxZ,z5,z6,z7,z8,j4,j5,j6,j7,j8,j9,x9,y3,y4,y5,y6,reduceCtorEq,↓reduceIte,List.getElem?_set,hlen,t0]
   refine zaj (zb1 (by omega) hO5 fun o6 hO6 => ?_)
   have hB2:=za7 hg1
   have hT2:=zbo hg1
   have hn2:=zaZ s ρ2
   have hfz:=zbL s ρ2
   generalize zan s ρ2=N at hO6 hB2 hT2 hn2 hfz hrarr ⊢
   obtain ⟨T2,ρ3⟩:=N
   simp only at hO6 hB2 hT2 hn2 hfz hrarr ⊢
   obtain ⟨e1,e2,e3,e4,s1,s2,s3⟩:=st _ _ _ _ _ hO6
   unfold zge tkC
   simp only [sxZ,z5,z6,z7,z8,j4,j5,j6,j7,j8,j9,x9,y3,y4,y5,y6,reduceCtorEq,↓reduceIte,List.getElem?_set,hlen,t6,e2,s2]
   rw [f1]
   have hO7:=zaF.set (A:=[(p,zaC s ρ3)]) (zaM T2) hO6
   have hO7:zaF ((p,zaC s ρ3) :: (qt,zaM T2) :: (qv,jvB 6 .nil X') :: (qr,zvB) :: (R' ++ L)) (o6.set qt (zaM (T2.1,T2.2.1,T2.2.2))):=hO7
   generalize o6.set qt (zaM (T2.1,T2.2.1,T2.2.2))=o7 at hO7 ⊢
   refine zbp (fun t => t.length=49 ∧ t[0]? = some (.p p 0) ∧ t[1]? = some (.i .i64 (d:Int)) ∧ t[4]? = some (.p qr 0) ∧ t[5]? = some (.p qv 0) ∧ t[6]? = some (.p qt 0)) ?_ ?_
   ·simp only [sxZ,z5,z6,z7,z8,j4,j5,j6,j7,j8,j9,x9,y3,y4,y5,y6,reduceCtorEq,↓reduceIte,List.length_set,List.getElem?_set,hlen,t0,t1,t4,t5,t6,and_self]
   clear hO6 hO5 hlen t0 t1 t4 t5 t6 e1 e2 e3 e4 s1 s2 s3
   rintro tm ⟨hlen,t0,t1,t4,t5,t6⟩
   obtain ⟨e1,e2,e3,e4,s1,s2,s3⟩:=st _ _ _ _ _ hO7
   subst hZ
   refine zaa fun Z hZ => ?_
   simp only [sxZ,z5,z6,z7,z8,j4,j5,j6,j7,j8,j9,x9,y3,y4,y5,y6,reduceCtorEq,↓reduceIte,List.getElem?_set,hlen,t6,e2]
   refine zaj (zev T2 93 ?_)
   cases hcl:isP T2 93 with
   | true =>
    rw [hcl,if_pos rfl] at hrarr
    simp only [sxZ,z5,z6,z7,z8,j4,j5,j6,j7,j8,j9,x9,y3,y4,y5,y6,reduceCtorEq,↓reduceIte,List.getElem?_set,hlen,t4,t5,e3,e4,s1]
    exact fin hrarr hS hO7
   | false =>
    rw [hcl,if_neg Bool.false_ne_true] at hrarr
    simp only [sxZ,z5,z6,z7,z8,j4,j5,j6,j7,j8,j9,x9,y3,y4,y5,y6,reduceCtorEq,↓reduceIte,List.getElem?_set,hlen]
    subst hZ
    refine zaa fun Z hZ => ?_
    refine zaA (fun o tm => zaF ((p,zaC s (zaV ρ3 T2 44)) :: (qt,zaM T2) :: (qv,jvB 6 .nil X') :: (qr,zvB) :: (R' ++ L)) o ∧ tm.length=49 ∧ tm[0]? = some (.p p 0) ∧ tm[1]? = some (.i .i64 (d:Int)) ∧ tm[4]? = some (.p qr 0) ∧ tm[5]? = some (.p qv 0) ∧ tm[6]? = some (.p qt 0)) ?_ ?_
    ·refine zaa fun W hW => ?_
     by_cases c3:ρ3.fail=0
     rotate_left
     ·have hw:zaV ρ3 T2 44=ρ3:=by unfold zaV; rw [if_neg (fun h => c3 h.1)]
      simp only [sxZ,z5,z6,z7,z8,j4,j5,j6,j7,j8,j9,x9,y3,y4,y5,y6,reduceCtorEq,↓reduceIte,List.getElem?_set,hlen,t0,e1,c3]
      subst hW
      simp only [sxZ,z5,z6,z7,z8,j4,j5,j6,j7,j8,j9,x9,y3,y4,y5,y6,reduceCtorEq,↓reduceIte,zac,List.length_set,List.getElem?_set,hlen,t0,t1,t4,t5,t6,hw,and_self,and_true]
      exact hO7
     ·simp only [sxZ,z5,z6,z7,z8,j4,j5,j6,j7,j8,j9,x9,y3,y4,y5,y6,reduceCtorEq,↓reduceIte,List.getElem?_set,hlen,t0,t6,e1,e2,c3]
      refine zaj (zev T2 44 ?_)
      cases h44:isP T2 44 with
      | true =>
       have hw:zaV ρ3 T2 44=ρ3:=by unfold zaV; rw [if_neg (fun h => by rw [h44] at h; cases h.2)]
       simp only [sxZ,z5,z6,z7,z8,j4,j5,j6,j7,j8,j9,x9,y3,y4,y5,y6,reduceCtorEq,↓reduceIte,List.getElem?_set,hlen]
       subst hW
       simp only [sxZ,z5,z6,z7,z8,j4,j5,j6,j7,j8,j9,x9,y3,y4,y5,y6,reduceCtorEq,↓reduceIte,zac,List.length_set,List.getElem?_set,hlen,t0,t1,t4,t5,t6,hw,and_self,and_true]
       exact hO7
      | false =>
       have hw:zaV ρ3 T2 44=zaN ρ3 T2.2.2 140:=by unfold zaV; rw [if_pos ⟨c3,h44⟩]
       simp only [sxZ,z5,z6,z7,z8,j4,j5,j6,j7,j8,j9,x9,y3,y4,y5,y6,reduceCtorEq,↓reduceIte,List.getElem?_set,hlen]
       subst hW
       simp only [sxZ,z5,z6,z7,z8,j4,j5,j6,j7,j8,j9,x9,y3,y4,y5,y6,reduceCtorEq,↓reduceIte,List.getElem?_set,hlen,t0,t6,e2]
       refine zaj (zbR hO7 T2.2.2 140 fun o8 hO8 => ?_)
       simp only [sxZ,z5,z6,z7,z8,j4,j5,j6,j7,j8,j9,x9,y3,y4,y5,y6,reduceCtorEq,↓reduceIte,zac,List.length_set,List.getElem?_set,hlen,t0,t1,t4,t5,t6,hw,and_self,and_true]
       exact hO8
    ·clear hO7 hlen t0 t1 t4 t5 t6 e1 e2 e3 e4 s1 s2 s3
     rintro o8 tm ⟨hO8,hlen,t0,t1,t4,t5,t6⟩
     subst hZ
     have hB3:=zdS hB2.1 T2 44
     have hn3:=zdF ρ3 T2 44
     have hfz3:=zdG ρ3 T2 44
     generalize zaV ρ3 T2 44=ρ4 at hO8 hB3 hn3 hfz3 hrarr
     simp only [sxZ,z5,z6,z7,z8,j4,j5,j6,j7,j8,j9,x9,y3,y4,y5,y6,reduceCtorEq,↓reduceIte,List.getElem?_set,hlen,t0]
     refine zaj (zb1 (by omega) hO8 fun o9 hO9 => ?_)
     have hB4:=za7 hB3
     have hT4:=zbo hB3
     have hn4:=zaZ s ρ4
     have hfz4:=zbL s ρ4
     generalize zan s ρ4=N at hO9 hB4 hT4 hn4 hfz4 hrarr ⊢
     obtain ⟨T5,ρ5⟩:=N
     simp only at hO9 hB4 hT4 hn4 hfz4 hrarr ⊢
     obtain ⟨e1,e2,e3,e4,s1,s2,s3⟩:=st _ _ _ _ _ hO9
     unfold zge tkC
     simp only [sxZ,z5,z6,z7,z8,j4,j5,j6,j7,j8,j9,x9,y3,y4,y5,y6,reduceCtorEq,↓reduceIte,List.getElem?_set,hlen,t6,e2,s2]
     rw [f1]
     have hO10:zaF ((p,zaC s ρ5) :: (qt,zaM T5) :: (qv,jvB 6 .nil X') :: (qr,zvB) :: (R' ++ L)) (o9.set qt (zaM (T5.1,T5.2.1,T5.2.2))):=zaF.set (A:=[(p,zaC s ρ5)]) (zaM T5) hO9
     generalize o9.set qt (zaM (T5.1,T5.2.1,T5.2.2))=o10 at hO10 ⊢
     refine ⟨m,by omega,i + 1,ρ5,T5,acc ++ [v],X',R',by omega,by rw [List.length_append,hi]; rfl,hrarr,hB4.1,hB4.2,hT4,fun hf => ?_,hS,hO10,?_⟩
     ·have q4:ρ4.fail=0:=by
       by_cases c:ρ4.fail=0
       ·exact c
       ·exact absurd ((hfz4 c).1.symm.trans hf) c
      have q3:ρ3.fail=0:=by
       by_cases c:ρ3.fail=0
       ·exact c
       ·exact absurd ((hfz3 c).1.symm.trans q4) c
      have q2:ρ2.fail=0:=by
       by_cases c:ρ2.fail=0
       ·exact c
       ·exact absurd ((hfz c).1.symm.trans q3) c
      have:=hn1 q2
      have:=hnd c1
      omega
     ·simp only [sxZ,z5,z6,z7,z8,j4,j5,j6,j7,j8,j9,x9,y3,y4,y5,y6,reduceCtorEq,↓reduceIte,List.length_set,List.getElem?_set,hlen,t0,t1,t4,t5,t6,and_self]
end
end
end Go.Proofs.Ytceenajkieomoaa
