/- The texts that the proofs of these statements reach, in their order, as few files. -/
import Derived.Test.YtceenajkieomoaaProg
import Derived.Test.YtceenajkieomoaaJe5
set_option linter.unusedVariables false
set_option linter.unusedSimpArgs false
set_option maxRecDepth 100000
namespace Go.Proofs.Ytceenajkieomoaa
open Nat renaming reduceAdd → z5, reduceSub → z6, reduceLeDiff → z7, reduceLT → z8, reduceMul → j4, reduceEqDiff → j5
open Int renaming reduceToNat → j6, reduceAdd → j7, reduceSub → j8, reduceMul → j9, reduceNeg → x9, reduceLT → y3, reduceLE → y4, reduceEq → y5, reduceNe → y6
open Go.RowKit Sx
section
attribute [local irreducible] run
def SlP (ks:List (List UInt8)) (its:List JV) (X:AV) (R1:List (Nat × OB)) (Y:AV) (R2:List (Nat × OB)):Prop :=
 (ks=[] ∧ its=[] ∧ X=.nil ∧ R1=[] ∧ Y=.nil ∧ R2=[]) ∨ ∃ b1 g1 b2 g2,X=.orow b1 g1 ∧ R1=[(b1,.orow 9 1 g1 ks.length (ks.map .s))] ∧ Y=.orow b2 g2 ∧ R2=[(b2,.orow 25 4 g2 its.length (zab its))]
theorem SlP.k {ks:List (List UInt8)} {its:List JV} {X Y:AV} {R1 R2:List (Nat × OB)} (h:SlP ks its X R1 Y R2):SlO 9 1 ks.length (ks.map .s) X R1:=by
 rcases h with ⟨rfl,rfl,rfl,rfl,rfl,rfl⟩ | ⟨b1,g1,b2,g2,rfl,rfl,rfl,rfl⟩
 ·exact .inl ⟨rfl,rfl,rfl,rfl⟩
 ·exact .inr ⟨_,_,rfl,rfl⟩
theorem SlP.i {ks:List (List UInt8)} {its:List JV} {X Y:AV} {R1 R2:List (Nat × OB)} (h:SlP ks its X R1 Y R2):SlO 25 4 its.length (zab its) Y R2:=by
 rcases h with ⟨rfl,rfl,rfl,rfl,rfl,rfl⟩ | ⟨b1,g1,b2,g2,rfl,rfl,rfl,rfl⟩
 ·exact .inl ⟨rfl,zal,rfl,rfl⟩
 ·exact .inr ⟨_,_,rfl,rfl⟩
theorem SlP.flat {ks:List (List UInt8)} {its:List JV} {X Y:AV} {R1 R2:List (Nat × OB)} (h:SlP ks its X R1 Y R2):X.flat=true ∧ Y.flat=true:=by
 rcases h with ⟨rfl,rfl,rfl,rfl,rfl,rfl⟩ | ⟨b1,g1,b2,g2,rfl,rfl,rfl,rfl⟩ <;> exact ⟨rfl,rfl⟩
section
variable [Tabs Try.prog] [Utf Try.prog] {objs:List OB} {K:List OB → AV → Prop} {L:List (Nat × OB)} {p:Nat} {s:List UInt8} {ρ:Rs}
theorem object_k {val:Rs → Tk → JV × Rs} {d:Nat} (hv:ValK s p d val) (hg:GV s val) (hn:∀ ρ t,(val ρ t).2.fail=0 → ρ.nodes + 1 ≤ (val ρ t).2.nodes) (hvz:ValFroz val) (hs:s.length ≤ 1048576) (hB:GB s ρ) (hC:zaE ((p,zaC s ρ) :: L)) (hO:zaF ((p,zaC s ρ) :: L) objs)
  (hk:∀ o,zaF ((p,zaC s (zga s val ρ).2) :: L) o → K o (.agg (zad (zga s val ρ).1))):zae Try.prog 53 [.p p 0,.i .i64 (d:Int)] objs K:=by
 refine zky (E1:=9) (s1:=1) (E2:=25) (s2:=4) (zga s val ρ).1 (zeR hC) hk ?_
 refine zbj is_ref14_parser_object fun C _ => ?_
 have fin:∀ {o:List OB} {ρ':Rs} {ks:List (List UInt8)} {its:List JV} {X Y:AV} {R1 R2:List (Nat × OB)} {qt qv qr:Nat} {T V W:OB},zga s val ρ=(.mk 7 [] ks its,ρ') → SlP ks its X R1 Y R2 → zaF ((p,zaC s ρ') :: (qt,T) :: (qv,V) :: (qr,W) :: (R1 ++ (R2 ++ L))) o →
   ∃ X' R1 Y' R2,SlO 9 1 (zga s val ρ).1.keys.length ((zga s val ρ).1.keys.map .s) X' R1 ∧ SlO 25 4 (zga s val ρ).1.items.length (zab (zga s val ρ).1.items) Y' R2 ∧ zaF ((p,zaC s (zga s val ρ).2) :: (R1 ++ (R2 ++ L))) (o.set qr (jvB 7 X Y)) ∧ AV.agg [.i .i64 7,.s [],X,Y]=.agg [.i .i64 (zga s val ρ).1.kind,.s (zga s val ρ).1.text,X',Y']:=by
  intro o ρ' ks its X Y R1 R2 qt qv qr T V W he hS hO
  rw [he]
  refine ⟨X,R1,Y,R2,hS.k,hS.i,?_,rfl⟩
  exact (zaF.set (A:=[(p,zaC s ρ'),(qt,T),(qv,V)]) (jvB 7 X Y) hO).sub ((((List.sublist_cons_self _ _).trans (List.sublist_cons_self _ _)).trans (List.sublist_cons_self _ _)).cons_cons _)
 rw [c_ref14_parser_object]
 refine zaa fun Z0 hZ0 => ?_
 simp only [sxZ,z5,z6,z7,z8,j4,j5,j6,j7,j8,j9,x9,y3,y4,y5,y6,reduceCtorEq,↓reduceIte]
 have hO1:=hO.new zvB
 unfold zvB at hO1
 generalize hqr:objs.length=qr at hO1 ⊢
 generalize objs ++ [OB.box 25 [.i .i64 0,.s [],.nil,.nil]]=o1 at hO1 ⊢
 subst hZ0
 refine zaa fun Z0 hZ0 => ?_
 simp only [sxZ,z5,z6,z7,z8,j4,j5,j6,j7,j8,j9,x9,y3,y4,y5,y6,reduceCtorEq,↓reduceIte,gn1,sn1]
 have hO2:=hO1.new (jvB 7 .nil .nil)
 unfold jvB at hO2
 generalize hqv:o1.length=qv at hO2 ⊢
 generalize o1 ++ [OB.box 25 [.i .i64 7,.s [],.nil,.nil]]=o2 at hO2 ⊢
 subst hZ0
 refine zaa fun Z0 hZ0 => ?_
 simp only [sxZ,z5,z6,z7,z8,j4,j5,j6,j7,j8,j9,x9,y3,y4,y5,y6,reduceCtorEq,↓reduceIte]
 have hO2':zaF ((p,zaC s ρ) :: (qv,jvB 7 .nil .nil) :: (qr,zvB) :: L) o2:=hO2.perm ((List.Perm.cons _ (List.Perm.swap _ _ _)).trans (List.Perm.swap _ _ _))
 refine zaj (zb1 (by omega) hO2' fun o3 hO3 => ?_)
 have hB1:=za7 hB
 have hT1:=zbo hB
 have hrobj:zga s val ρ=if isP (zan s ρ).1 125=true then (.mk 7 [] [] [],(zan s ρ).2) else (.mk 7 [] (zcy s val (s.length + 2) (zan s ρ).2 (zan s ρ).1 [] []).1.1 (zcy s val (s.length + 2) (zan s ρ).2 (zan s ρ).1 [] []).1.2,(zcy s val (s.length + 2) (zan s ρ).2 (zan s ρ).1 [] []).2):=rfl
 generalize zan s ρ=N at hO3 hB1 hT1 hrobj ⊢
 obtain ⟨T,ρ1⟩:=N
 simp only at hO3 hB1 hT1 hrobj ⊢
 unfold zge tkC
 simp only [sxZ,z5,z6,z7,z8,j4,j5,j6,j7,j8,j9,x9,y3,y4,y5,y6,reduceCtorEq,↓reduceIte,gn1,sn1]
 have f1:∀ x y z,OB.box 59 [.i .i64 x,.s y,.i .i64 z]=zaM (x,y,z):=fun _ _ _ => rfl
 rw [f1]
 have hO4:=hO3.new (zaM T)
 have hO4:zaF ((p,zaC s ρ1) :: (o3.length,zaM T) :: (qv,jvB 7 .nil .nil) :: (qr,zvB) :: ([] ++ ([] ++ L))) (o3 ++ [zaM T]):=hO4.perm (List.Perm.swap _ _ _)
 generalize o3.length=qt at hO4 ⊢
 generalize o3 ++ [zaM (T.1,T.2.1,T.2.2)]=o4 at hO4 ⊢
 have st:∀ (o:List OB) (ρ':Rs) (T':Tk) (X:AV) (R1:List (Nat × OB)) (Y:AV) (R2:List (Nat × OB)),zaF ((p,zaC s ρ') :: (qt,zaM T') :: (qv,jvB 7 X Y) :: (qr,zvB) :: (R1 ++ (R2 ++ L))) o → o[p]? = some (.box 56 [.s s,.i .i64 ρ'.pos,.i .i64 (ρ'.nodes:Int),.i .i64 ρ'.fail,.i .i64 ρ'.wh]) ∧ o[qt]? = some (.box 59 [.i .i64 T'.1,.s T'.2.1,.i .i64 T'.2.2]) ∧ o[qv]? = some (.box 25 [.i .i64 7,.s [],X,Y]) ∧ o[qr]? = some (.box 25 [.i .i64 0,.s [],.nil,.nil]) ∧ (∀ x,(o.set qr x)[qr]? = some x) ∧ (∀ x,(o.set qt x)[qt]? = some x) ∧ (∀ x,(o.set qv x)[qv]? = some x) :=
  fun o ρ' T' X R1 Y R2 h => ⟨h.get (by simp [zaC]),h.get (by simp [zaM,tkC]),h.get (by simp [jvB]),h.get (by simp [zvB]),fun x => List.getElem?_set_self (h.lt (i:=qr) (x:=zvB) (by simp)),fun x => List.getElem?_set_self (h.lt (i:=qt) (x:=zaM T') (by simp)),fun x => List.getElem?_set_self (h.lt (i:=qv) (x:=jvB 7 X Y) (by simp))⟩
 subst hZ0
 refine zaa fun Z0 hZ0 => ?_
 obtain ⟨e1,e2,e3,e4,s1,s2,s3⟩:=st _ _ _ _ _ _ _ hO4
 simp only [sxZ,z5,z6,z7,z8,j4,j5,j6,j7,j8,j9,x9,y3,y4,y5,y6,reduceCtorEq,↓reduceIte,e2]
 refine zaj (zev T 125 ?_)
 cases hcl:isP T 125 with
 | true =>
  rw [hcl,if_pos rfl] at hrobj
  simp only [sxZ,z5,z6,z7,z8,j4,j5,j6,j7,j8,j9,x9,y3,y4,y5,y6,reduceCtorEq,↓reduceIte,e3,e4,s1]
  exact fin hrobj (.inl ⟨rfl,rfl,rfl,rfl,rfl,rfl⟩) hO4
 | false =>
  rw [hcl,if_neg Bool.false_ne_true] at hrobj
  simp only [sxZ,z5,z6,z7,z8,j4,j5,j6,j7,j8,j9,x9,y3,y4,y5,y6,reduceCtorEq,↓reduceIte]
  subst hZ0
  refine zaa fun Z0 hZ0 => ?_
  clear e1 e2 e3 e4 s1 s2 s3
  simp only [sxZ,z5,z6,z7,z8,j4,j5,j6,j7,j8,j9,x9,y3,y4,y5,y6,reduceCtorEq,↓reduceIte]
  refine zax (fun n o tm => ∃ (i:Nat) (ρ':Rs) (T':Tk) (ks:List (List UInt8)) (its:List JV) (X:AV) (R1:List (Nat × OB)) (Y:AV) (R2:List (Nat × OB)),n=s.length + 2 - i ∧ ks.length=i ∧ its.length=i ∧ zga s val ρ=(.mk 7 [] (zcy s val n ρ' T' ks its).1.1 (zcy s val n ρ' T' ks its).1.2,(zcy s val n ρ' T' ks its).2) ∧ GB s ρ' ∧ T'.2.1.length ≤ s.length ∧ (ρ'.fail=0 → i ≤ ρ'.nodes) ∧ SlP ks its X R1 Y R2 ∧ zaF ((p,zaC s ρ') :: (qt,zaM T') :: (qv,jvB 7 X Y) :: (qr,zvB) :: (R1 ++ (R2 ++ L))) o ∧
    tm.length=98 ∧ tm[0]? = some (.p p 0) ∧ tm[1]? = some (.i .i64 (d:Int)) ∧ tm[4]? = some (.p qr 0) ∧ tm[5]? = some (.p qv 0) ∧ tm[6]? = some (.p qt 0)) (s.length + 2) ⟨0,ρ1,T,[],[],.nil,[],.nil,[],rfl,rfl,rfl,hrobj,hB1.1,hT1,fun _ => Nat.zero_le _,.inl ⟨rfl,rfl,rfl,rfl,rfl,rfl⟩,hO4,rfl,rfl,rfl,rfl,rfl,rfl⟩ ?_
  clear hO hO1 hO2 hO2' hO3 hO4 hrobj hB1 hT1 hcl
  rintro n o tm ⟨i,ρ',T',ks,its,X,R1,Y,R2,rfl,hi,hi2,hrobj,hGB,hTx,hnd,hS,hO,hlen,t0,t1,t4,t5,t6⟩
  obtain ⟨e1,e2,e3,e4,s1,s2,s3⟩:=st _ _ _ _ _ _ _ hO
  refine zaa fun Z hZ => ?_
  by_cases c1:ρ'.fail=0
  rotate_left
  ·have he:zcy s val (s.length + 2 - i) ρ' T' ks its=((ks,its),ρ'):=by
    cases s.length + 2 - i with
    | zero => rw [zcy]
    | succ m => rw [zcy,if_pos c1]
   rw [he] at hrobj
   simp only [sxZ,z5,z6,z7,z8,j4,j5,j6,j7,j8,j9,x9,y3,y4,y5,y6,reduceCtorEq,↓reduceIte,List.getElem?_set,hlen,t0,e1,c1]
   subst hZ
   subst hZ0
   simp only [sxZ,z5,z6,z7,z8,j4,j5,j6,j7,j8,j9,x9,y3,y4,y5,y6,reduceCtorEq,↓reduceIte,List.getElem?_set,hlen,t4,t5,e3,e4,s1,hS.flat.1,hS.flat.2]
   exact fin hrobj hS hO
  have hil:i ≤ s.length:=by
   have h1:=hnd c1
   have h2:=hGB.n0 c1
   have h3:=hGB.p1
   omega
  obtain ⟨m,hm⟩:∃ m,s.length + 2 - i=m + 1:=⟨s.length + 1 - i,by omega⟩
  rw [hm,zcy,if_neg (fun h => h c1)] at hrobj
  simp only at hrobj
  simp only [sxZ,z5,z6,z7,z8,j4,j5,j6,j7,j8,j9,x9,y3,y4,y5,y6,reduceCtorEq,↓reduceIte,List.getElem?_set,hlen,t0,e1,c1]
  subst hZ
  rw [zaw]
  clear s1 s2 s3 e1 e4
  refine zaa fun Z hZ => ?_
  have hk1:∀ t,t=ks → zkx ρ' T' t=(if T'.2.1 ∈ ks then zaN (if ¬ T'.1=3 then zaN ρ' T'.2.2 140 else ρ') T'.2.2 143 else if ¬ T'.1=3 then zaN ρ' T'.2.2 140 else ρ'):=fun t h => by rw [h]; rfl
  have hk1:=hk1 ks rfl
  have hGk:=gb_key hGB T' ks
  have hnk:=rkey_n ρ' T' ks
  generalize hρa:(if ¬ T'.1=3 then zaN ρ' T'.2.2 140 else ρ')=ρa at hk1
  refine zaA (fun o tm => zaF ((p,zaC s ρa) :: (qt,zaM T') :: (qv,jvB 7 X Y) :: (qr,zvB) :: (R1 ++ (R2 ++ L))) o ∧ tm.length=98 ∧ tm[0]? = some (.p p 0) ∧ tm[1]? = some (.i .i64 (d:Int)) ∧ tm[4]? = some (.p qr 0) ∧ tm[5]? = some (.p qv 0) ∧ tm[6]? = some (.p qt 0)) ?_ ?_
  ·refine zaa fun W hW => ?_
   by_cases c3:T'.1=3
   ·rw [if_neg (fun h => h c3)] at hρa
    subst hρa
    simp only [sxZ,z5,z6,z7,z8,j4,j5,j6,j7,j8,j9,x9,y3,y4,y5,y6,reduceCtorEq,↓reduceIte,List.getElem?_set,hlen,t6,e2,c3]
    subst hW
    simp only [sxZ,z5,z6,z7,z8,j4,j5,j6,j7,j8,j9,x9,y3,y4,y5,y6,reduceCtorEq,↓reduceIte,zac,List.length_set,List.getElem?_set,hlen,t0,t1,t4,t5,t6,and_self,and_true]
    exact hO
   ·rw [if_pos c3] at hρa
    simp only [sxZ,z5,z6,z7,z8,j4,j5,j6,j7,j8,j9,x9,y3,y4,y5,y6,reduceCtorEq,↓reduceIte,List.getElem?_set,hlen,t6,e2,c3]
    subst hW
    simp only [sxZ,z5,z6,z7,z8,j4,j5,j6,j7,j8,j9,x9,y3,y4,y5,y6,reduceCtorEq,↓reduceIte,List.getElem?_set,hlen,t0,t6,e2]
    refine zaj (zbR hO T'.2.2 140 fun o8 hO8 => ?_)
    rw [hρa] at hO8
    simp only [sxZ,z5,z6,z7,z8,j4,j5,j6,j7,j8,j9,x9,y3,y4,y5,y6,reduceCtorEq,↓reduceIte,zac,List.length_set,List.getElem?_set,hlen,t0,t1,t4,t5,t6,and_self,and_true]
    exact hO8
  clear hO hlen t0 t1 t4 t5 t6 e2 e3
  rintro oa tm ⟨hO,hlen,t0,t1,t4,t5,t6⟩
  subst hZ
  refine zaa fun Z hZ => ?_
  refine zaA (fun o tm => zaF ((p,zaC s (zkx ρ' T' ks)) :: (qt,zaM T') :: (qv,jvB 7 X Y) :: (qr,zvB) :: (R1 ++ (R2 ++ L))) o ∧ tm.length=98 ∧ tm[0]? = some (.p p 0) ∧ tm[1]? = some (.i .i64 (d:Int)) ∧ tm[4]? = some (.p qr 0) ∧ tm[5]? = some (.p qv 0) ∧ tm[6]? = some (.p qt 0)) ?_ ?_
  ·obtain ⟨e1,e2,e3,e4,s1,s2,s3⟩:=st _ _ _ _ _ _ _ hO
   refine zaa fun W hW => ?_
   have hPerm:((p,zaC s ρa) :: (qt,zaM T') :: (qv,jvB 7 X Y) :: (qr,zvB) :: (R1 ++ (R2 ++ L))).Perm (R1 ++ (R2 ++ ((p,zaC s ρa) :: (qt,zaM T') :: (qv,jvB 7 X Y) :: (qr,zvB) :: L))):=by
    have h0:∀ (A B C:List (Nat × OB)),(A ++ (B ++ C)).Perm (B ++ (A ++ C)):=fun A B C => by
     rw [← List.append_assoc,← List.append_assoc]
     exact List.Perm.append_right C List.perm_append_comm
    refine (h0 [(p,zaC s ρa),(qt,zaM T'),(qv,jvB 7 X Y),(qr,zvB)] R1 (R2 ++ L)).trans ?_
    exact List.Perm.append_left R1 (h0 [(p,zaC s ρa),(qt,zaM T'),(qv,jvB 7 X Y),(qr,zvB)] R2 L)
   simp only [sxZ,z5,z6,z7,z8,j4,j5,j6,j7,j8,j9,x9,y3,y4,y5,y6,reduceCtorEq,↓reduceIte,List.getElem?_set,hlen,t5,t6,e2,e3]
   refine zaj (zkA ks its T'.2.1 (by omega) (by omega) hS.k hS.i (hO.perm hPerm) (fun hm o w ho => ?_) (fun hm o ho => ?_))
   ·have ho:=ho.perm hPerm.symm
    rw [if_pos hm] at hk1
    rw [zag]
    simp only [sxZ,z5,z6,z7,z8,j4,j5,j6,j7,j8,j9,x9,y3,y4,y5,y6,reduceCtorEq,↓reduceIte,List.getElem?_set,hlen,gn1,sn1]
    have ho2:=ho.app [OB.box 25 [.i .i64 w.kind,.s w.text,.row w.keys.length (w.keys.map .s),.row w.items.length (zab w.items)]]
    obtain ⟨e1',e2',e3',_,_,_,_⟩:=st _ _ _ _ _ _ _ ho2
    subst hW
    simp only [sxZ,z5,z6,z7,z8,j4,j5,j6,j7,j8,j9,x9,y3,y4,y5,y6,reduceCtorEq,↓reduceIte,List.getElem?_set,hlen,t0,t6,e2']
    refine zaj (zbR ho2 T'.2.2 143 fun o8 hO8 => ?_)
    rw [← hk1] at hO8
    simp only [sxZ,z5,z6,z7,z8,j4,j5,j6,j7,j8,j9,x9,y3,y4,y5,y6,reduceCtorEq,↓reduceIte,zac,List.length_set,List.getElem?_set,hlen,t0,t1,t4,t5,t6,and_self,and_true]
    exact hO8
   ·have ho:=ho.perm hPerm.symm
    rw [if_neg hm] at hk1
    simp only [sxZ,z5,z6,z7,z8,j4,j5,j6,j7,j8,j9,x9,y3,y4,y5,y6,reduceCtorEq,↓reduceIte,List.getElem?_set,hlen,gn1,sn1]
    have ho2:=ho.app [OB.box 25 [.i .i64 0,.s [],.nil,.nil]]
    subst hW
    rw [← hk1] at ho2
    simp only [sxZ,z5,z6,z7,z8,j4,j5,j6,j7,j8,j9,x9,y3,y4,y5,y6,reduceCtorEq,↓reduceIte,zac,List.length_set,List.getElem?_set,hlen,t0,t1,t4,t5,t6,and_self,and_true]
    exact ho2
  clear hO hlen t0 t1 t4 t5 t6 hk1 hρa
  generalize zkx ρ' T' ks=ρk at hrobj hGk hnk
  rintro ob tm ⟨hO,hlen,t0,t1,t4,t5,t6⟩
  subst hZ
  refine zaa fun Z hZ => ?_
  obtain ⟨e1,e2,e3,e4,s1,s2,s3⟩:=st _ _ _ _ _ _ _ hO
  simp only [sxZ,z5,z6,z7,z8,j4,j5,j6,j7,j8,j9,x9,y3,y4,y5,y6,reduceCtorEq,↓reduceIte,List.getElem?_set,hlen,t6,e2]
  refine zbp (fun tm => tm.length=98 ∧ tm[0]? = some (.p p 0) ∧ tm[1]? = some (.i .i64 (d:Int)) ∧ tm[4]? = some (.p qr 0) ∧ tm[5]? = some (.p qv 0) ∧ tm[6]? = some (.p qt 0) ∧ tm[9]? = some (.s T'.2.1)) ?_ ?_
  ·simp only [sxZ,z5,z6,z7,z8,j4,j5,j6,j7,j8,j9,x9,y3,y4,y5,y6,reduceCtorEq,↓reduceIte,List.length_set,List.getElem?_set,hlen,t0,t1,t4,t5,t6,and_self]
  clear hlen t0 t1 t4 t5 t6
  rintro tm ⟨hlen,t0,t1,t4,t5,t6,t9⟩
  subst hZ
  refine zaa fun Z hZ => ?_
  refine zaa fun W0 hW0 => ?_
  simp only [sxZ,z5,z6,z7,z8,j4,j5,j6,j7,j8,j9,x9,y3,y4,y5,y6,reduceCtorEq,↓reduceIte,List.getElem?_set,hlen,t0]
  refine zaj (zb1 (by omega) hO fun o6 hO6 => ?_)
  have hB_ρ2:=za7 hGk
  have hT_ρ2:=zbo hGk
  have hn_ρ2:=zaZ s ρk
  have hz_ρ2:=zbL s ρk
  generalize zan s ρk=N at hO6 hB_ρ2 hT_ρ2 hn_ρ2 hz_ρ2 hrobj ⊢
  obtain ⟨T2,ρ2⟩:=N
  simp only at hO6 hB_ρ2 hT_ρ2 hn_ρ2 hz_ρ2 hrobj ⊢
  obtain ⟨e1,e2,e3,e4,s1,s2,s3⟩:=st _ _ _ _ _ _ _ hO6
  unfold zge tkC
  simp only [sxZ,z5,z6,z7,z8,j4,j5,j6,j7,j8,j9,x9,y3,y4,y5,y6,reduceCtorEq,↓reduceIte,List.getElem?_set,hlen,t6,e2,s2]
  rw [f1]
  have hO7:zaF ((p,zaC s ρ2) :: (qt,zaM T2) :: (qv,jvB 7 X Y) :: (qr,zvB) :: (R1 ++ (R2 ++ L))) (o6.set qt (zaM (T2.1,T2.2.1,T2.2.2))):=zaF.set (A:=[(p,zaC s ρ2)]) (zaM T2) hO6
  generalize o6.set qt (zaM (T2.1,T2.2.1,T2.2.2))=o7 at hO7 ⊢
  refine zbp (fun tm => tm.length=98 ∧ tm[0]? = some (.p p 0) ∧ tm[1]? = some (.i .i64 (d:Int)) ∧ tm[4]? = some (.p qr 0) ∧ tm[5]? = some (.p qv 0) ∧ tm[6]? = some (.p qt 0) ∧ tm[9]? = some (.s T'.2.1)) ?_ ?_
  ·simp only [sxZ,z5,z6,z7,z8,j4,j5,j6,j7,j8,j9,x9,y3,y4,y5,y6,reduceCtorEq,↓reduceIte,List.length_set,List.getElem?_set,hlen,t0,t1,t4,t5,t6,t9,and_self]
  clear hO6 hO hlen t0 t1 t4 t5 t6 t9 e1 e2 e3 e4 s1 s2 s3
  rintro tm ⟨hlen,t0,t1,t4,t5,t6,t9⟩
  have hO:=hO7
  clear hO7
  subst hW0
  refine zaA (fun o tm => zaF ((p,zaC s (zaV ρ2 T2 58)) :: (qt,zaM T2) :: (qv,jvB 7 X Y) :: (qr,zvB) :: (R1 ++ (R2 ++ L))) o ∧ tm.length=98 ∧ tm[0]? = some (.p p 0) ∧ tm[1]? = some (.i .i64 (d:Int)) ∧ tm[4]? = some (.p qr 0) ∧ tm[5]? = some (.p qv 0) ∧ tm[6]? = some (.p qt 0) ∧ tm[9]? = some (.s T'.2.1)) ?_ ?_
  ·obtain ⟨e1,e2,e3,e4,s1,s2,s3⟩:=st _ _ _ _ _ _ _ hO
   refine zaa fun W hW => ?_
   by_cases c3:ρ2.fail=0
   rotate_left
   ·have hw:zaV ρ2 T2 58=ρ2:=by unfold zaV; rw [if_neg (fun h => c3 h.1)]
    simp only [sxZ,z5,z6,z7,z8,j4,j5,j6,j7,j8,j9,x9,y3,y4,y5,y6,reduceCtorEq,↓reduceIte,List.getElem?_set,hlen,t0,e1,c3]
    subst hW
    simp only [sxZ,z5,z6,z7,z8,j4,j5,j6,j7,j8,j9,x9,y3,y4,y5,y6,reduceCtorEq,↓reduceIte,zac,List.length_set,List.getElem?_set,hlen,t0,t1,t4,t5,t6,t9,hw,and_self,and_true]
    exact hO
   ·simp only [sxZ,z5,z6,z7,z8,j4,j5,j6,j7,j8,j9,x9,y3,y4,y5,y6,reduceCtorEq,↓reduceIte,List.getElem?_set,hlen,t0,t6,e1,e2,c3]
    refine zaj (zev T2 58 ?_)
    cases h44:isP T2 58 with
    | true =>
     have hw:zaV ρ2 T2 58=ρ2:=by unfold zaV; rw [if_neg (fun h => by rw [h44] at h; cases h.2)]
     simp only [sxZ,z5,z6,z7,z8,j4,j5,j6,j7,j8,j9,x9,y3,y4,y5,y6,reduceCtorEq,↓reduceIte,List.getElem?_set,hlen]
     subst hW
     simp only [sxZ,z5,z6,z7,z8,j4,j5,j6,j7,j8,j9,x9,y3,y4,y5,y6,reduceCtorEq,↓reduceIte,zac,List.length_set,List.getElem?_set,hlen,t0,t1,t4,t5,t6,t9,hw,and_self,and_true]
     exact hO
    | false =>
     have hw:zaV ρ2 T2 58=zaN ρ2 T2.2.2 140:=by unfold zaV; rw [if_pos ⟨c3,h44⟩]
     simp only [sxZ,z5,z6,z7,z8,j4,j5,j6,j7,j8,j9,x9,y3,y4,y5,y6,reduceCtorEq,↓reduceIte,List.getElem?_set,hlen]
     subst hW
     simp only [sxZ,z5,z6,z7,z8,j4,j5,j6,j7,j8,j9,x9,y3,y4,y5,y6,reduceCtorEq,↓reduceIte,List.getElem?_set,hlen,t0,t6,e2]
     refine zaj (zbR hO T2.2.2 140 fun o8 hO8 => ?_)
     simp only [sxZ,z5,z6,z7,z8,j4,j5,j6,j7,j8,j9,x9,y3,y4,y5,y6,reduceCtorEq,↓reduceIte,zac,List.length_set,List.getElem?_set,hlen,t0,t1,t4,t5,t6,t9,hw,and_self,and_true]
     exact hO8
  clear hO hlen t0 t1 t4 t5 t6 t9
  rintro oc tm ⟨hO,hlen,t0,t1,t4,t5,t6,t9⟩
  have hG3:=zdS hB_ρ2.1 T2 58
  have hn3:=zdF ρ2 T2 58
  have hz3:=zdG ρ2 T2 58
  generalize zaV ρ2 T2 58=ρ3 at hO hG3 hn3 hz3 hrobj
  subst hZ
  refine zaa fun Z hZ => ?_
  simp only [sxZ,z5,z6,z7,z8,j4,j5,j6,j7,j8,j9,x9,y3,y4,y5,y6,reduceCtorEq,↓reduceIte,List.getElem?_set,hlen,t0]
  refine zaj (zb1 (by omega) hO fun o6 hO6 => ?_)
  have hB4:=za7 hG3
  have hT4:=zbo hG3
  have hn4:=zaZ s ρ3
  have hz4:=zbL s ρ3
  generalize zan s ρ3=N at hO6 hB4 hT4 hn4 hz4 hrobj ⊢
  obtain ⟨T4,ρ4⟩:=N
  simp only at hO6 hB4 hT4 hn4 hz4 hrobj ⊢
  have hvc:=fun {objs:List OB} {K:List OB → AV → Prop} {L:List (Nat × OB)} (h1) (h2) (h3) => hv (objs:=objs) (K:=K) (L:=L) (ρ:=ρ4) T4 hB4.1 hB4.2 hT4 h1 h2 h3
  have hg5:=hg ρ4 T4 hB4.1 hB4.2
  have hn5:=hn ρ4 T4
  have hz5:=hvz ρ4 T4
  generalize val ρ4 T4=a at hvc hg5 hn5 hz5 hrobj
  obtain ⟨v,ρ5⟩:=a
  simp only at hvc hg5 hn5 hz5 hrobj
  obtain ⟨c0,c1',c2,c3,hcv⟩:∃ c0 c1 c2 c3,zad v=[c0,c1,c2,c3]:=⟨_,_,_,_,zag v⟩
  have hcf:(AV.agg [c0,c1',c2,c3]).flat=true:=by
   have:=zag v
   rw [hcv] at this
   injection this with q0 this
   injection this with q1 this
   injection this with q2 this
   injection this with q3 _
   subst q0 q1 q2 q3
   rfl
  have hCL:zaE ((p,zaC s ρ4) :: (qt,zaM T2) :: (qv,jvB 7 X Y) :: (qr,zvB) :: (R1 ++ (R2 ++ L))):=zfl hS.k hS.i hC
  unfold zge tkC
  simp only [sxZ,z5,z6,z7,z8,j4,j5,j6,j7,j8,j9,x9,y3,y4,y5,y6,reduceCtorEq,↓reduceIte,List.getElem?_set,hlen,t0,t1]
  refine zaj (hvc hCL hO6 fun o7 hO7 => ?_)
  rw [hcv]
  simp only [sxZ,z5,z6,z7,z8,j4,j5,j6,j7,j8,j9,x9,y3,y4,y5,y6,reduceCtorEq,↓reduceIte,List.getElem?_set,hlen,gn1,sn1,hcf]
  have hO8:=hO7.new (.box 25 [c0,c1',c2,c3])
  generalize o7.length=qi at hO8 ⊢
  generalize o7 ++ [OB.box 25 [c0,c1',c2,c3]]=o8 at hO8 ⊢
  refine zbp (fun tm => tm.length=98 ∧ tm[0]? = some (.p p 0) ∧ tm[1]? = some (.i .i64 (d:Int)) ∧ tm[4]? = some (.p qr 0) ∧ tm[5]? = some (.p qv 0) ∧ tm[6]? = some (.p qt 0) ∧ tm[9]? = some (.s T'.2.1) ∧ tm[10]? = some (.p qi 0)) ?_ ?_
  ·simp only [sxZ,z5,z6,z7,z8,j4,j5,j6,j7,j8,j9,x9,y3,y4,y5,y6,reduceCtorEq,↓reduceIte,List.length_set,List.getElem?_set,hlen,t0,t1,t4,t5,t6,t9,and_self]
  clear hO hO6 hO7 hlen t0 t1 t4 t5 t6 t9
  rintro tm ⟨hlen,t0,t1,t4,t5,t6,t9,t10⟩
  subst hZ
  refine zaa fun Z hZ => ?_
  have hO8p:zaF ((p,zaC s ρ5) :: (qt,zaM T2) :: (qv,jvB 7 X Y) :: (qr,zvB) :: (R1 ++ (R2 ++ L))) o8:=hO8.sub (List.sublist_cons_self _ _)
  obtain ⟨e1,e2,e3,e4,s1,s2,s3⟩:=st _ _ _ _ _ _ _ hO8p
  have ei:=hO8.get (i:=qi) (x:=.box 25 [c0,c1',c2,c3]) (by simp)
  refine zaA (fun o tm => ∃ X' R1' Y' R2',SlP (ks ++ [T'.2.1]) (its ++ [v]) X' R1' Y' R2' ∧ zaF ((p,zaC s ρ5) :: (qt,zaM T2) :: (qv,jvB 7 X' Y') :: (qr,zvB) :: (R1' ++ (R2' ++ L))) o ∧ tm.length=98 ∧ tm[0]? = some (.p p 0) ∧ tm[1]? = some (.i .i64 (d:Int)) ∧ tm[4]? = some (.p qr 0) ∧ tm[5]? = some (.p qv 0) ∧ tm[6]? = some (.p qt 0)) ?_ ?_
  ·rcases hS with ⟨z1,z2,rfl,rfl,rfl,rfl⟩ | ⟨b1,g1,b2,g2,rfl,rfl,rfl,rfl⟩
   ·have hlq:=(List.getElem?_eq_some_iff.1 e3).1
    have hli:=(List.getElem?_eq_some_iff.1 ei).1
    have n1:¬ qv=o8.length:=by omega
    have n2:¬ qi=o8.length:=by omega
    have h1:∀ x,(o8 ++ [x])[qv]? = some (.box 25 [.i .i64 7,.s [],.nil,.nil]):=fun x => by rw [List.getElem?_append_left hlq]; exact e3
    have h2:∀ x,(o8 ++ [x])[qi]? = some (.box 25 [c0,c1',c2,c3]):=fun x => by rw [List.getElem?_append_left hli]; exact ei
    have h3:∀ x y,(o8 ++ [x] ++ [y])[qv]? = some (.box 25 [.i .i64 7,.s [],.nil,.nil]):=fun x y => by rw [List.getElem?_append_left (by simp; omega)]; exact h1 x
    have h4:∀ x y z,((o8 ++ [x] ++ [y]).set qv z)[qv]? = some z:=fun x y z => List.getElem?_set_self (by simp; omega)
    subst z1 z2
    simp only [sxZ,z5,z6,z7,z8,j4,j5,j6,j7,j8,j9,x9,y3,y4,y5,y6,reduceCtorEq,↓reduceIte,List.getElem?_set,hlen,t5,t9,t10,e3,ei,gn1,sn1,h1,h2,h3,h4,n1,n2,zac,List.length_set,List.set_set,t0,t1,t4,t6,and_self,and_true,not_false_eq_true,true_and]
    have hN:=(hO8p.new (.orow 9 1 0 1 [AV.s T'.2.1])).new (.orow 25 4 0 1 [c0,c1',c2,c3])
    have elen:(o8 ++ [OB.orow 9 1 0 1 [AV.s T'.2.1]]).length=o8.length + 1:=by simp
    rw [elen] at hN
    have hR:=hN.set (A:=[(o8.length + 1,OB.orow 25 4 0 1 [c0,c1',c2,c3]),(o8.length,OB.orow 9 1 0 1 [AV.s T'.2.1]),(p,zaC s ρ5),(qt,zaM T2)]) (jvB 7 (.orow o8.length 0) (.orow (o8.length + 1) 0))
    refine ⟨_,[(o8.length,OB.orow 9 1 0 1 [AV.s T'.2.1])],_,[(o8.length + 1,OB.orow 25 4 0 1 [c0,c1',c2,c3])],.inr ⟨_,_,_,_,rfl,rfl,rfl,by rw [zap,zal,hcv]; rfl⟩,hR.perm ?_⟩
    refine (List.perm_append_comm (l₁:=[(o8.length + 1,OB.orow 25 4 0 1 [c0,c1',c2,c3]),(o8.length,OB.orow 9 1 0 1 [AV.s T'.2.1])]) (l₂:=[(p,zaC s ρ5),(qt,zaM T2),(qv,jvB 7 (.orow o8.length 0) (.orow (o8.length + 1) 0)),(qr,zvB)])).append_right L |>.trans ?_
    exact List.Perm.cons _ (List.Perm.cons _ (List.Perm.cons _ (List.Perm.cons _ (List.Perm.swap _ _ _))))
   ·have eb1:=hO8.get (i:=b1) (x:=.orow 9 1 g1 ks.length (ks.map .s)) (by simp)
    have eb2:=hO8.get (i:=b2) (x:=.orow 25 4 g2 its.length (zab its)) (by simp)
    have hlq:=(List.getElem?_eq_some_iff.1 e3).1
    have hl1:=(List.getElem?_eq_some_iff.1 eb1).1
    have hl2:=(List.getElem?_eq_some_iff.1 eb2).1
    have hnd8:=hO8.1
    simp only [List.map_cons,List.map_append,List.map_nil,List.nodup_cons,List.cons_append,List.nil_append,List.mem_cons,List.mem_append,List.not_mem_nil,or_false,not_or] at hnd8
    have n1:¬ qv=b1:=hnd8.2.2.2.1.2.1
    have n2:¬ qi=b1:=hnd8.1.2.2.2.2.1
    have n3:¬ b1=b2:=hnd8.2.2.2.2.2.1.1
    have n4:¬ qv=b2:=hnd8.2.2.2.1.2.2.1
    have n1':¬ b1=qv:=fun h => n1 h.symm
    have n2':¬ b1=qi:=fun h => n2 h.symm
    have n4':¬ b2=qv:=fun h => n4 h.symm
    have h0:∀ x,(o8.set b1 x)[b1]? = some x:=fun x => List.getElem?_set_self hl1
    have h1:∀ x,(o8.set b1 x)[qv]? = some (.box 25 [.i .i64 7,.s [],.orow b1 g1,.orow b2 g2]):=fun x => by rw [List.getElem?_set_ne n1']; exact e3
    have h2:∀ x,(o8.set b1 x)[qi]? = some (.box 25 [c0,c1',c2,c3]):=fun x => by rw [List.getElem?_set_ne n2']; exact ei
    have h5:∀ x,(o8.set b1 x)[b2]? = some (.orow 25 4 g2 its.length (zab its)):=fun x => by rw [List.getElem?_set_ne n3]; exact eb2
    have h3:∀ x y,((o8.set b1 x).set b2 y)[qv]? = some (.box 25 [.i .i64 7,.s [],.orow b1 g1,.orow b2 g2]):=fun x y => by rw [List.getElem?_set_ne n4']; exact h1 x
    have h4:∀ x y z,(((o8.set b1 x).set b2 y).set qv z)[qv]? = some z:=fun x y z => List.getElem?_set_self (by simp; omega)
    have hjl:=zat its
    simp only [sxZ,z5,z6,z7,z8,j4,j5,j6,j7,j8,j9,x9,y3,y4,y5,y6,reduceCtorEq,↓reduceIte,List.getElem?_set,hlen,t5,t9,t10,e3,ei,eb1,h0,h1,h2,h3,h4,h5,n1,n2,zac,List.length_set,List.set_set,t0,t1,t4,t6,and_self,and_true,not_false_eq_true,true_and]
    refine ⟨⟨by omega,by omega⟩,⟨by omega,by omega⟩,?_⟩
    have hN:=hO8p.set (A:=[(p,zaC s ρ5),(qt,zaM T2),(qv,jvB 7 (.orow b1 g1) (.orow b2 g2)),(qr,zvB)]) (.orow 9 1 (g1 + 1) (ks.length + 1) (ks.map AV.s ++ [AV.s T'.2.1]))
    have hN:=hN.set (A:=[(p,zaC s ρ5),(qt,zaM T2),(qv,jvB 7 (.orow b1 g1) (.orow b2 g2)),(qr,zvB),(b1,OB.orow 9 1 (g1 + 1) (ks.length + 1) (ks.map AV.s ++ [AV.s T'.2.1]))]) (.orow 25 4 (g2 + 1) (its.length + 1) (zab its ++ [c0,c1',c2,c3]))
    have hR:=hN.set (A:=[(p,zaC s ρ5),(qt,zaM T2)]) (jvB 7 (.orow b1 (g1 + 1)) (.orow b2 (g2 + 1)))
    exact ⟨_,[(b1,OB.orow 9 1 (g1 + 1) (ks.length + 1) (ks.map AV.s ++ [AV.s T'.2.1]))],_,[(b2,OB.orow 25 4 (g2 + 1) (its.length + 1) (zab its ++ [c0,c1',c2,c3]))],.inr ⟨_,_,_,_,rfl,by rw [List.map_append,List.length_append]; rfl,rfl,by rw [zaO,zap,zal,hcv,List.length_append]; rfl⟩,hR⟩
  clear hO8 hO8p hS hlen t0 t1 t4 t5 t6 t9 t10 e1 e2 e3 e4 s1 s2 s3 ei hCL hvc hv hg hn hcf hB hGB hTx
  rintro oc tm ⟨X',R1',Y',R2',hS,hO,hlen,t0,t1,t4,t5,t6⟩
  subst hZ
  refine zaa fun Z hZ => ?_
  simp only [sxZ,z5,z6,z7,z8,j4,j5,j6,j7,j8,j9,x9,y3,y4,y5,y6,reduceCtorEq,↓reduceIte,List.getElem?_set,hlen,t0]
  refine zaj (zb1 (by omega) hO fun o6 hO6 => ?_)
  have hB_ρ6:=za7 hg5
  have hT_ρ6:=zbo hg5
  have hn_ρ6:=zaZ s ρ5
  have hz_ρ6:=zbL s ρ5
  generalize zan s ρ5=N at hO6 hB_ρ6 hT_ρ6 hn_ρ6 hz_ρ6 hrobj ⊢
  obtain ⟨T6,ρ6⟩:=N
  simp only at hO6 hB_ρ6 hT_ρ6 hn_ρ6 hz_ρ6 hrobj ⊢
  obtain ⟨e1,e2,e3,e4,s1,s2,s3⟩:=st _ _ _ _ _ _ _ hO6
  unfold zge tkC
  simp only [sxZ,z5,z6,z7,z8,j4,j5,j6,j7,j8,j9,x9,y3,y4,y5,y6,reduceCtorEq,↓reduceIte,List.getElem?_set,hlen,t6,e2,s2]
  rw [f1]
  have hO7:zaF ((p,zaC s ρ6) :: (qt,zaM T6) :: (qv,jvB 7 X' Y') :: (qr,zvB) :: (R1' ++ (R2' ++ L))) (o6.set qt (zaM (T6.1,T6.2.1,T6.2.2))):=zaF.set (A:=[(p,zaC s ρ6)]) (zaM T6) hO6
  generalize o6.set qt (zaM (T6.1,T6.2.1,T6.2.2))=o7 at hO7 ⊢
  refine zbp (fun tm => tm.length=98 ∧ tm[0]? = some (.p p 0) ∧ tm[1]? = some (.i .i64 (d:Int)) ∧ tm[4]? = some (.p qr 0) ∧ tm[5]? = some (.p qv 0) ∧ tm[6]? = some (.p qt 0)) ?_ ?_
  ·simp only [sxZ,z5,z6,z7,z8,j4,j5,j6,j7,j8,j9,x9,y3,y4,y5,y6,reduceCtorEq,↓reduceIte,List.length_set,List.getElem?_set,hlen,t0,t1,t4,t5,t6,and_self]
  clear hO6 hO hlen t0 t1 t4 t5 t6 e1 e2 e3 e4 s1 s2 s3
  rintro tm ⟨hlen,t0,t1,t4,t5,t6⟩
  have hO:=hO7
  clear hO7
  subst hZ
  refine zaa fun Z hZ => ?_
  obtain ⟨e1,e2,e3,e4,s1,s2,s3⟩:=st _ _ _ _ _ _ _ hO
  simp only [sxZ,z5,z6,z7,z8,j4,j5,j6,j7,j8,j9,x9,y3,y4,y5,y6,reduceCtorEq,↓reduceIte,List.getElem?_set,hlen,t6,e2]
  refine zaj (zev T6 125 ?_)
  cases hcl:isP T6 125 with
  | true =>
   rw [hcl,if_pos rfl] at hrobj
   simp only [sxZ,z5,z6,z7,z8,j4,j5,j6,j7,j8,j9,x9,y3,y4,y5,y6,reduceCtorEq,↓reduceIte,List.getElem?_set,hlen,t4,t5,e3,e4,s1,hS.flat.1,hS.flat.2]
   exact fin hrobj hS hO
  | false =>
  rw [hcl,if_neg Bool.false_ne_true] at hrobj
  simp only [sxZ,z5,z6,z7,z8,j4,j5,j6,j7,j8,j9,x9,y3,y4,y5,y6,reduceCtorEq,↓reduceIte,List.getElem?_set,hlen]
  refine zbp (fun tm => tm.length=98 ∧ tm[0]? = some (.p p 0) ∧ tm[1]? = some (.i .i64 (d:Int)) ∧ tm[4]? = some (.p qr 0) ∧ tm[5]? = some (.p qv 0) ∧ tm[6]? = some (.p qt 0)) ?_ ?_
  ·simp only [sxZ,z5,z6,z7,z8,j4,j5,j6,j7,j8,j9,x9,y3,y4,y5,y6,reduceCtorEq,↓reduceIte,List.length_set,List.getElem?_set,hlen,t0,t1,t4,t5,t6,and_self]
  clear hlen t0 t1 t4 t5 t6 e1 e2 e3 e4 s1 s2 s3
  rintro tm ⟨hlen,t0,t1,t4,t5,t6⟩
  subst hZ
  refine zaa fun Z hZ => ?_
  refine zaA (fun o tm => zaF ((p,zaC s (zaV ρ6 T6 44)) :: (qt,zaM T6) :: (qv,jvB 7 X' Y') :: (qr,zvB) :: (R1' ++ (R2' ++ L))) o ∧ tm.length=98 ∧ tm[0]? = some (.p p 0) ∧ tm[1]? = some (.i .i64 (d:Int)) ∧ tm[4]? = some (.p qr 0) ∧ tm[5]? = some (.p qv 0) ∧ tm[6]? = some (.p qt 0)) ?_ ?_
  ·obtain ⟨e1,e2,e3,e4,s1,s2,s3⟩:=st _ _ _ _ _ _ _ hO
   refine zaa fun W hW => ?_
   by_cases c3:ρ6.fail=0
   rotate_left
   ·have hw:zaV ρ6 T6 44=ρ6:=by unfold zaV; rw [if_neg (fun h => c3 h.1)]
    simp only [sxZ,z5,z6,z7,z8,j4,j5,j6,j7,j8,j9,x9,y3,y4,y5,y6,reduceCtorEq,↓reduceIte,List.getElem?_set,hlen,t0,e1,c3]
    subst hW
    simp only [sxZ,z5,z6,z7,z8,j4,j5,j6,j7,j8,j9,x9,y3,y4,y5,y6,reduceCtorEq,↓reduceIte,zac,List.length_set,List.getElem?_set,hlen,t0,t1,t4,t5,t6,hw,and_self,and_true]
    exact hO
   ·simp only [sxZ,z5,z6,z7,z8,j4,j5,j6,j7,j8,j9,x9,y3,y4,y5,y6,reduceCtorEq,↓reduceIte,List.getElem?_set,hlen,t0,t6,e1,e2,c3]
    refine zaj (zev T6 44 ?_)
    cases h44:isP T6 44 with
    | true =>
     have hw:zaV ρ6 T6 44=ρ6:=by unfold zaV; rw [if_neg (fun h => by rw [h44] at h; cases h.2)]
     simp only [sxZ,z5,z6,z7,z8,j4,j5,j6,j7,j8,j9,x9,y3,y4,y5,y6,reduceCtorEq,↓reduceIte,List.getElem?_set,hlen]
     subst hW
     simp only [sxZ,z5,z6,z7,z8,j4,j5,j6,j7,j8,j9,x9,y3,y4,y5,y6,reduceCtorEq,↓reduceIte,zac,List.length_set,List.getElem?_set,hlen,t0,t1,t4,t5,t6,hw,and_self,and_true]
     exact hO
    | false =>
     have hw:zaV ρ6 T6 44=zaN ρ6 T6.2.2 140:=by unfold zaV; rw [if_pos ⟨c3,h44⟩]
     simp only [sxZ,z5,z6,z7,z8,j4,j5,j6,j7,j8,j9,x9,y3,y4,y5,y6,reduceCtorEq,↓reduceIte,List.getElem?_set,hlen]
     subst hW
     simp only [sxZ,z5,z6,z7,z8,j4,j5,j6,j7,j8,j9,x9,y3,y4,y5,y6,reduceCtorEq,↓reduceIte,List.getElem?_set,hlen,t0,t6,e2]
     refine zaj (zbR hO T6.2.2 140 fun o8 hO8 => ?_)
     simp only [sxZ,z5,z6,z7,z8,j4,j5,j6,j7,j8,j9,x9,y3,y4,y5,y6,reduceCtorEq,↓reduceIte,zac,List.length_set,List.getElem?_set,hlen,t0,t1,t4,t5,t6,hw,and_self,and_true]
     exact hO8
  clear hO hlen t0 t1 t4 t5 t6
  rintro oc tm ⟨hO,hlen,t0,t1,t4,t5,t6⟩
  have hG7:=zdS hB_ρ6.1 T6 44
  have hn7:=zdF ρ6 T6 44
  have hz7:=zdG ρ6 T6 44
  generalize zaV ρ6 T6 44=ρ7 at hO hG7 hn7 hz7 hrobj
  subst hZ
  simp only [sxZ,z5,z6,z7,z8,j4,j5,j6,j7,j8,j9,x9,y3,y4,y5,y6,reduceCtorEq,↓reduceIte,List.getElem?_set,hlen,t0]
  refine zaj (zb1 (by omega) hO fun o9 hO9 => ?_)
  have hB8:=za7 hG7
  have hT8:=zbo hG7
  have hn8:=zaZ s ρ7
  have hz8:=zbL s ρ7
  generalize zan s ρ7=N at hO9 hB8 hT8 hn8 hz8 hrobj ⊢
  obtain ⟨T8,ρ8⟩:=N
  simp only at hO9 hB8 hT8 hn8 hz8 hrobj ⊢
  obtain ⟨e1,e2,e3,e4,s1,s2,s3⟩:=st _ _ _ _ _ _ _ hO9
  unfold zge tkC
  simp only [sxZ,z5,z6,z7,z8,j4,j5,j6,j7,j8,j9,x9,y3,y4,y5,y6,reduceCtorEq,↓reduceIte,List.getElem?_set,hlen,t6,e2,s2]
  rw [f1]
  have hO10:zaF ((p,zaC s ρ8) :: (qt,zaM T8) :: (qv,jvB 7 X' Y') :: (qr,zvB) :: (R1' ++ (R2' ++ L))) (o9.set qt (zaM (T8.1,T8.2.1,T8.2.2))):=zaF.set (A:=[(p,zaC s ρ8)]) (zaM T8) hO9
  generalize o9.set qt (zaM (T8.1,T8.2.1,T8.2.2))=o10 at hO10 ⊢
  have zz:∀ {a b:Rs},zjQ a b → b.fail=0 → a.fail=0:=fun {a b} h hb => by
   by_cases c:a.fail=0
   ·exact c
   ·exact absurd ((h c).1.symm.trans hb) c
  refine ⟨m,by omega,i + 1,ρ8,T8,ks ++ [T'.2.1],its ++ [v],X',R1',Y',R2',by omega,by rw [List.length_append,hi]; rfl,by rw [List.length_append,hi2]; rfl,hrobj,hB8.1,hT8,fun hf => ?_,hS,hO10,?_⟩
  ·have q7:=zz hz8 hf
   have q6:=zz hz7 q7
   have q5:=zz hz_ρ6 q6
   have q4:=zz hz5 q5
   have:=hn5 q5
   have:=hnd c1
   omega
  ·simp only [sxZ,z5,z6,z7,z8,j4,j5,j6,j7,j8,j9,x9,y3,y4,y5,y6,reduceCtorEq,↓reduceIte,List.length_set,List.getElem?_set,hlen,t0,t1,t4,t5,t6,and_self]
end
end
section
attribute [local irreducible] run
theorem zjJ {L L':List (Nat × OB)} (h:zaE L) (hm:∀ y,y ∈ L' ↔ y ∈ L):zaE L':=fun y hy b g n xs hb => h y ((hm y).1 hy) b g n xs fun z hz => hb z ((hm z).2 hz)
theorem zdV {x:Nat × OB} {i T:Nat} {cs:List AV} {L:List (Nat × OB)} (h:zaE (x :: L)) (hp:zam cs=true):zaE (x :: (i,.box T cs) :: L) :=
 zjJ (zcH (i:=i) (T:=T) h hp) fun y => by simp only [List.mem_cons]; exact ⟨fun h => by rcases h with h | h | h <;> simp [h],fun h => by rcases h with h | h | h <;> simp [h]⟩
theorem den_leaf {k:Int} {x:List UInt8} {G:Gh} {I:Imm} {y:Value} (h:Den G I (.agg [.i .i64 k,.s x,.nil,.nil]) y):Den G I (.agg (zad (.mk k x [] []))) y:=by
 rw [zad,zal]
 simp only [zah,Den] at h ⊢
 obtain ⟨zs,rfl,⟨z0,m0,rfl,q0,z1,m1,rfl,q1,z2,m2,rfl,q2,z3,m3,rfl,q3,q4⟩,hz⟩:=h
 refine ⟨_,rfl,⟨_,_,rfl,q0,_,_,rfl,q1,_,_,rfl,?_,_,_,rfl,?_,q4⟩,hz⟩
 ·exact ⟨none,0,[],q2,⟨Nat.le_refl _,fun ad h => by cases h⟩,rfl,by simp,by simp⟩
 ·exact ⟨none,0,[],q3,⟨Nat.le_refl _,fun ad h => by cases h⟩,rfl,by simp,by simp⟩
def Res (K:List OB → AV → Prop) (v:JV) (o:List OB) (r:AV):Prop:=(∀ G I y,Den G I r y → Den G I (.agg (zad v)) y) ∧ K o (.agg (zad v))
theorem zdn {K:List OB → AV → Prop} {k:Int} {x:List UInt8} {o:List OB} (h:K o (.agg (zad (.mk k x [] [])))):Res K (.mk k x [] []) o (.agg [.i .i64 k,.s x,.nil,.nil]):=⟨fun _ _ _ hy => den_leaf hy,h⟩
section
variable [Tabs Try.prog] [Utf Try.prog] {p:Nat} {s:List UInt8}
theorem value_k (hs:s.length ≤ 1048576):∀ f d,f + d=65 → d ≤ 64 → ValK s p d (fun ρ t => zaz s f ρ t d):=by
 intro f
 induction f with
 | zero => intro d hd hd2; omega
 | succ f ih =>
  intro d hd hd2
  unfold ValK
  intro objs K L ρ t hB hT hTx hC hO hk
  dsimp only at hk
  refine jres (.agg (zad (zaz s (f + 1) ρ t d).1)) ?_
  show zae _ _ _ _ (Res K (zaz s (f + 1) ρ t d).1)
  refine zbj is_ref14_parser_value fun C _ => ?_
  obtain ⟨k5,k4,kw,k6,k7,kw2⟩:=vk_kind (t:=t)
  rw [c_ref14_parser_value]
  refine zaa fun Z hZ => ?_
  unfold zge tkC
  simp only [sxZ,z5,z6,z7,z8,j4,j5,j6,j7,j8,j9,x9,y3,y4,y5,y6,reduceCtorEq,↓reduceIte]
  have hO1:=(hO.new (zaM t)).new zvB
  have elen:(objs ++ [zaM t]).length=objs.length + 1:=by simp
  rw [elen] at hO1
  unfold zaM tkC zvB at hO1
  generalize objs.length=qt at hO1 ⊢
  generalize objs ++ [OB.box 59 [.i .i64 t.1,.s t.2.1,.i .i64 t.2.2]] ++ [OB.box 25 [.i .i64 0,.s [],.nil,.nil]]=o at hO1 ⊢
  have hO1:zaF ((p,zaC s ρ) :: (qt,zaM t) :: (qt + 1,zvB) :: L) o:=hO1.perm ((List.reverse_perm [(p,zaC s ρ),(qt,zaM t),(qt + 1,zvB)]).append_right L)
  generalize qt + 1=qr at hO1 ⊢
  have fin:∀ (o:List OB) (ρ':Rs) (x:OB) (M:List (Nat × OB)),zaF ((p,zaC s ρ') :: (qt,zaM t) :: (qr,zvB) :: (M ++ L)) o → zaF ((p,zaC s ρ') :: L) (o.set qr x):=fun o ρ' x M h => (zaF.set (A:=[(p,zaC s ρ'),(qt,zaM t)]) x h).sub ((((List.sublist_append_right M L).trans (List.sublist_cons_self _ _)).trans (List.sublist_cons_self _ _)).cons_cons _)
  have st:∀ (o:List OB) (ρ':Rs) (M:List (Nat × OB)),zaF ((p,zaC s ρ') :: (qt,zaM t) :: (qr,zvB) :: (M ++ L)) o → o[p]? = some (.box 56 [.s s,.i .i64 ρ'.pos,.i .i64 (ρ'.nodes:Int),.i .i64 ρ'.fail,.i .i64 ρ'.wh]) ∧ o[qt]? = some (.box 59 [.i .i64 t.1,.s t.2.1,.i .i64 t.2.2]) ∧ o[qr]? = some (.box 25 [.i .i64 0,.s [],.nil,.nil]) ∧ (∀ x,(o.set qr x)[qr]? = some x) :=
   fun o ρ' M h => ⟨h.get (by simp [zaC]),h.get (by simp [zaM,tkC]),h.get (by simp [zvB]),fun x => List.getElem?_set_self (h.lt (i:=qr) (x:=zvB) (by simp))⟩
  have hO1:zaF ((p,zaC s ρ) :: (qt,zaM t) :: (qr,zvB) :: ([] ++ L)) o:=hO1
  obtain ⟨e1,e2,e3,s1⟩:=st _ _ _ hO1
  subst hZ
  refine zaa fun Z hZ => ?_
  refine zaA (fun o' tm => o=o' ∧ tm.length=117 ∧ tm[0]? = some (.p p 0) ∧ tm[2]? = some (.i .i64 (d:Int)) ∧ tm[4]? = some (.p qt 0) ∧ tm[6]? = some (.p qr 0) ∧ tm[7]? = some (.b (!decide (vkE t=0)))) ?_ ?_
  ·by_cases a3:t.1=3
   ·have hv:¬ vkE t=0:=by have:=k5.2 a3; omega
    simp only [sxZ,z5,z6,z7,z8,j4,j5,j6,j7,j8,j9,x9,y3,y4,y5,y6,reduceCtorEq,↓reduceIte,e2,a3,zac,hv,decide_false,Bool.not_false,and_self]
   by_cases a4:t.1=4
   ·have hv:¬ vkE t=0:=by have:=k4.2 a4; omega
    simp only [sxZ,z5,z6,z7,z8,j4,j5,j6,j7,j8,j9,x9,y3,y4,y5,y6,reduceCtorEq,↓reduceIte,e2,a3,a4,zac,hv,decide_false,Bool.not_false,and_self]
   by_cases a5:t.1=5
   ·have hv:¬ vkE t=0:=by have:=kw.2 a5; omega
    simp only [sxZ,z5,z6,z7,z8,j4,j5,j6,j7,j8,j9,x9,y3,y4,y5,y6,reduceCtorEq,↓reduceIte,e2,a3,a4,a5,zac,hv,decide_false,Bool.not_false,and_self]
   simp only [sxZ,z5,z6,z7,z8,j4,j5,j6,j7,j8,j9,x9,y3,y4,y5,y6,reduceCtorEq,↓reduceIte,e2,a3,a4,a5]
   refine zaj (zev t 91 ?_)
   cases h91:isP t 91 with
   | true =>
    have hv:¬ vkE t=0:=by have:=k6.2 h91; omega
    simp only [sxZ,z5,z6,z7,z8,j4,j5,j6,j7,j8,j9,x9,y3,y4,y5,y6,reduceCtorEq,↓reduceIte,zac,hv,decide_false,Bool.not_false,and_self]
   | false =>
    simp only [sxZ,z5,z6,z7,z8,j4,j5,j6,j7,j8,j9,x9,y3,y4,y5,y6,reduceCtorEq,↓reduceIte,e2]
    refine zaj (zev t 123 ?_)
    cases h123:isP t 123 with
    | true =>
     have hv:¬ vkE t=0:=by have:=k7.2 h123; omega
     simp only [sxZ,z5,z6,z7,z8,j4,j5,j6,j7,j8,j9,x9,y3,y4,y5,y6,reduceCtorEq,↓reduceIte,zac,hv,decide_false,Bool.not_false,and_self]
    | false =>
     have hv:vkE t=0:=by
      have n5:¬ vkE t=5:=fun h => a3 (k5.1 h)
      have n4:¬ vkE t=4:=fun h => a4 (k4.1 h)
      have nw:¬ (vkE t=1 ∨ vkE t=2 ∨ vkE t=3):=fun h => a5 (kw.1 h)
      have n6:¬ vkE t=6:=fun h => by rw [k6.1 h] at h91; cases h91
      have n7:¬ vkE t=7:=fun h => by rw [k7.1 h] at h123; cases h123
      have:=vk_val t
      omega
     simp only [sxZ,z5,z6,z7,z8,j4,j5,j6,j7,j8,j9,x9,y3,y4,y5,y6,reduceCtorEq,↓reduceIte,zac,hv,decide_true,Bool.not_true,and_self]
  rintro o' tm ⟨rfl,hlen,t0,t2,t4,t6,t7⟩
  subst hZ
  refine zaa fun Z hZ => ?_
  by_cases c0:ρ.fail=0
  rotate_left
  ·rw [zaz,if_pos c0] at hk ⊢
   simp only [sxZ,z5,z6,z7,z8,j4,j5,j6,j7,j8,j9,x9,y3,y4,y5,y6,reduceCtorEq,↓reduceIte,List.getElem?_set,hlen,t0,t6,e1,e3,c0,s1]
   exact zdn (hk _ (fin _ _ _ _ hO1))
  rw [zaz,if_neg (fun h => h c0)] at hk ⊢
  simp only [sxZ,z5,z6,z7,z8,j4,j5,j6,j7,j8,j9,x9,y3,y4,y5,y6,reduceCtorEq,↓reduceIte,List.getElem?_set,hlen,t0,e1,c0]
  subst hZ
  refine zaa fun Z hZ => ?_
  by_cases cv:vkE t=0
  ·rw [if_pos cv] at hk ⊢
   simp only [cv,decide_true,Bool.not_true] at t7
   simp only [sxZ,z5,z6,z7,z8,j4,j5,j6,j7,j8,j9,x9,y3,y4,y5,y6,reduceCtorEq,↓reduceIte,List.getElem?_set,hlen,t0,t4,t7,e2]
   refine zaj (zbR hO1 t.2.2 140 fun o2 hO2 => ?_)
   obtain ⟨e1,e2,e3,s1⟩:=st _ _ _ hO2
   simp only [sxZ,z5,z6,z7,z8,j4,j5,j6,j7,j8,j9,x9,y3,y4,y5,y6,reduceCtorEq,↓reduceIte,List.getElem?_set,hlen,t6,e3,s1]
   exact zdn (hk _ (fin _ _ _ _ hO2))
  rw [if_neg cv] at hk ⊢
  simp only [cv,decide_false,Bool.not_false] at t7
  simp only [sxZ,z5,z6,z7,z8,j4,j5,j6,j7,j8,j9,x9,y3,y4,y5,y6,reduceCtorEq,↓reduceIte,List.getElem?_set,hlen,t7]
  subst hZ
  refine zaa fun Z hZ => ?_
  by_cases c2:t.1=2 ∧ d=64
  ·rw [if_pos c2] at hk ⊢
   have c2b:(d:Int)=64:=by omega
   have c2a:=c2.1
   simp only [sxZ,z5,z6,z7,z8,j4,j5,j6,j7,j8,j9,x9,y3,y4,y5,y6,reduceCtorEq,↓reduceIte,List.getElem?_set,hlen,t0,t2,t4,e2,c2a,c2b]
   refine zaj (zbR hO1 t.2.2 141 fun o2 hO2 => ?_)
   obtain ⟨e1,e2,e3,s1⟩:=st _ _ _ hO2
   simp only [sxZ,z5,z6,z7,z8,j4,j5,j6,j7,j8,j9,x9,y3,y4,y5,y6,reduceCtorEq,↓reduceIte,List.getElem?_set,hlen,t6,e3,s1]
   exact zdn (hk _ (fin _ _ _ _ hO2))
  rw [if_neg c2] at hk ⊢
  refine zaA (fun o' tm => o=o' ∧ tm.length=117 ∧ tm[0]? = some (.p p 0) ∧ tm[2]? = some (.i .i64 (d:Int)) ∧ tm[4]? = some (.p qt 0) ∧ tm[6]? = some (.p qr 0)) ?_ ?_
  ·by_cases c2a:t.1=2
   ·have c2b:¬ (d:Int)=64:=fun h => c2 ⟨c2a,by omega⟩
    simp only [sxZ,z5,z6,z7,z8,j4,j5,j6,j7,j8,j9,x9,y3,y4,y5,y6,reduceCtorEq,↓reduceIte,List.getElem?_set,hlen,t0,t2,t4,t6,e2,c2a,c2b,zac,List.length_set,and_self]
   ·simp only [sxZ,z5,z6,z7,z8,j4,j5,j6,j7,j8,j9,x9,y3,y4,y5,y6,reduceCtorEq,↓reduceIte,List.getElem?_set,hlen,t0,t2,t4,t6,e2,c2a,zac,List.length_set,and_self]
  clear hlen t0 t2 t4 t6 t7
  rintro o' tm ⟨rfl,hlen,t0,t2,t4,t6⟩
  subst hZ
  refine zaa fun Z hZ => ?_
  have hO2:=hO1.new (.box 25 [.i .i64 5,.s t.2.1,.nil,.nil])
  have hO2:zaF ((p,zaC s ρ) :: (qt,zaM t) :: (qr,zvB) :: ([(o.length,.box 25 [.i .i64 5,.s t.2.1,.nil,.nil])] ++ L)) (o ++ [.box 25 [.i .i64 5,.s t.2.1,.nil,.nil]]):=hO2.perm (List.perm_middle (l₁:=[(p,zaC s ρ),(qt,zaM t),(qr,zvB)])).symm
  simp only [sxZ,z5,z6,z7,z8,j4,j5,j6,j7,j8,j9,x9,y3,y4,y5,y6,reduceCtorEq,↓reduceIte,List.getElem?_set,hlen,t4,e2,gn1,sn1]
  have hqv:¬ o.length=qt ∧ ¬ o.length=p:=by
   have h1:=hO1.lt (i:=qt) (x:=zaM t) (by simp)
   have h2:=hO1.lt (i:=p) (x:=zaC s ρ) (by simp)
   omega
  generalize o.length=qv at hO2 hqv ⊢
  generalize o ++ [OB.box 25 [.i .i64 5,.s t.2.1,.nil,.nil]]=o2 at hO2 ⊢
  refine zbp (fun tm => tm.length=117 ∧ tm[0]? = some (.p p 0) ∧ tm[2]? = some (.i .i64 (d:Int)) ∧ tm[4]? = some (.p qt 0) ∧ tm[6]? = some (.p qr 0) ∧ tm[8]? = some (.p qv 0)) ?_ ?_
  ·simp only [sxZ,z5,z6,z7,z8,j4,j5,j6,j7,j8,j9,x9,y3,y4,y5,y6,reduceCtorEq,↓reduceIte,List.length_set,List.getElem?_set,hlen,t0,t2,t4,t6,and_self]
  clear hlen t0 t2 t4 t6 e1 e2 e3 s1 hO1
  rintro tm ⟨hlen,t0,t2,t4,t6,t8⟩
  subst hZ
  refine zaa fun Z hZ => ?_
  have hcnt:zbq ρ t=(if 20000 < (if t.1=4 ∧ ¬ (zb9 t.2.1).1=0 then zaN ρ t.2.2 (zb9 t.2.1).1 else ρ).nodes + 1 then zaN ⟨(if t.1=4 ∧ ¬ (zb9 t.2.1).1=0 then zaN ρ t.2.2 (zb9 t.2.1).1 else ρ).pos,(if t.1=4 ∧ ¬ (zb9 t.2.1).1=0 then zaN ρ t.2.2 (zb9 t.2.1).1 else ρ).nodes + 1,(if t.1=4 ∧ ¬ (zb9 t.2.1).1=0 then zaN ρ t.2.2 (zb9 t.2.1).1 else ρ).fail,(if t.1=4 ∧ ¬ (zb9 t.2.1).1=0 then zaN ρ t.2.2 (zb9 t.2.1).1 else ρ).wh⟩ t.2.2 142 else ⟨(if t.1=4 ∧ ¬ (zb9 t.2.1).1=0 then zaN ρ t.2.2 (zb9 t.2.1).1 else ρ).pos,(if t.1=4 ∧ ¬ (zb9 t.2.1).1=0 then zaN ρ t.2.2 (zb9 t.2.1).1 else ρ).nodes + 1,(if t.1=4 ∧ ¬ (zb9 t.2.1).1=0 then zaN ρ t.2.2 (zb9 t.2.1).1 else ρ).fail,(if t.1=4 ∧ ¬ (zb9 t.2.1).1=0 then zaN ρ t.2.2 (zb9 t.2.1).1 else ρ).wh⟩):=rfl
  have hxn:(if t.1=4 ∧ ¬ (zb9 t.2.1).1=0 then zaN ρ t.2.2 (zb9 t.2.1).1 else ρ).nodes=ρ.nodes:=by
   split
   ·exact zc7 _ _ _
   ·rfl
  generalize hx:(if t.1=4 ∧ ¬ (zb9 t.2.1).1=0 then zaN ρ t.2.2 (zb9 t.2.1).1 else ρ)=x at hcnt hxn
  refine zaA (fun o tm => zaF ((p,zaC s x) :: (qt,zaM t) :: (qr,zvB) :: ([(qv,.box 25 [.i .i64 (if t.1=4 then 4 else 5),.s (if t.1=4 then (zb9 t.2.1).2 else t.2.1),.nil,.nil])] ++ L)) o ∧ tm.length=117 ∧ tm[0]? = some (.p p 0) ∧ tm[2]? = some (.i .i64 (d:Int)) ∧ tm[4]? = some (.p qt 0) ∧ tm[6]? = some (.p qr 0) ∧ tm[8]? = some (.p qv 0)) ?_ ?_
  ·obtain ⟨e1,e2,e3,s1⟩:=st _ _ _ hO2
   by_cases a4:t.1=4
   rotate_left
   ·rw [if_neg (fun h => a4 h.1)] at hx
    subst hx
    simp only [sxZ,z5,z6,z7,z8,j4,j5,j6,j7,j8,j9,x9,y3,y4,y5,y6,reduceCtorEq,↓reduceIte,List.getElem?_set,hlen,t0,t2,t4,t6,t8,e2,a4,zac,List.length_set,and_self,and_true,if_false]
    exact hO2
   have eqv:=hO2.get (i:=qv) (x:=.box 25 [.i .i64 5,.s t.2.1,.nil,.nil]) (by simp)
   simp only [sxZ,z5,z6,z7,z8,j4,j5,j6,j7,j8,j9,x9,y3,y4,y5,y6,reduceCtorEq,↓reduceIte,List.getElem?_set,hlen,t4,e2,a4]
   refine zaj (zke t.2.1 (by omega) ?_)
   by_cases cn:(zb9 t.2.1).1=0
   ·rw [if_neg (fun h => h.2 cn)] at hx
    subst hx
    simp only [sxZ,z5,z6,z7,z8,j4,j5,j6,j7,j8,j9,x9,y3,y4,y5,y6,reduceCtorEq,↓reduceIte,List.getElem?_set,hlen,t0,t2,t4,t6,t8,cn,eqv,zac,List.length_set,and_self,and_true,if_pos]
    exact zaF.set (A:=[(p,zaC s ρ),(qt,zaM t),(qr,zvB)]) (.box 25 [.i .i64 4,.s (zb9 t.2.1).2,.nil,.nil]) hO2
   ·rw [if_pos ⟨a4,cn⟩] at hx
    simp only [sxZ,z5,z6,z7,z8,j4,j5,j6,j7,j8,j9,x9,y3,y4,y5,y6,reduceCtorEq,↓reduceIte,List.getElem?_set,hlen,t0,t4,e2,cn]
    refine zaj (zbR hO2 t.2.2 (zb9 t.2.1).1 fun o3 hO3 => ?_)
    rw [hx] at hO3
    have eqv:=hO3.get (i:=qv) (x:=.box 25 [.i .i64 5,.s t.2.1,.nil,.nil]) (by simp)
    simp only [sxZ,z5,z6,z7,z8,j4,j5,j6,j7,j8,j9,x9,y3,y4,y5,y6,reduceCtorEq,↓reduceIte,List.getElem?_set,hlen,t0,t2,t4,t6,t8,eqv,zac,List.length_set,and_self,and_true,if_pos]
    exact zaF.set (A:=[(p,zaC s x),(qt,zaM t),(qr,zvB)]) (.box 25 [.i .i64 4,.s (zb9 t.2.1).2,.nil,.nil]) hO3
  clear hlen t0 t2 t4 t6 t8 hO2 hx
  generalize hkk:(if t.1=4 then (4:Int) else 5)=kk
  generalize hxx:(if t.1=4 then (zb9 t.2.1).2 else t.2.1)=xx
  rintro o3 tm ⟨hO3,hlen,t0,t2,t4,t6,t8⟩
  subst hZ
  refine zaa fun Z hZ => ?_
  have f2:∀ b:Rs,OB.box 56 [.s s,.i .i64 b.pos,.i .i64 ((b.nodes:Int) + 1),.i .i64 b.fail,.i .i64 b.wh]=zaC s ⟨b.pos,b.nodes + 1,b.fail,b.wh⟩:=fun _ => rfl
  have hnb:=hB.n1
  refine zaA (fun o tm => zaF ((p,zaC s (zbq ρ t)) :: (qt,zaM t) :: (qr,zvB) :: ([(qv,.box 25 [.i .i64 kk,.s xx,.nil,.nil])] ++ L)) o ∧ tm.length=117 ∧ tm[0]? = some (.p p 0) ∧ tm[2]? = some (.i .i64 (d:Int)) ∧ tm[4]? = some (.p qt 0) ∧ tm[6]? = some (.p qr 0) ∧ tm[8]? = some (.p qv 0)) ?_ ?_
  ·obtain ⟨e1,e2,e3,s1⟩:=st _ _ _ hO3
   refine zaa fun W hW => ?_
   simp only [sxZ,z5,z6,z7,z8,j4,j5,j6,j7,j8,j9,x9,y3,y4,y5,y6,reduceCtorEq,↓reduceIte,List.getElem?_set,hlen,t0,e1]
   refine ⟨⟨by omega,by omega⟩,?_⟩
   rw [f2]
   have hO4:=zaF.set (A:=[]) (zaC s ⟨x.pos,x.nodes + 1,x.fail,x.wh⟩) hO3
   have hO4:zaF ((p,zaC s ⟨x.pos,x.nodes + 1,x.fail,x.wh⟩) :: (qt,zaM t) :: (qr,zvB) :: ([(qv,.box 25 [.i .i64 kk,.s xx,.nil,.nil])] ++ L)) (o3.set p (zaC s ⟨x.pos,x.nodes + 1,x.fail,x.wh⟩)):=hO4
   generalize o3.set p (zaC s ⟨x.pos,x.nodes + 1,x.fail,x.wh⟩)=o4 at hO4 ⊢
   obtain ⟨e1,e2,e3,s1⟩:=st _ _ _ hO4
   subst hW
   by_cases c7:20000 < x.nodes + 1
   ·rw [if_pos c7] at hcnt
    have c7':(20000:Int) < ((x.nodes + 1:Nat):Int):=by omega
    simp only [sxZ,z5,z6,z7,z8,j4,j5,j6,j7,j8,j9,x9,y3,y4,y5,y6,reduceCtorEq,↓reduceIte,List.getElem?_set,hlen,t0,t2,t4,t6,e1,e2,c7']
    refine zaj (zbR hO4 t.2.2 142 fun o5 hO5 => ?_)
    rw [← hcnt] at hO5
    simp only [sxZ,z5,z6,z7,z8,j4,j5,j6,j7,j8,j9,x9,y3,y4,y5,y6,reduceCtorEq,↓reduceIte,List.getElem?_set,hlen,t0,t2,t4,t6,t8,zac,List.length_set,and_self,and_true]
    exact hO5
   ·rw [if_neg c7] at hcnt
    have c7':¬ (20000:Int) < ((x.nodes + 1:Nat):Int):=by omega
    rw [← hcnt] at hO4
    simp only [sxZ,z5,z6,z7,z8,j4,j5,j6,j7,j8,j9,x9,y3,y4,y5,y6,reduceCtorEq,↓reduceIte,List.getElem?_set,hlen,t0,t2,t4,t6,t8,e1,c7',zac,List.length_set,and_self,and_true]
    exact hO4
  clear hO3 hlen t0 t2 t4 t6 t8 hcnt hxn x
  rintro o4 tm ⟨hO4,hlen,t0,t2,t4,t6,t8⟩
  have hGc:=ziO hB hT (vk_end cv) c0
  have hGv:GV s (fun ρ t => zaz s f ρ t (d + 1)):=zee s f (d + 1)
  generalize zbq ρ t=ρc at hO4 hGc hk ⊢
  obtain ⟨e1,e2,e3,s1⟩:=st _ _ _ hO4
  subst hZ
  refine zaa fun Z hZ => ?_
  rw [zaw]
  have hCa:zaE ((p,zaC s ρc) :: (qt,zaM t) :: (qr,zvB) :: ([(qv,.box 25 [.i .i64 kk,.s xx,.nil,.nil])] ++ L)):=zdV (zdV (zdV (zeR hC) rfl) rfl) rfl
  by_cases a5:t.1=5
  ·rw [if_pos a5] at hk ⊢
   simp only [sxZ,z5,z6,z7,z8,j4,j5,j6,j7,j8,j9,x9,y3,y4,y5,y6,reduceCtorEq,↓reduceIte,List.getElem?_set,hlen,t4,e2,a5]
   refine zaj (rword_k t.2.1 ?_)
   simp only [sxZ,z5,z6,z7,z8,j4,j5,j6,j7,j8,j9,x9,y3,y4,y5,y6,reduceCtorEq,↓reduceIte,List.getElem?_set,hlen,t6,e3,s1]
   exact zdn (hk _ (fin _ _ _ _ hO4))
  rw [if_neg a5] at hk ⊢
  simp only [sxZ,z5,z6,z7,z8,j4,j5,j6,j7,j8,j9,x9,y3,y4,y5,y6,reduceCtorEq,↓reduceIte,List.getElem?_set,hlen,t4,e2,a5]
  refine zaj (zev t 91 ?_)
  cases h91:isP t 91 with
  | true =>
   have h2:=(ziL h91).1
   have hd3:d < 64:=by
    rcases Nat.lt_or_ge d 64 with h | h
    ·exact h
    ·exact absurd ⟨h2,by omega⟩ c2
   have hval:ValK s p (d + 1) (fun ρ t => zaz s f ρ t (d + 1)):=ih (d + 1) (by omega) (by omega)
   have hn1:=fun ρ t => (zfC s f (d + 1)).2 ρ t (by omega)
   rw [h91] at hk
   rw [if_pos rfl] at hk ⊢
   simp only [sxZ,z5,z6,z7,z8,j4,j5,j6,j7,j8,j9,x9,y3,y4,y5,y6,reduceCtorEq,↓reduceIte,List.getElem?_set,hlen,t0,t2]
   refine ⟨⟨by omega,by omega⟩,?_⟩
   rw [show ((d:Int) + 1)=((d + 1:Nat):Int) from rfl]
   refine zaj (array_k hval hGv hn1 hs hGc hCa hO4 fun o9 hO9 => ?_)
   obtain ⟨e1,e2,e3,s1⟩:=st _ _ _ hO9
   generalize (zfJ s (fun ρ t => zaz s f ρ t (d + 1)) ρc).1=v at hk ⊢
   have hk2:=hk _ (fin _ _ (.box 25 (zad v)) _ hO9)
   have hjc:=zag v
   rw [hjc] at hk2 ⊢
   simp only [sxZ,z5,z6,z7,z8,j4,j5,j6,j7,j8,j9,x9,y3,y4,y5,y6,reduceCtorEq,↓reduceIte,List.getElem?_set,hlen,t6,e3,s1]
   exact ⟨fun G I y hy => by rw [hjc]; exact hy,by rw [hjc]; exact hk2⟩
  | false =>
  rw [h91] at hk
  rw [if_neg Bool.false_ne_true] at hk ⊢
  simp only [sxZ,z5,z6,z7,z8,j4,j5,j6,j7,j8,j9,x9,y3,y4,y5,y6,reduceCtorEq,↓reduceIte,List.getElem?_set,hlen,t4,e2]
  refine zaj (zev t 123 ?_)
  cases h123:isP t 123 with
  | true =>
   have h2:=(ziL h123).1
   have hd3:d < 64:=by
    rcases Nat.lt_or_ge d 64 with h | h
    ·exact h
    ·exact absurd ⟨h2,by omega⟩ c2
   have hval:ValK s p (d + 1) (fun ρ t => zaz s f ρ t (d + 1)):=ih (d + 1) (by omega) (by omega)
   have hn1:=fun ρ t => (zfC s f (d + 1)).2 ρ t (by omega)
   rw [h123] at hk
   rw [if_pos rfl] at hk ⊢
   simp only [sxZ,z5,z6,z7,z8,j4,j5,j6,j7,j8,j9,x9,y3,y4,y5,y6,reduceCtorEq,↓reduceIte,List.getElem?_set,hlen,t0,t2]
   refine ⟨⟨by omega,by omega⟩,?_⟩
   rw [show ((d:Int) + 1)=((d + 1:Nat):Int) from rfl]
   refine zaj (object_k hval hGv hn1 (fun ρ t => zhc s f ρ t (d + 1)) hs hGc hCa hO4 fun o9 hO9 => ?_)
   obtain ⟨e1,e2,e3,s1⟩:=st _ _ _ hO9
   generalize (zga s (fun ρ t => zaz s f ρ t (d + 1)) ρc).1=v at hk ⊢
   have hk2:=hk _ (fin _ _ (.box 25 (zad v)) _ hO9)
   have hjc:=zag v
   rw [hjc] at hk2 ⊢
   simp only [sxZ,z5,z6,z7,z8,j4,j5,j6,j7,j8,j9,x9,y3,y4,y5,y6,reduceCtorEq,↓reduceIte,List.getElem?_set,hlen,t6,e3,s1]
   exact ⟨fun G I y hy => by rw [hjc]; exact hy,by rw [hjc]; exact hk2⟩
  | false =>
  rw [h123] at hk
  rw [if_neg Bool.false_ne_true] at hk ⊢
  have eqv:=hO4.get (i:=qv) (x:=.box 25 [.i .i64 kk,.s xx,.nil,.nil]) (by simp)
  simp only [sxZ,z5,z6,z7,z8,j4,j5,j6,j7,j8,j9,x9,y3,y4,y5,y6,reduceCtorEq,↓reduceIte,List.getElem?_set,hlen]
  subst hZ
  simp only [sxZ,z5,z6,z7,z8,j4,j5,j6,j7,j8,j9,x9,y3,y4,y5,y6,reduceCtorEq,↓reduceIte,List.getElem?_set,hlen,t6,t8,eqv,e3,s1]
  have hkv:(if t.1=4 then (JV.mk 4 (zb9 t.2.1).2 [] [],ρc) else (JV.mk 5 t.2.1 [] [],ρc))=(JV.mk kk xx [] [],ρc):=by
   rw [← hkk,← hxx]
   split <;> rfl
  rw [hkv] at hk ⊢
  exact zdn (hk _ (fin _ _ _ _ hO4))
end
end
section
attribute [local irreducible] run
section
variable [Tabs Try.prog] [Utf Try.prog] {objs:List OB} {K:List OB → AV → Prop}
theorem zh8 (s:List UInt8) (hs:s.length ≤ 1048576) (hk:K objs (zfP (zc2 s))):zae Try.prog 10 [.s s] objs K:=by
 refine jres (zfP (zc2 s)) ?_
 refine zaQ is_ref14_Parse rfl fun C _ => ?_
 have hr:zc2 s=(if 1048576 < s.length then (jvZ,0,142) else
   if ¬ (if (zan s (zaz s 65 (zan s rs0).2 (zan s rs0).1 0).2).2.fail=0 ∧ ¬ (zan s (zaz s 65 (zan s rs0).2 (zan s rs0).1 0).2).1.1=1 then zaN (zan s (zaz s 65 (zan s rs0).2 (zan s rs0).1 0).2).2 (zan s (zaz s 65 (zan s rs0).2 (zan s rs0).1 0).2).1.2.2 140 else (zan s (zaz s 65 (zan s rs0).2 (zan s rs0).1 0).2).2).fail=0 then (jvZ,(if (zan s (zaz s 65 (zan s rs0).2 (zan s rs0).1 0).2).2.fail=0 ∧ ¬ (zan s (zaz s 65 (zan s rs0).2 (zan s rs0).1 0).2).1.1=1 then zaN (zan s (zaz s 65 (zan s rs0).2 (zan s rs0).1 0).2).2 (zan s (zaz s 65 (zan s rs0).2 (zan s rs0).1 0).2).1.2.2 140 else (zan s (zaz s 65 (zan s rs0).2 (zan s rs0).1 0).2).2).wh,(if (zan s (zaz s 65 (zan s rs0).2 (zan s rs0).1 0).2).2.fail=0 ∧ ¬ (zan s (zaz s 65 (zan s rs0).2 (zan s rs0).1 0).2).1.1=1 then zaN (zan s (zaz s 65 (zan s rs0).2 (zan s rs0).1 0).2).2 (zan s (zaz s 65 (zan s rs0).2 (zan s rs0).1 0).2).1.2.2 140 else (zan s (zaz s 65 (zan s rs0).2 (zan s rs0).1 0).2).2).fail) else ((zaz s 65 (zan s rs0).2 (zan s rs0).1 0).1,(s.length:Int),0)):=rfl
 rw [if_neg (by omega)] at hr
 have finE:∀ {a e:Int},zc2 s=(jvZ,a,e) → ((∀ G I y,Den G I (.tup [.agg zvC,.i .i64 a,.i .i64 e]) y → Den G I (zfP (zc2 s)) y) ∧ K objs (zfP (zc2 s))):=fun {a e} h => ⟨fun G I y hy => by rw [h]; exact den_zv hy,hk⟩
 have c1:¬ (1048576:Int) < s.length:=by omega
 rw [c_ref14_Parse]
 refine zaa fun Z hZ => ?_
 simp only [sxZ,z5,z6,z7,z8,j4,j5,j6,j7,j8,j9,x9,y3,y4,y5,y6,reduceCtorEq,↓reduceIte]
 subst hZ
 refine zaa fun Z hZ => ?_
 simp only [sxZ,z5,z6,z7,z8,j4,j5,j6,j7,j8,j9,x9,y3,y4,y5,y6,reduceCtorEq,↓reduceIte,c1]
 subst hZ
 refine zaa fun Z hZ => ?_
 simp only [sxZ,z5,z6,z7,z8,j4,j5,j6,j7,j8,j9,x9,y3,y4,y5,y6,reduceCtorEq,↓reduceIte]
 have hO:zaF ((1,zaC s rs0) :: [(0,zvB)]) [zvB,zaC s rs0]:=⟨by simp,fun x hx => by
  simp only [List.mem_cons,List.not_mem_nil,or_false] at hx
  rcases hx with rfl | rfl <;> rfl⟩
 have hCn:zaE []:=fun y hy => by cases hy
 have hC:∀ ρ,zaE ((1,zaC s ρ) :: [(0,zvB)]):=fun ρ => zcH (zcH hCn rfl) rfl
 have hB:GB s rs0:=⟨by decide,by show (0:Int) ≤ _; omega,fun _ => by decide,by show (0:Int) ≤ _; omega⟩
 have f0:[OB.box 25 [.i .i64 0,.s [],.nil,.nil],OB.box 56 [.s s,.i .i64 0,.i .i64 0,.i .i64 0,.i .i64 0]]=[zvB,zaC s rs0]:=rfl
 rw [f0]
 generalize [zvB,zaC s rs0]=o0 at hO ⊢
 subst hZ
 refine zaa fun Z hZ => ?_
 simp only [sxZ,z5,z6,z7,z8,j4,j5,j6,j7,j8,j9,x9,y3,y4,y5,y6,reduceCtorEq,↓reduceIte]
 refine zaj (zb1 (by omega) hO fun o1 hO1 => ?_)
 have hB1:=za7 hB
 have hT1:=zbo hB
 generalize zan s rs0=N at hO1 hB1 hT1 hr ⊢
 obtain ⟨T1,ρ1⟩:=N
 simp only at hO1 hB1 hT1 hr ⊢
 have hval:ValK s 1 0 (fun ρ t => zaz s 65 ρ t 0):=value_k hs 65 0 rfl (by decide)
 have hvc:=fun {objs:List OB} {K:List OB → AV → Prop} {L:List (Nat × OB)} (h1) (h2) (h3) => hval (objs:=objs) (K:=K) (L:=L) (ρ:=ρ1) T1 hB1.1 hB1.2 hT1 h1 h2 h3
 have hg2:=zee s 65 0 ρ1 T1 hB1.1 hB1.2
 simp only at hvc hg2
 generalize zaz s 65 ρ1 T1 0=R at hvc hg2 hr
 obtain ⟨v,ρ2⟩:=R
 simp only at hvc hg2 hr
 unfold zge tkC
 simp only [sxZ,z5,z6,z7,z8,j4,j5,j6,j7,j8,j9,x9,y3,y4,y5,y6,reduceCtorEq,↓reduceIte]
 refine zaj (hvc (hC _) hO1 fun o2 hO2 => ?_)
 have hjc:=zag v
 rw [hjc]
 simp only [sxZ,z5,z6,z7,z8,j4,j5,j6,j7,j8,j9,x9,y3,y4,y5,y6,reduceCtorEq,↓reduceIte,gn1,sn1]
 have hO3:=hO2.new (.box 25 (zad v))
 rw [hjc] at hO3
 have hO3:zaF ((1,zaC s ρ2) :: (o2.length,.box 25 [.i .i64 v.kind,.s v.text,.row v.keys.length (v.keys.map .s),.row v.items.length (zab v.items)]) :: [(0,zvB)]) (o2 ++ [.box 25 [.i .i64 v.kind,.s v.text,.row v.keys.length (v.keys.map .s),.row v.items.length (zab v.items)]]):=hO3.perm (List.Perm.swap _ _ _)
 generalize o2.length=qv at hO3 ⊢
 generalize o2 ++ [OB.box 25 [.i .i64 v.kind,.s v.text,.row v.keys.length (v.keys.map .s),.row v.items.length (zab v.items)]]=o3 at hO3 ⊢
 subst hZ
 refine zaa fun Z hZ => ?_
 refine zaa fun W hW => ?_
 simp only [sxZ,z5,z6,z7,z8,j4,j5,j6,j7,j8,j9,x9,y3,y4,y5,y6,reduceCtorEq,↓reduceIte]
 refine zaj (zb1 (by omega) hO3 fun o4 hO4 => ?_)
 generalize zan s ρ2=N at hO4 hr ⊢
 obtain ⟨T3,ρ3⟩:=N
 simp only at hO4 hr ⊢
 unfold zge tkC
 simp only [sxZ,z5,z6,z7,z8,j4,j5,j6,j7,j8,j9,x9,y3,y4,y5,y6,reduceCtorEq,↓reduceIte,gn1,sn1]
 have f1:∀ x y z,OB.box 59 [.i .i64 x,.s y,.i .i64 z]=zaM (x,y,z):=fun _ _ _ => rfl
 rw [f1]
 have hO5:=hO4.new (zaM T3)
 have hO5:zaF ((1,zaC s ρ3) :: (o4.length,zaM T3) :: (qv,.box 25 [.i .i64 v.kind,.s v.text,.row v.keys.length (v.keys.map .s),.row v.items.length (zab v.items)]) :: [(0,zvB)]) (o4 ++ [zaM (T3.1,T3.2.1,T3.2.2)]):=hO5.perm (List.Perm.swap _ _ _)
 generalize o4.length=qt at hO5 ⊢
 generalize o4 ++ [zaM (T3.1,T3.2.1,T3.2.2)]=o5 at hO5 ⊢
 subst hW
 have e1:=hO5.get (i:=1) (x:=zaC s ρ3) (by simp)
 have e2:=hO5.get (i:=qt) (x:=zaM T3) (by simp)
 unfold zaC at e1
 unfold zaM tkC at e2
 generalize hρ:(if ρ3.fail=0 ∧ ¬ T3.1=1 then zaN ρ3 T3.2.2 140 else ρ3)=ρ4 at hr
 refine zaA (fun o tm => zaF ((1,zaC s ρ4) :: (qt,zaM T3) :: (qv,.box 25 [.i .i64 v.kind,.s v.text,.row v.keys.length (v.keys.map .s),.row v.items.length (zab v.items)]) :: [(0,zvB)]) o ∧ tm.length=52 ∧ tm[0]? = some (.s s) ∧ tm[2]? = some (.p 0 0) ∧ tm[5]? = some (.p 1 0) ∧ tm[6]? = some (.p qv 0)) ?_ ?_
 ·by_cases c3:ρ3.fail=0
  ·by_cases c4:T3.1=1
   ·rw [if_neg (fun h => h.2 c4)] at hρ
    subst hρ
    simp only [sxZ,z5,z6,z7,z8,j4,j5,j6,j7,j8,j9,x9,y3,y4,y5,y6,reduceCtorEq,↓reduceIte,e1,e2,c3,c4,zac,and_self,and_true]
    exact hO5
   ·rw [if_pos ⟨c3,c4⟩] at hρ
    simp only [sxZ,z5,z6,z7,z8,j4,j5,j6,j7,j8,j9,x9,y3,y4,y5,y6,reduceCtorEq,↓reduceIte,e1,e2,c3,c4]
    refine zaj (zbR hO5 T3.2.2 140 fun o6 hO6 => ?_)
    rw [hρ] at hO6
    simp only [sxZ,z5,z6,z7,z8,j4,j5,j6,j7,j8,j9,x9,y3,y4,y5,y6,reduceCtorEq,↓reduceIte,zac,and_self,and_true]
    exact hO6
  ·rw [if_neg (fun h => c3 h.1)] at hρ
   subst hρ
   simp only [sxZ,z5,z6,z7,z8,j4,j5,j6,j7,j8,j9,x9,y3,y4,y5,y6,reduceCtorEq,↓reduceIte,e1,e2,c3,zac,and_self,and_true]
   exact hO5
 clear hO5 e1 e2
 rintro o6 tm ⟨hO6,hlen,t0,t2,t5,t6⟩
 have e1:=hO6.get (i:=1) (x:=zaC s ρ4) (by simp)
 have e0:=hO6.get (i:=0) (x:=zvB) (by simp)
 have ev:=hO6.get (i:=qv) (x:=.box 25 [.i .i64 v.kind,.s v.text,.row v.keys.length (v.keys.map .s),.row v.items.length (zab v.items)]) (by simp)
 have hlt:=(List.getElem?_eq_some_iff.1 e0).1
 have gs:∀ x,(o6.set 0 x)[0]? = some x:=fun x => List.getElem?_set_self hlt
 unfold zaC at e1
 unfold zvB at e0
 subst hZ
 refine zaa fun Z hZ => ?_
 by_cases c5:ρ4.fail=0
 ·rw [if_neg (fun h => h c5)] at hr
  simp only [sxZ,z5,z6,z7,z8,j4,j5,j6,j7,j8,j9,x9,y3,y4,y5,y6,reduceCtorEq,↓reduceIte,List.getElem?_set,hlen,t5,e1,c5]
  subst hZ
  simp only [sxZ,z5,z6,z7,z8,j4,j5,j6,j7,j8,j9,x9,y3,y4,y5,y6,reduceCtorEq,↓reduceIte,List.getElem?_set,hlen,t0,t2,t6,e0,ev,gs]
  simp only [pub,AV.plain,zaD,zaB,sxZ,z5,z6,z7,z8,j4,j5,j6,j7,j8,j9,x9,y3,y4,y5,y6,reduceCtorEq,↓reduceIte]
  exact ⟨fun G I y hy => by rw [hr,zfP,hjc]; exact hy,hk⟩
 ·rw [if_pos c5] at hr
  simp only [sxZ,z5,z6,z7,z8,j4,j5,j6,j7,j8,j9,x9,y3,y4,y5,y6,reduceCtorEq,↓reduceIte,List.getElem?_set,hlen,t2,t5,e0,e1,c5,gs]
  exact finE hr
end
section
variable [Tabs Try.prog] [Pow Try.prog] [Utf Try.prog]
end
end
section
attribute [local irreducible] run
def sA16:List UInt8:=[123,34,115,117,98,106,101,99,116,34,58,34,97,99,99,116,58,97,64,98,46,101,120,97,109,112,108,101,34,44,34,108,105,110,107,115,34,58,91,123,34,114,101,108,34,58,34,115,101,108,102,34,44,34,104,114,101,102,34,58,34,104,116,116,112,115,58,47,47,98,46,101,120,97,109,112,108,101,47,97,34,125,93,125]
def sB16:List UInt8:=[123,34,108,105,110,107,115,34,58,91,123,125,93,125]
def jB16:JV:=.mk 7 [] [zbG] [.mk 6 [] [] [.mk 7 [] [] []]]
def zlP:JV:=.mk 7 [] [zbP,zbG] [.mk 5 [97,99,99,116,58,97,64,98,46,101,120,97,109,112,108,101] [] [],.mk 6 [] [] [.mk 7 [] [zeU,zcp] [.mk 5 [115,101,108,102] [] [],.mk 5 [104,116,116,112,115,58,47,47,98,46,101,120,97,109,112,108,101,47,97] [] []]]]
theorem eA16:(zc2 sA16).1=zlP:=by kernel_rfl
theorem eB16:(zc2 sB16).1=jB16:=by kernel_rfl
theorem dA16:jd4 zlP=0:=by decide +kernel
theorem dB16:jd4 jB16=160:=by decide +kernel
def lA16:LkP:=⟨[115,101,108,102],[],[104,116,116,112,115,58,47,47,98,46,101,120,97,109,112,108,101,47,97],[],[],[]⟩
theorem vA16:jdV zlP=zcm [97,99,99,116,58,97,64,98,46,101,120,97,109,112,108,101] [] [] [lA16]:=by kernel_rfl
theorem fA16:zbw [115,101,108,102] [lA16]=[lA16]:=by kernel_rfl
theorem okA16:JOk zlP ∧ JBd zlP:=by
 unfold zlP
 simp [JOk,zcX,JBd,zcY,Lit.wf,IntKind.min,IntKind.max,IntKind.signed,IntKind.bits,zbP,zbG,zeU,zcp]
theorem okB16:JOk jB16 ∧ JBd jB16:=by
 unfold jB16
 simp [JOk,zcX,JBd,zcY,Lit.wf,IntKind.min,IntKind.max,IntKind.signed,IntKind.bits,zbG]
section
variable [Tabs Try.prog] [Utf Try.prog] {objs:List OB} {K:List OB → AV → Prop}
theorem zhT (hk:K objs (.b true)):zae Try.prog 8 [] objs K:=by
 refine zaQ is_law16_sane rfl fun C _ => ?_
 rw [c_law16_sane]
 refine zaa fun Z hZ => ?_
 simp only [sxZ,z5,z6,z7,z8,j4,j5,j6,j7,j8,j9,x9,y3,y4,y5,y6,reduceCtorEq,↓reduceIte]
 subst hZ
 refine zaa fun Z hZ => ?_
 simp only [sxZ,z5,z6,z7,z8,j4,j5,j6,j7,j8,j9,x9,y3,y4,y5,y6,reduceCtorEq,↓reduceIte]
 refine zaj (zh8 sA16 (by decide) ?_)
 have e1:=eA16
 obtain ⟨⟨x,a,e⟩,hx⟩:∃ R,zc2 sA16=R:=⟨_,rfl⟩
 rw [hx] at e1 ⊢
 dsimp only at e1
 subst e1
 unfold zfP
 obtain ⟨a0,a1,a2,a3,hA⟩:∃ a0 a1 a2 a3,zad zlP=[a0,a1,a2,a3]:=⟨_,_,_,_,zag zlP⟩
 rw [hA]
 simp only [sxZ,z5,z6,z7,z8,j4,j5,j6,j7,j8,j9,x9,y3,y4,y5,y6,reduceCtorEq,↓reduceIte,gn1,sn1]
 subst hZ
 refine zaa fun Z hZ => ?_
 simp only [sxZ,z5,z6,z7,z8,j4,j5,j6,j7,j8,j9,x9,y3,y4,y5,y6,reduceCtorEq,↓reduceIte]
 refine zaj (zh8 sB16 (by decide) ?_)
 have e2:=eB16
 obtain ⟨⟨y,b,f⟩,hy⟩:∃ R,zc2 sB16=R:=⟨_,rfl⟩
 rw [hy] at e2 ⊢
 dsimp only at e2
 subst e2
 unfold zfP
 obtain ⟨b0,b1,b2,b3,hB⟩:∃ b0 b1 b2 b3,zad jB16=[b0,b1,b2,b3]:=⟨_,_,_,_,zag jB16⟩
 rw [hB]
 simp only [sxZ,z5,z6,z7,z8,j4,j5,j6,j7,j8,j9,x9,y3,y4,y5,y6,reduceCtorEq,↓reduceIte,gn1,sn1]
 subst hZ
 refine zaa fun Z hZ => ?_
 simp only [sxZ,z5,z6,z7,z8,j4,j5,j6,j7,j8,j9,x9,y3,y4,y5,y6,reduceCtorEq,↓reduceIte]
 rw [← hA]
 refine zaj (zdu zlP okA16.1 okA16.2 ?_)
 rw [show jdAV zlP=jdV zlP from if_pos dA16,vA16,dA16]
 unfold zcm
 simp only [sxZ,z5,z6,z7,z8,j4,j5,j6,j7,j8,j9,x9,y3,y4,y5,y6,reduceCtorEq,↓reduceIte]
 subst hZ
 refine zaa fun Z hZ => ?_
 simp only [sxZ,z5,z6,z7,z8,j4,j5,j6,j7,j8,j9,x9,y3,y4,y5,y6,reduceCtorEq,↓reduceIte]
 rw [← hB]
 refine zaj (zdu jB16 okB16.1 okB16.2 ?_)
 rw [show jdAV jB16=zcm [] [] [] [] from if_neg (by rw [dB16]; decide),dB16]
 unfold zcm
 simp only [sxZ,z5,z6,z7,z8,j4,j5,j6,j7,j8,j9,x9,y3,y4,y5,y6,reduceCtorEq,↓reduceIte]
 subst hZ
 refine zaa fun Z hZ => ?_
 have hlk:zbv [lA16]=[.s [115,101,108,102],.s [],.s [104,116,116,112,115,58,47,47,98,46,101,120,97,109,112,108,101,47,97],.s [],.row 0 [],.row 0 []]:=rfl
 have n1:(((1:Nat):Int)=1)=True:=by simp
 simp only [sxZ,z5,z6,z7,z8,j4,j5,j6,j7,j8,j9,x9,y3,y4,y5,y6,reduceCtorEq,↓reduceIte,hlk,n1,decide_true]
 refine ⟨by decide,?_⟩
 refine zaj (zlN [97,99,99,116,58,97,64,98,46,101,120,97,109,112,108,101] [] [] [lA16] [115,101,108,102] (by decide) (by intro x hx; rw [List.mem_singleton] at hx; subst hx; decide) ?_)
 rw [fA16]
 simp only [sxZ,z5,z6,z7,z8,j4,j5,j6,j7,j8,j9,x9,y3,y4,y5,y6,reduceCtorEq,↓reduceIte,n1,decide_true,List.length_cons,List.length_nil]
 subst hZ
 simp only [sxZ,z5,z6,z7,z8,j4,j5,j6,j7,j8,j9,x9,y3,y4,y5,y6,reduceCtorEq,↓reduceIte]
 exact hk
end
end
section
attribute [local irreducible] run
def JrB (subj:List UInt8) (al:List (List UInt8)) (pr:List PrP) (lk:List LkP):Prop:=subj.length ≤ 300 ∧ al.length ≤ 70 ∧ lk.length ≤ 70 ∧ pr.length ≤ 70 ∧ (∀ a ∈ al,a.length ≤ 300) ∧ ∀ x ∈ lk,x.rel.length + x.typ.length + x.href.length + x.tmp.length ≤ 900 ∧ x.tit.length ≤ 70 ∧ x.pro.length ≤ 70
theorem jr_pl1 (subj:List UInt8) (al:List (List UInt8)) (pr:List PrP) (lk:List LkP):zam [zcm subj al pr lk]=true:=by
 unfold zcm
 simp only [zam,AV.plain,zaX,za9,zcB,Bool.and_self]
section
variable [Tabs Try.prog] {objs:List OB} {K:List OB → AV → Prop}
theorem zgG (subj:List UInt8) (al:List (List UInt8)) (pr:List PrP) (lk:List LkP) (h0:subj.length ≤ 140737488351232) (h1:∀ a ∈ al,a.length ≤ 140737488351232) (h2:∀ x ∈ lk,LkOk x) (hk:∀ b,(b=true → JrB subj al pr lk) → K objs (.b b)):zae Try.prog 14 [zcm subj al pr lk] objs K:=by
 refine zaQ is_keep_JRD (jr_pl1 _ _ _ _) fun C _ => ?_
 rw [c_keep_JRD]
 unfold zcm
 have hlen6:=zbs lk
 have no:=hk false (fun h => by cases h)
 refine zaa fun Z hZ => ?_
 simp only [sxZ,z5,z6,z7,z8,j4,j5,j6,j7,j8,j9,x9,y3,y4,y5,y6,reduceCtorEq,↓reduceIte]
 subst hZ
 refine zaa fun Z hZ => ?_
 by_cases c1:(300:Int) < (subj.length:Int)
 ·simp only [sxZ,z5,z6,z7,z8,j4,j5,j6,j7,j8,j9,x9,y3,y4,y5,y6,reduceCtorEq,↓reduceIte,c1]
  exact no
 by_cases c2:(70:Int) < (al.length:Int)
 ·simp only [sxZ,z5,z6,z7,z8,j4,j5,j6,j7,j8,j9,x9,y3,y4,y5,y6,reduceCtorEq,↓reduceIte,c1,c2]
  exact no
 by_cases c3:(70:Int) < (lk.length:Int)
 ·simp only [sxZ,z5,z6,z7,z8,j4,j5,j6,j7,j8,j9,x9,y3,y4,y5,y6,reduceCtorEq,↓reduceIte,c1,c2,c3]
  exact no
 by_cases c4:(70:Int) < (pr.length:Int)
 ·simp only [sxZ,z5,z6,z7,z8,j4,j5,j6,j7,j8,j9,x9,y3,y4,y5,y6,reduceCtorEq,↓reduceIte,c1,c2,c3,c4]
  exact no
 simp only [sxZ,z5,z6,z7,z8,j4,j5,j6,j7,j8,j9,x9,y3,y4,y5,y6,reduceCtorEq,↓reduceIte,c1,c2,c3,c4]
 subst hZ
 refine zaa fun Z hZ => ?_
 refine zaa fun W hW => ?_
 simp only [sxZ,z5,z6,z7,z8,j4,j5,j6,j7,j8,j9,x9,y3,y4,y5,y6,reduceCtorEq,↓reduceIte]
 subst hW
 rw [zaw]
 refine zax (fun m o tm => ∃ (i:Nat),i ≤ al.length ∧ m=al.length - i ∧ o[0]? = some (.box 34 [.s subj,.row al.length (al.map .s),.row pr.length (zaH pr),.row lk.length (zbv lk)]) ∧ (∀ a ∈ al.take i,a.length ≤ 300) ∧ tm.length=76 ∧ tm[1]? = some (.p 0 0) ∧ tm[30]? = some (.row al.length (al.map .s)) ∧ tm[31]? = some (.i .i64 (al.length:Int)) ∧ tm[32]? = some (.i .i64 (i:Int))) al.length ⟨0,Nat.zero_le _,rfl,rfl,by simp,rfl,rfl,rfl,rfl,rfl⟩ ?_
 rintro m o tm ⟨i,hi,rfl,e0,hall,hlen,t1,t30,t31,t32⟩
 refine zaa fun W hW => ?_
 by_cases hlt:(i:Int) < (al.length:Int)
 ·have hi':i < al.length:=by omega
  have kv:(al.map AV.s)[i * 1]? = some (.s al[i]):=by rw [Nat.mul_one,List.getElem?_map,List.getElem?_eq_getElem hi']; rfl
  have htk:al.take (i + 1)=al.take i ++ [al[i]]:=by rw [List.take_add_one,List.getElem?_eq_getElem hi']; rfl
  generalize al[i]=x at kv htk
  simp only [sxZ,z5,z6,z7,z8,j4,j5,j6,j7,j8,j9,x9,y3,y4,y5,y6,reduceCtorEq,↓reduceIte,List.getElem?_set,hlen,t30,t31,t32,hlt]
  subst hW
  refine zaa fun W hW => ?_
  simp only [sxZ,z5,z6,z7,z8,j4,j5,j6,j7,j8,j9,x9,y3,y4,y5,y6,reduceCtorEq,↓reduceIte,List.getElem?_set,hlen]
  subst hW
  refine zaa fun V hV => ?_
  rw [zaw]
  refine zaa fun W hW => ?_
  simp only [sxZ,z5,z6,z7,z8,j4,j5,j6,j7,j8,j9,x9,y3,y4,y5,y6,reduceCtorEq,↓reduceIte,List.getElem?_set,hlen,t30,t32,kv,List.length_map]
  refine ⟨⟨by omega,by omega,by omega⟩,?_⟩
  subst hW
  by_cases c:(300:Int) < (x.length:Int)
  ·simp only [sxZ,z5,z6,z7,z8,j4,j5,j6,j7,j8,j9,x9,y3,y4,y5,y6,reduceCtorEq,↓reduceIte,List.getElem?_set,hlen,c]
   exact no
  ·simp only [sxZ,z5,z6,z7,z8,j4,j5,j6,j7,j8,j9,x9,y3,y4,y5,y6,reduceCtorEq,↓reduceIte,List.getElem?_set,hlen,c]
   subst hV
   simp only [sxZ,z5,z6,z7,z8,j4,j5,j6,j7,j8,j9,x9,y3,y4,y5,y6,reduceCtorEq,↓reduceIte,List.getElem?_set,hlen,t1,t30,t31,t32]
   refine ⟨by omega,al.length - (i + 1),by omega,i + 1,by omega,rfl,e0,fun a ha => ?_,rfl⟩
   rw [htk] at ha
   rcases List.mem_append.1 ha with ha | ha
   ·exact hall a ha
   ·rw [List.mem_singleton] at ha; subst ha; omega
 have hn:i=al.length:=by omega
 rw [hn,List.take_of_length_le (Nat.le_refl _)] at hall
 simp only [sxZ,z5,z6,z7,z8,j4,j5,j6,j7,j8,j9,x9,y3,y4,y5,y6,reduceCtorEq,↓reduceIte,List.getElem?_set,hlen,t30,t31,t32,hlt]
 subst hW
 simp only [sxZ,z5,z6,z7,z8,j4,j5,j6,j7,j8,j9,x9,y3,y4,y5,y6,reduceCtorEq,↓reduceIte,List.getElem?_set,hlen]
 subst hZ
 refine zaa fun Z hZ => ?_
 refine zaa fun W hW => ?_
 simp only [sxZ,z5,z6,z7,z8,j4,j5,j6,j7,j8,j9,x9,y3,y4,y5,y6,reduceCtorEq,↓reduceIte,List.getElem?_set,hlen,t1,e0]
 subst hW
 rw [zaw]
 refine zax (fun m o tm => ∃ (i:Nat),i ≤ lk.length ∧ m=lk.length - i ∧ (∀ x ∈ lk.take i,x.rel.length + x.typ.length + x.href.length + x.tmp.length ≤ 900 ∧ x.tit.length ≤ 70 ∧ x.pro.length ≤ 70) ∧ tm.length=76 ∧ tm[41]? = some (.row lk.length (zbv lk)) ∧ tm[42]? = some (.i .i64 (lk.length:Int)) ∧ tm[43]? = some (.i .i64 (i:Int))) lk.length ⟨0,Nat.zero_le _,rfl,by simp,?_⟩ ?_
 ·simp only [sxZ,z5,z6,z7,z8,j4,j5,j6,j7,j8,j9,x9,y3,y4,y5,y6,reduceCtorEq,↓reduceIte,List.length_set,List.getElem?_set,hlen,Int.cast_ofNat_Int,and_self]
 clear hlen t1 t30 t31 t32 e0 hlt hi hn
 rintro m o tm ⟨i,hi,rfl,hal2,hlen,t41,t42,t43⟩
 refine zaa fun W hW => ?_
 by_cases hlt:(i:Int) < (lk.length:Int)
 ·have hi':i < lk.length:=by omega
  have hjc:=zgF hi'
  have hok:=h2 lk[i] (List.getElem_mem hi')
  have htk:lk.take (i + 1)=lk.take i ++ [lk[i]]:=by rw [List.take_add_one,List.getElem?_eq_getElem hi']; rfl
  generalize lk[i]=x at hjc hok htk
  obtain ⟨o1,o2,o3,o4,o5,o6⟩:=hok
  unfold lkc at hjc
  simp only [sxZ,z5,z6,z7,z8,j4,j5,j6,j7,j8,j9,x9,y3,y4,y5,y6,reduceCtorEq,↓reduceIte,List.getElem?_set,hlen,t41,t42,t43,hlt]
  subst hW
  refine zaa fun W hW => ?_
  simp only [sxZ,z5,z6,z7,z8,j4,j5,j6,j7,j8,j9,x9,y3,y4,y5,y6,reduceCtorEq,↓reduceIte,List.getElem?_set,hlen]
  subst hW
  refine zaa fun V hV => ?_
  rw [zaw]
  refine zaa fun W hW => ?_
  simp only [sxZ,z5,z6,z7,z8,j4,j5,j6,j7,j8,j9,x9,y3,y4,y5,y6,reduceCtorEq,↓reduceIte,List.getElem?_set,hlen,t41,t43,hjc]
  refine ⟨⟨by omega,by omega,by omega⟩,by omega,?_⟩
  simp only [sxZ,z5,z6,z7,z8,j4,j5,j6,j7,j8,j9,x9,y3,y4,y5,y6,reduceCtorEq,↓reduceIte,List.getElem?_set,hlen,gn1,sn1]
  subst hW
  by_cases c1:(900:Int) < (x.rel.length:Int) + x.typ.length + x.href.length + x.tmp.length
  ·simp only [sxZ,z5,z6,z7,z8,j4,j5,j6,j7,j8,j9,x9,y3,y4,y5,y6,reduceCtorEq,↓reduceIte,List.getElem?_set,hlen,gn1,c1]
   refine ⟨by omega,by omega,by omega,no⟩
  by_cases c2:(70:Int) < (x.tit.length:Int)
  ·simp only [sxZ,z5,z6,z7,z8,j4,j5,j6,j7,j8,j9,x9,y3,y4,y5,y6,reduceCtorEq,↓reduceIte,List.getElem?_set,hlen,gn1,c1,c2]
   refine ⟨by omega,by omega,by omega,no⟩
  by_cases c3:(70:Int) < (x.pro.length:Int)
  ·simp only [sxZ,z5,z6,z7,z8,j4,j5,j6,j7,j8,j9,x9,y3,y4,y5,y6,reduceCtorEq,↓reduceIte,List.getElem?_set,hlen,gn1,c1,c2,c3]
   refine ⟨by omega,by omega,by omega,no⟩
  simp only [sxZ,z5,z6,z7,z8,j4,j5,j6,j7,j8,j9,x9,y3,y4,y5,y6,reduceCtorEq,↓reduceIte,List.getElem?_set,hlen,gn1,c1,c2,c3]
  refine ⟨by omega,by omega,by omega,?_⟩
  subst hV
  simp only [sxZ,z5,z6,z7,z8,j4,j5,j6,j7,j8,j9,x9,y3,y4,y5,y6,reduceCtorEq,↓reduceIte,List.getElem?_set,hlen,t41,t42,t43]
  refine ⟨by omega,lk.length - (i + 1),by omega,i + 1,by omega,rfl,fun y hy => ?_,rfl⟩
  rw [htk] at hy
  rcases List.mem_append.1 hy with hy | hy
  ·exact hal2 y hy
  ·rw [List.mem_singleton] at hy; subst hy; exact ⟨by omega,by omega,by omega⟩
 have hn:i=lk.length:=by omega
 rw [hn,List.take_of_length_le (Nat.le_refl _)] at hal2
 simp only [sxZ,z5,z6,z7,z8,j4,j5,j6,j7,j8,j9,x9,y3,y4,y5,y6,reduceCtorEq,↓reduceIte,List.getElem?_set,hlen,t41,t42,t43,hlt]
 subst hW
 simp only [sxZ,z5,z6,z7,z8,j4,j5,j6,j7,j8,j9,x9,y3,y4,y5,y6,reduceCtorEq,↓reduceIte,List.getElem?_set,hlen]
 subst hZ
 simp only [sxZ,z5,z6,z7,z8,j4,j5,j6,j7,j8,j9,x9,y3,y4,y5,y6,reduceCtorEq,↓reduceIte,List.getElem?_set,hlen]
 exact hk true fun _ => ⟨by omega,by omega,by omega,by omega,hall,hal2⟩
end
end
section
attribute [local irreducible] run
theorem zdm:∀ {gs:List (List AV)},(∀ g ∈ gs,ShT (.st [.s,.s,.b]) g) → ∃ l:List PrP,gs.flatten=zaH l ∧ gs.length=l.length ∧ ∀ p ∈ l,p.name.length ≤ 140737488351232 ∧ p.val.length ≤ 140737488351232
 | [],_ => ⟨[],rfl,rfl,by simp⟩
 | g :: gs,h => by
  obtain ⟨l,h1,h2,h3⟩:=zdm (fun x hx => h x (List.mem_cons_of_mem _ hx))
  obtain ⟨_,_,rfl,⟨a,rfl,ha⟩,_,_,rfl,⟨b,rfl,hb⟩,_,_,rfl,⟨c,rfl⟩,rfl⟩:=h g (List.mem_cons_self ..)
  refine ⟨⟨a,b,c⟩ :: l,by rw [List.flatten_cons,h1]; rfl,by rw [List.length_cons,List.length_cons,h2],fun y hy => ?_⟩
  rcases List.mem_cons.1 hy with rfl | hy
  ·exact ⟨ha,hb⟩
  ·exact h3 y hy
theorem zfB:∀ {gs:List (List AV)},(∀ g ∈ gs,ShT (.st [.s,.s,.s,.s,.sl (.st [.s,.s,.b]),.sl (.st [.s,.s,.b])]) g) → ∃ l:List LkP,gs.flatten=zbv l ∧ gs.length=l.length ∧ ∀ x ∈ l,LkOk x ∧ (∀ p ∈ x.tit,p.name.length ≤ 140737488351232 ∧ p.val.length ≤ 140737488351232) ∧ ∀ p ∈ x.pro,p.name.length ≤ 140737488351232 ∧ p.val.length ≤ 140737488351232
 | [],_ => ⟨[],rfl,rfl,by simp⟩
 | g :: gs,h => by
  obtain ⟨l,h1,h2,h3⟩:=zfB (fun x hx => h x (List.mem_cons_of_mem _ hx))
  obtain ⟨_,_,rfl,⟨a,rfl,ha⟩,_,_,rfl,⟨b,rfl,hb⟩,_,_,rfl,⟨c,rfl,hc⟩,_,_,rfl,⟨d,rfl,hd⟩,_,_,rfl,⟨t,rfl,ht,ht2⟩,_,_,rfl,⟨p,rfl,hp,hp2⟩,rfl⟩:=h g (List.mem_cons_self ..)
  obtain ⟨t',e1,e2,e5⟩:=zdm ht2
  obtain ⟨p',e3,e4,e6⟩:=zdm hp2
  refine ⟨⟨a,b,c,d,t',p'⟩ :: l,?_,by rw [List.length_cons,List.length_cons,h2],fun y hy => ?_⟩
  ·rw [List.flatten_cons,h1,e1,e2,e3,e4]; rfl
  ·rcases List.mem_cons.1 hy with rfl | hy
   ·exact ⟨⟨ha,hb,hc,hd,by show t'.length ≤ _; omega,by show p'.length ≤ _; omega⟩,e5,e6⟩
   ·exact h3 y hy
theorem jr_bd {subj:List UInt8} {al:List (List UInt8)} {pr:List PrP} {lk:List LkP} (h0:subj.length ≤ 140737488351232) (h1:∀ a ∈ al,a.length ≤ 140737488351232) (hp:∀ p ∈ pr,p.name.length ≤ 140737488351232 ∧ p.val.length ≤ 140737488351232)
  (h2:∀ x ∈ lk,LkOk x ∧ (∀ p ∈ x.tit,p.name.length ≤ 140737488351232 ∧ p.val.length ≤ 140737488351232) ∧ ∀ p ∈ x.pro,p.name.length ≤ 140737488351232 ∧ p.val.length ≤ 140737488351232) (hB:JrB subj al pr lk):JrBd subj al pr lk:=by
 obtain ⟨b1,b2,b3,b4,b5,b6⟩:=hB
 refine ⟨h0,by omega,h1,⟨by omega,hp⟩,by omega,fun x hx => ?_⟩
 obtain ⟨⟨c1,c2,c3,c4,_⟩,c5,c6⟩:=h2 x hx
 obtain ⟨_,c7,c8⟩:=b6 x hx
 exact ⟨c1,c2,c3,c4,⟨by omega,c5⟩,⟨by omega,c6⟩⟩
theorem den_ob {k:Int} {t:List UInt8} {ks:List (List UInt8)} {its:List JV} {X:List AV} (h:ObX k t ks its X) {G:Gh} {I:Imm} {y:Value} (hy:Den G I (.agg X) y):Den G I (.agg (zad (.mk k t ks its))) y:=by
 rcases h with rfl | ⟨rfl,rfl,rfl⟩
 ·exact hy
 ·exact zdU hy
section
variable [Tabs Try.prog] {objs:List OB} {K:List OB → AV → Prop}
theorem zgy (subj:List UInt8) (al:List (List UInt8)) (pr:List PrP) (lk:List LkP) (h1:al.length ≤ 1000000) (h2:pr.length ≤ 1000000) (h3:lk.length ≤ 1000000) (h4:∀ x ∈ lk,x.tit.length ≤ 1000000 ∧ x.pro.length ≤ 1000000) (hk:K objs (.agg (zad (enJ subj al pr lk)))):zae Try.prog 19 [zcm subj al pr lk] objs K :=
 zdb (.agg (zad (enJ subj al pr lk))) (zkF subj al pr lk h1 h2 h3 h4 fun X hX => ⟨fun G I y hy => den_ob hX hy,hk⟩)
end
section
variable [Tabs Try.prog] [Utf Try.prog]
theorem zgK (subj:List UInt8) (al:List (List UInt8)) (pr:List PrP) (lk:List LkP) (rel:List UInt8) (h0:subj.length ≤ 140737488351232) (h1:∀ a ∈ al,a.length ≤ 140737488351232) (hp:∀ p ∈ pr,p.name.length ≤ 140737488351232 ∧ p.val.length ≤ 140737488351232)
  (h2:∀ x ∈ lk,LkOk x ∧ (∀ p ∈ x.tit,p.name.length ≤ 140737488351232 ∧ p.val.length ≤ 140737488351232) ∧ ∀ p ∈ x.pro,p.name.length ≤ 140737488351232 ∧ p.val.length ≤ 140737488351232) (w4:rel.length ≤ 140737488351232) :
  zae Try.prog 4 [zcm subj al pr lk,.s rel] [] (fun _ r => r=.b true):=by
 refine zaQ is_law16_JrdEncodes (jr_pl _ _ _ _ _) fun C _ => ?_
 rw [c_law16_JrdEncodes]
 unfold zcm
 refine zaa fun Z hZ => ?_
 simp only [sxZ,z5,z6,z7,z8,j4,j5,j6,j7,j8,j9,x9,y3,y4,y5,y6,reduceCtorEq,↓reduceIte]
 subst hZ
 refine zaa fun Z hZ => ?_
 simp only [sxZ,z5,z6,z7,z8,j4,j5,j6,j7,j8,j9,x9,y3,y4,y5,y6,reduceCtorEq,↓reduceIte]
 refine zaj (zhT ?_)
 simp only [sxZ,z5,z6,z7,z8,j4,j5,j6,j7,j8,j9,x9,y3,y4,y5,y6,reduceCtorEq,↓reduceIte]
 subst hZ
 refine zaa fun Z hZ => ?_
 simp only [sxZ,z5,z6,z7,z8,j4,j5,j6,j7,j8,j9,x9,y3,y4,y5,y6,reduceCtorEq,↓reduceIte]
 refine zaj (zgG subj al pr lk h0 h1 (fun x hx => (h2 x hx).1) fun b hb => ?_)
 cases b with
 | false => simp only [sxZ,z5,z6,z7,z8,j4,j5,j6,j7,j8,j9,x9,y3,y4,y5,y6,reduceCtorEq,↓reduceIte]
 | true =>
 have hB:=hb rfl
 have hJ:=jr_bd h0 h1 hp h2 hB
 obtain ⟨b1,b2,b3,b4,b5,b6⟩:=hB
 have hlk:∀ x ∈ lk,x.tit.length ≤ 1000 ∧ x.pro.length ≤ 1000:=fun x hx => by
  obtain ⟨_,c1,c2⟩:=b6 x hx
  omega
 have hlk':∀ x ∈ lk,x.tit.length ≤ 1000000 ∧ x.pro.length ≤ 1000000:=fun x hx => by
  obtain ⟨_,c1,c2⟩:=b6 x hx
  omega
 simp only [sxZ,z5,z6,z7,z8,j4,j5,j6,j7,j8,j9,x9,y3,y4,y5,y6,reduceCtorEq,↓reduceIte]
 subst hZ
 refine zaa fun Z hZ => ?_
 simp only [sxZ,z5,z6,z7,z8,j4,j5,j6,j7,j8,j9,x9,y3,y4,y5,y6,reduceCtorEq,↓reduceIte]
 refine za1 (zlN subj al pr lk rel (by omega) hlk ⟨rfl,rfl⟩) ?_
 simp only [sxZ,z5,z6,z7,z8,j4,j5,j6,j7,j8,j9,x9,y3,y4,y5,y6,reduceCtorEq,↓reduceIte]
 refine za1 (zkE subj al pr lk rel (by omega) hlk ⟨rfl,rfl⟩) ?_
 simp only [sxZ,z5,z6,z7,z8,j4,j5,j6,j7,j8,j9,x9,y3,y4,y5,y6,reduceCtorEq,↓reduceIte]
 subst hZ
 refine zaa fun Z hZ => ?_
 simp only [sxZ,z5,z6,z7,z8,j4,j5,j6,j7,j8,j9,x9,y3,y4,y5,y6,reduceCtorEq,↓reduceIte]
 refine za1 (zlO subj al pr lk (by omega) (by omega) (by omega) hlk' ⟨rfl,rfl⟩) ?_
 simp only [sxZ,z5,z6,z7,z8,j4,j5,j6,j7,j8,j9,x9,y3,y4,y5,y6,reduceCtorEq,↓reduceIte]
 refine za1 (zgy subj al pr lk (by omega) (by omega) (by omega) hlk' ⟨rfl,rfl⟩) ?_
 simp only [sxZ,z5,z6,z7,z8,j4,j5,j6,j7,j8,j9,x9,y3,y4,y5,y6,reduceCtorEq,↓reduceIte]
 refine za1 (same14_k _ _ _ (Nat.lt_succ_self _) (enJ_ok hJ).1 ⟨rfl,rfl⟩) ?_
 rw [ze7]
 simp only [sxZ,z5,z6,z7,z8,j4,j5,j6,j7,j8,j9,x9,y3,y4,y5,y6,reduceCtorEq,↓reduceIte]
 subst hZ
 have hFl:(zbw rel lk).length ≤ 70:=Nat.le_trans (List.length_filter_le _ _) b3
 have hFm:∀ x ∈ zbw rel lk,x.tit.length ≤ 70 ∧ x.pro.length ≤ 70:=fun x hx => (b6 x (List.mem_filter.1 hx).1).2
 generalize zbw rel lk=F at hFl hFm ⊢
 refine zaa fun Z hZ => ?_
 refine zaa fun W hW => ?_
 simp only [sxZ,z5,z6,z7,z8,j4,j5,j6,j7,j8,j9,x9,y3,y4,y5,y6,reduceCtorEq,↓reduceIte]
 subst hW
 rw [zaw]
 refine zax (fun n o tm => ∃ i:Nat,i ≤ F.length ∧ n=F.length - i ∧ tm.length=48 ∧ tm[5]? = some (.row F.length (zbv F)) ∧ tm[6]? = some (.row F.length (zbv F)) ∧ tm[33]? = some (.i .i64 (F.length:Int)) ∧ tm[34]? = some (.i .i64 (i:Int))) F.length ⟨0,Nat.zero_le _,rfl,rfl,rfl,rfl,rfl,rfl⟩ ?_
 rintro n o tm ⟨i,hi,rfl,hlen,t5,t6,t33,t34⟩
 refine zaa fun W hW => ?_
 have hl6:=zbs F
 by_cases hlt:(i:Int) < (F.length:Int)
 ·have hi':i < F.length:=by omega
  have kv:=zgF hi'
  have hm:=hFm F[i] (List.getElem_mem hi')
  generalize F[i]=y at kv hm
  have elk:lkc y=[.s y.rel,.s y.typ,.s y.href,.s y.tmp,.row y.tit.length (zaH y.tit),.row y.pro.length (zaH y.pro)]:=rfl
  simp only [sxZ,z5,z6,z7,z8,j4,j5,j6,j7,j8,j9,x9,y3,y4,y5,y6,reduceCtorEq,↓reduceIte,List.getElem?_set,hlen,t33,t34,hlt]
  subst hW
  refine zaa fun W hW => ?_
  simp only [sxZ,z5,z6,z7,z8,j4,j5,j6,j7,j8,j9,x9,y3,y4,y5,y6,reduceCtorEq,↓reduceIte,List.getElem?_set,hlen]
  subst hW
  refine zaa fun V hV => ?_
  rw [zaw]
  refine zaa fun W hW => ?_
  simp only [sxZ,z5,z6,z7,z8,j4,j5,j6,j7,j8,j9,x9,y3,y4,y5,y6,reduceCtorEq,↓reduceIte,List.getElem?_set,hlen,t34]
  subst hW
  refine zaa fun W hW => ?_
  simp only [sxZ,z5,z6,z7,z8,j4,j5,j6,j7,j8,j9,x9,y3,y4,y5,y6,reduceCtorEq,↓reduceIte,List.getElem?_set,hlen,t5,t6,kv]
  refine ⟨⟨by omega,by omega,by omega⟩,by omega,⟨by omega,by omega,by omega⟩,by omega,?_⟩
  refine za1 (ze6 y (by omega) (by omega) ⟨rfl,rfl⟩) ?_
  simp only [sxZ,z5,z6,z7,z8,j4,j5,j6,j7,j8,j9,x9,y3,y4,y5,y6,reduceCtorEq,↓reduceIte,List.getElem?_set,hlen]
  subst hW
  simp only [sxZ,z5,z6,z7,z8,j4,j5,j6,j7,j8,j9,x9,y3,y4,y5,y6,reduceCtorEq,↓reduceIte,List.getElem?_set,hlen]
  subst hV
  simp only [sxZ,z5,z6,z7,z8,j4,j5,j6,j7,j8,j9,x9,y3,y4,y5,y6,reduceCtorEq,↓reduceIte,List.getElem?_set,hlen,t5,t6,t33,t34]
  exact ⟨by omega,F.length - (i + 1),by omega,i + 1,by omega,rfl,rfl⟩
 have hn:i=F.length:=by omega
 simp only [sxZ,z5,z6,z7,z8,j4,j5,j6,j7,j8,j9,x9,y3,y4,y5,y6,reduceCtorEq,↓reduceIte,List.getElem?_set,hlen,t33,t34,hlt]
 subst hW
 simp only [sxZ,z5,z6,z7,z8,j4,j5,j6,j7,j8,j9,x9,y3,y4,y5,y6,reduceCtorEq,↓reduceIte,List.getElem?_set,hlen]
 subst hZ
 simp only [sxZ,z5,z6,z7,z8,j4,j5,j6,j7,j8,j9,x9,y3,y4,y5,y6,reduceCtorEq,↓reduceIte,List.getElem?_set,hlen]
theorem jrdEncodes_c (l0:List UInt8) (w0:l0.length ≤ 140737488351232) (g1:List (List AV)) (w1:g1.length ≤ 140737488351232) (h1:∀ g ∈ g1,ShT .s g) (g2:List (List AV)) (w2:g2.length ≤ 140737488351232) (h2:∀ g ∈ g2,ShT (.st [.s,.s,.b]) g) (g3:List (List AV)) (w3:g3.length ≤ 140737488351232) (h3:∀ g ∈ g3,ShT (.st [.s,.s,.s,.s,.sl (.st [.s,.s,.b]),.sl (.st [.s,.s,.b])]) g) (l4:List UInt8) (w4:l4.length ≤ 140737488351232) :
  zae Try.prog 4 [.agg [.s l0,.row g1.length g1.flatten,.row g2.length g2.flatten,.row g3.length g3.flatten],.s l4] [] (fun _ r => r=.b true):=by
 obtain ⟨al,e1,e2,e3⟩:=zj5 h1
 obtain ⟨pr,p1,p2,p3⟩:=zdm h2
 obtain ⟨lk,k1,k2,k3⟩:=zfB h3
 rw [e1,e2,p1,p2,k1,k2]
 exact zgK l0 al pr lk l4 w0 e3 p3 k3 w4
end
end
end Go.Proofs.Ytceenajkieomoaa
namespace Go.Proofs.Ytceenajkieomoaa
open Go.RowKit Sx
instance tabs:Tabs Try.prog:=⟨fun w => w.ShapedOpen Try.prog,fun _ _ h hk _ => zha h hk⟩
instance tabs_shp:Shp Try.prog:=⟨fun _ h => h⟩
end Go.Proofs.Ytceenajkieomoaa
namespace Go.Proofs.Ytceenajkieomoaa
open Go.RowKit Sx
instance tabs_utf:Utf Try.prog:=⟨fun _ _ => ⟨trivial⟩⟩
end Go.Proofs.Ytceenajkieomoaa
namespace Go.Proofs.Ytceenajkieomoaa
open Nat renaming reduceAdd → z5, reduceSub → z6, reduceLeDiff → z7, reduceLT → z8, reduceMul → j4, reduceEqDiff → j5
open Int renaming reduceToNat → j6, reduceAdd → j7, reduceSub → j8, reduceMul → j9, reduceNeg → x9, reduceLT → y3, reduceLE → y4, reduceEq → y5, reduceNe → y6
open Go.RowKit Sx
section
attribute [local irreducible] run
theorem ziN {ks:List (List UInt8)} {its:List JV} {key:List UInt8} {x:JV} (hn:ks.Nodup) (hl:ks.length=its.length) (h:(key,x) ∈ ks.zip its):zby (job ks its) key=(x,true):=by
 obtain ⟨i,hi,e⟩:=List.mem_iff_getElem.1 h
 rw [List.length_zip] at hi
 rw [List.getElem_zip] at e
 injection e with e1 e2
 have h1:ks[i]? = some key:=by rw [List.getElem?_eq_getElem (by omega),e1]
 rw [getJ_at (v:=job ks its) (key:=key) (i:=i) rfl h1 (by show i < its.length; omega) (fun j hj => .inl fun e => by
  obtain ⟨hj',e'⟩:=List.getElem?_eq_some_iff.1 e
  exact List.pairwise_iff_getElem.1 hn j i hj' (by omega) hj (e'.trans e1.symm))]
 exact Prod.ext e2 rfl
theorem zfF {ks:List (List UInt8)} {its:List JV} {k:Nat} {x:JV} {ex key:List UInt8} (hn:ks.Nodup) (hl:ks.length=its.length) (he:ex ∉ ks) (hk:key ≠ ex):zby (job (ks.drop k ++ [ex] ++ ks.take k) (its.drop k ++ [x] ++ its.take k)) key=zby (job ks its) key:=by
 have hd:(ks.drop k).length=(its.drop k).length:=by rw [List.length_drop,List.length_drop,hl]
 have ht:(ks.take k).length=(its.take k).length:=by rw [List.length_take,List.length_take,hl]
 by_cases hm:key ∈ ks
 ·obtain ⟨i,hi,e⟩:=List.mem_iff_getElem.1 hm
  have hz:(key,its[i]'(by omega)) ∈ ks.zip its:=List.mem_iff_getElem.2 ⟨i,by rw [List.length_zip]; omega,by rw [List.getElem_zip,e]⟩
  generalize its[i]'(by omega)=y at hz
  rw [ziN hn hl hz]
  refine ziN ?_ ?_ ?_
  ·have h1:=hn
   rw [← List.take_append_drop k ks,List.nodup_append] at h1
   obtain ⟨n1,n2,n3⟩:=h1
   rw [List.nodup_append,List.nodup_append]
   refine ⟨⟨n2,by simp,fun a ha b hb e => ?_⟩,n1,fun a ha b hb e => ?_⟩
   ·rw [List.mem_singleton] at hb; subst hb; subst e; exact he (List.mem_of_mem_drop ha)
   ·rcases List.mem_append.1 ha with ha | ha
    ·exact n3 b hb a ha e.symm
    ·rw [List.mem_singleton] at ha; subst ha; subst e; exact he (List.mem_of_mem_take hb)
  ·simp only [List.length_append,hd,ht,List.length_cons,List.length_nil]
  ·rw [List.zip_append (by simp only [List.length_append,hd,List.length_cons,List.length_nil]),List.zip_append hd]
   have hz2:=hz
   rw [show ks.zip its=(ks.take k ++ ks.drop k).zip (its.take k ++ its.drop k) by rw [List.take_append_drop,List.take_append_drop],List.zip_append ht,List.mem_append] at hz2
   rcases hz2 with h | h
   ·exact List.mem_append_right _ h
   ·exact List.mem_append_left _ (List.mem_append_left _ h)
 ·rw [zgM hm,zgM (by
   intro h2
   rcases List.mem_append.1 h2 with h2 | h2
   ·rcases List.mem_append.1 h2 with h2 | h2
    ·exact hm (List.mem_of_mem_drop h2)
    ·rw [List.mem_singleton] at h2; exact hk h2
   ·exact hm (List.mem_of_mem_take h2))]
theorem jd_congr {v w:JV} (hk:v.kind=w.kind) (h1:zby v zbP=zby w zbP) (h2:zby v zb3=zby w zb3) (h3:zby v zbr=zby w zbr) (h4:zby v zbG=zby w zbG):jd4 v=jd4 w ∧ jdV v=jdV w:=by
 have m:∀ name e kind,zby v name=zby w name → zaW v e name kind=zaW w e name kind:=fun name e kind h => by unfold zaW; rw [h]
 have i:∀ name e most,zby v name=zby w name → itE v e name most=itE w e name most:=fun name e most h => by unfold itE; rw [m _ _ _ h]
 have t:∀ e,tsE v e zb3=tsE w e zb3:=fun e => by unfold tsE; rw [i _ _ _ h2]
 have p:∀ e b,prE v e zbr b=prE w e zbr b:=fun e b => by unfold prE; rw [m _ _ _ h3]
 have l:∀ e,lsE v e zbG=lsE w e zbG:=fun e => by unfold lsE; rw [i _ _ _ h4]
 have s:shE v=shE w:=by unfold shE; rw [hk]
 have e1:jd1 v=jd1 w:=by unfold jd1; rw [s,m _ _ _ h1]
 have e2:jd2 v=jd2 w:=by unfold jd2; rw [e1,t]
 have e3:jd3 v=jd3 w:=by unfold jd3; rw [e2,p]
 refine ⟨by unfold jd4; rw [e3,l],?_⟩
 unfold jdV
 rw [s,m _ _ _ h1,e1,t,e2,p,e3,l]
theorem zjG {v w:JV} (h:jd4 v=jd4 w ∧ jdV v=jdV w):jdAV v=jdAV w:=by unfold jdAV; rw [h.1,h.2]
theorem zcW {ks:List (List UInt8)} {key:List UInt8} {v:JV} (hn:ks.Nodup) (h:key ∉ ks):(zbe ks key v).Nodup:=by
 unfold zbe
 split
 ·rw [List.nodup_append]
  exact ⟨hn,by simp,fun a ha b hb e => by rw [List.mem_singleton] at hb; subst hb; subst e; exact h ha⟩
 ·exact hn
def expT:List UInt8:=[101,120,112,105,114,101,115]
def enK (subj:List UInt8) (al:List (List UInt8)) (pr:List PrP) (lk:List LkP):List (List UInt8):=zbe (jeK subj al pr) zbG (jar (lk.map zbH))
def enI (subj:List UInt8) (al:List (List UInt8)) (pr:List PrP) (lk:List LkP):List JV:=zbC (jeI subj al pr) (jar (lk.map zbH))
theorem en_keys (subj:List UInt8) (al:List (List UInt8)) (pr:List PrP) (lk:List LkP):(enK subj al pr lk).Nodup ∧ (enK subj al pr lk).length=(enI subj al pr lk).length ∧ expT ∉ enK subj al pr lk ∧ (enK subj al pr lk).length ≤ 4:=by
 unfold enK enI jeK jeI
 refine ⟨?_,zf8 (zf8 (zf8 (zf8 rfl))),?_,?_⟩
 ·exact zcW (zcW (zcW (zcW (by simp) (by simp)) (zbA (by simp) (by decide))) (zbA (zbA (by simp) (by decide)) (by decide))) (zbA (zbA (zbA (by simp) (by decide)) (by decide)) (by decide))
 ·exact zbA (zbA (zbA (zbA (by simp) (by decide)) (by decide)) (by decide)) (by decide)
 ·have a1:=zaP [] zbP (jtx subj)
  have a2:=zaP (zbe [] zbP (jtx subj)) zb3 (jar (al.map jtx))
  have a3:=zaP (zbe (zbe [] zbP (jtx subj)) zb3 (jar (al.map jtx))) zbr (zcR pr)
  have a4:=zaP (zbe (zbe (zbe [] zbP (jtx subj)) zb3 (jar (al.map jtx))) zbr (zcR pr)) zbG (jar (lk.map zbH))
  simp only [List.length_nil] at a1
  omega
def rotJ (ks:List (List UInt8)) (its:List JV) (k:Nat) (x:JV):JV:=job (ks.drop k ++ [expT] ++ ks.take k) (its.drop k ++ [x] ++ its.take k)
theorem rot_dec {ks:List (List UInt8)} {its:List JV} (k:Nat) (x:JV) (hn:ks.Nodup) (hl:ks.length=its.length) (he:expT ∉ ks):jd4 (rotJ ks its k x)=jd4 (job ks its) ∧ jdV (rotJ ks its k x)=jdV (job ks its) :=
 jd_congr rfl (zfF hn hl he (by decide)) (zfF hn hl he (by decide)) (zfF hn hl he (by decide)) (zfF hn hl he (by decide))
theorem zlH:∀ {l:List JV},zcX l → zcY l → ∀ y ∈ l,JOk y ∧ JBd y
 | [],_,_,y,hy => by cases hy
 | v :: l,h,h2,y,hy => by
  rw [zcX] at h; rw [zcY] at h2
  rcases List.mem_cons.1 hy with rfl | hy
  ·exact ⟨h.1,h2.1⟩
  ·exact zlH h.2 h2.2 y hy
theorem rot_ok {ks:List (List UInt8)} {its:List JV} {k:Nat} {x:JV} (hv:JOk (job ks its) ∧ JBd (job ks its)) (hx:JOk x ∧ JBd x) (h4:ks.length ≤ 4) (hl:ks.length=its.length):JOk (rotJ ks its k x) ∧ JBd (rotJ ks its k x):=by
 obtain ⟨h1,h2⟩:=hv
 unfold job at h1 h2
 rw [JOk] at h1
 rw [JBd] at h2
 have h3:=zlH h1.2.2.2.2.2 h2.2.2
 unfold rotJ
 have h5:∀ y ∈ its.drop k ++ [x] ++ its.take k,JOk y ∧ JBd y:=fun y hy => by
  rcases List.mem_append.1 hy with hy | hy
  ·rcases List.mem_append.1 hy with hy | hy
   ·exact h3 y (List.mem_of_mem_drop hy)
   ·rw [List.mem_singleton] at hy; subst hy; exact hx
  ·exact h3 y (List.mem_of_mem_take hy)
 have h6:=zfU h5
 refine ObF.val (n:=100) ⟨?_,?_,fun y hy => ?_,h6.1,h6.2⟩ (by decide)
 ·simp only [List.length_append,List.length_drop,List.length_take,List.length_cons,List.length_nil]; omega
 ·simp only [List.length_append,List.length_drop,List.length_take,List.length_cons,List.length_nil]; omega
 ·rcases List.mem_append.1 hy with hy | hy
  ·rcases List.mem_append.1 hy with hy | hy
   ·exact h1.2.2.2.1 y (List.mem_of_mem_drop hy)
   ·rw [List.mem_singleton] at hy; subst hy; decide
  ·exact h1.2.2.2.1 y (List.mem_of_mem_take hy)
theorem zeH {l:List JV} {k:Nat} (hk:k ≤ l.length):(zab l).drop (k * 4)=zab (l.drop k) ∧ (zab l).take (k * 4)=zab (l.take k):=by
 have h1:zab l=zab (l.take k) ++ zab (l.drop k):=by rw [← zaO,List.take_append_drop]
 have h2:(zab (l.take k)).length=k * 4:=by rw [zat,List.length_take,Nat.min_eq_left hk]
 constructor
 ·rw [h1,List.drop_left' h2]
 ·rw [h1,List.take_left' h2]
theorem zmr {v:JV} (hv:JOk v):∃ S A P L,jdAV v=zcm S A P L ∧ JrF S A P L:=by
 by_cases h:jd4 v=0
 ·exact ⟨_,_,_,_,if_pos h,jd_fit hv h⟩
 ·exact ⟨[],[],[],[],if_neg h,⟨by simp,by simp,by simp,⟨by simp,by simp⟩,by simp,by simp⟩⟩
section
variable [Tabs Try.prog] [Utf Try.prog]
theorem zgJ (subj:List UInt8) (al:List (List UInt8)) (pr:List PrP) (lk:List LkP) (x:JV) (n:Int) (h0:subj.length ≤ 140737488351232) (h1:∀ a ∈ al,a.length ≤ 140737488351232) (hp:∀ p ∈ pr,p.name.length ≤ 140737488351232 ∧ p.val.length ≤ 140737488351232)
  (h2:∀ x ∈ lk,LkOk x ∧ (∀ p ∈ x.tit,p.name.length ≤ 140737488351232 ∧ p.val.length ≤ 140737488351232) ∧ ∀ p ∈ x.pro,p.name.length ≤ 140737488351232 ∧ p.val.length ≤ 140737488351232) (hx:JOk x) (n0:0 ≤ n) (n1:n ≤ 255) :
  zae Try.prog 6 [zcm subj al pr lk,.agg (zad x),.i .u8 n] [] (fun _ r => r=.b true):=by
 refine zaQ is_law16_JrdIgnores (by unfold zcm; simp only [zam,AV.plain,zaX,za9,zcB,zbt,Bool.and_self]) fun C _ => ?_
 rw [c_law16_JrdIgnores]
 unfold zcm
 have ex:zad x=[.i .i64 x.kind,.s x.text,.row x.keys.length (x.keys.map .s),.row x.items.length (zab x.items)]:=zag x
 rw [ex]
 refine zaa fun Z hZ => ?_
 simp only [sxZ,z5,z6,z7,z8,j4,j5,j6,j7,j8,j9,x9,y3,y4,y5,y6,reduceCtorEq,↓reduceIte]
 subst hZ
 refine zaa fun Z hZ => ?_
 simp only [sxZ,z5,z6,z7,z8,j4,j5,j6,j7,j8,j9,x9,y3,y4,y5,y6,reduceCtorEq,↓reduceIte]
 refine zaj (zhT ?_)
 simp only [sxZ,z5,z6,z7,z8,j4,j5,j6,j7,j8,j9,x9,y3,y4,y5,y6,reduceCtorEq,↓reduceIte]
 subst hZ
 refine zaa fun Z hZ => ?_
 simp only [sxZ,z5,z6,z7,z8,j4,j5,j6,j7,j8,j9,x9,y3,y4,y5,y6,reduceCtorEq,↓reduceIte]
 refine zaj (zgG subj al pr lk h0 h1 (fun x hx => (h2 x hx).1) fun b hb => ?_)
 cases b with
 | false => simp only [sxZ,z5,z6,z7,z8,j4,j5,j6,j7,j8,j9,x9,y3,y4,y5,y6,reduceCtorEq,↓reduceIte]
 | true =>
 have hB:=hb rfl
 have hJ:=enJ_ok (jr_bd h0 h1 hp h2 hB)
 obtain ⟨b1,b2,b3,b4,b5,b6⟩:=hB
 have hlk':∀ x ∈ lk,x.tit.length ≤ 1000000 ∧ x.pro.length ≤ 1000000:=fun x hx => by
  obtain ⟨_,c1,c2⟩:=b6 x hx
  omega
 simp only [sxZ,z5,z6,z7,z8,j4,j5,j6,j7,j8,j9,x9,y3,y4,y5,y6,reduceCtorEq,↓reduceIte]
 rw [← ex]
 refine zaj (zhr x 20 hx (by decide) (by decide) fun b hb => ?_)
 cases b with
 | false => simp only [sxZ,z5,z6,z7,z8,j4,j5,j6,j7,j8,j9,x9,y3,y4,y5,y6,reduceCtorEq,↓reduceIte]
 | true =>
 have hx0:JOk x ∧ JBd x:=⟨hx,hb rfl⟩
 rw [ex]
 simp only [sxZ,z5,z6,z7,z8,j4,j5,j6,j7,j8,j9,x9,y3,y4,y5,y6,reduceCtorEq,↓reduceIte]
 subst hZ
 refine zaa fun Z hZ => ?_
 simp only [sxZ,z5,z6,z7,z8,j4,j5,j6,j7,j8,j9,x9,y3,y4,y5,y6,reduceCtorEq,↓reduceIte]
 refine zaj (zgy subj al pr lk (by omega) (by omega) (by omega) hlk' ?_)
 obtain ⟨q1,q2,q3,q4⟩:=en_keys subj al pr lk
 have ej:enJ subj al pr lk=job (enK subj al pr lk) (enI subj al pr lk):=rfl
 rw [ej] at hJ ⊢
 generalize enK subj al pr lk=ks at q1 q2 q3 q4 hJ ⊢
 generalize enI subj al pr lk=its at q2 hJ ⊢
 have ev:zad (job ks its)=[.i .i64 7,.s [],.row ks.length (ks.map .s),.row its.length (zab its)]:=zag _
 rw [ev]
 simp only [sxZ,z5,z6,z7,z8,j4,j5,j6,j7,j8,j9,x9,y3,y4,y5,y6,reduceCtorEq,↓reduceIte,gn1,sn1]
 subst hZ
 refine zaa fun Z hZ => ?_
 simp only [sxZ,z5,z6,z7,z8,j4,j5,j6,j7,j8,j9,x9,y3,y4,y5,y6,reduceCtorEq,↓reduceIte]
 have hwn:IntKind.i64.wrap n=n:=IntWalk.i64_in _ (by omega)
 obtain ⟨kk,hkk,hkl⟩:∃ kk:Nat,(IntKind.i64.wrap n).tmod ((ks.length:Int) + 1)=(kk:Int) ∧ kk ≤ ks.length:=by
  rw [hwn]
  have e1:=Int.tmod_nonneg ((ks.length:Int) + 1) n0
  have e2:=Int.tmod_lt_of_pos n (show (0:Int) < (ks.length:Int) + 1 by omega)
  exact ⟨(n.tmod ((ks.length:Int) + 1)).toNat,by omega,by omega⟩
 rw [hkk]
 refine ⟨by omega,by omega,?_⟩
 subst hZ
 refine zaa fun Z hZ => ?_
 simp only [sxZ,z5,z6,z7,z8,j4,j5,j6,j7,j8,j9,x9,y3,y4,y5,y6,reduceCtorEq,↓reduceIte,gn1,sn1]
 subst hZ
 refine zaa fun Z hZ => ?_
 have c0:(0 ≤ (kk:Int) ∧ (kk:Int) ≤ (ks.length:Int))=True:=by simp; exact hkl
 have c1:(0 ≤ (kk:Int) ∧ (kk:Int) ≤ (its.length:Int))=True:=by simp; omega
 have kd:((ks.map AV.s).take (ks.length * 1)).drop (kk * 1)=(ks.drop kk).map AV.s:=by
  rw [Nat.mul_one,Nat.mul_one,List.take_of_length_le (by rw [List.length_map]; exact Nat.le_refl _),List.map_drop]
 have kt:(ks.map AV.s).take (kk * 1)=(ks.take kk).map AV.s:=by rw [Nat.mul_one,List.map_take]
 simp only [sxZ,z5,z6,z7,z8,j4,j5,j6,j7,j8,j9,x9,y3,y4,y5,y6,reduceCtorEq,↓reduceIte,c0,Int.toNat_natCast,kd,kt,List.length_map,List.length_drop]
 have hlt:(ks.take kk).length=kk:=by rw [List.length_take]; omega
 refine ⟨⟨by omega,by omega,by omega⟩,⟨by omega,by omega⟩,⟨by rw [hlt]; omega,by omega,by omega⟩,?_⟩
 subst hZ
 refine zaa fun Z hZ => ?_
 have hil:=zat its
 have di:((zab its).take (its.length * 4)).drop (kk * 4)=zab (its.drop kk):=by
  rw [List.take_of_length_le (by omega)]; exact (zeH (by omega)).1
 have ti:=(zeH (l:=its) (k:=kk) (by omega)).2
 have hdl:=zat (its.drop kk)
 have htl:=zat (its.take kk)
 rw [List.length_drop] at hdl
 rw [List.length_take,Nat.min_eq_left (by omega)] at htl
 simp only [sxZ,z5,z6,z7,z8,j4,j5,j6,j7,j8,j9,x9,y3,y4,y5,y6,reduceCtorEq,↓reduceIte,c1,Int.toNat_natCast,di,ti]
 refine ⟨⟨by omega,by omega,by omega⟩,⟨by omega,by omega⟩,⟨by omega,by omega,by omega⟩,?_⟩
 have er:zad (rotJ ks its kk x)=[.i .i64 7,.s [],.row (ks.length - kk + 1 + kk) ((ks.drop kk).map .s ++ [.s [101,120,112,105,114,101,115]] ++ (ks.take kk).map .s),.row (its.length - kk + 1 + kk) (zab (its.drop kk) ++ [.i .i64 x.kind,.s x.text,.row x.keys.length (x.keys.map .s),.row x.items.length (zab x.items)] ++ zab (its.take kk))]:=by
  unfold rotJ job
  rw [zhu,zaO,zaO,zap,zal,List.append_nil,ex,List.map_append,List.map_append,List.length_append,List.length_append,List.length_append,List.length_append,hlt,List.length_drop,List.length_drop,List.length_take,Nat.min_eq_left (by omega)]
  rfl
 have hro:=rot_ok (k:=kk) hJ hx0 q4 q2
 have hrd:=rot_dec kk x q1 q2 q3
 obtain ⟨S,A,P,L,hS,hF⟩:=zmr hJ.1
 have DV:∀ {objs:List OB} {K:List OB → AV → Prop},K objs (.tup [zcm S A P L,.i .i64 (jd4 (job ks its))]) → zae Try.prog 11 [.agg [.i .i64 7,.s [],.row ks.length (ks.map .s),.row its.length (zab its)]] objs K:=fun {objs K} h => by
  rw [← ev]; exact zdu (job ks its) hJ.1 hJ.2 (by rw [hS]; exact h)
 have DW:∀ {objs:List OB} {K:List OB → AV → Prop},K objs (.tup [zcm S A P L,.i .i64 (jd4 (job ks its))]) → zae Try.prog 11 [.agg [.i .i64 7,.s [],.row (ks.length - kk + 1 + kk) ((ks.drop kk).map .s ++ [.s [101,120,112,105,114,101,115]] ++ (ks.take kk).map .s),.row (its.length - kk + 1 + kk) (zab (its.drop kk) ++ [.i .i64 x.kind,.s x.text,.row x.keys.length (x.keys.map .s),.row x.items.length (zab x.items)] ++ zab (its.take kk))]] objs K:=fun {objs K} h => by
  rw [← er]; exact zdu (rotJ ks its kk x) hro.1 hro.2 (by rw [zjG hrd,hrd.1,hS]; exact h)
 generalize jd4 (job ks its)=ec at DV DW
 generalize (ks.drop kk).map AV.s ++ [AV.s [101,120,112,105,114,101,115]] ++ (ks.take kk).map AV.s=rk at DW ⊢
 generalize zab (its.drop kk) ++ [AV.i .i64 x.kind,.s x.text,.row x.keys.length (x.keys.map .s),.row x.items.length (zab x.items)] ++ zab (its.take kk)=ri at DW ⊢
 have m1:=hF.aln
 have m2:=hF.prf.1
 have m3:=hF.lkn
 unfold zcm at DV DW
 subst hZ
 refine zaa fun Z hZ => ?_
 simp only [sxZ,z5,z6,z7,z8,j4,j5,j6,j7,j8,j9,x9,y3,y4,y5,y6,reduceCtorEq,↓reduceIte]
 refine zaj (DV ?_)
 simp only [sxZ,z5,z6,z7,z8,j4,j5,j6,j7,j8,j9,x9,y3,y4,y5,y6,reduceCtorEq,↓reduceIte,gn1,sn1]
 subst hZ
 refine zaa fun Z hZ => ?_
 simp only [sxZ,z5,z6,z7,z8,j4,j5,j6,j7,j8,j9,x9,y3,y4,y5,y6,reduceCtorEq,↓reduceIte]
 refine zaj (zdg (b:=4) rfl ?_)
 simp only [zcN,zfz,zg7,zaY,List.map_cons,List.map_nil,List.set_cons_succ,List.set_cons_zero,and_self,if_true]
 refine zdg (b:=5) rfl ?_
 simp only [zcN,zfz,zg7,zaY,List.map_cons,List.map_nil,List.set_cons_succ,List.set_cons_zero,and_self,if_true]
 refine DW ?_
 simp only [sxZ,z5,z6,z7,z8,j4,j5,j6,j7,j8,j9,x9,y3,y4,y5,y6,reduceCtorEq,↓reduceIte,gn1,sn1]
 subst hZ
 refine zaa fun Z hZ => ?_
 simp only [sxZ,z5,z6,z7,z8,j4,j5,j6,j7,j8,j9,x9,y3,y4,y5,y6,reduceCtorEq,↓reduceIte,decide_true]
 refine zaj (same16_k S A P L (by omega) (by omega) (by omega) (fun x hx => ?_) ?_)
 ·have:=(hF.lkf x hx).tit.1
  have:=(hF.lkf x hx).pro.1
  constructor <;> omega
 simp only [sxZ,z5,z6,z7,z8,j4,j5,j6,j7,j8,j9,x9,y3,y4,y5,y6,reduceCtorEq,↓reduceIte]
 subst hZ
 simp only [sxZ,z5,z6,z7,z8,j4,j5,j6,j7,j8,j9,x9,y3,y4,y5,y6,reduceCtorEq,↓reduceIte]
theorem jrdIgnores_c (l0:List UInt8) (w0:l0.length ≤ 140737488351232) (g1:List (List AV)) (w1:g1.length ≤ 140737488351232) (h1:∀ g ∈ g1,ShT .s g) (g2:List (List AV)) (w2:g2.length ≤ 140737488351232) (h2:∀ g ∈ g2,ShT (.st [.s,.s,.b]) g) (g3:List (List AV)) (w3:g3.length ≤ 140737488351232) (h3:∀ g ∈ g3,ShT (.st [.s,.s,.s,.s,.sl (.st [.s,.s,.b]),.sl (.st [.s,.s,.b])]) g) (r4:RV) (w4:RVok r4) (n5:Int) (w5:(Lit.int .u8 n5).wf=true) :
  zae Try.prog 6 [.agg [.s l0,.row g1.length g1.flatten,.row g2.length g2.flatten,.row g3.length g3.flatten],.agg (zdo r4),.i .u8 n5] [] (fun _ r => r=.b true):=by
 obtain ⟨al,e1,e2,e3⟩:=zj5 h1
 obtain ⟨pr,p1,p2,p3⟩:=zdm h2
 obtain ⟨lk,k1,k2,k3⟩:=zfB h3
 rw [e1,e2,p1,p2,k1,k2,zh7]
 have hn:0 ≤ n5 ∧ n5 ≤ 255:=by
  simp [Lit.wf,IntKind.min,IntKind.max,IntKind.signed,IntKind.bits] at w5
  omega
 exact zgJ l0 al pr lk (rvJ r4) n5 w0 e3 p3 k3 (rv_ok r4 w4) hn.1 hn.2
end
end
end Go.Proofs.Ytceenajkieomoaa
