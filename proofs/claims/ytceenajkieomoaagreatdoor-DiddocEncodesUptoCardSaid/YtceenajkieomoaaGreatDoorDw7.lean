/- The texts that the proofs of these statements reach, in their order, as few files. -/
import Derived.Lib.Split
import Derived.Lib.IndexMore
import Derived.Lib.Builder
import Derived.Lib.UnsafeStr
import Derived.Shelf.RegionOpenPlain
import Derived.Laws.Externs
import Derived.Lib.SplitLaws
import Derived.Lib.Join
import Derived.Test.YtceenajkieomoaaGreatDoorRows
import Derived.Test.YtceenajkieomoaaGreatDoorDw6
set_option linter.unusedVariables false
set_option linter.unusedSimpArgs false
set_option maxRecDepth 100000
namespace Go.Proofs.YtceenajkieomoaaGreatDoor
open Nat renaming reduceAdd -> z6, reduceSub -> z7, reduceLeDiff -> z8, reduceLT -> j4, reduceMul -> j5, reduceEqDiff -> j6
open Int renaming reduceToNat -> j7, reduceAdd -> j8, reduceSub -> j9, reduceMul -> x3, reduceNeg -> x4, reduceLT -> x5, reduceLE -> x6, reduceEq -> x7, reduceNe -> x8
open Go.RowKit Sx
open Int renaming cast_ofNat_Int->y6
open List renaming Perm->qz, append_assoc->qc, append_nil->ji, cons_append->qw, drop_of_length_le->xn, flatMap_cons->xe, getElem?_append_left->zj, getElem?_eq_getElem->zl, getElem?_eq_some_iff->zf, getElem?_map->qm, getElem?_set->za, getElem?_set_ne->ze, getElem?_set_self->zk, getElem_cons_succ->yd, length_append->zp, length_cons->zx, length_map->qg, length_nil->je, length_set->zi, length_take->qh, map_append->qy, map_cons->zo, map_nil->zr, mem_cons->zu, nil_append->zy, not_mem_nil->xh, sublist_cons_self->jk, take_add_one->xo, take_of_length_le->jh
open Nat renaming le_refl->zd, le_trans->qp, zero_le->zh
open Option renaming getD_some->qj
section
attribute [local irreducible] run
def SlP (ks:List (List UInt8)) (its:List JV) (X:AV) (R1:List (Nat×OB)) (Y:AV) (R2:List (Nat×OB)):Prop :=
 (ks=[]/\its=[]/\X=.nil/\R1=[]/\Y=.nil/\R2=[])\/∃b1 g1 b2 g2,X=.orow b1 g1/\R1=[(b1,.orow 9 1 g1 ks.length (ks.map .s))]/\Y=.orow b2 g2/\R2=[(b2,.orow 25 4 g2 its.length (zac its))]
theorem SlP.k {ks:List (List UInt8)} {its:List JV} {X Y:AV} {R1 R2:List (Nat×OB)} (h:SlP ks its X R1 Y R2):SlO 9 1 ks.length (ks.map .s) X R1:=by
 rcases h with ⟨rfl,rfl,rfl,rfl,rfl,rfl⟩|⟨b1,g1,b2,g2,rfl,rfl,rfl,rfl⟩
 ·exact .inl ⟨rfl,rfl,rfl,rfl⟩
 ·exact .inr ⟨_,_,rfl,rfl⟩
theorem SlP.i {ks:List (List UInt8)} {its:List JV} {X Y:AV} {R1 R2:List (Nat×OB)} (h:SlP ks its X R1 Y R2):SlO 25 4 its.length (zac its) Y R2:=by
 rcases h with ⟨rfl,rfl,rfl,rfl,rfl,rfl⟩|⟨b1,g1,b2,g2,rfl,rfl,rfl,rfl⟩
 ·exact .inl ⟨rfl,zak,rfl,rfl⟩
 ·exact .inr ⟨_,_,rfl,rfl⟩
theorem SlP.flat {ks:List (List UInt8)} {its:List JV} {X Y:AV} {R1 R2:List (Nat×OB)} (h:SlP ks its X R1 Y R2):X.flat=true/\Y.flat=true:=by
 rcases h with ⟨rfl,rfl,rfl,rfl,rfl,rfl⟩|⟨b1,g1,b2,g2,rfl,rfl,rfl,rfl⟩<;>exact⟨rfl,rfl⟩
section
variable [Tabs Tryz.prog] [Utf Tryz.prog] {objs:List OB} {K:List OB->AV->Prop} {L:List (Nat×OB)} {p:Nat} {s:List UInt8} {ρ:Rs}
theorem object_k {val:Rs->Tk->JV×Rs} {d:Nat} (hv:ValK s p d val) (hg:GV s val) (hn:∀ρ t,(val ρ t).2.fail=0->ρ.nodes+1<=(val ρ t).2.nodes) (hvz:ValFroz val) (hs:s.length<=1048576) (hB:GB s ρ) (hC:zaJ ((p,zaI s ρ)::L)) (hO:zaK ((p,zaI s ρ)::L) objs)
  (hk:∀o,zaK ((p,zaI s (zhz s val ρ).2)::L) o->K o (.agg (zae (zhz s val ρ).1))):zad Tryz.prog 62 [.p p 0,.i .i64 (d:Int)] objs K:=by
 refine zmK (E1:=9) (s1:=1) (E2:=25) (s2:=4) (zhz s val ρ).1 (zfZ hC) hk ?_;refine zcN is_ref14_parser_object fun C _=>?_;have fin:∀{o:List OB} {ρ':Rs} {ks:List (List UInt8)} {its:List JV} {X Y:AV} {R1 R2:List (Nat×OB)} {qt qv qr:Nat} {T V W:OB},zhz s val ρ=(.mk 7 [] ks its,ρ')->SlP ks its X R1 Y R2->zaK ((p,zaI s ρ')::(qt,T)::(qv,V)::(qr,W)::(R1++(R2++L))) o ->
   ∃X' R1 Y' R2,SlO 9 1 (zhz s val ρ).1.keys.length ((zhz s val ρ).1.keys.map .s) X' R1/\SlO 25 4 (zhz s val ρ).1.items.length (zac (zhz s val ρ).1.items) Y' R2/\zaK ((p,zaI s (zhz s val ρ).2)::(R1++(R2++L))) (o.set qr (jvB 7 X Y))/\AV.agg [.i .i64 7,.s [],X,Y]=.agg [.i .i64 (zhz s val ρ).1.kind,.s (zhz s val ρ).1.text,X',Y']:=by
  intro o ρ' ks its X Y R1 R2 qt qv qr T V W he hS hO;rw[he];refine⟨X,R1,Y,R2,hS.k,hS.i,?_,rfl⟩;exact(zaK.set (A:=[(p,zaI s ρ'),(qt,T),(qv,V)]) (jvB 7 X Y) hO).sub ((((jk _ _).trans (jk _ _)).trans (jk _ _)).cons_cons _)
 rw[c_ref14_parser_object];refine zaa fun Z0 hZ0=>?_;simp only[sxZ,z6,z7,z8,j4,j5,j6,j7,j8,j9,x3,x4,x5,x6,x7,x8,reduceCtorEq,↓reduceIte];have hO1:=hO.new zvB;unfold zvB at hO1;generalize hqr:objs.length=qr at hO1 ⊢;generalize objs++[OB.box 25 [.i .i64 0,.s [],.nil,.nil]]=o1 at hO1 ⊢;subst hZ0;refine zaa fun Z0 hZ0=>?_;simp only[sxZ,z6,z7,z8,j4,j5,j6,j7,j8,j9,x3,x4,x5,x6,x7,x8,reduceCtorEq,↓reduceIte,gn1,sn1];have hO2:=hO1.new (jvB 7 .nil .nil);unfold jvB at hO2;generalize hqv:o1.length=qv at hO2 ⊢;generalize o1++[OB.box 25 [.i .i64 7,.s [],.nil,.nil]]=o2 at hO2 ⊢;subst hZ0;refine zaa fun Z0 hZ0=>?_;simp only[sxZ,z6,z7,z8,j4,j5,j6,j7,j8,j9,x3,x4,x5,x6,x7,x8,reduceCtorEq,↓reduceIte];have hO2':zaK ((p,zaI s ρ)::(qv,jvB 7 .nil .nil)::(qr,zvB)::L) o2:=hO2.perm ((qz.cons _ (qz.swap _ _ _)).trans (qz.swap _ _ _));refine zai (zcx (by omega) hO2' fun o3 hO3=>?_);have hB1:=zbl hB;have hT1:=zbD hB;have hrobj:zhz s val ρ=if isP (zar s ρ).1 125=true then (.mk 7 [] [] [],(zar s ρ).2) else (.mk 7 [] (zdd s val (s.length+2) (zar s ρ).2 (zar s ρ).1 [] []).1.1 (zdd s val (s.length+2) (zar s ρ).2 (zar s ρ).1 [] []).1.2,(zdd s val (s.length+2) (zar s ρ).2 (zar s ρ).1 [] []).2):=rfl
 generalize zar s ρ=N at hO3 hB1 hT1 hrobj ⊢;obtain⟨T,ρ1⟩:=N;simp only at hO3 hB1 hT1 hrobj ⊢;unfold zhE tkC;simp only[sxZ,z6,z7,z8,j4,j5,j6,j7,j8,j9,x3,x4,x5,x6,x7,x8,reduceCtorEq,↓reduceIte,gn1,sn1];have f1:∀x y z,OB.box 56 [.i .i64 x,.s y,.i .i64 z]=zaX (x,y,z):=fun _ _ _=>rfl;rw[f1];have hO4:=hO3.new (zaX T);have hO4:zaK ((p,zaI s ρ1)::(o3.length,zaX T)::(qv,jvB 7 .nil .nil)::(qr,zvB)::([]++([]++L))) (o3++[zaX T]):=hO4.perm (qz.swap _ _ _);generalize o3.length=qt at hO4 ⊢;generalize o3++[zaX (T.1,T.2.1,T.2.2)]=o4 at hO4 ⊢;have st:∀(o:List OB) (ρ':Rs) (T':Tk) (X:AV) (R1:List (Nat×OB)) (Y:AV) (R2:List (Nat×OB)),zaK ((p,zaI s ρ')::(qt,zaX T')::(qv,jvB 7 X Y)::(qr,zvB)::(R1++(R2++L))) o->o[p]? = some (.box 53 [.s s,.i .i64 ρ'.pos,.i .i64 (ρ'.nodes:Int),.i .i64 ρ'.fail,.i .i64 ρ'.wh])/\o[qt]? = some (.box 56 [.i .i64 T'.1,.s T'.2.1,.i .i64 T'.2.2])/\o[qv]? = some (.box 25 [.i .i64 7,.s [],X,Y])/\o[qr]? = some (.box 25 [.i .i64 0,.s [],.nil,.nil])/\(∀x,(o.set qr x)[qr]? = some x)/\(∀x,(o.set qt x)[qt]? = some x)/\(∀x,(o.set qv x)[qv]? = some x) :=
  fun o ρ' T' X R1 Y R2 h=>⟨h.get (by simp[zaI]),h.get (by simp[zaX,tkC]),h.get (by simp[jvB]),h.get (by simp[zvB]),fun x=>zk (h.lt (i:=qr) (x:=zvB) (by simp)),fun x=>zk (h.lt (i:=qt) (x:=zaX T') (by simp)),fun x=>zk (h.lt (i:=qv) (x:=jvB 7 X Y) (by simp))⟩
 subst hZ0;refine zaa fun Z0 hZ0=>?_;obtain⟨e1,e2,e3,e4,s1,s2,s3⟩:=st _ _ _ _ _ _ _ hO4;simp only[sxZ,z6,z7,z8,j4,j5,j6,j7,j8,j9,x3,x4,x5,x6,x7,x8,reduceCtorEq,↓reduceIte,e2];refine zai (zfy T 125 ?_)
 cases hcl:isP T 125 with
 | true=>
  rw[hcl,if_pos rfl] at hrobj;simp only[sxZ,z6,z7,z8,j4,j5,j6,j7,j8,j9,x3,x4,x5,x6,x7,x8,reduceCtorEq,↓reduceIte,e3,e4,s1];exact fin hrobj (.inl ⟨rfl,rfl,rfl,rfl,rfl,rfl⟩) hO4
 | false=>
  rw[hcl,if_neg Bool.false_ne_true] at hrobj;simp only[sxZ,z6,z7,z8,j4,j5,j6,j7,j8,j9,x3,x4,x5,x6,x7,x8,reduceCtorEq,↓reduceIte];subst hZ0;refine zaa fun Z0 hZ0=>?_;clear e1 e2 e3 e4 s1 s2 s3;simp only[sxZ,z6,z7,z8,j4,j5,j6,j7,j8,j9,x3,x4,x5,x6,x7,x8,reduceCtorEq,↓reduceIte];refine zaF (fun n o tm=>∃(i:Nat) (ρ':Rs) (T':Tk) (ks:List (List UInt8)) (its:List JV) (X:AV) (R1:List (Nat×OB)) (Y:AV) (R2:List (Nat×OB)),n=s.length+2 - i/\ks.length=i/\its.length=i/\zhz s val ρ=(.mk 7 [] (zdd s val n ρ' T' ks its).1.1 (zdd s val n ρ' T' ks its).1.2,(zdd s val n ρ' T' ks its).2)/\GB s ρ'/\T'.2.1.length<=s.length/\(ρ'.fail=0->i<=ρ'.nodes)/\SlP ks its X R1 Y R2/\zaK ((p,zaI s ρ')::(qt,zaX T')::(qv,jvB 7 X Y)::(qr,zvB)::(R1++(R2++L))) o /\
    tm.length=98/\tm[0]? = some (.p p 0)/\tm[1]? = some (.i .i64 (d:Int))/\tm[4]? = some (.p qr 0)/\tm[5]? = some (.p qv 0)/\tm[6]? = some (.p qt 0)) (s.length+2) ⟨0,ρ1,T,[],[],.nil,[],.nil,[],rfl,rfl,rfl,hrobj,hB1.1,hT1,fun _=>zh _,.inl ⟨rfl,rfl,rfl,rfl,rfl,rfl⟩,hO4,rfl,rfl,rfl,rfl,rfl,rfl⟩ ?_
  clear hO hO1 hO2 hO2' hO3 hO4 hrobj hB1 hT1 hcl;rintro n o tm ⟨i,ρ',T',ks,its,X,R1,Y,R2,rfl,hi,hi2,hrobj,hGB,hTx,hnd,hS,hO,hlen,t0,t1,t4,t5,t6⟩;obtain⟨e1,e2,e3,e4,s1,s2,s3⟩:=st _ _ _ _ _ _ _ hO;refine zaa fun Z hZ=>?_
  by_cases c1:ρ'.fail=0
  rotate_left
  ·have he:zdd s val (s.length+2 - i) ρ' T' ks its=((ks,its),ρ'):=by
    cases s.length+2 - i with
    | zero=>rw[zdd]
    | succ m=>rw[zdd,if_pos c1]
   rw[he] at hrobj;simp only[sxZ,z6,z7,z8,j4,j5,j6,j7,j8,j9,x3,x4,x5,x6,x7,x8,reduceCtorEq,↓reduceIte,za,hlen,t0,e1,c1];subst hZ;subst hZ0;simp only[sxZ,z6,z7,z8,j4,j5,j6,j7,j8,j9,x3,x4,x5,x6,x7,x8,reduceCtorEq,↓reduceIte,za,hlen,t4,t5,e3,e4,s1,hS.flat.1,hS.flat.2];exact fin hrobj hS hO
  have hil:i<=s.length:=by
   have h1:=hnd c1;have h2:=hGB.n0 c1;have h3:=hGB.p1;omega
  obtain⟨m,hm⟩:∃m,s.length+2 - i=m+1:=⟨s.length+1 - i,by omega⟩;rw[hm,zdd,if_neg (fun h=>h c1)] at hrobj;simp only at hrobj;simp only[sxZ,z6,z7,z8,j4,j5,j6,j7,j8,j9,x3,x4,x5,x6,x7,x8,reduceCtorEq,↓reduceIte,za,hlen,t0,e1,c1];subst hZ;rw[zaO];clear s1 s2 s3 e1 e4;refine zaa fun Z hZ=>?_;have hk1:∀t,t=ks->zmJ ρ' T' t=(if T'.2.1∈ks then zaY (if ¬T'.1=3 then zaY ρ' T'.2.2 140 else ρ') T'.2.2 143 else if ¬T'.1=3 then zaY ρ' T'.2.2 140 else ρ'):=fun t h=>by rw[h];rfl
  have hk1:=hk1 ks rfl;have hGk:=gb_key hGB T' ks;have hnk:=rkey_n ρ' T' ks;generalize hρa:(if ¬T'.1=3 then zaY ρ' T'.2.2 140 else ρ')=ρa at hk1;refine zaz (fun o tm=>zaK ((p,zaI s ρa)::(qt,zaX T')::(qv,jvB 7 X Y)::(qr,zvB)::(R1++(R2++L))) o/\tm.length=98/\tm[0]? = some (.p p 0)/\tm[1]? = some (.i .i64 (d:Int))/\tm[4]? = some (.p qr 0)/\tm[5]? = some (.p qv 0)/\tm[6]? = some (.p qt 0)) ?_ ?_
  ·refine zaa fun W hW=>?_
   by_cases c3:T'.1=3
   ·rw[if_neg (fun h=>h c3)] at hρa;subst hρa;simp only[sxZ,z6,z7,z8,j4,j5,j6,j7,j8,j9,x3,x4,x5,x6,x7,x8,reduceCtorEq,↓reduceIte,za,hlen,t6,e2,c3];subst hW;simp only[sxZ,z6,z7,z8,j4,j5,j6,j7,j8,j9,x3,x4,x5,x6,x7,x8,reduceCtorEq,↓reduceIte,zab,zi,za,hlen,t0,t1,t4,t5,t6,and_self,and_true];exact hO
   ·rw[if_pos c3] at hρa;simp only[sxZ,z6,z7,z8,j4,j5,j6,j7,j8,j9,x3,x4,x5,x6,x7,x8,reduceCtorEq,↓reduceIte,za,hlen,t6,e2,c3];subst hW;simp only[sxZ,z6,z7,z8,j4,j5,j6,j7,j8,j9,x3,x4,x5,x6,x7,x8,reduceCtorEq,↓reduceIte,za,hlen,t0,t6,e2];refine zai (zca hO T'.2.2 140 fun o8 hO8=>?_);rw[hρa] at hO8;simp only[sxZ,z6,z7,z8,j4,j5,j6,j7,j8,j9,x3,x4,x5,x6,x7,x8,reduceCtorEq,↓reduceIte,zab,zi,za,hlen,t0,t1,t4,t5,t6,and_self,and_true];exact hO8
  clear hO hlen t0 t1 t4 t5 t6 e2 e3;rintro oa tm ⟨hO,hlen,t0,t1,t4,t5,t6⟩;subst hZ;refine zaa fun Z hZ=>?_;refine zaz (fun o tm=>zaK ((p,zaI s (zmJ ρ' T' ks))::(qt,zaX T')::(qv,jvB 7 X Y)::(qr,zvB)::(R1++(R2++L))) o/\tm.length=98/\tm[0]? = some (.p p 0)/\tm[1]? = some (.i .i64 (d:Int))/\tm[4]? = some (.p qr 0)/\tm[5]? = some (.p qv 0)/\tm[6]? = some (.p qt 0)) ?_ ?_
  ·obtain⟨e1,e2,e3,e4,s1,s2,s3⟩:=st _ _ _ _ _ _ _ hO;refine zaa fun W hW=>?_;have hPerm:((p,zaI s ρa)::(qt,zaX T')::(qv,jvB 7 X Y)::(qr,zvB)::(R1++(R2++L))).Perm (R1++(R2++((p,zaI s ρa)::(qt,zaX T')::(qv,jvB 7 X Y)::(qr,zvB)::L))):=by
    have h0:∀(A B C:List (Nat×OB)),(A++(B++C)).Perm (B++(A++C)):=fun A B C=>by
     rw[<-qc,<-qc];exact qz.append_right C List.perm_append_comm
    refine(h0 [(p,zaI s ρa),(qt,zaX T'),(qv,jvB 7 X Y),(qr,zvB)] R1 (R2++L)).trans ?_;exact qz.append_left R1 (h0 [(p,zaI s ρa),(qt,zaX T'),(qv,jvB 7 X Y),(qr,zvB)] R2 L)
   simp only[sxZ,z6,z7,z8,j4,j5,j6,j7,j8,j9,x3,x4,x5,x6,x7,x8,reduceCtorEq,↓reduceIte,za,hlen,t5,t6,e2,e3];refine zai (zmM ks its T'.2.1 (by omega) (by omega) hS.k hS.i (hO.perm hPerm) (fun hm o w ho=>?_) (fun hm o ho=>?_))
   ·have ho:=ho.perm hPerm.symm;rw[if_pos hm] at hk1;rw[zaf];simp only[sxZ,z6,z7,z8,j4,j5,j6,j7,j8,j9,x3,x4,x5,x6,x7,x8,reduceCtorEq,↓reduceIte,za,hlen,gn1,sn1];have ho2:=ho.app [OB.box 25 [.i .i64 w.kind,.s w.text,.row w.keys.length (w.keys.map .s),.row w.items.length (zac w.items)]];obtain⟨e1',e2',e3',_,_,_,_⟩:=st _ _ _ _ _ _ _ ho2;subst hW;simp only[sxZ,z6,z7,z8,j4,j5,j6,j7,j8,j9,x3,x4,x5,x6,x7,x8,reduceCtorEq,↓reduceIte,za,hlen,t0,t6,e2'];refine zai (zca ho2 T'.2.2 143 fun o8 hO8=>?_);rw[<-hk1] at hO8;simp only[sxZ,z6,z7,z8,j4,j5,j6,j7,j8,j9,x3,x4,x5,x6,x7,x8,reduceCtorEq,↓reduceIte,zab,zi,za,hlen,t0,t1,t4,t5,t6,and_self,and_true];exact hO8
   ·have ho:=ho.perm hPerm.symm;rw[if_neg hm] at hk1;simp only[sxZ,z6,z7,z8,j4,j5,j6,j7,j8,j9,x3,x4,x5,x6,x7,x8,reduceCtorEq,↓reduceIte,za,hlen,gn1,sn1];have ho2:=ho.app [OB.box 25 [.i .i64 0,.s [],.nil,.nil]];subst hW;rw[<-hk1] at ho2;simp only[sxZ,z6,z7,z8,j4,j5,j6,j7,j8,j9,x3,x4,x5,x6,x7,x8,reduceCtorEq,↓reduceIte,zab,zi,za,hlen,t0,t1,t4,t5,t6,and_self,and_true];exact ho2
  clear hO hlen t0 t1 t4 t5 t6 hk1 hρa;generalize zmJ ρ' T' ks=ρk at hrobj hGk hnk;rintro ob tm ⟨hO,hlen,t0,t1,t4,t5,t6⟩;subst hZ;refine zaa fun Z hZ=>?_;obtain⟨e1,e2,e3,e4,s1,s2,s3⟩:=st _ _ _ _ _ _ _ hO;simp only[sxZ,z6,z7,z8,j4,j5,j6,j7,j8,j9,x3,x4,x5,x6,x7,x8,reduceCtorEq,↓reduceIte,za,hlen,t6,e2];refine zco (fun tm=>tm.length=98/\tm[0]? = some (.p p 0)/\tm[1]? = some (.i .i64 (d:Int))/\tm[4]? = some (.p qr 0)/\tm[5]? = some (.p qv 0)/\tm[6]? = some (.p qt 0)/\tm[9]? = some (.s T'.2.1)) ?_ ?_
  ·simp only[sxZ,z6,z7,z8,j4,j5,j6,j7,j8,j9,x3,x4,x5,x6,x7,x8,reduceCtorEq,↓reduceIte,zi,za,hlen,t0,t1,t4,t5,t6,and_self]
  clear hlen t0 t1 t4 t5 t6;rintro tm ⟨hlen,t0,t1,t4,t5,t6,t9⟩;subst hZ;refine zaa fun Z hZ=>?_;refine zaa fun W0 hW0=>?_;simp only[sxZ,z6,z7,z8,j4,j5,j6,j7,j8,j9,x3,x4,x5,x6,x7,x8,reduceCtorEq,↓reduceIte,za,hlen,t0];refine zai (zcx (by omega) hO fun o6 hO6=>?_);have hB_ρ2:=zbl hGk;have hT_ρ2:=zbD hGk;have hn_ρ2:=zbe s ρk;have hz_ρ2:=zb3 s ρk;generalize zar s ρk=N at hO6 hB_ρ2 hT_ρ2 hn_ρ2 hz_ρ2 hrobj ⊢;obtain⟨T2,ρ2⟩:=N;simp only at hO6 hB_ρ2 hT_ρ2 hn_ρ2 hz_ρ2 hrobj ⊢;obtain⟨e1,e2,e3,e4,s1,s2,s3⟩:=st _ _ _ _ _ _ _ hO6;unfold zhE tkC;simp only[sxZ,z6,z7,z8,j4,j5,j6,j7,j8,j9,x3,x4,x5,x6,x7,x8,reduceCtorEq,↓reduceIte,za,hlen,t6,e2,s2];rw[f1];have hO7:zaK ((p,zaI s ρ2)::(qt,zaX T2)::(qv,jvB 7 X Y)::(qr,zvB)::(R1++(R2++L))) (o6.set qt (zaX (T2.1,T2.2.1,T2.2.2))):=zaK.set (A:=[(p,zaI s ρ2)]) (zaX T2) hO6;generalize o6.set qt (zaX (T2.1,T2.2.1,T2.2.2))=o7 at hO7 ⊢;refine zco (fun tm=>tm.length=98/\tm[0]? = some (.p p 0)/\tm[1]? = some (.i .i64 (d:Int))/\tm[4]? = some (.p qr 0)/\tm[5]? = some (.p qv 0)/\tm[6]? = some (.p qt 0)/\tm[9]? = some (.s T'.2.1)) ?_ ?_
  ·simp only[sxZ,z6,z7,z8,j4,j5,j6,j7,j8,j9,x3,x4,x5,x6,x7,x8,reduceCtorEq,↓reduceIte,zi,za,hlen,t0,t1,t4,t5,t6,t9,and_self]
  clear hO6 hO hlen t0 t1 t4 t5 t6 t9 e1 e2 e3 e4 s1 s2 s3;rintro tm ⟨hlen,t0,t1,t4,t5,t6,t9⟩;have hO:=hO7;clear hO7;subst hW0;refine zaz (fun o tm=>zaK ((p,zaI s (zbb ρ2 T2 58))::(qt,zaX T2)::(qv,jvB 7 X Y)::(qr,zvB)::(R1++(R2++L))) o/\tm.length=98/\tm[0]? = some (.p p 0)/\tm[1]? = some (.i .i64 (d:Int))/\tm[4]? = some (.p qr 0)/\tm[5]? = some (.p qv 0)/\tm[6]? = some (.p qt 0)/\tm[9]? = some (.s T'.2.1)) ?_ ?_
  ·obtain⟨e1,e2,e3,e4,s1,s2,s3⟩:=st _ _ _ _ _ _ _ hO;refine zaa fun W hW=>?_
   by_cases c3:ρ2.fail=0
   rotate_left
   ·have hw:zbb ρ2 T2 58=ρ2:=by unfold zbb;rw[if_neg (fun h=>c3 h.1)]
    simp only[sxZ,z6,z7,z8,j4,j5,j6,j7,j8,j9,x3,x4,x5,x6,x7,x8,reduceCtorEq,↓reduceIte,za,hlen,t0,e1,c3];subst hW;simp only[sxZ,z6,z7,z8,j4,j5,j6,j7,j8,j9,x3,x4,x5,x6,x7,x8,reduceCtorEq,↓reduceIte,zab,zi,za,hlen,t0,t1,t4,t5,t6,t9,hw,and_self,and_true];exact hO
   ·simp only[sxZ,z6,z7,z8,j4,j5,j6,j7,j8,j9,x3,x4,x5,x6,x7,x8,reduceCtorEq,↓reduceIte,za,hlen,t0,t6,e1,e2,c3];refine zai (zfy T2 58 ?_)
    cases h44:isP T2 58 with
    | true=>
     have hw:zbb ρ2 T2 58=ρ2:=by unfold zbb;rw[if_neg (fun h=>by rw[h44] at h;cases h.2)]
     simp only[sxZ,z6,z7,z8,j4,j5,j6,j7,j8,j9,x3,x4,x5,x6,x7,x8,reduceCtorEq,↓reduceIte,za,hlen];subst hW;simp only[sxZ,z6,z7,z8,j4,j5,j6,j7,j8,j9,x3,x4,x5,x6,x7,x8,reduceCtorEq,↓reduceIte,zab,zi,za,hlen,t0,t1,t4,t5,t6,t9,hw,and_self,and_true];exact hO
    | false=>
     have hw:zbb ρ2 T2 58=zaY ρ2 T2.2.2 140:=by unfold zbb;rw[if_pos ⟨c3,h44⟩]
     simp only[sxZ,z6,z7,z8,j4,j5,j6,j7,j8,j9,x3,x4,x5,x6,x7,x8,reduceCtorEq,↓reduceIte,za,hlen];subst hW;simp only[sxZ,z6,z7,z8,j4,j5,j6,j7,j8,j9,x3,x4,x5,x6,x7,x8,reduceCtorEq,↓reduceIte,za,hlen,t0,t6,e2];refine zai (zca hO T2.2.2 140 fun o8 hO8=>?_);simp only[sxZ,z6,z7,z8,j4,j5,j6,j7,j8,j9,x3,x4,x5,x6,x7,x8,reduceCtorEq,↓reduceIte,zab,zi,za,hlen,t0,t1,t4,t5,t6,t9,hw,and_self,and_true];exact hO8
  clear hO hlen t0 t1 t4 t5 t6 t9;rintro oc tm ⟨hO,hlen,t0,t1,t4,t5,t6,t9⟩;have hG3:=zeC hB_ρ2.1 T2 58;have hn3:=zep ρ2 T2 58;have hz3:=zeq ρ2 T2 58;generalize zbb ρ2 T2 58=ρ3 at hO hG3 hn3 hz3 hrobj;subst hZ;refine zaa fun Z hZ=>?_;simp only[sxZ,z6,z7,z8,j4,j5,j6,j7,j8,j9,x3,x4,x5,x6,x7,x8,reduceCtorEq,↓reduceIte,za,hlen,t0];refine zai (zcx (by omega) hO fun o6 hO6=>?_);have hB4:=zbl hG3;have hT4:=zbD hG3;have hn4:=zbe s ρ3;have hz4:=zb3 s ρ3;generalize zar s ρ3=N at hO6 hB4 hT4 hn4 hz4 hrobj ⊢;obtain⟨T4,ρ4⟩:=N;simp only at hO6 hB4 hT4 hn4 hz4 hrobj ⊢;have hvc:=fun {objs:List OB} {K:List OB->AV->Prop} {L:List (Nat×OB)} (h1) (h2) (h3)=>hv (objs:=objs) (K:=K) (L:=L) (ρ:=ρ4) T4 hB4.1 hB4.2 hT4 h1 h2 h3;have hg5:=hg ρ4 T4 hB4.1 hB4.2;have hn5:=hn ρ4 T4;have hz5:=hvz ρ4 T4;generalize val ρ4 T4=a at hvc hg5 hn5 hz5 hrobj;obtain⟨v,ρ5⟩:=a;simp only at hvc hg5 hn5 hz5 hrobj;obtain⟨c0,c1',c2,c3,hcv⟩:∃c0 c1 c2 c3,zae v=[c0,c1,c2,c3]:=⟨_,_,_,_,zaf v⟩;have hcf:(AV.agg [c0,c1',c2,c3]).flat=true:=by
   have:=zaf v;rw[hcv] at this;injection this with q0 this
   injection this with q1 this
   injection this with q2 this
   injection this with q3 _
   subst q0 q1 q2 q3
   rfl
  have hCL:zaJ ((p,zaI s ρ4)::(qt,zaX T2)::(qv,jvB 7 X Y)::(qr,zvB)::(R1++(R2++L))):=zgI hS.k hS.i hC;unfold zhE tkC;simp only[sxZ,z6,z7,z8,j4,j5,j6,j7,j8,j9,x3,x4,x5,x6,x7,x8,reduceCtorEq,↓reduceIte,za,hlen,t0,t1];refine zai (hvc hCL hO6 fun o7 hO7=>?_);rw[hcv];simp only[sxZ,z6,z7,z8,j4,j5,j6,j7,j8,j9,x3,x4,x5,x6,x7,x8,reduceCtorEq,↓reduceIte,za,hlen,gn1,sn1,hcf];have hO8:=hO7.new (.box 25 [c0,c1',c2,c3]);generalize o7.length=qi at hO8 ⊢;generalize o7++[OB.box 25 [c0,c1',c2,c3]]=o8 at hO8 ⊢;refine zco (fun tm=>tm.length=98/\tm[0]? = some (.p p 0)/\tm[1]? = some (.i .i64 (d:Int))/\tm[4]? = some (.p qr 0)/\tm[5]? = some (.p qv 0)/\tm[6]? = some (.p qt 0)/\tm[9]? = some (.s T'.2.1)/\tm[10]? = some (.p qi 0)) ?_ ?_
  ·simp only[sxZ,z6,z7,z8,j4,j5,j6,j7,j8,j9,x3,x4,x5,x6,x7,x8,reduceCtorEq,↓reduceIte,zi,za,hlen,t0,t1,t4,t5,t6,t9,and_self]
  clear hO hO6 hO7 hlen t0 t1 t4 t5 t6 t9;rintro tm ⟨hlen,t0,t1,t4,t5,t6,t9,t10⟩;subst hZ;refine zaa fun Z hZ=>?_;have hO8p:zaK ((p,zaI s ρ5)::(qt,zaX T2)::(qv,jvB 7 X Y)::(qr,zvB)::(R1++(R2++L))) o8:=hO8.sub (jk _ _);obtain⟨e1,e2,e3,e4,s1,s2,s3⟩:=st _ _ _ _ _ _ _ hO8p;have ei:=hO8.get (i:=qi) (x:=.box 25 [c0,c1',c2,c3]) (by simp);refine zaz (fun o tm=>∃X' R1' Y' R2',SlP (ks++[T'.2.1]) (its++[v]) X' R1' Y' R2'/\zaK ((p,zaI s ρ5)::(qt,zaX T2)::(qv,jvB 7 X' Y')::(qr,zvB)::(R1'++(R2'++L))) o/\tm.length=98/\tm[0]? = some (.p p 0)/\tm[1]? = some (.i .i64 (d:Int))/\tm[4]? = some (.p qr 0)/\tm[5]? = some (.p qv 0)/\tm[6]? = some (.p qt 0)) ?_ ?_
  ·rcases hS with ⟨z1,z2,rfl,rfl,rfl,rfl⟩|⟨b1,g1,b2,g2,rfl,rfl,rfl,rfl⟩
   ·have hlq:=(zf.1 e3).1;have hli:=(zf.1 ei).1;have n1:¬qv=o8.length:=by omega
    have n2:¬qi=o8.length:=by omega
    have h1:∀x,(o8++[x])[qv]? = some (.box 25 [.i .i64 7,.s [],.nil,.nil]):=fun x=>by rw[zj hlq];exact e3
    have h2:∀x,(o8++[x])[qi]? = some (.box 25 [c0,c1',c2,c3]):=fun x=>by rw[zj hli];exact ei
    have h3:∀x y,(o8++[x]++[y])[qv]? = some (.box 25 [.i .i64 7,.s [],.nil,.nil]):=fun x y=>by rw[zj (by simp;omega)];exact h1 x
    have h4:∀x y z,((o8++[x]++[y]).set qv z)[qv]? = some z:=fun x y z=>zk (by simp;omega);subst z1 z2;simp only[sxZ,z6,z7,z8,j4,j5,j6,j7,j8,j9,x3,x4,x5,x6,x7,x8,reduceCtorEq,↓reduceIte,za,hlen,t5,t9,t10,e3,ei,gn1,sn1,h1,h2,h3,h4,n1,n2,zab,zi,List.set_set,t0,t1,t4,t6,and_self,and_true,not_false_eq_true,true_and];have hN:=(hO8p.new (.orow 9 1 0 1 [AV.s T'.2.1])).new (.orow 25 4 0 1 [c0,c1',c2,c3]);have elen:(o8++[OB.orow 9 1 0 1 [AV.s T'.2.1]]).length=o8.length+1:=by simp
    rw[elen] at hN;have hR:=hN.set (A:=[(o8.length+1,OB.orow 25 4 0 1 [c0,c1',c2,c3]),(o8.length,OB.orow 9 1 0 1 [AV.s T'.2.1]),(p,zaI s ρ5),(qt,zaX T2)]) (jvB 7 (.orow o8.length 0) (.orow (o8.length+1) 0));refine⟨_,[(o8.length,OB.orow 9 1 0 1 [AV.s T'.2.1])],_,[(o8.length+1,OB.orow 25 4 0 1 [c0,c1',c2,c3])],.inr ⟨_,_,_,_,rfl,rfl,rfl,by rw[zao,zak,hcv];rfl⟩,hR.perm ?_⟩;refine(List.perm_append_comm (l₁:=[(o8.length+1,OB.orow 25 4 0 1 [c0,c1',c2,c3]),(o8.length,OB.orow 9 1 0 1 [AV.s T'.2.1])]) (l₂:=[(p,zaI s ρ5),(qt,zaX T2),(qv,jvB 7 (.orow o8.length 0) (.orow (o8.length+1) 0)),(qr,zvB)])).append_right L |>.trans ?_;exact qz.cons _ (qz.cons _ (qz.cons _ (qz.cons _ (qz.swap _ _ _))))
   ·have eb1:=hO8.get (i:=b1) (x:=.orow 9 1 g1 ks.length (ks.map .s)) (by simp);have eb2:=hO8.get (i:=b2) (x:=.orow 25 4 g2 its.length (zac its)) (by simp);have hlq:=(zf.1 e3).1;have hl1:=(zf.1 eb1).1;have hl2:=(zf.1 eb2).1;have hnd8:=hO8.1;simp only[zo,qy,zr,List.nodup_cons,qw,zy,zu,List.mem_append,xh,or_false,not_or] at hnd8;have n1:¬qv=b1:=hnd8.2.2.2.1.2.1;have n2:¬qi=b1:=hnd8.1.2.2.2.2.1;have n3:¬b1=b2:=hnd8.2.2.2.2.2.1.1;have n4:¬qv=b2:=hnd8.2.2.2.1.2.2.1;have n1':¬b1=qv:=fun h=>n1 h.symm;have n2':¬b1=qi:=fun h=>n2 h.symm;have n4':¬b2=qv:=fun h=>n4 h.symm;have h0:∀x,(o8.set b1 x)[b1]? = some x:=fun x=>zk hl1;have h1:∀x,(o8.set b1 x)[qv]? = some (.box 25 [.i .i64 7,.s [],.orow b1 g1,.orow b2 g2]):=fun x=>by rw[ze n1'];exact e3
    have h2:∀x,(o8.set b1 x)[qi]? = some (.box 25 [c0,c1',c2,c3]):=fun x=>by rw[ze n2'];exact ei
    have h5:∀x,(o8.set b1 x)[b2]? = some (.orow 25 4 g2 its.length (zac its)):=fun x=>by rw[ze n3];exact eb2
    have h3:∀x y,((o8.set b1 x).set b2 y)[qv]? = some (.box 25 [.i .i64 7,.s [],.orow b1 g1,.orow b2 g2]):=fun x y=>by rw[ze n4'];exact h1 x
    have h4:∀x y z,(((o8.set b1 x).set b2 y).set qv z)[qv]? = some z:=fun x y z=>zk (by simp;omega);have hjl:=zav its;simp only[sxZ,z6,z7,z8,j4,j5,j6,j7,j8,j9,x3,x4,x5,x6,x7,x8,reduceCtorEq,↓reduceIte,za,hlen,t5,t9,t10,e3,ei,eb1,h0,h1,h2,h3,h4,h5,n1,n2,zab,zi,List.set_set,t0,t1,t4,t6,and_self,and_true,not_false_eq_true,true_and];refine⟨⟨by omega,by omega⟩,⟨by omega,by omega⟩,?_⟩;have hN:=hO8p.set (A:=[(p,zaI s ρ5),(qt,zaX T2),(qv,jvB 7 (.orow b1 g1) (.orow b2 g2)),(qr,zvB)]) (.orow 9 1 (g1+1) (ks.length+1) (ks.map AV.s++[AV.s T'.2.1]));have hN:=hN.set (A:=[(p,zaI s ρ5),(qt,zaX T2),(qv,jvB 7 (.orow b1 g1) (.orow b2 g2)),(qr,zvB),(b1,OB.orow 9 1 (g1+1) (ks.length+1) (ks.map AV.s++[AV.s T'.2.1]))]) (.orow 25 4 (g2+1) (its.length+1) (zac its++[c0,c1',c2,c3]));have hR:=hN.set (A:=[(p,zaI s ρ5),(qt,zaX T2)]) (jvB 7 (.orow b1 (g1+1)) (.orow b2 (g2+1)));exact⟨_,[(b1,OB.orow 9 1 (g1+1) (ks.length+1) (ks.map AV.s++[AV.s T'.2.1]))],_,[(b2,OB.orow 25 4 (g2+1) (its.length+1) (zac its++[c0,c1',c2,c3]))],.inr ⟨_,_,_,_,rfl,by rw[qy,zp];rfl,rfl,by rw[za4,zao,zak,hcv,zp];rfl⟩,hR⟩
  clear hO8 hO8p hS hlen t0 t1 t4 t5 t6 t9 t10 e1 e2 e3 e4 s1 s2 s3 ei hCL hvc hv hg hn hcf hB hGB hTx;rintro oc tm ⟨X',R1',Y',R2',hS,hO,hlen,t0,t1,t4,t5,t6⟩;subst hZ;refine zaa fun Z hZ=>?_;simp only[sxZ,z6,z7,z8,j4,j5,j6,j7,j8,j9,x3,x4,x5,x6,x7,x8,reduceCtorEq,↓reduceIte,za,hlen,t0];refine zai (zcx (by omega) hO fun o6 hO6=>?_);have hB_ρ6:=zbl hg5;have hT_ρ6:=zbD hg5;have hn_ρ6:=zbe s ρ5;have hz_ρ6:=zb3 s ρ5;generalize zar s ρ5=N at hO6 hB_ρ6 hT_ρ6 hn_ρ6 hz_ρ6 hrobj ⊢;obtain⟨T6,ρ6⟩:=N;simp only at hO6 hB_ρ6 hT_ρ6 hn_ρ6 hz_ρ6 hrobj ⊢;obtain⟨e1,e2,e3,e4,s1,s2,s3⟩:=st _ _ _ _ _ _ _ hO6;unfold zhE tkC;simp only[sxZ,z6,z7,z8,j4,j5,j6,j7,j8,j9,x3,x4,x5,x6,x7,x8,reduceCtorEq,↓reduceIte,za,hlen,t6,e2,s2];rw[f1];have hO7:zaK ((p,zaI s ρ6)::(qt,zaX T6)::(qv,jvB 7 X' Y')::(qr,zvB)::(R1'++(R2'++L))) (o6.set qt (zaX (T6.1,T6.2.1,T6.2.2))):=zaK.set (A:=[(p,zaI s ρ6)]) (zaX T6) hO6;generalize o6.set qt (zaX (T6.1,T6.2.1,T6.2.2))=o7 at hO7 ⊢;refine zco (fun tm=>tm.length=98/\tm[0]? = some (.p p 0)/\tm[1]? = some (.i .i64 (d:Int))/\tm[4]? = some (.p qr 0)/\tm[5]? = some (.p qv 0)/\tm[6]? = some (.p qt 0)) ?_ ?_
  ·simp only[sxZ,z6,z7,z8,j4,j5,j6,j7,j8,j9,x3,x4,x5,x6,x7,x8,reduceCtorEq,↓reduceIte,zi,za,hlen,t0,t1,t4,t5,t6,and_self]
  clear hO6 hO hlen t0 t1 t4 t5 t6 e1 e2 e3 e4 s1 s2 s3;rintro tm ⟨hlen,t0,t1,t4,t5,t6⟩;have hO:=hO7;clear hO7;subst hZ;refine zaa fun Z hZ=>?_;obtain⟨e1,e2,e3,e4,s1,s2,s3⟩:=st _ _ _ _ _ _ _ hO;simp only[sxZ,z6,z7,z8,j4,j5,j6,j7,j8,j9,x3,x4,x5,x6,x7,x8,reduceCtorEq,↓reduceIte,za,hlen,t6,e2];refine zai (zfy T6 125 ?_)
  cases hcl:isP T6 125 with
  | true=>
   rw[hcl,if_pos rfl] at hrobj;simp only[sxZ,z6,z7,z8,j4,j5,j6,j7,j8,j9,x3,x4,x5,x6,x7,x8,reduceCtorEq,↓reduceIte,za,hlen,t4,t5,e3,e4,s1,hS.flat.1,hS.flat.2];exact fin hrobj hS hO
  | false=>
  rw[hcl,if_neg Bool.false_ne_true] at hrobj;simp only[sxZ,z6,z7,z8,j4,j5,j6,j7,j8,j9,x3,x4,x5,x6,x7,x8,reduceCtorEq,↓reduceIte,za,hlen];refine zco (fun tm=>tm.length=98/\tm[0]? = some (.p p 0)/\tm[1]? = some (.i .i64 (d:Int))/\tm[4]? = some (.p qr 0)/\tm[5]? = some (.p qv 0)/\tm[6]? = some (.p qt 0)) ?_ ?_
  ·simp only[sxZ,z6,z7,z8,j4,j5,j6,j7,j8,j9,x3,x4,x5,x6,x7,x8,reduceCtorEq,↓reduceIte,zi,za,hlen,t0,t1,t4,t5,t6,and_self]
  clear hlen t0 t1 t4 t5 t6 e1 e2 e3 e4 s1 s2 s3;rintro tm ⟨hlen,t0,t1,t4,t5,t6⟩;subst hZ;refine zaa fun Z hZ=>?_;refine zaz (fun o tm=>zaK ((p,zaI s (zbb ρ6 T6 44))::(qt,zaX T6)::(qv,jvB 7 X' Y')::(qr,zvB)::(R1'++(R2'++L))) o/\tm.length=98/\tm[0]? = some (.p p 0)/\tm[1]? = some (.i .i64 (d:Int))/\tm[4]? = some (.p qr 0)/\tm[5]? = some (.p qv 0)/\tm[6]? = some (.p qt 0)) ?_ ?_
  ·obtain⟨e1,e2,e3,e4,s1,s2,s3⟩:=st _ _ _ _ _ _ _ hO;refine zaa fun W hW=>?_
   by_cases c3:ρ6.fail=0
   rotate_left
   ·have hw:zbb ρ6 T6 44=ρ6:=by unfold zbb;rw[if_neg (fun h=>c3 h.1)]
    simp only[sxZ,z6,z7,z8,j4,j5,j6,j7,j8,j9,x3,x4,x5,x6,x7,x8,reduceCtorEq,↓reduceIte,za,hlen,t0,e1,c3];subst hW;simp only[sxZ,z6,z7,z8,j4,j5,j6,j7,j8,j9,x3,x4,x5,x6,x7,x8,reduceCtorEq,↓reduceIte,zab,zi,za,hlen,t0,t1,t4,t5,t6,hw,and_self,and_true];exact hO
   ·simp only[sxZ,z6,z7,z8,j4,j5,j6,j7,j8,j9,x3,x4,x5,x6,x7,x8,reduceCtorEq,↓reduceIte,za,hlen,t0,t6,e1,e2,c3];refine zai (zfy T6 44 ?_)
    cases h44:isP T6 44 with
    | true=>
     have hw:zbb ρ6 T6 44=ρ6:=by unfold zbb;rw[if_neg (fun h=>by rw[h44] at h;cases h.2)]
     simp only[sxZ,z6,z7,z8,j4,j5,j6,j7,j8,j9,x3,x4,x5,x6,x7,x8,reduceCtorEq,↓reduceIte,za,hlen];subst hW;simp only[sxZ,z6,z7,z8,j4,j5,j6,j7,j8,j9,x3,x4,x5,x6,x7,x8,reduceCtorEq,↓reduceIte,zab,zi,za,hlen,t0,t1,t4,t5,t6,hw,and_self,and_true];exact hO
    | false=>
     have hw:zbb ρ6 T6 44=zaY ρ6 T6.2.2 140:=by unfold zbb;rw[if_pos ⟨c3,h44⟩]
     simp only[sxZ,z6,z7,z8,j4,j5,j6,j7,j8,j9,x3,x4,x5,x6,x7,x8,reduceCtorEq,↓reduceIte,za,hlen];subst hW;simp only[sxZ,z6,z7,z8,j4,j5,j6,j7,j8,j9,x3,x4,x5,x6,x7,x8,reduceCtorEq,↓reduceIte,za,hlen,t0,t6,e2];refine zai (zca hO T6.2.2 140 fun o8 hO8=>?_);simp only[sxZ,z6,z7,z8,j4,j5,j6,j7,j8,j9,x3,x4,x5,x6,x7,x8,reduceCtorEq,↓reduceIte,zab,zi,za,hlen,t0,t1,t4,t5,t6,hw,and_self,and_true];exact hO8
  clear hO hlen t0 t1 t4 t5 t6;rintro oc tm ⟨hO,hlen,t0,t1,t4,t5,t6⟩;have hG7:=zeC hB_ρ6.1 T6 44;have hn7:=zep ρ6 T6 44;have hz7:=zeq ρ6 T6 44;generalize zbb ρ6 T6 44=ρ7 at hO hG7 hn7 hz7 hrobj;subst hZ;simp only[sxZ,z6,z7,z8,j4,j5,j6,j7,j8,j9,x3,x4,x5,x6,x7,x8,reduceCtorEq,↓reduceIte,za,hlen,t0];refine zai (zcx (by omega) hO fun o9 hO9=>?_);have hB8:=zbl hG7;have hT8:=zbD hG7;have hn8:=zbe s ρ7;have hz8:=zb3 s ρ7;generalize zar s ρ7=N at hO9 hB8 hT8 hn8 hz8 hrobj ⊢;obtain⟨T8,ρ8⟩:=N;simp only at hO9 hB8 hT8 hn8 hz8 hrobj ⊢;obtain⟨e1,e2,e3,e4,s1,s2,s3⟩:=st _ _ _ _ _ _ _ hO9;unfold zhE tkC;simp only[sxZ,z6,z7,z8,j4,j5,j6,j7,j8,j9,x3,x4,x5,x6,x7,x8,reduceCtorEq,↓reduceIte,za,hlen,t6,e2,s2];rw[f1];have hO10:zaK ((p,zaI s ρ8)::(qt,zaX T8)::(qv,jvB 7 X' Y')::(qr,zvB)::(R1'++(R2'++L))) (o9.set qt (zaX (T8.1,T8.2.1,T8.2.2))):=zaK.set (A:=[(p,zaI s ρ8)]) (zaX T8) hO9;generalize o9.set qt (zaX (T8.1,T8.2.1,T8.2.2))=o10 at hO10 ⊢;have zz:∀{a b:Rs},zlT a b->b.fail=0->a.fail=0:=fun {a b} h hb=>by
   by_cases c:a.fail=0
   ·exact c
   ·exact absurd ((h c).1.symm.trans hb) c
  refine⟨m,by omega,i+1,ρ8,T8,ks++[T'.2.1],its++[v],X',R1',Y',R2',by omega,by rw[zp,hi];rfl,by rw[zp,hi2];rfl,hrobj,hB8.1,hT8,fun hf=>?_,hS,hO10,?_⟩
  ·have q7:=zz hz8 hf;have q6:=zz hz7 q7;have q5:=zz hz_ρ6 q6;have q4:=zz hz5 q5;have:=hn5 q5;have:=hnd c1;omega
  ·simp only[sxZ,z6,z7,z8,j4,j5,j6,j7,j8,j9,x3,x4,x5,x6,x7,x8,reduceCtorEq,↓reduceIte,zi,za,hlen,t0,t1,t4,t5,t6,and_self]
end
end
section
attribute [local irreducible] run
theorem zlO {L L':List (Nat×OB)} (h:zaJ L) (hm:∀y,y∈L'↔y∈L):zaJ L':=fun y hy b g n xs hb=>h y ((hm y).1 hy) b g n xs fun z hz=>hb z ((hm z).2 hz)
theorem zeG {x:Nat×OB} {i T:Nat} {cs:List AV} {L:List (Nat×OB)} (h:zaJ (x::L)) (hp:zal cs=true):zaJ (x::(i,.box T cs)::L) :=
 zlO (zdo (i:=i) (T:=T) h hp) fun y=>by simp only[zu];exact⟨fun h=>by rcases h with h|h|h<;>simp[h],fun h=>by rcases h with h|h|h<;>simp[h]⟩
theorem den_leaf {k:Int} {x:List UInt8} {G:Gh} {I:Imm} {y:Value} (h:Den G I (.agg [.i .i64 k,.s x,.nil,.nil]) y):Den G I (.agg (zae (.mk k x [] []))) y:=by
 rw[zae,zak];simp only[zah,Den] at h ⊢;obtain⟨zs,rfl,⟨z0,m0,rfl,q0,z1,m1,rfl,q1,z2,m2,rfl,q2,z3,m3,rfl,q3,q4⟩,hz⟩:=h;refine⟨_,rfl,⟨_,_,rfl,q0,_,_,rfl,q1,_,_,rfl,?_,_,_,rfl,?_,q4⟩,hz⟩
 ·exact⟨none,0,[],q2,⟨zd _,fun ad h=>by cases h⟩,rfl,by simp,by simp⟩
 ·exact⟨none,0,[],q3,⟨zd _,fun ad h=>by cases h⟩,rfl,by simp,by simp⟩
def Res (K:List OB->AV->Prop) (v:JV) (o:List OB) (r:AV):Prop:=(∀G I y,Den G I r y->Den G I (.agg (zae v)) y)/\K o (.agg (zae v))
theorem zd3 {K:List OB->AV->Prop} {k:Int} {x:List UInt8} {o:List OB} (h:K o (.agg (zae (.mk k x [] [])))):Res K (.mk k x [] []) o (.agg [.i .i64 k,.s x,.nil,.nil]):=⟨fun _ _ _ hy=>den_leaf hy,h⟩
section
variable [Tabs Tryz.prog] [Utf Tryz.prog] {p:Nat} {s:List UInt8}
theorem value_k (hs:s.length<=1048576):∀f d,f+d=65->d<=64->ValK s p d (fun ρ t=>zaB s f ρ t d):=by
 intro f
 induction f with
 | zero=>intro d hd hd2;omega
 | succ f ih=>
  intro d hd hd2;unfold ValK;intro objs K L ρ t hB hT hTx hC hO hk;dsimp only at hk;refine jres (.agg (zae (zaB s (f+1) ρ t d).1)) ?_;show zad _ _ _ _ (Res K (zaB s (f+1) ρ t d).1);refine zcN is_ref14_parser_value fun C _=>?_;obtain⟨k5,k4,kw,k6,k7,kw2⟩:=vk_kind (t:=t);rw[c_ref14_parser_value];refine zaa fun Z hZ=>?_;unfold zhE tkC;simp only[sxZ,z6,z7,z8,j4,j5,j6,j7,j8,j9,x3,x4,x5,x6,x7,x8,reduceCtorEq,↓reduceIte];have hO1:=(hO.new (zaX t)).new zvB;have elen:(objs++[zaX t]).length=objs.length+1:=by simp
  rw[elen] at hO1;unfold zaX tkC zvB at hO1;generalize objs.length=qt at hO1 ⊢;generalize objs++[OB.box 56 [.i .i64 t.1,.s t.2.1,.i .i64 t.2.2]]++[OB.box 25 [.i .i64 0,.s [],.nil,.nil]]=o at hO1 ⊢;have hO1:zaK ((p,zaI s ρ)::(qt,zaX t)::(qt+1,zvB)::L) o:=hO1.perm ((List.reverse_perm [(p,zaI s ρ),(qt,zaX t),(qt+1,zvB)]).append_right L);generalize qt+1=qr at hO1 ⊢;have fin:∀(o:List OB) (ρ':Rs) (x:OB) (M:List (Nat×OB)),zaK ((p,zaI s ρ')::(qt,zaX t)::(qr,zvB)::(M++L)) o->zaK ((p,zaI s ρ')::L) (o.set qr x):=fun o ρ' x M h=>(zaK.set (A:=[(p,zaI s ρ'),(qt,zaX t)]) x h).sub ((((List.sublist_append_right M L).trans (jk _ _)).trans (jk _ _)).cons_cons _);have st:∀(o:List OB) (ρ':Rs) (M:List (Nat×OB)),zaK ((p,zaI s ρ')::(qt,zaX t)::(qr,zvB)::(M++L)) o->o[p]? = some (.box 53 [.s s,.i .i64 ρ'.pos,.i .i64 (ρ'.nodes:Int),.i .i64 ρ'.fail,.i .i64 ρ'.wh])/\o[qt]? = some (.box 56 [.i .i64 t.1,.s t.2.1,.i .i64 t.2.2])/\o[qr]? = some (.box 25 [.i .i64 0,.s [],.nil,.nil])/\(∀x,(o.set qr x)[qr]? = some x) :=
   fun o ρ' M h=>⟨h.get (by simp[zaI]),h.get (by simp[zaX,tkC]),h.get (by simp[zvB]),fun x=>zk (h.lt (i:=qr) (x:=zvB) (by simp))⟩
  have hO1:zaK ((p,zaI s ρ)::(qt,zaX t)::(qr,zvB)::([]++L)) o:=hO1;obtain⟨e1,e2,e3,s1⟩:=st _ _ _ hO1;subst hZ;refine zaa fun Z hZ=>?_;refine zaz (fun o' tm=>o=o'/\tm.length=117/\tm[0]? = some (.p p 0)/\tm[2]? = some (.i .i64 (d:Int))/\tm[4]? = some (.p qt 0)/\tm[6]? = some (.p qr 0)/\tm[7]? = some (.b (!decide (vkE t=0)))) ?_ ?_
  ·by_cases a3:t.1=3
   ·have hv:¬vkE t=0:=by have:=k5.2 a3;omega
    simp only[sxZ,z6,z7,z8,j4,j5,j6,j7,j8,j9,x3,x4,x5,x6,x7,x8,reduceCtorEq,↓reduceIte,e2,a3,zab,hv,decide_false,Bool.not_false,and_self]
   by_cases a4:t.1=4
   ·have hv:¬vkE t=0:=by have:=k4.2 a4;omega
    simp only[sxZ,z6,z7,z8,j4,j5,j6,j7,j8,j9,x3,x4,x5,x6,x7,x8,reduceCtorEq,↓reduceIte,e2,a3,a4,zab,hv,decide_false,Bool.not_false,and_self]
   by_cases a5:t.1=5
   ·have hv:¬vkE t=0:=by have:=kw.2 a5;omega
    simp only[sxZ,z6,z7,z8,j4,j5,j6,j7,j8,j9,x3,x4,x5,x6,x7,x8,reduceCtorEq,↓reduceIte,e2,a3,a4,a5,zab,hv,decide_false,Bool.not_false,and_self]
   simp only[sxZ,z6,z7,z8,j4,j5,j6,j7,j8,j9,x3,x4,x5,x6,x7,x8,reduceCtorEq,↓reduceIte,e2,a3,a4,a5];refine zai (zfy t 91 ?_)
   cases h91:isP t 91 with
   | true=>
    have hv:¬vkE t=0:=by have:=k6.2 h91;omega
    simp only[sxZ,z6,z7,z8,j4,j5,j6,j7,j8,j9,x3,x4,x5,x6,x7,x8,reduceCtorEq,↓reduceIte,zab,hv,decide_false,Bool.not_false,and_self]
   | false=>
    simp only[sxZ,z6,z7,z8,j4,j5,j6,j7,j8,j9,x3,x4,x5,x6,x7,x8,reduceCtorEq,↓reduceIte,e2];refine zai (zfy t 123 ?_)
    cases h123:isP t 123 with
    | true=>
     have hv:¬vkE t=0:=by have:=k7.2 h123;omega
     simp only[sxZ,z6,z7,z8,j4,j5,j6,j7,j8,j9,x3,x4,x5,x6,x7,x8,reduceCtorEq,↓reduceIte,zab,hv,decide_false,Bool.not_false,and_self]
    | false=>
     have hv:vkE t=0:=by
      have n5:¬vkE t=5:=fun h=>a3 (k5.1 h);have n4:¬vkE t=4:=fun h=>a4 (k4.1 h);have nw:¬(vkE t=1\/vkE t=2\/vkE t=3):=fun h=>a5 (kw.1 h);have n6:¬vkE t=6:=fun h=>by rw[k6.1 h] at h91;cases h91
      have n7:¬vkE t=7:=fun h=>by rw[k7.1 h] at h123;cases h123
      have:=vk_val t;omega
     simp only[sxZ,z6,z7,z8,j4,j5,j6,j7,j8,j9,x3,x4,x5,x6,x7,x8,reduceCtorEq,↓reduceIte,zab,hv,decide_true,Bool.not_true,and_self]
  rintro o' tm ⟨rfl,hlen,t0,t2,t4,t6,t7⟩;subst hZ;refine zaa fun Z hZ=>?_
  by_cases c0:ρ.fail=0
  rotate_left
  ·rw[zaB,if_pos c0] at hk ⊢;simp only[sxZ,z6,z7,z8,j4,j5,j6,j7,j8,j9,x3,x4,x5,x6,x7,x8,reduceCtorEq,↓reduceIte,za,hlen,t0,t6,e1,e3,c0,s1];exact zd3 (hk _ (fin _ _ _ _ hO1))
  rw[zaB,if_neg (fun h=>h c0)] at hk ⊢;simp only[sxZ,z6,z7,z8,j4,j5,j6,j7,j8,j9,x3,x4,x5,x6,x7,x8,reduceCtorEq,↓reduceIte,za,hlen,t0,e1,c0];subst hZ;refine zaa fun Z hZ=>?_
  by_cases cv:vkE t=0
  ·rw[if_pos cv] at hk ⊢;simp only[cv,decide_true,Bool.not_true] at t7;simp only[sxZ,z6,z7,z8,j4,j5,j6,j7,j8,j9,x3,x4,x5,x6,x7,x8,reduceCtorEq,↓reduceIte,za,hlen,t0,t4,t7,e2];refine zai (zca hO1 t.2.2 140 fun o2 hO2=>?_);obtain⟨e1,e2,e3,s1⟩:=st _ _ _ hO2;simp only[sxZ,z6,z7,z8,j4,j5,j6,j7,j8,j9,x3,x4,x5,x6,x7,x8,reduceCtorEq,↓reduceIte,za,hlen,t6,e3,s1];exact zd3 (hk _ (fin _ _ _ _ hO2))
  rw[if_neg cv] at hk ⊢;simp only[cv,decide_false,Bool.not_false] at t7;simp only[sxZ,z6,z7,z8,j4,j5,j6,j7,j8,j9,x3,x4,x5,x6,x7,x8,reduceCtorEq,↓reduceIte,za,hlen,t7];subst hZ;refine zaa fun Z hZ=>?_
  by_cases c2:t.1=2/\d=64
  ·rw[if_pos c2] at hk ⊢;have c2b:(d:Int)=64:=by omega
   have c2a:=c2.1;simp only[sxZ,z6,z7,z8,j4,j5,j6,j7,j8,j9,x3,x4,x5,x6,x7,x8,reduceCtorEq,↓reduceIte,za,hlen,t0,t2,t4,e2,c2a,c2b];refine zai (zca hO1 t.2.2 141 fun o2 hO2=>?_);obtain⟨e1,e2,e3,s1⟩:=st _ _ _ hO2;simp only[sxZ,z6,z7,z8,j4,j5,j6,j7,j8,j9,x3,x4,x5,x6,x7,x8,reduceCtorEq,↓reduceIte,za,hlen,t6,e3,s1];exact zd3 (hk _ (fin _ _ _ _ hO2))
  rw[if_neg c2] at hk ⊢;refine zaz (fun o' tm=>o=o'/\tm.length=117/\tm[0]? = some (.p p 0)/\tm[2]? = some (.i .i64 (d:Int))/\tm[4]? = some (.p qt 0)/\tm[6]? = some (.p qr 0)) ?_ ?_
  ·by_cases c2a:t.1=2
   ·have c2b:¬(d:Int)=64:=fun h=>c2 ⟨c2a,by omega⟩;simp only[sxZ,z6,z7,z8,j4,j5,j6,j7,j8,j9,x3,x4,x5,x6,x7,x8,reduceCtorEq,↓reduceIte,za,hlen,t0,t2,t4,t6,e2,c2a,c2b,zab,zi,and_self]
   ·simp only[sxZ,z6,z7,z8,j4,j5,j6,j7,j8,j9,x3,x4,x5,x6,x7,x8,reduceCtorEq,↓reduceIte,za,hlen,t0,t2,t4,t6,e2,c2a,zab,zi,and_self]
  clear hlen t0 t2 t4 t6 t7;rintro o' tm ⟨rfl,hlen,t0,t2,t4,t6⟩;subst hZ;refine zaa fun Z hZ=>?_;have hO2:=hO1.new (.box 25 [.i .i64 5,.s t.2.1,.nil,.nil]);have hO2:zaK ((p,zaI s ρ)::(qt,zaX t)::(qr,zvB)::([(o.length,.box 25 [.i .i64 5,.s t.2.1,.nil,.nil])]++L)) (o++[.box 25 [.i .i64 5,.s t.2.1,.nil,.nil]]):=hO2.perm (List.perm_middle (l₁:=[(p,zaI s ρ),(qt,zaX t),(qr,zvB)])).symm;simp only[sxZ,z6,z7,z8,j4,j5,j6,j7,j8,j9,x3,x4,x5,x6,x7,x8,reduceCtorEq,↓reduceIte,za,hlen,t4,e2,gn1,sn1];have hqv:¬o.length=qt/\¬o.length=p:=by
   have h1:=hO1.lt (i:=qt) (x:=zaX t) (by simp);have h2:=hO1.lt (i:=p) (x:=zaI s ρ) (by simp);omega
  generalize o.length=qv at hO2 hqv ⊢;generalize o++[OB.box 25 [.i .i64 5,.s t.2.1,.nil,.nil]]=o2 at hO2 ⊢;refine zco (fun tm=>tm.length=117/\tm[0]? = some (.p p 0)/\tm[2]? = some (.i .i64 (d:Int))/\tm[4]? = some (.p qt 0)/\tm[6]? = some (.p qr 0)/\tm[8]? = some (.p qv 0)) ?_ ?_
  ·simp only[sxZ,z6,z7,z8,j4,j5,j6,j7,j8,j9,x3,x4,x5,x6,x7,x8,reduceCtorEq,↓reduceIte,zi,za,hlen,t0,t2,t4,t6,and_self]
  clear hlen t0 t2 t4 t6 e1 e2 e3 s1 hO1;rintro tm ⟨hlen,t0,t2,t4,t6,t8⟩;subst hZ;refine zaa fun Z hZ=>?_;have hcnt:zbE ρ t=(if 20000<(if t.1=4/\¬(zcH t.2.1).1=0 then zaY ρ t.2.2 (zcH t.2.1).1 else ρ).nodes+1 then zaY ⟨(if t.1=4/\¬(zcH t.2.1).1=0 then zaY ρ t.2.2 (zcH t.2.1).1 else ρ).pos,(if t.1=4/\¬(zcH t.2.1).1=0 then zaY ρ t.2.2 (zcH t.2.1).1 else ρ).nodes+1,(if t.1=4/\¬(zcH t.2.1).1=0 then zaY ρ t.2.2 (zcH t.2.1).1 else ρ).fail,(if t.1=4/\¬(zcH t.2.1).1=0 then zaY ρ t.2.2 (zcH t.2.1).1 else ρ).wh⟩ t.2.2 142 else ⟨(if t.1=4/\¬(zcH t.2.1).1=0 then zaY ρ t.2.2 (zcH t.2.1).1 else ρ).pos,(if t.1=4/\¬(zcH t.2.1).1=0 then zaY ρ t.2.2 (zcH t.2.1).1 else ρ).nodes+1,(if t.1=4/\¬(zcH t.2.1).1=0 then zaY ρ t.2.2 (zcH t.2.1).1 else ρ).fail,(if t.1=4/\¬(zcH t.2.1).1=0 then zaY ρ t.2.2 (zcH t.2.1).1 else ρ).wh⟩):=rfl;have hxn:(if t.1=4/\¬(zcH t.2.1).1=0 then zaY ρ t.2.2 (zcH t.2.1).1 else ρ).nodes=ρ.nodes:=by
   split
   ·exact zdJ _ _ _
   ·rfl
  generalize hx:(if t.1=4/\¬(zcH t.2.1).1=0 then zaY ρ t.2.2 (zcH t.2.1).1 else ρ)=x at hcnt hxn;refine zaz (fun o tm=>zaK ((p,zaI s x)::(qt,zaX t)::(qr,zvB)::([(qv,.box 25 [.i .i64 (if t.1=4 then 4 else 5),.s (if t.1=4 then (zcH t.2.1).2 else t.2.1),.nil,.nil])]++L)) o/\tm.length=117/\tm[0]? = some (.p p 0)/\tm[2]? = some (.i .i64 (d:Int))/\tm[4]? = some (.p qt 0)/\tm[6]? = some (.p qr 0)/\tm[8]? = some (.p qv 0)) ?_ ?_
  ·obtain⟨e1,e2,e3,s1⟩:=st _ _ _ hO2
   by_cases a4:t.1=4
   rotate_left
   ·rw[if_neg (fun h=>a4 h.1)] at hx;subst hx;simp only[sxZ,z6,z7,z8,j4,j5,j6,j7,j8,j9,x3,x4,x5,x6,x7,x8,reduceCtorEq,↓reduceIte,za,hlen,t0,t2,t4,t6,t8,e2,a4,zab,zi,and_self,and_true,if_false];exact hO2
   have eqv:=hO2.get (i:=qv) (x:=.box 25 [.i .i64 5,.s t.2.1,.nil,.nil]) (by simp);simp only[sxZ,z6,z7,z8,j4,j5,j6,j7,j8,j9,x3,x4,x5,x6,x7,x8,reduceCtorEq,↓reduceIte,za,hlen,t4,e2,a4];refine zai (zmq t.2.1 (by omega) ?_)
   by_cases cn:(zcH t.2.1).1=0
   ·rw[if_neg (fun h=>h.2 cn)] at hx;subst hx;simp only[sxZ,z6,z7,z8,j4,j5,j6,j7,j8,j9,x3,x4,x5,x6,x7,x8,reduceCtorEq,↓reduceIte,za,hlen,t0,t2,t4,t6,t8,cn,eqv,zab,zi,and_self,and_true,if_pos];exact zaK.set (A:=[(p,zaI s ρ),(qt,zaX t),(qr,zvB)]) (.box 25 [.i .i64 4,.s (zcH t.2.1).2,.nil,.nil]) hO2
   ·rw[if_pos ⟨a4,cn⟩] at hx;simp only[sxZ,z6,z7,z8,j4,j5,j6,j7,j8,j9,x3,x4,x5,x6,x7,x8,reduceCtorEq,↓reduceIte,za,hlen,t0,t4,e2,cn];refine zai (zca hO2 t.2.2 (zcH t.2.1).1 fun o3 hO3=>?_);rw[hx] at hO3;have eqv:=hO3.get (i:=qv) (x:=.box 25 [.i .i64 5,.s t.2.1,.nil,.nil]) (by simp);simp only[sxZ,z6,z7,z8,j4,j5,j6,j7,j8,j9,x3,x4,x5,x6,x7,x8,reduceCtorEq,↓reduceIte,za,hlen,t0,t2,t4,t6,t8,eqv,zab,zi,and_self,and_true,if_pos];exact zaK.set (A:=[(p,zaI s x),(qt,zaX t),(qr,zvB)]) (.box 25 [.i .i64 4,.s (zcH t.2.1).2,.nil,.nil]) hO3
  clear hlen t0 t2 t4 t6 t8 hO2 hx;generalize hkk:(if t.1=4 then (4:Int) else 5)=kk;generalize hxx:(if t.1=4 then (zcH t.2.1).2 else t.2.1)=xx;rintro o3 tm ⟨hO3,hlen,t0,t2,t4,t6,t8⟩;subst hZ;refine zaa fun Z hZ=>?_;have f2:∀b:Rs,OB.box 53 [.s s,.i .i64 b.pos,.i .i64 ((b.nodes:Int)+1),.i .i64 b.fail,.i .i64 b.wh]=zaI s ⟨b.pos,b.nodes+1,b.fail,b.wh⟩:=fun _=>rfl;have hnb:=hB.n1;refine zaz (fun o tm=>zaK ((p,zaI s (zbE ρ t))::(qt,zaX t)::(qr,zvB)::([(qv,.box 25 [.i .i64 kk,.s xx,.nil,.nil])]++L)) o/\tm.length=117/\tm[0]? = some (.p p 0)/\tm[2]? = some (.i .i64 (d:Int))/\tm[4]? = some (.p qt 0)/\tm[6]? = some (.p qr 0)/\tm[8]? = some (.p qv 0)) ?_ ?_
  ·obtain⟨e1,e2,e3,s1⟩:=st _ _ _ hO3;refine zaa fun W hW=>?_;simp only[sxZ,z6,z7,z8,j4,j5,j6,j7,j8,j9,x3,x4,x5,x6,x7,x8,reduceCtorEq,↓reduceIte,za,hlen,t0,e1];refine⟨⟨by omega,by omega⟩,?_⟩;rw[f2];have hO4:=zaK.set (A:=[]) (zaI s ⟨x.pos,x.nodes+1,x.fail,x.wh⟩) hO3;have hO4:zaK ((p,zaI s ⟨x.pos,x.nodes+1,x.fail,x.wh⟩)::(qt,zaX t)::(qr,zvB)::([(qv,.box 25 [.i .i64 kk,.s xx,.nil,.nil])]++L)) (o3.set p (zaI s ⟨x.pos,x.nodes+1,x.fail,x.wh⟩)):=hO4;generalize o3.set p (zaI s ⟨x.pos,x.nodes+1,x.fail,x.wh⟩)=o4 at hO4 ⊢;obtain⟨e1,e2,e3,s1⟩:=st _ _ _ hO4;subst hW
   by_cases c7:20000<x.nodes+1
   ·rw[if_pos c7] at hcnt;have c7':(20000:Int)<((x.nodes+1:Nat):Int):=by omega
    simp only[sxZ,z6,z7,z8,j4,j5,j6,j7,j8,j9,x3,x4,x5,x6,x7,x8,reduceCtorEq,↓reduceIte,za,hlen,t0,t2,t4,t6,e1,e2,c7'];refine zai (zca hO4 t.2.2 142 fun o5 hO5=>?_);rw[<-hcnt] at hO5;simp only[sxZ,z6,z7,z8,j4,j5,j6,j7,j8,j9,x3,x4,x5,x6,x7,x8,reduceCtorEq,↓reduceIte,za,hlen,t0,t2,t4,t6,t8,zab,zi,and_self,and_true];exact hO5
   ·rw[if_neg c7] at hcnt;have c7':¬(20000:Int)<((x.nodes+1:Nat):Int):=by omega
    rw[<-hcnt] at hO4;simp only[sxZ,z6,z7,z8,j4,j5,j6,j7,j8,j9,x3,x4,x5,x6,x7,x8,reduceCtorEq,↓reduceIte,za,hlen,t0,t2,t4,t6,t8,e1,c7',zab,zi,and_self,and_true];exact hO4
  clear hO3 hlen t0 t2 t4 t6 t8 hcnt hxn x;rintro o4 tm ⟨hO4,hlen,t0,t2,t4,t6,t8⟩;have hGc:=zky hB hT (vk_end cv) c0;have hGv:GV s (fun ρ t=>zaB s f ρ t (d+1)):=zfb s f (d+1);generalize zbE ρ t=ρc at hO4 hGc hk ⊢;obtain⟨e1,e2,e3,s1⟩:=st _ _ _ hO4;subst hZ;refine zaa fun Z hZ=>?_;rw[zaO];have hCa:zaJ ((p,zaI s ρc)::(qt,zaX t)::(qr,zvB)::([(qv,.box 25 [.i .i64 kk,.s xx,.nil,.nil])]++L)):=zeG (zeG (zeG (zfZ hC) rfl) rfl) rfl
  by_cases a5:t.1=5
  ·rw[if_pos a5] at hk ⊢;simp only[sxZ,z6,z7,z8,j4,j5,j6,j7,j8,j9,x3,x4,x5,x6,x7,x8,reduceCtorEq,↓reduceIte,za,hlen,t4,e2,a5];refine zai (rword_k t.2.1 ?_);simp only[sxZ,z6,z7,z8,j4,j5,j6,j7,j8,j9,x3,x4,x5,x6,x7,x8,reduceCtorEq,↓reduceIte,za,hlen,t6,e3,s1];exact zd3 (hk _ (fin _ _ _ _ hO4))
  rw[if_neg a5] at hk ⊢;simp only[sxZ,z6,z7,z8,j4,j5,j6,j7,j8,j9,x3,x4,x5,x6,x7,x8,reduceCtorEq,↓reduceIte,za,hlen,t4,e2,a5];refine zai (zfy t 91 ?_)
  cases h91:isP t 91 with
  | true=>
   have h2:=(zkv h91).1;have hd3:d<64:=by
    rcases Nat.lt_or_ge d 64 with h|h
    ·exact h
    ·exact absurd ⟨h2,by omega⟩ c2
   have hval:ValK s p (d+1) (fun ρ t=>zaB s f ρ t (d+1)):=ih (d+1) (by omega) (by omega);have hn1:=fun ρ t=>(zg1 s f (d+1)).2 ρ t (by omega);rw[h91] at hk;rw[if_pos rfl] at hk ⊢;simp only[sxZ,z6,z7,z8,j4,j5,j6,j7,j8,j9,x3,x4,x5,x6,x7,x8,reduceCtorEq,↓reduceIte,za,hlen,t0,t2];refine⟨⟨by omega,by omega⟩,?_⟩;rw[show ((d:Int)+1)=((d+1:Nat):Int) from rfl];refine zai (array_k hval hGv hn1 hs hGc hCa hO4 fun o9 hO9=>?_);obtain⟨e1,e2,e3,s1⟩:=st _ _ _ hO9;generalize (zg7 s (fun ρ t=>zaB s f ρ t (d+1)) ρc).1=v at hk ⊢;have hk2:=hk _ (fin _ _ (.box 25 (zae v)) _ hO9);have hjc:=zaf v;rw[hjc] at hk2 ⊢;simp only[sxZ,z6,z7,z8,j4,j5,j6,j7,j8,j9,x3,x4,x5,x6,x7,x8,reduceCtorEq,↓reduceIte,za,hlen,t6,e3,s1];exact⟨fun G I y hy=>by rw[hjc];exact hy,by rw[hjc];exact hk2⟩
  | false=>
  rw[h91] at hk;rw[if_neg Bool.false_ne_true] at hk ⊢;simp only[sxZ,z6,z7,z8,j4,j5,j6,j7,j8,j9,x3,x4,x5,x6,x7,x8,reduceCtorEq,↓reduceIte,za,hlen,t4,e2];refine zai (zfy t 123 ?_)
  cases h123:isP t 123 with
  | true=>
   have h2:=(zkv h123).1;have hd3:d<64:=by
    rcases Nat.lt_or_ge d 64 with h|h
    ·exact h
    ·exact absurd ⟨h2,by omega⟩ c2
   have hval:ValK s p (d+1) (fun ρ t=>zaB s f ρ t (d+1)):=ih (d+1) (by omega) (by omega);have hn1:=fun ρ t=>(zg1 s f (d+1)).2 ρ t (by omega);rw[h123] at hk;rw[if_pos rfl] at hk ⊢;simp only[sxZ,z6,z7,z8,j4,j5,j6,j7,j8,j9,x3,x4,x5,x6,x7,x8,reduceCtorEq,↓reduceIte,za,hlen,t0,t2];refine⟨⟨by omega,by omega⟩,?_⟩;rw[show ((d:Int)+1)=((d+1:Nat):Int) from rfl];refine zai (object_k hval hGv hn1 (fun ρ t=>ziU s f ρ t (d+1)) hs hGc hCa hO4 fun o9 hO9=>?_);obtain⟨e1,e2,e3,s1⟩:=st _ _ _ hO9;generalize (zhz s (fun ρ t=>zaB s f ρ t (d+1)) ρc).1=v at hk ⊢;have hk2:=hk _ (fin _ _ (.box 25 (zae v)) _ hO9);have hjc:=zaf v;rw[hjc] at hk2 ⊢;simp only[sxZ,z6,z7,z8,j4,j5,j6,j7,j8,j9,x3,x4,x5,x6,x7,x8,reduceCtorEq,↓reduceIte,za,hlen,t6,e3,s1];exact⟨fun G I y hy=>by rw[hjc];exact hy,by rw[hjc];exact hk2⟩
  | false=>
  rw[h123] at hk;rw[if_neg Bool.false_ne_true] at hk ⊢;have eqv:=hO4.get (i:=qv) (x:=.box 25 [.i .i64 kk,.s xx,.nil,.nil]) (by simp);simp only[sxZ,z6,z7,z8,j4,j5,j6,j7,j8,j9,x3,x4,x5,x6,x7,x8,reduceCtorEq,↓reduceIte,za,hlen];subst hZ;simp only[sxZ,z6,z7,z8,j4,j5,j6,j7,j8,j9,x3,x4,x5,x6,x7,x8,reduceCtorEq,↓reduceIte,za,hlen,t6,t8,eqv,e3,s1];have hkv:(if t.1=4 then (JV.mk 4 (zcH t.2.1).2 [] [],ρc) else (JV.mk 5 t.2.1 [] [],ρc))=(JV.mk kk xx [] [],ρc):=by
   rw[<-hkk,<-hxx]
   split<;>rfl
  rw[hkv] at hk ⊢;exact zd3 (hk _ (fin _ _ _ _ hO4))
end
end
section
attribute [local irreducible] run
section
variable [Tabs Tryz.prog] [Utf Tryz.prog] {objs:List OB} {K:List OB->AV->Prop}
theorem rParse_k (s:List UInt8) (hs:s.length<=1048576) (hk:K objs (zh6 (zeP s))):zad Tryz.prog 9 [.s s] objs K:=by
 refine jres (zh6 (zeP s)) ?_;refine zaL is_ref14_Parse rfl fun C _=>?_;have hr:zeP s=(if 1048576<s.length then (jvZ,0,142) else
   if ¬(if (zar s (zaB s 65 (zar s rs0).2 (zar s rs0).1 0).2).2.fail=0/\¬(zar s (zaB s 65 (zar s rs0).2 (zar s rs0).1 0).2).1.1=1 then zaY (zar s (zaB s 65 (zar s rs0).2 (zar s rs0).1 0).2).2 (zar s (zaB s 65 (zar s rs0).2 (zar s rs0).1 0).2).1.2.2 140 else (zar s (zaB s 65 (zar s rs0).2 (zar s rs0).1 0).2).2).fail=0 then (jvZ,(if (zar s (zaB s 65 (zar s rs0).2 (zar s rs0).1 0).2).2.fail=0/\¬(zar s (zaB s 65 (zar s rs0).2 (zar s rs0).1 0).2).1.1=1 then zaY (zar s (zaB s 65 (zar s rs0).2 (zar s rs0).1 0).2).2 (zar s (zaB s 65 (zar s rs0).2 (zar s rs0).1 0).2).1.2.2 140 else (zar s (zaB s 65 (zar s rs0).2 (zar s rs0).1 0).2).2).wh,(if (zar s (zaB s 65 (zar s rs0).2 (zar s rs0).1 0).2).2.fail=0/\¬(zar s (zaB s 65 (zar s rs0).2 (zar s rs0).1 0).2).1.1=1 then zaY (zar s (zaB s 65 (zar s rs0).2 (zar s rs0).1 0).2).2 (zar s (zaB s 65 (zar s rs0).2 (zar s rs0).1 0).2).1.2.2 140 else (zar s (zaB s 65 (zar s rs0).2 (zar s rs0).1 0).2).2).fail) else ((zaB s 65 (zar s rs0).2 (zar s rs0).1 0).1,(s.length:Int),0)):=rfl
 rw[if_neg (by omega)] at hr;have finE:∀{a e:Int},zeP s=(jvZ,a,e)->((∀G I y,Den G I (.tup [.agg zvC,.i .i64 a,.i .i64 e]) y->Den G I (zh6 (zeP s)) y)/\K objs (zh6 (zeP s))):=fun {a e} h=>⟨fun G I y hy=>by rw[h];exact den_zv hy,hk⟩;have c1:¬(1048576:Int)<s.length:=by omega
 rw[c_ref14_Parse];refine zaa fun Z hZ=>?_;simp only[sxZ,z6,z7,z8,j4,j5,j6,j7,j8,j9,x3,x4,x5,x6,x7,x8,reduceCtorEq,↓reduceIte];subst hZ;refine zaa fun Z hZ=>?_;simp only[sxZ,z6,z7,z8,j4,j5,j6,j7,j8,j9,x3,x4,x5,x6,x7,x8,reduceCtorEq,↓reduceIte,c1];subst hZ;refine zaa fun Z hZ=>?_;simp only[sxZ,z6,z7,z8,j4,j5,j6,j7,j8,j9,x3,x4,x5,x6,x7,x8,reduceCtorEq,↓reduceIte];have hO:zaK ((1,zaI s rs0)::[(0,zvB)]) [zvB,zaI s rs0]:=⟨by simp,fun x hx=>by
  simp only[zu,xh,or_false] at hx;rcases hx with rfl|rfl<;>rfl⟩
 have hCn:zaJ []:=fun y hy=>by cases hy
 have hC:∀ρ,zaJ ((1,zaI s ρ)::[(0,zvB)]):=fun ρ=>zdo (zdo hCn rfl) rfl;have hB:GB s rs0:=⟨by decide,by show (0:Int)<=_;omega,fun _=>by decide,by show (0:Int)<=_;omega⟩;have f0:[OB.box 25 [.i .i64 0,.s [],.nil,.nil],OB.box 53 [.s s,.i .i64 0,.i .i64 0,.i .i64 0,.i .i64 0]]=[zvB,zaI s rs0]:=rfl;rw[f0];generalize [zvB,zaI s rs0]=o0 at hO ⊢;subst hZ;refine zaa fun Z hZ=>?_;simp only[sxZ,z6,z7,z8,j4,j5,j6,j7,j8,j9,x3,x4,x5,x6,x7,x8,reduceCtorEq,↓reduceIte];refine zai (zcx (by omega) hO fun o1 hO1=>?_);have hB1:=zbl hB;have hT1:=zbD hB;generalize zar s rs0=N at hO1 hB1 hT1 hr ⊢;obtain⟨T1,ρ1⟩:=N;simp only at hO1 hB1 hT1 hr ⊢;have hval:ValK s 1 0 (fun ρ t=>zaB s 65 ρ t 0):=value_k hs 65 0 rfl (by decide);have hvc:=fun {objs:List OB} {K:List OB->AV->Prop} {L:List (Nat×OB)} (h1) (h2) (h3)=>hval (objs:=objs) (K:=K) (L:=L) (ρ:=ρ1) T1 hB1.1 hB1.2 hT1 h1 h2 h3;have hg2:=zfb s 65 0 ρ1 T1 hB1.1 hB1.2;simp only at hvc hg2;generalize zaB s 65 ρ1 T1 0=R at hvc hg2 hr;obtain⟨v,ρ2⟩:=R;simp only at hvc hg2 hr;unfold zhE tkC;simp only[sxZ,z6,z7,z8,j4,j5,j6,j7,j8,j9,x3,x4,x5,x6,x7,x8,reduceCtorEq,↓reduceIte];refine zai (hvc (hC _) hO1 fun o2 hO2=>?_);have hjc:=zaf v;rw[hjc];simp only[sxZ,z6,z7,z8,j4,j5,j6,j7,j8,j9,x3,x4,x5,x6,x7,x8,reduceCtorEq,↓reduceIte,gn1,sn1];have hO3:=hO2.new (.box 25 (zae v));rw[hjc] at hO3;have hO3:zaK ((1,zaI s ρ2)::(o2.length,.box 25 [.i .i64 v.kind,.s v.text,.row v.keys.length (v.keys.map .s),.row v.items.length (zac v.items)])::[(0,zvB)]) (o2++[.box 25 [.i .i64 v.kind,.s v.text,.row v.keys.length (v.keys.map .s),.row v.items.length (zac v.items)]]):=hO3.perm (qz.swap _ _ _);generalize o2.length=qv at hO3 ⊢;generalize o2++[OB.box 25 [.i .i64 v.kind,.s v.text,.row v.keys.length (v.keys.map .s),.row v.items.length (zac v.items)]]=o3 at hO3 ⊢;subst hZ;refine zaa fun Z hZ=>?_;refine zaa fun W hW=>?_;simp only[sxZ,z6,z7,z8,j4,j5,j6,j7,j8,j9,x3,x4,x5,x6,x7,x8,reduceCtorEq,↓reduceIte];refine zai (zcx (by omega) hO3 fun o4 hO4=>?_);generalize zar s ρ2=N at hO4 hr ⊢;obtain⟨T3,ρ3⟩:=N;simp only at hO4 hr ⊢;unfold zhE tkC;simp only[sxZ,z6,z7,z8,j4,j5,j6,j7,j8,j9,x3,x4,x5,x6,x7,x8,reduceCtorEq,↓reduceIte,gn1,sn1];have f1:∀x y z,OB.box 56 [.i .i64 x,.s y,.i .i64 z]=zaX (x,y,z):=fun _ _ _=>rfl;rw[f1];have hO5:=hO4.new (zaX T3);have hO5:zaK ((1,zaI s ρ3)::(o4.length,zaX T3)::(qv,.box 25 [.i .i64 v.kind,.s v.text,.row v.keys.length (v.keys.map .s),.row v.items.length (zac v.items)])::[(0,zvB)]) (o4++[zaX (T3.1,T3.2.1,T3.2.2)]):=hO5.perm (qz.swap _ _ _);generalize o4.length=qt at hO5 ⊢;generalize o4++[zaX (T3.1,T3.2.1,T3.2.2)]=o5 at hO5 ⊢;subst hW;have e1:=hO5.get (i:=1) (x:=zaI s ρ3) (by simp);have e2:=hO5.get (i:=qt) (x:=zaX T3) (by simp);unfold zaI at e1;unfold zaX tkC at e2;generalize hρ:(if ρ3.fail=0/\¬T3.1=1 then zaY ρ3 T3.2.2 140 else ρ3)=ρ4 at hr;refine zaz (fun o tm=>zaK ((1,zaI s ρ4)::(qt,zaX T3)::(qv,.box 25 [.i .i64 v.kind,.s v.text,.row v.keys.length (v.keys.map .s),.row v.items.length (zac v.items)])::[(0,zvB)]) o/\tm.length=52/\tm[0]? = some (.s s)/\tm[2]? = some (.p 0 0)/\tm[5]? = some (.p 1 0)/\tm[6]? = some (.p qv 0)) ?_ ?_
 ·by_cases c3:ρ3.fail=0
  ·by_cases c4:T3.1=1
   ·rw[if_neg (fun h=>h.2 c4)] at hρ;subst hρ;simp only[sxZ,z6,z7,z8,j4,j5,j6,j7,j8,j9,x3,x4,x5,x6,x7,x8,reduceCtorEq,↓reduceIte,e1,e2,c3,c4,zab,and_self,and_true];exact hO5
   ·rw[if_pos ⟨c3,c4⟩] at hρ;simp only[sxZ,z6,z7,z8,j4,j5,j6,j7,j8,j9,x3,x4,x5,x6,x7,x8,reduceCtorEq,↓reduceIte,e1,e2,c3,c4];refine zai (zca hO5 T3.2.2 140 fun o6 hO6=>?_);rw[hρ] at hO6;simp only[sxZ,z6,z7,z8,j4,j5,j6,j7,j8,j9,x3,x4,x5,x6,x7,x8,reduceCtorEq,↓reduceIte,zab,and_self,and_true];exact hO6
  ·rw[if_neg (fun h=>c3 h.1)] at hρ;subst hρ;simp only[sxZ,z6,z7,z8,j4,j5,j6,j7,j8,j9,x3,x4,x5,x6,x7,x8,reduceCtorEq,↓reduceIte,e1,e2,c3,zab,and_self,and_true];exact hO5
 clear hO5 e1 e2;rintro o6 tm ⟨hO6,hlen,t0,t2,t5,t6⟩;have e1:=hO6.get (i:=1) (x:=zaI s ρ4) (by simp);have e0:=hO6.get (i:=0) (x:=zvB) (by simp);have ev:=hO6.get (i:=qv) (x:=.box 25 [.i .i64 v.kind,.s v.text,.row v.keys.length (v.keys.map .s),.row v.items.length (zac v.items)]) (by simp);have hlt:=(zf.1 e0).1;have gs:∀x,(o6.set 0 x)[0]? = some x:=fun x=>zk hlt;unfold zaI at e1;unfold zvB at e0;subst hZ;refine zaa fun Z hZ=>?_
 by_cases c5:ρ4.fail=0
 ·rw[if_neg (fun h=>h c5)] at hr;simp only[sxZ,z6,z7,z8,j4,j5,j6,j7,j8,j9,x3,x4,x5,x6,x7,x8,reduceCtorEq,↓reduceIte,za,hlen,t5,e1,c5];subst hZ;simp only[sxZ,z6,z7,z8,j4,j5,j6,j7,j8,j9,x3,x4,x5,x6,x7,x8,reduceCtorEq,↓reduceIte,za,hlen,t0,t2,t6,e0,ev,gs];simp only[pub,AV.plain,zaS,zaG,sxZ,z6,z7,z8,j4,j5,j6,j7,j8,j9,x3,x4,x5,x6,x7,x8,reduceCtorEq,↓reduceIte];exact⟨fun G I y hy=>by rw[hr,zh6,hjc];exact hy,hk⟩
 ·rw[if_pos c5] at hr;simp only[sxZ,z6,z7,z8,j4,j5,j6,j7,j8,j9,x3,x4,x5,x6,x7,x8,reduceCtorEq,↓reduceIte,za,hlen,t2,t5,e0,e1,c5,gs];exact finE hr
end
section
variable [Tabs Tryz.prog] [Pow Tryz.prog] [Utf Tryz.prog]
end
end
section
attribute [local irreducible] run
theorem JTx.idB {v:JV} (hv:JTx v):IdB v:=by
 refine⟨qp (zji hv kId).txt (by decide),fun key y hy=>?_⟩;obtain⟨i,hi,rfl⟩:=List.mem_iff_getElem.1 hy;exact qp (zji ((zji hv key).its hi) kId).txt (by decide)
def sA17:List UInt8:=[123,34,105,100,34,58,34,100,105,100,58,119,101,98,58,97,46,101,120,97,109,112,108,101,34,44,34,115,101,114,118,105,99,101,34,58,91,123,34,105,100,34,58,34,35,102,105,108,101,115,34,44,34,116,121,112,101,34,58,34,88,34,44,34,115,101,114,118,105,99,101,69,110,100,112,111,105,110,116,34,58,34,104,116,116,112,115,58,47,47,97,46,101,120,97,109,112,108,101,47,102,47,34,125,93,125]
def ziu:List UInt8:=[100,105,100,58,119,101,98,58,97,46,101,120,97,109,112,108,101]
def zlE:List UInt8:=ziu++[35,102,105,108,101,115]
def zlj:JV:=.mk 7 [] [kId,zbF,zdE] [.mk 5 [35,102,105,108,101,115] [] [],.mk 5 [88] [] [],.mk 5 [104,116,116,112,115,58,47,47,97,46,101,120,97,109,112,108,101,47,102,47] [] []]
def zlW:JV:=.mk 7 [] [kId,zcf] [.mk 5 ziu [] [],.mk 6 [] [] [zlj]]
theorem eA17:(zeP sA17).1=zlW:=by kernel_rfl
theorem dA17:ddE zlW=(0,⟨ziu,[],[],[],[⟨zlE,[[88]],[[104,116,116,112,115,58,47,47,97,46,101,120,97,109,112,108,101,47,102,47]]⟩]⟩):=by kernel_rfl
theorem selA17:selV zlW zlE=(zlj,true):=by kernel_rfl
theorem okA17:JKp zlW:=by
 unfold zlW zlj;simp[JKp,zjv,kId,zbF,zdE,zcf,ziu]
theorem jokA17:JOk zlW:=by
 unfold zlW zlj;simp[JOk,zeY,Lit.wf,IntKind.min,IntKind.max,IntKind.signed,IntKind.bits,kId,zbF,zdE,zcf,ziu]
section
variable [Tabs Tryz.prog] [Utf Tryz.prog] {objs:List OB} {K:List OB->AV->Prop}
theorem sane17_k [Shp Tryz.prog] (hk:K objs (.b true)):zad Tryz.prog 7 [] objs K:=by
 refine zaL is_law17_sane rfl fun C _=>?_;rw[c_law17_sane];have hB:IdB zlW:=okA17.idB;refine zaa fun Z hZ=>?_;simp only[sxZ,z6,z7,z8,j4,j5,j6,j7,j8,j9,x3,x4,x5,x6,x7,x8,reduceCtorEq,↓reduceIte];subst hZ;refine zaa fun Z hZ=>?_;simp only[sxZ,z6,z7,z8,j4,j5,j6,j7,j8,j9,x3,x4,x5,x6,x7,x8,reduceCtorEq,↓reduceIte];refine zai (rParse_k sA17 (by decide) ?_);have e1:=eA17;obtain⟨⟨x,a,e⟩,hx⟩:∃R,zeP sA17=R:=⟨_,rfl⟩;rw[hx] at e1 ⊢;dsimp only at e1;subst e1;unfold zh6;obtain⟨a0,a1,a2,a3,hA⟩:∃a0 a1 a2 a3,zae zlW=[a0,a1,a2,a3]:=⟨_,_,_,_,zaf zlW⟩;rw[hA];simp only[sxZ,z6,z7,z8,j4,j5,j6,j7,j8,j9,x3,x4,x5,x6,x7,x8,reduceCtorEq,↓reduceIte,gn1,sn1];subst hZ;refine zaa fun Z hZ=>?_;simp only[sxZ,z6,z7,z8,j4,j5,j6,j7,j8,j9,x3,x4,x5,x6,x7,x8,reduceCtorEq,↓reduceIte];rw[<-hA];refine zai (dd_k zlW jokA17 okA17.bd hB ?_);rw[dA17];unfold ddAV doc;rw[hA];simp only[sxZ,z6,z7,z8,j4,j5,j6,j7,j8,j9,x3,x4,x5,x6,x7,x8,reduceCtorEq,↓reduceIte,gn1,sn1];subst hZ;refine zaa fun Z hZ=>?_;simp only[sxZ,z6,z7,z8,j4,j5,j6,j7,j8,j9,x3,x4,x5,x6,x7,x8,reduceCtorEq,↓reduceIte];rw[<-hA];refine zai (sel_k zlW zlE jokA17 okA17.bd hB ?_);rw[selA17];unfold zbS;rw[hA,zaf zlj];simp only[sxZ,z6,z7,z8,j4,j5,j6,j7,j8,j9,x3,x4,x5,x6,x7,x8,reduceCtorEq,↓reduceIte,gn1,sn1];subst hZ;refine zaa fun Z hZ=>?_;have n1:(((1:Nat):Int)=1)=True:=by simp
 have hsv:zb2 [⟨zlE,[[88]],[[104,116,116,112,115,58,47,47,97,46,101,120,97,109,112,108,101,47,102,47]]⟩]=[.s zlE,.row 1 [.s [88]],.row 1 [.s [104,116,116,112,115,58,47,47,97,46,101,120,97,109,112,108,101,47,102,47]]]:=rfl;have hid:zlE=[100,105,100,58,119,101,98,58,97,46,101,120,97,109,112,108,101,35,102,105,108,101,115]:=rfl;rw[hsv];simp only[sxZ,z6,z7,z8,j4,j5,j6,j7,j8,j9,x3,x4,x5,x6,x7,x8,reduceCtorEq,↓reduceIte,n1,decide_true,zx,je,zo,zr];rw[hid];simp only[sxZ,z6,z7,z8,j4,j5,j6,j7,j8,j9,x3,x4,x5,x6,x7,x8,reduceCtorEq,↓reduceIte,n1,decide_true,zx,je,zo,zr];refine⟨by decide,by decide,?_⟩;subst hZ;simp only[sxZ,z6,z7,z8,j4,j5,j6,j7,j8,j9,x3,x4,x5,x6,x7,x8,reduceCtorEq,↓reduceIte];rw[show zlj.kind=7 from rfl];exact hk
end
end
section
attribute [local irreducible] run
def enM (x:MtP):JV:=job [kId,zbF,zbQ] [jtx x.id,jtx x.typ,jtx x.ctl]
def enV (x:SvP):JV:=job [kId,zbF,zdE] [jtx x.id,jar (x.typ.map jtx),jar (x.eps.map jtx)]
def deK (d:DoP):List (List UInt8):=zgL (zgL (zgL [kId] zcY (jar (d.also.map jtx))) zbQ (jar (d.ctl.map jtx))) zdi (jar (d.mts.map enM))
def deI (d:DoP):List JV:=zgM (zgM (zgM [jtx d.id] (jar (d.also.map jtx))) (jar (d.ctl.map jtx))) (jar (d.mts.map enM))
def enD (d:DoP):JV:=job (zgL (deK d) zcf (jar (d.svs.map enV))) (zgM (deI d) (jar (d.svs.map enV)))
def IdF (m i id:List UInt8):Prop:=zfB m i id=(0,(zfB m i id).2)/\zhk (zfB m i id).2=id
end
section
attribute [local irreducible] run
section
variable [Tabs Tryz.prog] {objs:List OB} {K:List OB->AV->Prop}
theorem encMt_k (x:MtP) (hk:K objs (.agg (zae (enM x)))):zad Tryz.prog 50 [.agg (mtc x)] objs K:=by
 refine zaL is_diddoc_encodeMethod (by unfold mtc;simp only[zal,AV.plain,zaD,Bool.and_self]) fun C _=>?_;rw[c_diddoc_encodeMethod];unfold mtc;refine zaa fun Z hZ=>?_;simp only[sxZ,z6,z7,z8,j4,j5,j6,j7,j8,j9,x3,x4,x5,x6,x7,x8,reduceCtorEq,↓reduceIte];subst hZ;refine zaa fun Z hZ=>?_;simp only[sxZ,z6,z7,z8,j4,j5,j6,j7,j8,j9,x3,x4,x5,x6,x7,x8,reduceCtorEq,↓reduceIte];have hO:ObR 3 2 [] [] [OB.box 48 [.s x.id,.s x.typ,.s x.ctl],.box 25 [.i .i64 0,.s [],.nil,.nil],.box 93 [.nil,.nil]]:=⟨.nil,.nil,rfl,.inl ⟨rfl,rfl⟩,.inl ⟨rfl,rfl⟩⟩;have e0:[OB.box 48 [.s x.id,.s x.typ,.s x.ctl],.box 25 [.i .i64 0,.s [],.nil,.nil],.box 93 [.nil,.nil]][0]? = some (OB.box 48 [.s x.id,.s x.typ,.s x.ctl]):=rfl;have e1:[OB.box 48 [.s x.id,.s x.typ,.s x.ctl],.box 25 [.i .i64 0,.s [],.nil,.nil],.box 93 [.nil,.nil]][1]? = some (OB.box 25 [.i .i64 0,.s [],.nil,.nil]):=rfl;have hl:3<=[OB.box 48 [.s x.id,.s x.typ,.s x.ctl],.box 25 [.i .i64 0,.s [],.nil,.nil],.box 93 [.nil,.nil]].length:=by simp
 generalize [OB.box 48 [.s x.id,.s x.typ,.s x.ctl],.box 25 [.i .i64 0,.s [],.nil,.nil],.box 93 [.nil,.nil]]=o0 at hO e0 e1 hl ⊢;subst hZ;refine zaa fun Z hZ=>?_;simp only[sxZ,z6,z7,z8,j4,j5,j6,j7,j8,j9,x3,x4,x5,x6,x7,x8,reduceCtorEq,↓reduceIte,e0];refine zai (zdu x.id ?_);simp only[sxZ,z6,z7,z8,j4,j5,j6,j7,j8,j9,x3,x4,x5,x6,x7,x8,reduceCtorEq,↓reduceIte];refine zai (zcZ 3 2 _ _ kId (jtx x.id) hO hl (by omega) (by simp) (by simp) fun o1 O1 l1 q1=>?_);rw[zy,zy] at O1;have f0:=(q1 0 (by omega) (by omega)).trans e0;have f1:=(q1 1 (by omega) (by omega)).trans e1;simp only[sxZ,z6,z7,z8,j4,j5,j6,j7,j8,j9,x3,x4,x5,x6,x7,x8,reduceCtorEq,↓reduceIte];subst hZ;refine zaa fun Z hZ=>?_;simp only[sxZ,z6,z7,z8,j4,j5,j6,j7,j8,j9,x3,x4,x5,x6,x7,x8,reduceCtorEq,↓reduceIte,f0];refine zai (zdu x.typ ?_);simp only[sxZ,z6,z7,z8,j4,j5,j6,j7,j8,j9,x3,x4,x5,x6,x7,x8,reduceCtorEq,↓reduceIte];refine zai (zcZ 3 2 _ _ zbF (jtx x.typ) O1 (by omega) (by omega) (by simp) (by simp) fun o2 O2 l2 q2=>?_);simp only[qw,zy] at O2;have f0:=(q2 0 (by omega) (by omega)).trans f0;have f1:=(q2 1 (by omega) (by omega)).trans f1;simp only[sxZ,z6,z7,z8,j4,j5,j6,j7,j8,j9,x3,x4,x5,x6,x7,x8,reduceCtorEq,↓reduceIte];subst hZ;refine zaa fun Z hZ=>?_;simp only[sxZ,z6,z7,z8,j4,j5,j6,j7,j8,j9,x3,x4,x5,x6,x7,x8,reduceCtorEq,↓reduceIte,f0];refine zai (zdu x.ctl ?_);simp only[sxZ,z6,z7,z8,j4,j5,j6,j7,j8,j9,x3,x4,x5,x6,x7,x8,reduceCtorEq,↓reduceIte];refine zai (zcZ 3 2 _ _ zbQ (jtx x.ctl) O2 (by omega) (by omega) (by simp) (by simp) fun o3 O3 l3 q3=>?_);simp only[qw,zy] at O3;have f0:=(q3 0 (by omega) (by omega)).trans f0;have f1:=(q3 1 (by omega) (by omega)).trans f1;simp only[sxZ,z6,z7,z8,j4,j5,j6,j7,j8,j9,x3,x4,x5,x6,x7,x8,reduceCtorEq,↓reduceIte];subst hZ;simp only[sxZ,z6,z7,z8,j4,j5,j6,j7,j8,j9,x3,x4,x5,x6,x7,x8,reduceCtorEq,↓reduceIte];refine zai (zfL 3 2 _ _ O3 (by omega) (by omega) fun o7 l7 q7=>?_);have e3:=q7 1 _ (by omega) (by omega) f1 rfl;have hl0:=(zf.1 e3).1;unfold enM at hk;generalize [kId,zbF,zbQ]=kk at hk ⊢;generalize [jtx x.id,jtx x.typ,jtx x.ctl]=ii at hk ⊢;have hc:zae (job kk ii)=[.i .i64 7,.s [],.row kk.length (kk.map .s),.row ii.length (zac ii)]:=by rw[zaf];rfl
 rw[hc] at hk ⊢;have hj1:=zaG ii;have hj2:=zaD kk;generalize zac ii=cs at hj1 hk ⊢;generalize kk.map AV.s=ks at hj2 hk ⊢;have s1:∀X,(o7.set 1 X)[1]? = some X:=fun X=>zk hl0;simp only[sxZ,z6,z7,z8,j4,j5,j6,j7,j8,j9,x3,x4,x5,x6,x7,x8,reduceCtorEq,↓reduceIte,e3,s1,hj1,hj2];exact hk
theorem encSv_k (x:SvP) (h1:x.typ.length<=1048576) (h2:x.eps.length<=1048576) (hk:K objs (.agg (zae (enV x)))):zad Tryz.prog 52 [.agg (svc x)] objs K:=by
 refine zaL is_diddoc_encodeService (by unfold svc;simp only[zal,AV.plain,zaD,Bool.and_self]) fun C _=>?_;rw[c_diddoc_encodeService];unfold svc;refine zaa fun Z hZ=>?_;simp only[sxZ,z6,z7,z8,j4,j5,j6,j7,j8,j9,x3,x4,x5,x6,x7,x8,reduceCtorEq,↓reduceIte];subst hZ;refine zaa fun Z hZ=>?_;simp only[sxZ,z6,z7,z8,j4,j5,j6,j7,j8,j9,x3,x4,x5,x6,x7,x8,reduceCtorEq,↓reduceIte];have hO:ObR 3 2 [] [] [OB.box 46 [.s x.id,.row x.typ.length (x.typ.map .s),.row x.eps.length (x.eps.map .s)],.box 25 [.i .i64 0,.s [],.nil,.nil],.box 93 [.nil,.nil]]:=⟨.nil,.nil,rfl,.inl ⟨rfl,rfl⟩,.inl ⟨rfl,rfl⟩⟩;have e0:[OB.box 46 [.s x.id,.row x.typ.length (x.typ.map .s),.row x.eps.length (x.eps.map .s)],.box 25 [.i .i64 0,.s [],.nil,.nil],.box 93 [.nil,.nil]][0]? = some (OB.box 46 [.s x.id,.row x.typ.length (x.typ.map .s),.row x.eps.length (x.eps.map .s)]):=rfl;have e1:[OB.box 46 [.s x.id,.row x.typ.length (x.typ.map .s),.row x.eps.length (x.eps.map .s)],.box 25 [.i .i64 0,.s [],.nil,.nil],.box 93 [.nil,.nil]][1]? = some (OB.box 25 [.i .i64 0,.s [],.nil,.nil]):=rfl;have hl:3<=[OB.box 46 [.s x.id,.row x.typ.length (x.typ.map .s),.row x.eps.length (x.eps.map .s)],.box 25 [.i .i64 0,.s [],.nil,.nil],.box 93 [.nil,.nil]].length:=by simp
 generalize [OB.box 46 [.s x.id,.row x.typ.length (x.typ.map .s),.row x.eps.length (x.eps.map .s)],.box 25 [.i .i64 0,.s [],.nil,.nil],.box 93 [.nil,.nil]]=o0 at hO e0 e1 hl ⊢;subst hZ;refine zaa fun Z hZ=>?_;simp only[sxZ,z6,z7,z8,j4,j5,j6,j7,j8,j9,x3,x4,x5,x6,x7,x8,reduceCtorEq,↓reduceIte,e0];refine zai (zdu x.id ?_);simp only[sxZ,z6,z7,z8,j4,j5,j6,j7,j8,j9,x3,x4,x5,x6,x7,x8,reduceCtorEq,↓reduceIte];refine zai (zcZ 3 2 _ _ kId (jtx x.id) hO hl (by omega) (by simp) (by simp) fun o1 O1 l1 q1=>?_);rw[zy,zy] at O1;have f0:=(q1 0 (by omega) (by omega)).trans e0;have f1:=(q1 1 (by omega) (by omega)).trans e1;simp only[sxZ,z6,z7,z8,j4,j5,j6,j7,j8,j9,x3,x4,x5,x6,x7,x8,reduceCtorEq,↓reduceIte];subst hZ;refine zaa fun Z hZ=>?_;simp only[sxZ,z6,z7,z8,j4,j5,j6,j7,j8,j9,x3,x4,x5,x6,x7,x8,reduceCtorEq,↓reduceIte,f0];refine zai (zd9 x.typ h1 ?_);simp only[sxZ,z6,z7,z8,j4,j5,j6,j7,j8,j9,x3,x4,x5,x6,x7,x8,reduceCtorEq,↓reduceIte];refine zai (zcZ 3 2 _ _ zbF (jar (x.typ.map jtx)) O1 (by omega) (by omega) (by simp) (by simp) fun o2 O2 l2 q2=>?_);simp only[qw,zy] at O2;have f0:=(q2 0 (by omega) (by omega)).trans f0;have f1:=(q2 1 (by omega) (by omega)).trans f1;simp only[sxZ,z6,z7,z8,j4,j5,j6,j7,j8,j9,x3,x4,x5,x6,x7,x8,reduceCtorEq,↓reduceIte];subst hZ;refine zaa fun Z hZ=>?_;simp only[sxZ,z6,z7,z8,j4,j5,j6,j7,j8,j9,x3,x4,x5,x6,x7,x8,reduceCtorEq,↓reduceIte,f0];refine zai (zd9 x.eps h2 ?_);simp only[sxZ,z6,z7,z8,j4,j5,j6,j7,j8,j9,x3,x4,x5,x6,x7,x8,reduceCtorEq,↓reduceIte];refine zai (zcZ 3 2 _ _ zdE (jar (x.eps.map jtx)) O2 (by omega) (by omega) (by simp) (by simp) fun o3 O3 l3 q3=>?_);simp only[qw,zy] at O3;have f0:=(q3 0 (by omega) (by omega)).trans f0;have f1:=(q3 1 (by omega) (by omega)).trans f1;simp only[sxZ,z6,z7,z8,j4,j5,j6,j7,j8,j9,x3,x4,x5,x6,x7,x8,reduceCtorEq,↓reduceIte];subst hZ;simp only[sxZ,z6,z7,z8,j4,j5,j6,j7,j8,j9,x3,x4,x5,x6,x7,x8,reduceCtorEq,↓reduceIte];refine zai (zfL 3 2 _ _ O3 (by omega) (by omega) fun o7 l7 q7=>?_);have e3:=q7 1 _ (by omega) (by omega) f1 rfl;have hl0:=(zf.1 e3).1;unfold enV at hk;generalize [kId,zbF,zdE]=kk at hk ⊢;generalize [jtx x.id,jar (x.typ.map jtx),jar (x.eps.map jtx)]=ii at hk ⊢;have hc:zae (job kk ii)=[.i .i64 7,.s [],.row kk.length (kk.map .s),.row ii.length (zac ii)]:=by rw[zaf];rfl
 rw[hc] at hk ⊢;have hj1:=zaG ii;have hj2:=zaD kk;generalize zac ii=cs at hj1 hk ⊢;generalize kk.map AV.s=ks at hj2 hk ⊢;have s1:∀X,(o7.set 1 X)[1]? = some X:=fun X=>zk hl0;simp only[sxZ,z6,z7,z8,j4,j5,j6,j7,j8,j9,x3,x4,x5,x6,x7,x8,reduceCtorEq,↓reduceIte,e3,s1,hj1,hj2];exact hk
end
end
section
attribute [local irreducible] run
theorem mt_at:∀{l:List MtP} {i:Nat} (hi:i<l.length),((zce l).drop (i*3)).take 3=mtc l[i]
 | x::l,0,hi=>by
  rw[Nat.zero_mul,List.drop_zero];unfold zce;rw[xe];rfl
 | x::l,i+1,hi=>by
  have h:=mt_at (l:=l) (i:=i) (by simpa using hi);rw[yd,<-h];have e:(zce (x::l)).drop ((i+1)*3)=(zce l).drop (i*3):=by
   unfold zce;rw[xe,List.drop_append,xn (by unfold mtc;simp only[zx,je];omega)];have:(i+1)*3 - (mtc x).length=i*3:=by unfold mtc;simp only[zx,je];omega
   rw[this,zy]
  rw[e]
theorem sv_at:∀{l:List SvP} {i:Nat} (hi:i<l.length),((zb2 l).drop (i*3)).take 3=svc l[i]
 | x::l,0,hi=>by
  rw[Nat.zero_mul,List.drop_zero];unfold zb2;rw[xe];rfl
 | x::l,i+1,hi=>by
  have h:=sv_at (l:=l) (i:=i) (by simpa using hi);rw[yd,<-h];have e:(zb2 (x::l)).drop ((i+1)*3)=(zb2 l).drop (i*3):=by
   unfold zb2;rw[xe,List.drop_append,xn (by unfold svc;simp only[zx,je];omega)];have:(i+1)*3 - (svc x).length=i*3:=by unfold svc;simp only[zx,je];omega
   rw[this,zy]
  rw[e]
section
variable [Tabs Tryz.prog] {objs:List OB} {K:List OB->AV->Prop}
end
end
section
attribute [local irreducible] run
theorem zbp {o:List OB} {r g n j:Nat} {xs:List AV} {Y:OB} (h:o[j]? = some Y) (hp:PlO Y) (hn:j≠r):(zc9 o r g n xs)[j]? = some Y:=by
 unfold zc9;rw[ze (Ne.symm hn),qm,h,Option.map_some,ziP hp]
def MtsB (l:List SvP):Prop:=∀x∈l,x.typ.length<=1048576/\x.eps.length<=1048576
def deK1 (d:DoP):List (List UInt8):=zgL (zgL [kId] zcY (jar (d.also.map jtx))) zbQ (jar (d.ctl.map jtx))
def deI1 (d:DoP):List JV:=zgM (zgM [jtx d.id] (jar (d.also.map jtx))) (jar (d.ctl.map jtx))
section
variable [Tabs Tryz.prog] {objs:List OB} {K:List OB->AV->Prop}
theorem zoJ (d:DoP) (h1:d.also.length<=1000000) (h2:d.ctl.length<=1000000) (h3:d.mts.length<=1000000) (h4:d.svs.length<=1000000) (h5:MtsB d.svs) (hk:K objs (.agg (zae (enD d)))):zad Tryz.prog 17 [.agg (doc d)] objs K:=by
 have hlm:=zhf d.mts;have hls:=zgX d.svs;have hpD:PlO (OB.box 34 [.s d.id,.row d.also.length (d.also.map .s),.row d.ctl.length (d.ctl.map .s),.row d.mts.length (zce d.mts),.row d.svs.length (zb2 d.svs)]):=by
  show zal _=true;simp only[zal,AV.plain,zaD,zdh,zdc,Bool.and_self]
 refine zaL is_diddoc_Encode (by unfold doc;simp only[zal,AV.plain,zaD,zdh,zdc,Bool.and_self]) fun C _=>?_;rw[c_diddoc_Encode];unfold doc;refine zaa fun Z hZ=>?_;simp only[sxZ,z6,z7,z8,j4,j5,j6,j7,j8,j9,x3,x4,x5,x6,x7,x8,reduceCtorEq,↓reduceIte];subst hZ;refine zaa fun Z hZ=>?_;simp only[sxZ,z6,z7,z8,j4,j5,j6,j7,j8,j9,x3,x4,x5,x6,x7,x8,reduceCtorEq,↓reduceIte];have hO:ObR 3 2 [] [] [OB.box 34 [.s d.id,.row d.also.length (d.also.map .s),.row d.ctl.length (d.ctl.map .s),.row d.mts.length (zce d.mts),.row d.svs.length (zb2 d.svs)],.box 25 [.i .i64 0,.s [],.nil,.nil],.box 93 [.nil,.nil]]:=⟨.nil,.nil,rfl,.inl ⟨rfl,rfl⟩,.inl ⟨rfl,rfl⟩⟩;have e0:[OB.box 34 [.s d.id,.row d.also.length (d.also.map .s),.row d.ctl.length (d.ctl.map .s),.row d.mts.length (zce d.mts),.row d.svs.length (zb2 d.svs)],.box 25 [.i .i64 0,.s [],.nil,.nil],.box 93 [.nil,.nil]][0]? = some (OB.box 34 [.s d.id,.row d.also.length (d.also.map .s),.row d.ctl.length (d.ctl.map .s),.row d.mts.length (zce d.mts),.row d.svs.length (zb2 d.svs)]):=rfl;have e1:[OB.box 34 [.s d.id,.row d.also.length (d.also.map .s),.row d.ctl.length (d.ctl.map .s),.row d.mts.length (zce d.mts),.row d.svs.length (zb2 d.svs)],.box 25 [.i .i64 0,.s [],.nil,.nil],.box 93 [.nil,.nil]][1]? = some (OB.box 25 [.i .i64 0,.s [],.nil,.nil]):=rfl;have hl:3<=[OB.box 34 [.s d.id,.row d.also.length (d.also.map .s),.row d.ctl.length (d.ctl.map .s),.row d.mts.length (zce d.mts),.row d.svs.length (zb2 d.svs)],.box 25 [.i .i64 0,.s [],.nil,.nil],.box 93 [.nil,.nil]].length:=by simp
 generalize [OB.box 34 [.s d.id,.row d.also.length (d.also.map .s),.row d.ctl.length (d.ctl.map .s),.row d.mts.length (zce d.mts),.row d.svs.length (zb2 d.svs)],.box 25 [.i .i64 0,.s [],.nil,.nil],.box 93 [.nil,.nil]]=o0 at hO e0 e1 hl ⊢;subst hZ;refine zaa fun Z hZ=>?_;simp only[sxZ,z6,z7,z8,j4,j5,j6,j7,j8,j9,x3,x4,x5,x6,x7,x8,reduceCtorEq,↓reduceIte,e0];refine zai (zdu d.id ?_);simp only[sxZ,z6,z7,z8,j4,j5,j6,j7,j8,j9,x3,x4,x5,x6,x7,x8,reduceCtorEq,↓reduceIte];refine zai (zcZ 3 2 _ _ kId (jtx d.id) hO hl (by omega) (by simp) (by simp) fun o1 O1 l1 q1=>?_);rw[zy,zy] at O1;have b1:[kId].length<=1:=zd _;have d1:[jtx d.id].length<=1:=zd _;have f0:=(q1 0 (by omega) (by omega)).trans e0;have f1:=(q1 1 (by omega) (by omega)).trans e1;simp only[sxZ,z6,z7,z8,j4,j5,j6,j7,j8,j9,x3,x4,x5,x6,x7,x8,reduceCtorEq,↓reduceIte];subst hZ;refine zaa fun Z hZ=>?_;clear hO e0 e1 q1;simp only[sxZ,z6,z7,z8,j4,j5,j6,j7,j8,j9,x3,x4,x5,x6,x7,x8,reduceCtorEq,↓reduceIte,f0];refine zai (zd9 d.also (by omega) ?_);simp only[sxZ,z6,z7,z8,j4,j5,j6,j7,j8,j9,x3,x4,x5,x6,x7,x8,reduceCtorEq,↓reduceIte];refine zai (zdv 3 2 _ _ zcY (jar (d.also.map jtx)) O1 (by omega) (by omega) (by omega) (by omega) fun o2 O2 l2 q2=>?_);have b2:=zcv [kId] zcY (jar (d.also.map jtx));have d2:=zcw [jtx d.id] (jar (d.also.map jtx));have f0:=(q2 0 (by omega) (by omega)).trans f0;have f1:=(q2 1 (by omega) (by omega)).trans f1;simp only[sxZ,z6,z7,z8,j4,j5,j6,j7,j8,j9,x3,x4,x5,x6,x7,x8,reduceCtorEq,↓reduceIte];subst hZ;refine zaa fun Z hZ=>?_;clear O1 q2;simp only[sxZ,z6,z7,z8,j4,j5,j6,j7,j8,j9,x3,x4,x5,x6,x7,x8,reduceCtorEq,↓reduceIte,f0];refine zai (zd9 d.ctl (by omega) ?_);simp only[sxZ,z6,z7,z8,j4,j5,j6,j7,j8,j9,x3,x4,x5,x6,x7,x8,reduceCtorEq,↓reduceIte];refine zai (zdv 3 2 _ _ zbQ (jar (d.ctl.map jtx)) O2 (by omega) (by omega) (by omega) (by omega) fun o3 O3 l3 q3=>?_);have O3':ObR 3 2 (deK1 d) (deI1 d) o3:=O3;have b3:(deK1 d).length<=3:=qp (zcv _ _ _) (by omega);have d3:(deI1 d).length<=3:=qp (zcw _ _) (by omega);have f0:=(q3 0 (by omega) (by omega)).trans f0;have f1:=(q3 1 (by omega) (by omega)).trans f1;have hl3:3<=o3.length:=by omega
 simp only[sxZ,z6,z7,z8,j4,j5,j6,j7,j8,j9,x3,x4,x5,x6,x7,x8,reduceCtorEq,↓reduceIte];subst hZ;refine zaa fun Z hZ=>?_;clear O2 O3 q3 b1 b2 d1 d2 l1 l2 l3;simp only[sxZ,z6,z7,z8,j4,j5,j6,j7,j8,j9,x3,x4,x5,x6,x7,x8,reduceCtorEq,↓reduceIte];subst hZ;refine zaa fun Z hZ=>?_;refine zaa fun W hW=>?_;simp only[sxZ,z6,z7,z8,j4,j5,j6,j7,j8,j9,x3,x4,x5,x6,x7,x8,reduceCtorEq,↓reduceIte,f0];subst hW;rw[zaO];refine zaF (fun n o tm=>∃i:Nat,i<=d.mts.length/\n=d.mts.length - i/\(∀j,j<o3.length->o[j]? = o3[j]?)/\o3.length<=o.length/\zlc o3.length ((d.mts.take i).map enM) o (tm[4]?.getD .u)/\tm.length=54/\tm[1]? = some (.p 0 0)/\tm[2]? = some (.p 1 0)/\tm[3]? = some (.p 2 0)/\tm[22]? = some (.row d.mts.length (zce d.mts))/\tm[23]? = some (.i .i64 (d.mts.length:Int))/\tm[24]? = some (.i .i64 (i:Int))) d.mts.length ?_ ?_
 ·refine⟨0,zh _,rfl,fun _ _=>rfl,zd _,.inl ⟨rfl,?_⟩,?_⟩
  ·simp only[sxZ,z6,z7,z8,j4,j5,j6,j7,j8,j9,x3,x4,x5,x6,x7,x8,reduceCtorEq,↓reduceIte,zi,za];try rfl
  ·simp only[sxZ,z6,z7,z8,j4,j5,j6,j7,j8,j9,x3,x4,x5,x6,x7,x8,reduceCtorEq,↓reduceIte,zi,za,y6,and_self]
 rintro n o tm ⟨i,hi,rfl,hfr,hlo,hA,hlen,t1,t2,t3,tr,tn,ti⟩;obtain⟨a4,t4⟩:∃a,tm[4]? = some a:=⟨_,zl (by omega)⟩;rw[t4,qj] at hA;refine zaa fun W hW=>?_
 by_cases hlt:(i:Int)<(d.mts.length:Int)
 ·have hi':i<d.mts.length:=by omega
  have kv:=mt_at hi';have hm:=trivial;have htk:(d.mts.take (i+1)).map enM=(d.mts.take i).map enM++[enM d.mts[i]]:=by rw[xo,zl hi',qy];rfl
  have hfl:((d.mts.take i).map enM).length=i:=by rw[qg,qh];omega
  generalize d.mts[i]=y at kv hm htk;generalize (d.mts.take i).map enM=acc at hA htk hfl;have hl4:=zav acc;have elk:mtc y=[.s y.id,.s y.typ,.s y.ctl]:=rfl;rw[elk] at kv;simp only[sxZ,z6,z7,z8,j4,j5,j6,j7,j8,j9,x3,x4,x5,x6,x7,x8,reduceCtorEq,↓reduceIte,za,hlen,tr,tn,ti,hlt];subst hW;refine zaa fun W hW=>?_;simp only[sxZ,z6,z7,z8,j4,j5,j6,j7,j8,j9,x3,x4,x5,x6,x7,x8,reduceCtorEq,↓reduceIte,za,hlen];subst hW;refine zaa fun V hV=>?_;rw[zaO];refine zaa fun W hW=>?_;simp only[sxZ,z6,z7,z8,j4,j5,j6,j7,j8,j9,x3,x4,x5,x6,x7,x8,reduceCtorEq,↓reduceIte,za,hlen,tr,ti,kv];refine⟨⟨by omega,by omega,by omega⟩,by omega,?_⟩;simp only[sxZ,z6,z7,z8,j4,j5,j6,j7,j8,j9,x3,x4,x5,x6,x7,x8,reduceCtorEq,↓reduceIte,za,hlen,gn1,sn1];subst hW;have hA1:=hA.mono (.box 48 [.s y.id,.s y.typ,.s y.ctl]);have fy:(o++[OB.box 48 [.s y.id,.s y.typ,.s y.ctl]])[o.length]? = some (.box 48 [.s y.id,.s y.typ,.s y.ctl]):=gn1 _ _;have hfr1:∀j,j<o3.length->(o++[OB.box 48 [.s y.id,.s y.typ,.s y.ctl]])[j]? = o3[j]?:=fun j hj=>by rw[zj (by omega)];exact hfr j hj
  have hln:(o++[OB.box 48 [.s y.id,.s y.typ,.s y.ctl]]).length=o.length+1:=by simp
  generalize o++[OB.box 48 [.s y.id,.s y.typ,.s y.ctl]]=oq at hA1 fy hfr1 hln ⊢;simp only[sxZ,z6,z7,z8,j4,j5,j6,j7,j8,j9,x3,x4,x5,x6,x7,x8,reduceCtorEq,↓reduceIte,za,hlen,t4,fy];rw[<-elk];refine zai (encMt_k y ?_);obtain⟨c0,c1,c2,c3,hc⟩:∃c0 c1 c2 c3,zae (enM y)=[c0,c1,c2,c3]:=⟨_,_,_,_,zaf _⟩;rw[hc];rcases hA1 with ⟨h0,rfl⟩|⟨r,g,rfl,hr0,hr⟩
  ·simp only[sxZ,z6,z7,z8,j4,j5,j6,j7,j8,j9,x3,x4,x5,x6,x7,x8,reduceCtorEq,↓reduceIte,za,hlen,t4];subst hV;simp only[sxZ,z6,z7,z8,j4,j5,j6,j7,j8,j9,x3,x4,x5,x6,x7,x8,reduceCtorEq,↓reduceIte,za,hlen,t1,t2,t3,tr,tn,ti];refine⟨by omega,d.mts.length - (i+1),by omega,i+1,by omega,rfl,fun j hj=>by rw[zj (by omega)];exact hfr1 j hj,by omega,?_,rfl⟩;rw[htk,h0];exact .inr ⟨_,0,rfl,by omega,by rw[gn1,zy,zao,zak,hc];rfl⟩
  ·have hrl:=(zf.1 hr).1;simp only[sxZ,z6,z7,z8,j4,j5,j6,j7,j8,j9,x3,x4,x5,x6,x7,x8,reduceCtorEq,↓reduceIte,za,hlen,t4,hr];refine⟨⟨by omega,by omega⟩,?_⟩;subst hV;simp only[sxZ,z6,z7,z8,j4,j5,j6,j7,j8,j9,x3,x4,x5,x6,x7,x8,reduceCtorEq,↓reduceIte,za,hlen,t1,t2,t3,tr,tn,ti];refine⟨by omega,d.mts.length - (i+1),by omega,i+1,by omega,rfl,fun j hj=>?_,by omega,?_,rfl⟩
   ·rw[if_neg (by omega)];exact hfr1 j hj
   ·rw[htk];refine .inr ⟨r,g+1,rfl,hr0,?_⟩;rw[zk hrl,zp,za4,zao,zak,hc,ji];rfl
 have hn:i=d.mts.length:=by omega
 rw[hn,jh (zd _)] at hA;simp only[sxZ,z6,z7,z8,j4,j5,j6,j7,j8,j9,x3,x4,x5,x6,x7,x8,reduceCtorEq,↓reduceIte,za,hlen,tr,tn,ti,hlt];subst hW;simp only[sxZ,z6,z7,z8,j4,j5,j6,j7,j8,j9,x3,x4,x5,x6,x7,x8,reduceCtorEq,↓reduceIte,za,hlen];have e0o:o[0]? = some (OB.box 34 [.s d.id,.row d.also.length (d.also.map .s),.row d.ctl.length (d.ctl.map .s),.row d.mts.length (zce d.mts),.row d.svs.length (zb2 d.svs)]):=(hfr 0 (by omega)).trans f0;have e1o:o[1]? = some (OB.box 25 [.i .i64 0,.s [],.nil,.nil]):=(hfr 1 (by omega)).trans f1;have hlol:3<=o.length:=by omega
 subst hZ;refine zaa fun Z hZ=>?_;refine zaz (fun o tm=>ObR 3 2 (deK d) (deI d) o/\o[0]? = some (OB.box 34 [.s d.id,.row d.also.length (d.also.map .s),.row d.ctl.length (d.ctl.map .s),.row d.mts.length (zce d.mts),.row d.svs.length (zb2 d.svs)])/\o[1]? = some (OB.box 25 [.i .i64 0,.s [],.nil,.nil])/\3<=o.length/\tm.length=54/\tm[1]? = some (.p 0 0)/\tm[2]? = some (.p 1 0)/\tm[3]? = some (.p 2 0)) ?_ ?_
 ·rcases hA with ⟨h0,rfl⟩|⟨r,g,rfl,hr0,hr⟩
  ·simp only[sxZ,z6,z7,z8,j4,j5,j6,j7,j8,j9,x3,x4,x5,x6,x7,x8,reduceCtorEq,↓reduceIte,za,hlen,t4];refine zai (zdU ?_);have hA2:∀{K:List OB->AV->Prop},K o (.agg (zae (jar [])))->zad Tryz.prog 51 [.row 0 []] o K:=fun {K} h=>by
    have:=zcJ (objs:=o) (K:=K) [] h
    rwa [zak] at this
   refine hA2 ?_;rw[<-h0];have O5:=O3'.tr hfr;simp only[sxZ,z6,z7,z8,j4,j5,j6,j7,j8,j9,x3,x4,x5,x6,x7,x8,reduceCtorEq,↓reduceIte,za,hlen,t3];refine zai (zdv 3 2 _ _ zdi (jar (d.mts.map enM)) O5 hlol (by omega) (by omega) (by omega) fun o6 O6 l6 q6=>?_);have g0:=(q6 0 (by omega) (by omega)).trans e0o;have g1:=(q6 1 (by omega) (by omega)).trans e1o;simp only[sxZ,z6,z7,z8,j4,j5,j6,j7,j8,j9,x3,x4,x5,x6,x7,x8,reduceCtorEq,↓reduceIte,za,hlen,t1,t2,t3,zab];exact⟨O6,g0,g1,by omega⟩
  ·simp only[sxZ,z6,z7,z8,j4,j5,j6,j7,j8,j9,x3,x4,x5,x6,x7,x8,reduceCtorEq,↓reduceIte,za,hlen,t4];refine zai (zeJ (b:=r) hr ?_);simp only[zbc,zo,zr,and_self,if_true];refine zcJ (d.mts.map enM) ?_;have O5:=O3'.pub hfr r g (d.mts.map enM).length (zac (d.mts.map enM)) hr0;have hl5:3<=(zc9 o r g (d.mts.map enM).length (zac (d.mts.map enM))).length:=by rw[zcp];omega
   have e05:=zbp (g:=g) (n:=(d.mts.map enM).length) (xs:=zac (d.mts.map enM)) e0o hpD (show 0≠r by omega);have e15:=zbp (g:=g) (n:=(d.mts.map enM).length) (xs:=zac (d.mts.map enM)) e1o rfl (show 1≠r by omega);generalize zc9 o r g (d.mts.map enM).length (zac (d.mts.map enM))=o5 at O5 hl5 e05 e15 ⊢;simp only[sxZ,z6,z7,z8,j4,j5,j6,j7,j8,j9,x3,x4,x5,x6,x7,x8,reduceCtorEq,↓reduceIte,za,hlen,t3];refine zai (zdv 3 2 _ _ zdi (jar (d.mts.map enM)) O5 hl5 (by omega) (by omega) (by omega) fun o6 O6 l6 q6=>?_);have g0:=(q6 0 (by omega) (by omega)).trans e05;have g1:=(q6 1 (by omega) (by omega)).trans e15;simp only[sxZ,z6,z7,z8,j4,j5,j6,j7,j8,j9,x3,x4,x5,x6,x7,x8,reduceCtorEq,↓reduceIte,za,hlen,t1,t2,t3,zab];exact⟨O6,g0,g1,by omega⟩
 clear hfr hlo hA hlen t1 t2 t3 tr tn ti t4 e0o e1o hlol hlt hn f0 f1 O3' b3 d3 hl3 tm;have b6:(deK d).length<=4:=qp (zcv _ _ _) (by show (deK1 d).length+1<=4;exact Nat.succ_le_succ (qp (zcv _ _ _) (by have:=zcv [kId] zcY (jar (d.also.map jtx));simp only[zx,je] at this;omega)));have d6:(deI d).length<=4:=qp (zcw _ _) (by show (deI1 d).length+1<=4;exact Nat.succ_le_succ (qp (zcw _ _) (by have:=zcw [jtx d.id] (jar (d.also.map jtx));simp only[zx,je] at this;omega)));rintro o6 tm ⟨O6,f0,f1,hl3,hlen,t1,t2,t3⟩;subst hZ;refine zaa fun Z hZ=>?_;simp only[sxZ,z6,z7,z8,j4,j5,j6,j7,j8,j9,x3,x4,x5,x6,x7,x8,reduceCtorEq,↓reduceIte,za,hlen];subst hZ;refine zaa fun Z hZ=>?_;refine zaa fun W hW=>?_;simp only[sxZ,z6,z7,z8,j4,j5,j6,j7,j8,j9,x3,x4,x5,x6,x7,x8,reduceCtorEq,↓reduceIte,f0,za,hlen,t1,t2,t3];subst hW;rw[zaO];refine zaF (fun n o tm=>∃i:Nat,i<=d.svs.length/\n=d.svs.length - i/\(∀j,j<o6.length->o[j]? = o6[j]?)/\o6.length<=o.length/\zlc o6.length ((d.svs.take i).map enV) o (tm[4]?.getD .u)/\tm.length=54/\tm[1]? = some (.p 0 0)/\tm[2]? = some (.p 1 0)/\tm[3]? = some (.p 2 0)/\tm[38]? = some (.row d.svs.length (zb2 d.svs))/\tm[39]? = some (.i .i64 (d.svs.length:Int))/\tm[40]? = some (.i .i64 (i:Int))) d.svs.length ?_ ?_
 ·refine⟨0,zh _,rfl,fun _ _=>rfl,zd _,.inl ⟨rfl,?_⟩,?_⟩
  ·simp only[sxZ,z6,z7,z8,j4,j5,j6,j7,j8,j9,x3,x4,x5,x6,x7,x8,reduceCtorEq,↓reduceIte,zi,za,za,hlen,t1,t2,t3];try rfl
  ·simp only[sxZ,z6,z7,z8,j4,j5,j6,j7,j8,j9,x3,x4,x5,x6,x7,x8,reduceCtorEq,↓reduceIte,zi,za,za,hlen,t1,t2,t3,y6,and_self]
 rintro n o tm ⟨i,hi,rfl,hfr,hlo,hA,hlen,t1,t2,t3,tr,tn,ti⟩;obtain⟨a4,t4⟩:∃a,tm[4]? = some a:=⟨_,zl (by omega)⟩;rw[t4,qj] at hA;refine zaa fun W hW=>?_
 by_cases hlt:(i:Int)<(d.svs.length:Int)
 ·have hi':i<d.svs.length:=by omega
  have kv:=sv_at hi';have hm:=h5 _ (List.getElem_mem hi');have htk:(d.svs.take (i+1)).map enV=(d.svs.take i).map enV++[enV d.svs[i]]:=by rw[xo,zl hi',qy];rfl
  have hfl:((d.svs.take i).map enV).length=i:=by rw[qg,qh];omega
  generalize d.svs[i]=y at kv hm htk;generalize (d.svs.take i).map enV=acc at hA htk hfl;have hl4:=zav acc;have elk:svc y=[.s y.id,.row y.typ.length (y.typ.map .s),.row y.eps.length (y.eps.map .s)]:=rfl;rw[elk] at kv;simp only[sxZ,z6,z7,z8,j4,j5,j6,j7,j8,j9,x3,x4,x5,x6,x7,x8,reduceCtorEq,↓reduceIte,za,hlen,tr,tn,ti,hlt];subst hW;refine zaa fun W hW=>?_;simp only[sxZ,z6,z7,z8,j4,j5,j6,j7,j8,j9,x3,x4,x5,x6,x7,x8,reduceCtorEq,↓reduceIte,za,hlen];subst hW;refine zaa fun V hV=>?_;rw[zaO];refine zaa fun W hW=>?_;simp only[sxZ,z6,z7,z8,j4,j5,j6,j7,j8,j9,x3,x4,x5,x6,x7,x8,reduceCtorEq,↓reduceIte,za,hlen,tr,ti,kv];refine⟨⟨by omega,by omega,by omega⟩,by omega,?_⟩;simp only[sxZ,z6,z7,z8,j4,j5,j6,j7,j8,j9,x3,x4,x5,x6,x7,x8,reduceCtorEq,↓reduceIte,za,hlen,gn1,sn1];subst hW;have hA1:=hA.mono (.box 46 [.s y.id,.row y.typ.length (y.typ.map .s),.row y.eps.length (y.eps.map .s)]);have fy:(o++[OB.box 46 [.s y.id,.row y.typ.length (y.typ.map .s),.row y.eps.length (y.eps.map .s)]])[o.length]? = some (.box 46 [.s y.id,.row y.typ.length (y.typ.map .s),.row y.eps.length (y.eps.map .s)]):=gn1 _ _;have hfr1:∀j,j<o6.length->(o++[OB.box 46 [.s y.id,.row y.typ.length (y.typ.map .s),.row y.eps.length (y.eps.map .s)]])[j]? = o6[j]?:=fun j hj=>by rw[zj (by omega)];exact hfr j hj
  have hln:(o++[OB.box 46 [.s y.id,.row y.typ.length (y.typ.map .s),.row y.eps.length (y.eps.map .s)]]).length=o.length+1:=by simp
  generalize o++[OB.box 46 [.s y.id,.row y.typ.length (y.typ.map .s),.row y.eps.length (y.eps.map .s)]]=oq at hA1 fy hfr1 hln ⊢;simp only[sxZ,z6,z7,z8,j4,j5,j6,j7,j8,j9,x3,x4,x5,x6,x7,x8,reduceCtorEq,↓reduceIte,za,hlen,t4,fy];rw[<-elk];refine zai (encSv_k y hm.1 hm.2 ?_);obtain⟨c0,c1,c2,c3,hc⟩:∃c0 c1 c2 c3,zae (enV y)=[c0,c1,c2,c3]:=⟨_,_,_,_,zaf _⟩;rw[hc];rcases hA1 with ⟨h0,rfl⟩|⟨r,g,rfl,hr0,hr⟩
  ·simp only[sxZ,z6,z7,z8,j4,j5,j6,j7,j8,j9,x3,x4,x5,x6,x7,x8,reduceCtorEq,↓reduceIte,za,hlen,t4];subst hV;simp only[sxZ,z6,z7,z8,j4,j5,j6,j7,j8,j9,x3,x4,x5,x6,x7,x8,reduceCtorEq,↓reduceIte,za,hlen,t1,t2,t3,tr,tn,ti];refine⟨by omega,d.svs.length - (i+1),by omega,i+1,by omega,rfl,fun j hj=>by rw[zj (by omega)];exact hfr1 j hj,by omega,?_,rfl⟩;rw[htk,h0];exact .inr ⟨_,0,rfl,by omega,by rw[gn1,zy,zao,zak,hc];rfl⟩
  ·have hrl:=(zf.1 hr).1;simp only[sxZ,z6,z7,z8,j4,j5,j6,j7,j8,j9,x3,x4,x5,x6,x7,x8,reduceCtorEq,↓reduceIte,za,hlen,t4,hr];refine⟨⟨by omega,by omega⟩,?_⟩;subst hV;simp only[sxZ,z6,z7,z8,j4,j5,j6,j7,j8,j9,x3,x4,x5,x6,x7,x8,reduceCtorEq,↓reduceIte,za,hlen,t1,t2,t3,tr,tn,ti];refine⟨by omega,d.svs.length - (i+1),by omega,i+1,by omega,rfl,fun j hj=>?_,by omega,?_,rfl⟩
   ·rw[if_neg (by omega)];exact hfr1 j hj
   ·rw[htk];refine .inr ⟨r,g+1,rfl,hr0,?_⟩;rw[zk hrl,zp,za4,zao,zak,hc,ji];rfl
 have hn:i=d.svs.length:=by omega
 rw[hn,jh (zd _)] at hA;simp only[sxZ,z6,z7,z8,j4,j5,j6,j7,j8,j9,x3,x4,x5,x6,x7,x8,reduceCtorEq,↓reduceIte,za,hlen,tr,tn,ti,hlt];subst hW;simp only[sxZ,z6,z7,z8,j4,j5,j6,j7,j8,j9,x3,x4,x5,x6,x7,x8,reduceCtorEq,↓reduceIte,za,hlen];have e0o:o[0]? = some (OB.box 34 [.s d.id,.row d.also.length (d.also.map .s),.row d.ctl.length (d.ctl.map .s),.row d.mts.length (zce d.mts),.row d.svs.length (zb2 d.svs)]):=(hfr 0 (by omega)).trans f0;have e1o:o[1]? = some (OB.box 25 [.i .i64 0,.s [],.nil,.nil]):=(hfr 1 (by omega)).trans f1;have hlol:3<=o.length:=by omega
 subst hZ;refine zaa fun Z hZ=>?_;refine zaz (fun o tm=>ObR 3 2 (zgL (deK d) zcf (jar (d.svs.map enV))) (zgM (deI d) (jar (d.svs.map enV))) o/\o[0]? = some (OB.box 34 [.s d.id,.row d.also.length (d.also.map .s),.row d.ctl.length (d.ctl.map .s),.row d.mts.length (zce d.mts),.row d.svs.length (zb2 d.svs)])/\o[1]? = some (OB.box 25 [.i .i64 0,.s [],.nil,.nil])/\3<=o.length/\tm.length=54/\tm[1]? = some (.p 0 0)/\tm[2]? = some (.p 1 0)/\tm[3]? = some (.p 2 0)) ?_ ?_
 ·rcases hA with ⟨h0,rfl⟩|⟨r,g,rfl,hr0,hr⟩
  ·simp only[sxZ,z6,z7,z8,j4,j5,j6,j7,j8,j9,x3,x4,x5,x6,x7,x8,reduceCtorEq,↓reduceIte,za,hlen,t4];refine zai (zdU ?_);have hA2:∀{K:List OB->AV->Prop},K o (.agg (zae (jar [])))->zad Tryz.prog 51 [.row 0 []] o K:=fun {K} h=>by
    have:=zcJ (objs:=o) (K:=K) [] h
    rwa [zak] at this
   refine hA2 ?_;rw[<-h0];have O5:=O6.tr hfr;simp only[sxZ,z6,z7,z8,j4,j5,j6,j7,j8,j9,x3,x4,x5,x6,x7,x8,reduceCtorEq,↓reduceIte,za,hlen,t3];refine zai (zdv 3 2 _ _ zcf (jar (d.svs.map enV)) O5 hlol (by omega) (by omega) (by omega) fun o6 O6 l6 q6=>?_);have g0:=(q6 0 (by omega) (by omega)).trans e0o;have g1:=(q6 1 (by omega) (by omega)).trans e1o;simp only[sxZ,z6,z7,z8,j4,j5,j6,j7,j8,j9,x3,x4,x5,x6,x7,x8,reduceCtorEq,↓reduceIte,za,hlen,t1,t2,t3,zab];exact⟨O6,g0,g1,by omega⟩
  ·simp only[sxZ,z6,z7,z8,j4,j5,j6,j7,j8,j9,x3,x4,x5,x6,x7,x8,reduceCtorEq,↓reduceIte,za,hlen,t4];refine zai (zeJ (b:=r) hr ?_);simp only[zbc,zo,zr,and_self,if_true];refine zcJ (d.svs.map enV) ?_;have O5:=O6.pub hfr r g (d.svs.map enV).length (zac (d.svs.map enV)) hr0;have hl5:3<=(zc9 o r g (d.svs.map enV).length (zac (d.svs.map enV))).length:=by rw[zcp];omega
   have e05:=zbp (g:=g) (n:=(d.svs.map enV).length) (xs:=zac (d.svs.map enV)) e0o hpD (show 0≠r by omega);have e15:=zbp (g:=g) (n:=(d.svs.map enV).length) (xs:=zac (d.svs.map enV)) e1o rfl (show 1≠r by omega);generalize zc9 o r g (d.svs.map enV).length (zac (d.svs.map enV))=o5 at O5 hl5 e05 e15 ⊢;simp only[sxZ,z6,z7,z8,j4,j5,j6,j7,j8,j9,x3,x4,x5,x6,x7,x8,reduceCtorEq,↓reduceIte,za,hlen,t3];refine zai (zdv 3 2 _ _ zcf (jar (d.svs.map enV)) O5 hl5 (by omega) (by omega) (by omega) fun o6 O6 l6 q6=>?_);have g0:=(q6 0 (by omega) (by omega)).trans e05;have g1:=(q6 1 (by omega) (by omega)).trans e15;simp only[sxZ,z6,z7,z8,j4,j5,j6,j7,j8,j9,x3,x4,x5,x6,x7,x8,reduceCtorEq,↓reduceIte,za,hlen,t1,t2,t3,zab];exact⟨O6,g0,g1,by omega⟩
 clear hfr hlo hA hlen t1 t2 t3 tr tn ti t4 e0o e1o hlol hlt hn f0 f1 O6 hl3 tm;rintro o6 tm ⟨O6,f0,f1,hl3,hlen,t1,t2,t3⟩;subst hZ;simp only[sxZ,z6,z7,z8,j4,j5,j6,j7,j8,j9,x3,x4,x5,x6,x7,x8,reduceCtorEq,↓reduceIte,za,hlen,t3];refine zai (zfL 3 2 _ _ O6 (by omega) (by omega) fun o7 l7 q7=>?_);have e7:=q7 1 _ (by omega) (by omega) f1 rfl;have hl7:=(zf.1 e7).1;have s1:∀X,(o7.set 1 X)[1]? = some X:=fun X=>zk hl7;unfold enD at hk;generalize zgL (deK d) zcf (jar (d.svs.map enV))=kk at hk ⊢;generalize zgM (deI d) (jar (d.svs.map enV))=ii at hk ⊢;have hc:zae (job kk ii)=[.i .i64 7,.s [],.row kk.length (kk.map .s),.row ii.length (zac ii)]:=by rw[zaf];rfl
 rw[hc] at hk ⊢;have hj1:=zaG ii;have hj2:=zaD kk;generalize zac ii=cs at hj1 hk ⊢;generalize kk.map AV.s=ks at hj2 hk ⊢;simp only[sxZ,z6,z7,z8,j4,j5,j6,j7,j8,j9,x3,x4,x5,x6,x7,x8,reduceCtorEq,↓reduceIte,za,hlen,t2,e7,hl7,s1,hj1,hj2];exact hk
end
end
section
attribute [local irreducible] run
theorem jc_snoc (k:Int) (t:List UInt8) (ks:List (List UInt8)) (its:List JV) (key:List UInt8) (v:JV):zae (.mk k t (ks++[key]) (its++[v]))=[.i .i64 k,.s t,.row (ks.length+1) (ks.map .s++[.s key]),.row (its.length+1) (zac its++zae v)]:=by
 rw[zaf];show [AV.i .i64 k,.s t,AV.row (ks++[key]).length ((ks++[key]).map .s),AV.row (its++[v]).length (zac (its++[v]))]=_;rw[qy,zp,zp,za4,zao,zak,ji];rfl
theorem zjc (k:Int) (t:List UInt8) (ks:List (List UInt8)) (its:List JV):zae (.mk k t ks its)=[.i .i64 k,.s t,.row ks.length (ks.map .s),.row its.length (zac its)]:=zaf _
section
variable [Tabs Tryz.prog] {objs:List OB} {K:List OB->AV->Prop}
theorem zoR {f:FuncId} {k:Int} {t:List UInt8} {a b:AV} (h:zad Tryz.prog f [.agg (zae (.mk k t [] [])),a,b] objs K):zad Tryz.prog f [.agg [.i .i64 k,.s t,.nil,.nil],a,b] objs K:=by
 intro C _ G I w hin hm ys hd;refine h C G I w hin hm ys ?_;rw[zah] at hd ⊢;obtain⟨y0,l0,rfl,q0,hd⟩:=hd;exact⟨y0,l0,rfl,zeE q0,hd⟩
theorem zlv (s:List UInt8) (hk:K objs (.agg (zae (jtx s)))):zad Tryz.prog 56 [.s s] objs K:=by
 refine zew (.agg (zae (jtx s))) ?_;refine zaL is_ref16_Text rfl fun C _=>?_;rw[c_ref16_Text];simp only[sxZ,z6,z7,z8,j4,j5,j6,j7,j8,j9,x3,x4,x5,x6,x7,x8,reduceCtorEq,↓reduceIte];exact⟨fun G I y hy=>zeE hy,hk⟩
theorem with_k (k:Int) (t:List UInt8) (ks:List (List UInt8)) (its:List JV) (key:List UInt8) (v:JV) (h1:ks.length<=1000000) (h2:its.length<=1000000) (hk:K objs (.agg (zae (.mk k t (ks++[key]) (its++[v]))))):zad Tryz.prog 83 [.agg (zae (.mk k t ks its)),.s key,.agg (zae v)] objs K:=by
 have hl:=zav its;have hp:=zaG its;have hv:=zaP v;have hks:=zaD ks;have hkl:(ks.map AV.s).length=ks.length:=qg _;rw[jc_snoc] at hk;rw[zjc];obtain⟨v0,v1,v2,v3,hv4⟩:∃v0 v1 v2 v3,zae v=[v0,v1,v2,v3]:=⟨_,_,_,_,zaf v⟩;rw[hv4] at hk hv ⊢;have hva:zal (zac its++[v0,v1,v2,v3])=true:=by rw[zcg,hp,hv];rfl
 have hka:zal (ks.map AV.s++[.s key])=true:=by rw[zcg,hks];rfl
 generalize ks.map AV.s=kc at *;generalize zac its=ic at *;refine zaL is_ref16_with (by simp only[zal,AV.plain,hks,hp,Bool.and_self,Bool.and_true,Bool.true_and];simpa only[zal,Bool.and_true] using hv) fun C _=>?_;rw[c_ref16_with];refine zaa fun Z hZ=>?_;simp only[sxZ,z6,z7,z8,j4,j5,j6,j7,j8,j9,x3,x4,x5,x6,x7,x8,reduceCtorEq,↓reduceIte];subst hZ;refine zaa fun Z hZ=>?_;simp only[sxZ,z6,z7,z8,j4,j5,j6,j7,j8,j9,x3,x4,x5,x6,x7,x8,reduceCtorEq,↓reduceIte];refine⟨⟨by omega,by omega,by omega⟩,⟨by omega,by omega,by omega⟩,?_⟩;subst hZ;simp only[sxZ,z6,z7,z8,j4,j5,j6,j7,j8,j9,x3,x4,x5,x6,x7,x8,reduceCtorEq,↓reduceIte,hva,hka];exact hk
def ObX (k:Int) (t:List UInt8) (ks:List (List UInt8)) (its:List JV) (X:List AV):Prop:=X=zae (.mk k t ks its)\/(ks=[]/\its=[]/\X=[.i .i64 k,.s t,.nil,.nil])
omit [Tabs Tryz.prog] in
theorem zmS {o:List OB} {d n:Nat} {xs:List AV} (h:zal xs=true):pub o d (.row n xs)=some (.row n xs):=by
 have h2:(AV.row n xs).plain=true:=h
 cases d<;>(simp only[pub];rw[if_pos h2])
omit [Tabs Tryz.prog] in
theorem zmT {o:List OB} {d:Nat}:pub o d .nil=some .nil:=by cases d<;>(simp only[pub];rfl)
omit [Tabs Tryz.prog] in
theorem ObX.sh {k:Int} {t:List UInt8} {ks:List (List UInt8)} {its:List JV} {X:List AV} (h:ObX k t ks its X):∃A B,X=[.i .i64 k,.s t,A,B]/\A.plain=true/\B.plain=true/\(∀o d,pub o d A=some A)/\∀o d,pub o d B=some B:=by
 rcases h with rfl|⟨_,_,rfl⟩
 ·rw[zjc];exact⟨_,_,rfl,zaS ks,zaG its,fun o d=>zmS (zaS ks),fun o d=>zmS (zaG its)⟩
 ·exact⟨_,_,rfl,rfl,rfl,fun o d=>zmT,fun o d=>zmT⟩
def smX (X:List AV) (k:Int) (t:List UInt8) (ks:List (List UInt8)) (its:List JV) (key:List UInt8) (v:JV):List AV:=if zdR v=true then zae (.mk k t (ks++[key]) (its++[v])) else X
omit [Tabs Tryz.prog] in
theorem zge {X:List AV} {k:Int} {t:List UInt8} {ks:List (List UInt8)} {its:List JV} (key:List UInt8) (v:JV) (h:ObX k t ks its X):ObX k t (zgL ks key v) (zgM its v) (smX X k t ks its key v):=by
 unfold smX zgL zgM
 by_cases c:zdR v=true
 ·rw[if_pos c,if_pos c,if_pos c];exact .inl rfl
 ·rw[if_neg c,if_neg c,if_neg c];exact h
theorem with_x {k:Int} {t:List UInt8} {ks:List (List UInt8)} {its:List JV} {X:List AV} (hX:ObX k t ks its X) (key:List UInt8) (v:JV) (h1:ks.length<=1000000) (h2:its.length<=1000000) (hk:K objs (.agg (zae (.mk k t (ks++[key]) (its++[v]))))):zad Tryz.prog 83 [.agg X,.s key,.agg (zae v)] objs K:=by
 rcases hX with rfl|⟨rfl,rfl,rfl⟩
 ·exact with_k k t ks its key v h1 h2 hk
 ·exact zoR (with_k k t [] [] key v h1 h2 hk)
theorem ziA {f:FuncId} {p:AV} {key t:List UInt8} {k:Int} {n:Nat} {cs:List AV} {its:List JV} (hn:n=its.length) (hc:cs=zac its) (h:zad Tryz.prog f [p,.s key,.agg (zae (.mk k t [] its))] objs K):zad Tryz.prog f [p,.s key,.agg [.i .i64 k,.s t,.nil,.row n cs]] objs K:=by
 intro C _ G I w hin hm ys hd;refine h C G I w hin hm ys ?_;rw[zah] at hd ⊢;obtain⟨y0,l0,rfl,q0,hd⟩:=hd;refine⟨y0,l0,rfl,q0,?_⟩;rw[zah] at hd ⊢;obtain⟨y1,l1,rfl,q1,hd⟩:=hd;refine⟨y1,l1,rfl,q1,?_⟩;rw[zah] at hd ⊢;obtain⟨y2,l2,rfl,q2,hd⟩:=hd;exact⟨y2,l2,rfl,zjm hn hc q2,hd⟩
theorem rAr_k (l:List (List UInt8)) (hl:l.length<=1048576) (hk:K objs (.agg (zae (jar (l.map jtx))))):zad Tryz.prog 57 [.row l.length (l.map .s)] objs K:=by
 refine zew (.agg (zae (jar (l.map jtx)))) ?_;refine zaL is_ref16_Array (by simp only[zal,AV.plain,zaD,Bool.and_self]) fun C _=>?_;rw[c_ref16_Array];refine zaa fun Z hZ=>?_;simp only[sxZ,z6,z7,z8,j4,j5,j6,j7,j8,j9,x3,x4,x5,x6,x7,x8,reduceCtorEq,↓reduceIte];subst hZ;refine zaa fun Z hZ=>?_;simp only[sxZ,z6,z7,z8,j4,j5,j6,j7,j8,j9,x3,x4,x5,x6,x7,x8,reduceCtorEq,↓reduceIte];subst hZ;refine zaa fun Z hZ=>?_;refine zaa fun W hW=>?_;simp only[sxZ,z6,z7,z8,j4,j5,j6,j7,j8,j9,x3,x4,x5,x6,x7,x8,reduceCtorEq,↓reduceIte];subst hW;rw[zaO];refine zaF (fun n o tm=>∃i:Nat,i<=l.length/\n=l.length - i/\(∃z,o[0]? = some (.box 25 z)/\z.length=4)/\(∃X,o[1]? = some (.box 25 [.i .i64 6,.s [],.nil,X])/\zlc 2 ((l.take i).map jtx) o X)/\tm.length=22/\tm[2]? = some (.p 0 0)/\tm[3]? = some (.p 1 0)/\tm[7]? = some (.row l.length (l.map .s))/\tm[8]? = some (.i .i64 (l.length:Int))/\tm[9]? = some (.i .i64 (i:Int))) l.length ⟨0,zh _,rfl,⟨_,rfl,rfl⟩,⟨.nil,rfl,.inl ⟨rfl,rfl⟩⟩,rfl,rfl,rfl,rfl,rfl,rfl⟩ ?_;rintro n o tm ⟨i,hi,rfl,⟨z,e0,hz⟩,⟨X,e1,hA⟩,hlen,t2,t3,t7,t8,t9⟩;have hol:=(zf.1 e1).1;refine zaa fun W hW=>?_
 by_cases hlt:(i:Int)<(l.length:Int)
 ·have hi':i<l.length:=by omega
  have kv:(l.map AV.s)[i*1]? = some (.s l[i]):=by rw[Nat.mul_one,qm,zl hi'];rfl
  have htk:(l.take (i+1)).map jtx=(l.take i).map jtx++[jtx l[i]]:=by rw[xo,zl hi',qy];rfl
  have hfl:((l.take i).map jtx).length=i:=by rw[qg,qh];omega
  generalize l[i]=y at kv htk;generalize (l.take i).map jtx=acc at hA htk hfl;have hl4:=zav acc;simp only[sxZ,z6,z7,z8,j4,j5,j6,j7,j8,j9,x3,x4,x5,x6,x7,x8,reduceCtorEq,↓reduceIte,za,hlen,t7,t8,t9,hlt];subst hW;refine zaa fun W hW=>?_;simp only[sxZ,z6,z7,z8,j4,j5,j6,j7,j8,j9,x3,x4,x5,x6,x7,x8,reduceCtorEq,↓reduceIte,za,hlen];subst hW;refine zaa fun V hV=>?_;rw[zaO];refine zaa fun W hW=>?_;simp only[sxZ,z6,z7,z8,j4,j5,j6,j7,j8,j9,x3,x4,x5,x6,x7,x8,reduceCtorEq,↓reduceIte,za,hlen,t7,t9,kv,qg];refine⟨⟨by omega,by omega,by omega⟩,?_⟩;subst hW;simp only[sxZ,z6,z7,z8,j4,j5,j6,j7,j8,j9,x3,x4,x5,x6,x7,x8,reduceCtorEq,↓reduceIte,za,hlen,t3,e1];refine za5 (zlv y ⟨rfl,rfl⟩) ?_;rw[zcI];rcases hA with ⟨h0,rfl⟩|⟨r,g,rfl,hr0,hr⟩
  ·have e1':∀z,(o++[z])[1]? = some (.box 25 [.i .i64 6,.s [],.nil,.nil]):=fun z=>by rw[zj (by omega)];exact e1
   simp only[sxZ,z6,z7,z8,j4,j5,j6,j7,j8,j9,x3,x4,x5,x6,x7,x8,reduceCtorEq,↓reduceIte,za,hlen,t3,e1,e1'];subst hV;simp only[sxZ,z6,z7,z8,j4,j5,j6,j7,j8,j9,x3,x4,x5,x6,x7,x8,reduceCtorEq,↓reduceIte,za,hlen,t2,t3,t7,t8,t9];refine⟨by omega,l.length - (i+1),by omega,i+1,by omega,rfl,⟨z,by rw[zj (by omega)];exact e0,hz⟩,⟨_,by rw[if_pos (by omega)],?_⟩,rfl⟩;rw[htk,h0];refine .inr ⟨o.length,0,rfl,by omega,?_⟩;rw[ze (by omega),gn1,zy,zao,zak,zcI];rfl
  ·have hrl:=(zf.1 hr).1;have hne:¬r=1:=by omega
   simp only[sxZ,z6,z7,z8,j4,j5,j6,j7,j8,j9,x3,x4,x5,x6,x7,x8,reduceCtorEq,↓reduceIte,za,hlen,t3,hr,e1,hne];refine⟨⟨by omega,by omega⟩,?_⟩;subst hV;simp only[sxZ,z6,z7,z8,j4,j5,j6,j7,j8,j9,x3,x4,x5,x6,x7,x8,reduceCtorEq,↓reduceIte,za,hlen,t2,t3,t7,t8,t9];refine⟨by omega,l.length - (i+1),by omega,i+1,by omega,rfl,⟨z,?_,hz⟩,⟨.orow r (g+1),?_,?_⟩,rfl⟩
   ·rw[if_neg (by omega)];exact e0
   ·rw[if_pos hol]
   ·rw[htk];refine .inr ⟨r,g+1,rfl,hr0,?_⟩;rw[ze (by omega),zk hrl,zp,za4,zao,zak,zcI];rfl
 have hn:i=l.length:=by omega
 rw[hn,jh (zd _)] at hA;have hol0:=(zf.1 e0).1;simp only[sxZ,z6,z7,z8,j4,j5,j6,j7,j8,j9,x3,x4,x5,x6,x7,x8,reduceCtorEq,↓reduceIte,za,hlen,t7,t8,t9,hlt];subst hW;simp only[sxZ,z6,z7,z8,j4,j5,j6,j7,j8,j9,x3,x4,x5,x6,x7,x8,reduceCtorEq,↓reduceIte,za,hlen];subst hZ;obtain⟨z0,z1,z2,z3,rfl⟩:∃z0 z1 z2 z3,z=[z0,z1,z2,z3]:=by
  match z,hz with
  | [a,b,c,d],_=>exact⟨a,b,c,d,rfl⟩
 rcases hA with ⟨h0,rfl⟩|⟨r,g,rfl,hr0,hr⟩
 ·simp only[sxZ,z6,z7,z8,j4,j5,j6,j7,j8,j9,x3,x4,x5,x6,x7,x8,reduceCtorEq,↓reduceIte,za,hlen,t2,t3,e0,e1,hol0];rw[h0] at hk ⊢;exact⟨fun G I y hy=>zeE hy,hk⟩
 ·have hne:¬0=r:=by omega
  have hpb:ze0 (o.set 0 (.box 25 [.i .i64 6,.s [],.nil,.orow r g])) 4 (zac (l.map jtx))=some (zac (l.map jtx)):=zdN (zaG _);simp only[sxZ,z6,z7,z8,j4,j5,j6,j7,j8,j9,x3,x4,x5,x6,x7,x8,reduceCtorEq,↓reduceIte,za,hlen,t2,t3,e0,e1,hol0,hr,zaG,hne,hpb];exact⟨fun G I y hy=>zjm rfl rfl hy,hk⟩
end
end
end Go.Proofs.YtceenajkieomoaaGreatDoor
namespace Go.Proofs.YtceenajkieomoaaGreatDoor.Sx
open Go.RowKit
def zlk (b gen n:Nat) (xs:List AV):AV->AV
 | .agg cs=>.agg (cs.map (zbc b gen n xs))
 | x=>zbc b gen n xs x
theorem den_sub2 {G:Gh} {I:Imm} {objs:List OB} {w:World} (hm:MemOk G I objs w) {b E sz gen n:Nat} {xs:List AV} (hb:objs[b]? = some (.orow E sz gen n xs)) (x:AV) (y:Value) (h:Den G I x y):Den (zhA G b gen) (zjV I G b w) (zlk b gen n xs x) y:=by
 cases x with
 | agg cs=>
  simp only[Den,zlk] at h ⊢;obtain⟨ys,h1,h2,h3⟩:=h;exact⟨ys,h1,zee hm hb cs ys h2,h3⟩
 | _=>exact zjl hm hb _ y h
theorem ziv {G:Gh} {I:Imm} {objs:List OB} {w:World} (hm:MemOk G I objs w) {b E sz gen n:Nat} {xs:List AV} (hb:objs[b]? = some (.orow E sz gen n xs)):∀(l:List AV) (ys:List Value),zah G I l ys->zah (zhA G b gen) (zjV I G b w) (l.map (zlk b gen n xs)) ys
 | [],ys,h=>by simpa[zah] using h
 | x::l,ys,h=>by
  simp only[zah,List.map_cons] at h ⊢;obtain⟨y,ys',h1,h2,h3⟩:=h;exact⟨y,ys',h1,den_sub2 hm hb x y h2,ziv hm hb l ys' h3⟩
theorem zf1 {P:Program} [Tabs P] {f:FuncId} {args:List AV} {objs:List OB} {K:List OB->AV->Prop} {b E sz gen n:Nat} {xs:List AV} (hb:objs[b]? = some (.orow E sz gen n xs)) (hc:zad P f (args.map (zlk b gen n xs)) (zc9 objs b gen n xs) K):zad P f args objs K:=by
 intro C _ G I w hin hm ys hd;obtain⟨v',vs,m1,m2,m3,m4,m5⟩:=hm.row b E sz gen n xs hb;have hG:=zfH m1;have hI:Imm.le I (zjV I G b w):=fun _ _ _ h=>.inl h;obtain⟨hin',hm'⟩:=zi9 (P:=P) hb hin hm;refine(hc C _ _ w hin' hm' ys (ziv hm hb _ _ hd)).mono ?_;rintro e w' ⟨y,objs',r,G',I',he,hk,h1,h2,h3,h4,hy⟩;exact⟨y,objs',r,G',I',he,hk,hG.trans h1,fun g o v h=>h2 g o v (hI g o v h),h3,h4,hy⟩
end Go.Proofs.YtceenajkieomoaaGreatDoor.Sx
namespace Go.Proofs.YtceenajkieomoaaGreatDoor
open Nat renaming reduceAdd -> z6, reduceSub -> z7, reduceLeDiff -> z8, reduceLT -> j4, reduceMul -> j5, reduceEqDiff -> j6
open Int renaming reduceToNat -> j7, reduceAdd -> j8, reduceSub -> j9, reduceMul -> x3, reduceNeg -> x4, reduceLT -> x5, reduceLE -> x6, reduceEq -> x7, reduceNe -> x8
open Go.RowKit Sx
open Int renaming cast_ofNat_Int->y6, toNat_natCast->jf
open List renaming getElem?_append_left->zj, getElem?_eq_getElem->zl, getElem?_eq_some_iff->zf, getElem?_map->qm, getElem?_set->za, getElem?_set_ne->ze, getElem?_set_self->zk, length_append->zp, length_map->qg, length_pos_iff->jr, length_set->zi, length_take->qh, map_append->qy, map_cons->zo, map_nil->zr, mem_map->jd, nil_append->zy, take_add_one->xo, take_of_length_le->jh
open Nat renaming le_refl->zd, le_trans->qp
open Option renaming map_some->ja
section
attribute [local irreducible] run
section
variable [Tabs Tryz.prog] {objs:List OB} {K:List OB->AV->Prop}
theorem zfj {k:Int} {t:List UInt8} {ks:List (List UInt8)} {its:List JV} {X:List AV} (hX:ObX k t ks its X) (key:List UInt8) (v:JV) (h1:ks.length<=1000000) (h2:its.length<=1000000) (hk:K objs (.agg (zae (.mk k t (ks++[key]) (its++[v]))))):zad Tryz.prog 54 [.agg X,.s key,.agg (zae v)] objs K:=by
 obtain⟨A,B,rfl,pA,pB,qA,qB⟩:=hX.sh;refine zaL is_ref16_With (by simp only[zal,AV.plain,pA,pB,zaP,Bool.and_self]) fun C _=>?_;rw[c_ref16_With];have ev:=zaf v;rw[ev];refine zaa fun Z hZ=>?_;simp only[sxZ,z6,z7,z8,j4,j5,j6,j7,j8,j9,x3,x4,x5,x6,x7,x8,reduceCtorEq,↓reduceIte];subst hZ;refine zaa fun Z hZ=>?_;simp only[sxZ,z6,z7,z8,j4,j5,j6,j7,j8,j9,x3,x4,x5,x6,x7,x8,reduceCtorEq,↓reduceIte];rw[<-ev];refine zai (with_x hX key v h1 h2 ?_);rw[zjc] at hk ⊢;simp only[sxZ,z6,z7,z8,j4,j5,j6,j7,j8,j9,x3,x4,x5,x6,x7,x8,reduceCtorEq,↓reduceIte];subst hZ;simp only[sxZ,z6,z7,z8,j4,j5,j6,j7,j8,j9,x3,x4,x5,x6,x7,x8,reduceCtorEq,↓reduceIte,zaS,zaG];rw[zp,zp] at hk;exact hk
theorem zg3 (hk:K objs (.agg [.i .i64 7,.s [],.nil,.nil])):zad Tryz.prog 55 [] objs K:=by
 refine zaL is_ref17_object rfl fun C _=>?_;rw[c_ref17_object];simp only[sxZ,z6,z7,z8,j4,j5,j6,j7,j8,j9,x3,x4,x5,x6,x7,x8,reduceCtorEq,↓reduceIte];exact hk
theorem zi0 (d:DoP) (h1:d.also.length<=1000000) (h2:d.ctl.length<=1000000) (h3:d.mts.length<=1000000) (h4:d.svs.length<=1000000) (h5:MtsB d.svs) (hk:K objs (.agg (zae (enD d)))):zad Tryz.prog 18 [.agg (doc d)] objs K:=by
 have hlm:=zhf d.mts;have hls:=zgX d.svs;have hpD:PlO (OB.box 34 [.s d.id,.row d.also.length (d.also.map .s),.row d.ctl.length (d.ctl.map .s),.row d.mts.length (zce d.mts),.row d.svs.length (zb2 d.svs)]):=by
  show zal _=true;simp only[zal,AV.plain,zaD,zdh,zdc,Bool.and_self]
 refine zew (.agg (zae (enD d))) ?_;refine zaL is_ref17_Encode (by unfold doc;simp only[zal,AV.plain,zaD,zdh,zdc,Bool.and_self]) fun C _=>?_;rw[c_ref17_Encode];unfold doc;refine zaa fun Z hZ=>?_;simp only[sxZ,z6,z7,z8,j4,j5,j6,j7,j8,j9,x3,x4,x5,x6,x7,x8,reduceCtorEq,↓reduceIte];subst hZ;refine zaa fun Z hZ=>?_;simp only[sxZ,z6,z7,z8,j4,j5,j6,j7,j8,j9,x3,x4,x5,x6,x7,x8,reduceCtorEq,↓reduceIte];refine zka (zg3 rfl) rfl rfl ?_;simp only[sxZ,z6,z7,z8,j4,j5,j6,j7,j8,j9,x3,x4,x5,x6,x7,x8,reduceCtorEq,↓reduceIte];refine zka (zlv d.id rfl) rfl (zaP _) ?_;simp only[sxZ,z6,z7,z8,j4,j5,j6,j7,j8,j9,x3,x4,x5,x6,x7,x8,reduceCtorEq,↓reduceIte];have hX0:ObX 7 [] [] [] [.i .i64 7,.s [],.nil,.nil]:=.inr ⟨rfl,rfl,rfl⟩;refine zka (v:=.agg (zae (.mk 7 [] [kId] [jtx d.id]))) (zfj hX0 kId (jtx d.id) (by decide) (by decide) rfl) (by simp only[zal,AV.plain,zaP,Bool.and_self]) (zaP _) ?_;have hX1:ObX 7 [] [kId] [jtx d.id] (zae (.mk 7 [] [kId] [jtx d.id])):=.inl rfl;generalize zae (.mk 7 [] [kId] [jtx d.id])=X1 at hX1 ⊢;obtain⟨A1,B1,rfl,pA1,pB1,qA1,qB1⟩:=hX1.sh;simp only[sxZ,z6,z7,z8,j4,j5,j6,j7,j8,j9,x3,x4,x5,x6,x7,x8,reduceCtorEq,↓reduceIte,gn1,sn1];subst hZ;refine zaa fun Z hZ=>?_;refine zaz (fun o tm=>∃A B,o=[OB.box 34 [.s d.id,.row d.also.length (d.also.map .s),.row d.ctl.length (d.ctl.map .s),.row d.mts.length (zce d.mts),.row d.svs.length (zb2 d.svs)],OB.box 25 [.i .i64 0,.s [],.nil,.nil],.box 25 [.i .i64 7,.s [],A,B]]/\ObX 7 [] (zgL [kId] zcY (jar (d.also.map jtx))) (zgM [jtx d.id] (jar (d.also.map jtx))) [.i .i64 7,.s [],A,B]/\tm.length=101/\tm[1]? = some (.p 0 0)/\tm[2]? = some (.p 1 0)/\tm[3]? = some (.p 2 0)) ?_ ?_
 ·by_cases ha:d.also=[]
  ·have hz0:((0:Int)<(d.also.length:Int))=False:=by rw[ha];simp
   simp only[sxZ,z6,z7,z8,j4,j5,j6,j7,j8,j9,x3,x4,x5,x6,x7,x8,reduceCtorEq,↓reduceIte,hz0,decide_false,zab,za9];have hc:=zge zcY (jar (d.also.map jtx)) hX1;unfold smX at hc;rw[if_neg (by rw[ha];decide)] at hc;exact⟨A1,B1,rfl,hc⟩
  ·have hpos:0<d.also.length:=jr.2 ha;have hz:((0:Int)<(d.also.length:Int))=True:=by simp;omega
   simp only[sxZ,z6,z7,z8,j4,j5,j6,j7,j8,j9,x3,x4,x5,x6,x7,x8,reduceCtorEq,↓reduceIte,hz,decide_true];refine za5 (rAr_k d.also (by omega) ⟨rfl,rfl⟩) ?_;simp only[sxZ,z6,z7,z8,j4,j5,j6,j7,j8,j9,x3,x4,x5,x6,x7,x8,reduceCtorEq,↓reduceIte];refine za5 (zfj hX1 zcY (jar (d.also.map jtx)) (by decide) (by simp) ⟨rfl,rfl⟩) ?_;have hX2:=zge zcY (jar (d.also.map jtx)) hX1;unfold smX at hX2;rw[if_pos (by unfold zdR;show (_||decide (0<(d.also.map jtx).length))=true;rw[qg,decide_eq_true hpos,Bool.or_true])] at hX2;rw[zjc] at hX2 ⊢;simp only[sxZ,z6,z7,z8,j4,j5,j6,j7,j8,j9,x3,x4,x5,x6,x7,x8,reduceCtorEq,↓reduceIte,zab,za9];rw[zp,zp] at hX2;exact⟨_,_,rfl,hX2⟩
 rintro o tm ⟨A2,B2,rfl,hX2,hlen,t1,t2,t3⟩;have b2:=zcv [kId] zcY (jar (d.also.map jtx));have d2:=zcw [jtx d.id] (jar (d.also.map jtx));simp only[List.length_cons,List.length_nil] at b2 d2;obtain⟨_,_,e2,pA2,pB2,qA2,qB2⟩:=hX2.sh;injection e2 with _ e2
 injection e2 with _ e2
 injection e2 with ea e2
 injection e2 with eb e2
 subst ea eb;clear e2;subst hZ;refine zaa fun Z hZ=>?_;refine zaz (fun o tm=>∃A B,o=[OB.box 34 [.s d.id,.row d.also.length (d.also.map .s),.row d.ctl.length (d.ctl.map .s),.row d.mts.length (zce d.mts),.row d.svs.length (zb2 d.svs)],OB.box 25 [.i .i64 0,.s [],.nil,.nil],.box 25 [.i .i64 7,.s [],A,B]]/\ObX 7 [] (zgL (zgL [kId] zcY (jar (d.also.map jtx))) zbQ (jar (d.ctl.map jtx))) (zgM (zgM [jtx d.id] (jar (d.also.map jtx))) (jar (d.ctl.map jtx))) [.i .i64 7,.s [],A,B]/\tm.length=101/\tm[1]? = some (.p 0 0)/\tm[2]? = some (.p 1 0)/\tm[3]? = some (.p 2 0)) ?_ ?_
 ·by_cases ha:d.ctl=[]
  ·have hz0:((0:Int)<(d.ctl.length:Int))=False:=by rw[ha];simp
   simp only[sxZ,z6,z7,z8,j4,j5,j6,j7,j8,j9,x3,x4,x5,x6,x7,x8,reduceCtorEq,↓reduceIte,za,hlen,t1,t2,t3,hz0,decide_false,zab,za9];have hc:=zge zbQ (jar (d.ctl.map jtx)) hX2;unfold smX at hc;rw[if_neg (by rw[ha];decide)] at hc;exact⟨A2,B2,rfl,hc⟩
  ·have hpos:0<d.ctl.length:=jr.2 ha;have hz:((0:Int)<(d.ctl.length:Int))=True:=by simp;omega
   simp only[sxZ,z6,z7,z8,j4,j5,j6,j7,j8,j9,x3,x4,x5,x6,x7,x8,reduceCtorEq,↓reduceIte,za,hlen,t1,t2,t3,hz,decide_true];refine za5 (rAr_k d.ctl (by omega) ⟨rfl,rfl⟩) ?_;simp only[sxZ,z6,z7,z8,j4,j5,j6,j7,j8,j9,x3,x4,x5,x6,x7,x8,reduceCtorEq,↓reduceIte,za,hlen,t1,t2,t3];refine za5 (zfj hX2 zbQ (jar (d.ctl.map jtx)) (by omega) (by omega) ⟨rfl,rfl⟩) ?_;have hX2:=zge zbQ (jar (d.ctl.map jtx)) hX2;unfold smX at hX2;rw[if_pos (by unfold zdR;show (_||decide (0<(d.ctl.map jtx).length))=true;rw[qg,decide_eq_true hpos,Bool.or_true])] at hX2;rw[zjc] at hX2 ⊢;simp only[sxZ,z6,z7,z8,j4,j5,j6,j7,j8,j9,x3,x4,x5,x6,x7,x8,reduceCtorEq,↓reduceIte,za,hlen,t1,t2,t3,zab,za9];rw[zp,zp] at hX2;exact⟨_,_,rfl,hX2⟩
 rintro o tm ⟨A3,B3,rfl,hX3,hlen,t1,t2,t3⟩;have hX3:ObX 7 [] (deK1 d) (deI1 d) _:=hX3;have b3:(deK1 d).length<=3:=qp (zcv _ _ _) (by omega);have d3:(deI1 d).length<=3:=qp (zcw _ _) (by omega);obtain⟨_,_,e2,pA3,pB3,qA3,qB3⟩:=hX3.sh;injection e2 with _ e2
 injection e2 with _ e2
 injection e2 with ea e2
 injection e2 with eb e2
 subst ea eb;clear e2;subst hZ;refine zaa fun Z hZ=>?_;simp only[sxZ,z6,z7,z8,j4,j5,j6,j7,j8,j9,x3,x4,x5,x6,x7,x8,reduceCtorEq,↓reduceIte,za,hlen,t1,t2,t3];have f0:[OB.box 34 [.s d.id,.row d.also.length (d.also.map .s),.row d.ctl.length (d.ctl.map .s),.row d.mts.length (zce d.mts),.row d.svs.length (zb2 d.svs)],OB.box 25 [.i .i64 0,.s [],.nil,.nil],OB.box 25 [.i .i64 7,.s [],A3,B3],OB.box 25 [.i .i64 6,.s [],.nil,.nil]][0]? = some (OB.box 34 [.s d.id,.row d.also.length (d.also.map .s),.row d.ctl.length (d.ctl.map .s),.row d.mts.length (zce d.mts),.row d.svs.length (zb2 d.svs)]):=rfl;have f1:[OB.box 34 [.s d.id,.row d.also.length (d.also.map .s),.row d.ctl.length (d.ctl.map .s),.row d.mts.length (zce d.mts),.row d.svs.length (zb2 d.svs)],OB.box 25 [.i .i64 0,.s [],.nil,.nil],OB.box 25 [.i .i64 7,.s [],A3,B3],OB.box 25 [.i .i64 6,.s [],.nil,.nil]][1]? = some (OB.box 25 [.i .i64 0,.s [],.nil,.nil]):=rfl;have f2:[OB.box 34 [.s d.id,.row d.also.length (d.also.map .s),.row d.ctl.length (d.ctl.map .s),.row d.mts.length (zce d.mts),.row d.svs.length (zb2 d.svs)],OB.box 25 [.i .i64 0,.s [],.nil,.nil],OB.box 25 [.i .i64 7,.s [],A3,B3],OB.box 25 [.i .i64 6,.s [],.nil,.nil]][2]? = some (OB.box 25 [.i .i64 7,.s [],A3,B3]):=rfl;have f3:[OB.box 34 [.s d.id,.row d.also.length (d.also.map .s),.row d.ctl.length (d.ctl.map .s),.row d.mts.length (zce d.mts),.row d.svs.length (zb2 d.svs)],OB.box 25 [.i .i64 0,.s [],.nil,.nil],OB.box 25 [.i .i64 7,.s [],A3,B3],OB.box 25 [.i .i64 6,.s [],.nil,.nil]][3]? = some (OB.box 25 [.i .i64 6,.s [],.nil,.nil]):=rfl;generalize [OB.box 34 [.s d.id,.row d.also.length (d.also.map .s),.row d.ctl.length (d.ctl.map .s),.row d.mts.length (zce d.mts),.row d.svs.length (zb2 d.svs)],OB.box 25 [.i .i64 0,.s [],.nil,.nil],OB.box 25 [.i .i64 7,.s [],A3,B3],OB.box 25 [.i .i64 6,.s [],.nil,.nil]]=o3 at f0 f1 f2 f3 ⊢;subst hZ;refine zaa fun Z hZ=>?_;refine zaa fun W hW=>?_;simp only[sxZ,z6,z7,z8,j4,j5,j6,j7,j8,j9,x3,x4,x5,x6,x7,x8,reduceCtorEq,↓reduceIte,za,f0,hlen,t1,t2,t3];subst hW;rw[zaO];refine zaF (fun n o tm=>∃i:Nat,i<=d.mts.length/\n=d.mts.length - i/\o[0]? = some (OB.box 34 [.s d.id,.row d.also.length (d.also.map .s),.row d.ctl.length (d.ctl.map .s),.row d.mts.length (zce d.mts),.row d.svs.length (zb2 d.svs)])/\o[1]? = some (OB.box 25 [.i .i64 0,.s [],.nil,.nil])/\o[2]? = some (.box 25 [.i .i64 7,.s [],A3,B3])/\(∃X,o[3]? = some (.box 25 [.i .i64 6,.s [],.nil,X])/\zlc 4 ((d.mts.take i).map enM) o X)/\tm.length=101/\tm[1]? = some (.p 0 0)/\tm[2]? = some (.p 1 0)/\tm[3]? = some (.p 2 0)/\tm[4]? = some (.p 3 0)/\tm[34]? = some (.row d.mts.length (zce d.mts))/\tm[35]? = some (.i .i64 (d.mts.length:Int))/\tm[36]? = some (.i .i64 (i:Int))) d.mts.length ?_ ?_
 ·refine⟨0,Nat.zero_le _,rfl,f0,f1,f2,⟨.nil,f3,.inl ⟨rfl,rfl⟩⟩,?_⟩;simp only[sxZ,z6,z7,z8,j4,j5,j6,j7,j8,j9,x3,x4,x5,x6,x7,x8,reduceCtorEq,↓reduceIte,zi,za,hlen,t1,t2,t3,y6,and_self]
 clear f0 f1 f2 f3 hlen t1 t2 t3 tm;rintro n o tm ⟨i,hi,rfl,f0,f1,f2,⟨X,f3,hA⟩,hlen,t1,t2,t3,t4,tr,tn,ti⟩;have hol:=(zf.1 f3).1;refine zaa fun W hW=>?_
 by_cases hlt:(i:Int)<(d.mts.length:Int)
 ·have hi':i<d.mts.length:=by omega
  have kv:=mt_at hi';have hm:=trivial;have htk:(d.mts.take (i+1)).map enM=(d.mts.take i).map enM++[enM d.mts[i]]:=by rw[xo,zl hi',qy];rfl
  have hfl:((d.mts.take i).map enM).length=i:=by rw[qg,qh];omega
  generalize d.mts[i]=y at kv hm htk;generalize (d.mts.take i).map enM=acc at hA htk hfl;have hl4:=zav acc;have elk:mtc y=[.s y.id,.s y.typ,.s y.ctl]:=rfl;rw[elk] at kv;simp only[sxZ,z6,z7,z8,j4,j5,j6,j7,j8,j9,x3,x4,x5,x6,x7,x8,reduceCtorEq,↓reduceIte,za,hlen,tr,tn,ti,hlt];subst hW;refine zaa fun W hW=>?_;simp only[sxZ,z6,z7,z8,j4,j5,j6,j7,j8,j9,x3,x4,x5,x6,x7,x8,reduceCtorEq,↓reduceIte,za,hlen];subst hW;refine zaa fun U hU=>?_;rw[zaO];refine zaa fun W hW=>?_;simp only[sxZ,z6,z7,z8,j4,j5,j6,j7,j8,j9,x3,x4,x5,x6,x7,x8,reduceCtorEq,↓reduceIte,za,hlen,tr,ti,kv];refine⟨⟨by omega,by omega,by omega⟩,by omega,?_⟩;simp only[sxZ,z6,z7,z8,j4,j5,j6,j7,j8,j9,x3,x4,x5,x6,x7,x8,reduceCtorEq,↓reduceIte,za,hlen,gn1,sn1];subst hW;have hA1:=hA.mono (.box 48 [.s y.id,.s y.typ,.s y.ctl]);have fy:(o++[OB.box 48 [.s y.id,.s y.typ,.s y.ctl]])[o.length]? = some (.box 48 [.s y.id,.s y.typ,.s y.ctl]):=gn1 _ _;have g0:=zbg f0 (OB.box 48 [.s y.id,.s y.typ,.s y.ctl]);have g1:=zbg f1 (OB.box 48 [.s y.id,.s y.typ,.s y.ctl]);have g2:=zbg f2 (OB.box 48 [.s y.id,.s y.typ,.s y.ctl]);have g3:=zbg f3 (OB.box 48 [.s y.id,.s y.typ,.s y.ctl]);have hln:(o++[OB.box 48 [.s y.id,.s y.typ,.s y.ctl]]).length=o.length+1:=by simp
  generalize o++[OB.box 48 [.s y.id,.s y.typ,.s y.ctl]]=o7 at hA1 fy g0 g1 g2 g3 hln ⊢;have ho7:3<o7.length:=by omega
  simp only[sxZ,z6,z7,z8,j4,j5,j6,j7,j8,j9,x3,x4,x5,x6,x7,x8,reduceCtorEq,↓reduceIte,za,hlen,t4,g3];refine za5 (zg3 ⟨rfl,rfl⟩) ?_;simp only[sxZ,z6,z7,z8,j4,j5,j6,j7,j8,j9,x3,x4,x5,x6,x7,x8,reduceCtorEq,↓reduceIte,za,hlen,fy];refine za5 (zlv y.id ⟨rfl,rfl⟩) ?_;simp only[sxZ,z6,z7,z8,j4,j5,j6,j7,j8,j9,x3,x4,x5,x6,x7,x8,reduceCtorEq,↓reduceIte,za,hlen,fy];refine za5 (v:=.agg (zae (.mk 7 [] [kId] [jtx y.id]))) (zfj (show ObX 7 [] [] [] [.i .i64 7,.s [],.nil,.nil] from .inr ⟨rfl,rfl,rfl⟩) kId (jtx y.id) (by simp) (by simp) ⟨rfl,rfl⟩) ?_;simp only[sxZ,z6,z7,z8,j4,j5,j6,j7,j8,j9,x3,x4,x5,x6,x7,x8,reduceCtorEq,↓reduceIte,za,hlen,fy];refine za5 (zlv y.typ ⟨rfl,rfl⟩) ?_;simp only[sxZ,z6,z7,z8,j4,j5,j6,j7,j8,j9,x3,x4,x5,x6,x7,x8,reduceCtorEq,↓reduceIte,za,hlen,fy];refine za5 (v:=.agg (zae (.mk 7 [] [kId,zbF] [jtx y.id,jtx y.typ]))) (zfj (.inl rfl) zbF (jtx y.typ) (by simp) (by simp) ⟨rfl,rfl⟩) ?_;simp only[sxZ,z6,z7,z8,j4,j5,j6,j7,j8,j9,x3,x4,x5,x6,x7,x8,reduceCtorEq,↓reduceIte,za,hlen,fy];refine za5 (zlv y.ctl ⟨rfl,rfl⟩) ?_;simp only[sxZ,z6,z7,z8,j4,j5,j6,j7,j8,j9,x3,x4,x5,x6,x7,x8,reduceCtorEq,↓reduceIte,za,hlen,fy];refine za5 (v:=.agg (zae (.mk 7 [] [kId,zbF,zbQ] [jtx y.id,jtx y.typ,jtx y.ctl]))) (zfj (.inl rfl) zbQ (jtx y.ctl) (by simp) (by simp) ⟨rfl,rfl⟩) ?_;obtain⟨w0,w1,w2,w3,hw⟩:∃w0 w1 w2 w3,zae (enM y)=[w0,w1,w2,w3]:=⟨_,_,_,_,zaf _⟩;rw[show zae (.mk 7 [] [kId,zbF,zbQ] [jtx y.id,jtx y.typ,jtx y.ctl])=[w0,w1,w2,w3] from hw];rcases hA1 with ⟨h0,rfl⟩|⟨r,g,rfl,hr0,hr⟩
  ·have m3':∀z,(o7++[z])[3]? = some (.box 25 [.i .i64 6,.s [],.nil,.nil]):=fun z=>by rw[zj ho7];exact g3
   simp only[sxZ,z6,z7,z8,j4,j5,j6,j7,j8,j9,x3,x4,x5,x6,x7,x8,reduceCtorEq,↓reduceIte,za,hlen,t4,g3,m3'];subst hU;simp only[sxZ,z6,z7,z8,j4,j5,j6,j7,j8,j9,x3,x4,x5,x6,x7,x8,reduceCtorEq,↓reduceIte,za,hlen,t1,t2,t3,t4,tr,tn,ti];refine⟨by omega,d.mts.length - (i+1),by omega,i+1,by omega,rfl,by rw[zj (by omega)];exact g0,by rw[zj (by omega)];exact g1,by rw[zj (by omega)];exact g2,⟨.orow o7.length 0,by rw[if_pos (by omega)],?_⟩,rfl⟩;rw[htk,h0];refine .inr ⟨o7.length,0,rfl,by omega,?_⟩;rw[ze (by omega),gn1,zy,zao,zak,hw];rfl
  ·have hrl:=(zf.1 hr).1;have hne:¬r=3:=by omega
   simp only[sxZ,z6,z7,z8,j4,j5,j6,j7,j8,j9,x3,x4,x5,x6,x7,x8,reduceCtorEq,↓reduceIte,za,hlen,t4,g3,hr,hne];refine⟨⟨by omega,by omega⟩,?_⟩;subst hU;simp only[sxZ,z6,z7,z8,j4,j5,j6,j7,j8,j9,x3,x4,x5,x6,x7,x8,reduceCtorEq,↓reduceIte,za,hlen,t1,t2,t3,t4,tr,tn,ti];refine⟨by omega,d.mts.length - (i+1),by omega,i+1,by omega,rfl,?_,?_,?_,⟨.orow r (g+1),?_,?_⟩,rfl⟩
   ·rw[if_neg (by omega)];exact g0
   ·rw[if_neg (by omega)];exact g1
   ·rw[if_neg (by omega)];exact g2
   ·rw[if_pos ho7]
   ·rw[htk];refine .inr ⟨r,g+1,rfl,hr0,?_⟩;rw[ze (by omega),zk hrl,zp,za4,zao,zak,hw];rfl
 have hn':i=d.mts.length:=by omega
 rw[hn',jh (zd _)] at hA;simp only[sxZ,z6,z7,z8,j4,j5,j6,j7,j8,j9,x3,x4,x5,x6,x7,x8,reduceCtorEq,↓reduceIte,za,hlen,tr,tn,ti,hlt];subst hW;simp only[sxZ,z6,z7,z8,j4,j5,j6,j7,j8,j9,x3,x4,x5,x6,x7,x8,reduceCtorEq,↓reduceIte,za,hlen];subst hZ;refine zaa fun Z hZ=>?_;refine zaz (fun o tm=>∃A B c0 c1 c2 c3,o[0]? = some (OB.box 34 [.s d.id,.row d.also.length (d.also.map .s),.row d.ctl.length (d.ctl.map .s),.row d.mts.length (zce d.mts),.row d.svs.length (zb2 d.svs)])/\o[1]? = some (OB.box 25 [.i .i64 0,.s [],.nil,.nil])/\o[2]? = some (OB.box 25 [.i .i64 7,.s [],A,B])/\o[3]? = some (OB.box 25 [c0,c1,c2,c3])/\ObX 7 [] (deK d) (deI d) [.i .i64 7,.s [],A,B]/\tm.length=101/\tm[1]? = some (.p 0 0)/\tm[2]? = some (.p 1 0)/\tm[3]? = some (.p 2 0)/\tm[4]? = some (.p 3 0)) ?_ ?_
 ·have hsm:=zge zdi (jar (d.mts.map enM)) hX3;unfold smX at hsm
  by_cases hn:d.mts=[]
  ·have hz0:((0:Int)<((d.mts.map enM).length:Int))=False:=by rw[hn];simp
   have hz1:((0:Int)<0)=False:=by simp
   rw[if_neg (by rw[hn];decide)] at hsm;rcases hA with ⟨h0,rfl⟩|⟨r,g,rfl,hr0,hr⟩
   ·simp only[sxZ,z6,z7,z8,j4,j5,j6,j7,j8,j9,x3,x4,x5,x6,x7,x8,reduceCtorEq,↓reduceIte,za,hlen,t1,t2,t3,t4,f3,hz1,decide_false,zab];exact⟨A3,B3,_,_,_,_,f0,f1,f2,rfl,hsm⟩
   ·simp only[sxZ,z6,z7,z8,j4,j5,j6,j7,j8,j9,x3,x4,x5,x6,x7,x8,reduceCtorEq,↓reduceIte,za,hlen,t1,t2,t3,t4,f3,hr,hz0,decide_false,zab];exact⟨A3,B3,_,_,_,_,f0,f1,f2,rfl,hsm⟩
  ·have hpos:0<d.mts.length:=jr.2 hn;have hz:((0:Int)<((d.mts.map enM).length:Int))=True:=by rw[qg];simp;omega
   rw[if_pos (by unfold zdR;show (_||decide (0<(d.mts.map enM).length))=true;rw[qg,decide_eq_true hpos,Bool.or_true])] at hsm;rcases hA with ⟨h0,_⟩|⟨r,g,rfl,hr0,hr⟩
   ·exact absurd (List.map_eq_nil_iff.1 h0) hn
   simp only[sxZ,z6,z7,z8,j4,j5,j6,j7,j8,j9,x3,x4,x5,x6,x7,x8,reduceCtorEq,↓reduceIte,za,hlen,t1,t2,t3,t4,f2,f3,hr,hz,decide_true];refine zai (zf1 (b:=r) hr ?_);simp only[zlk,zo,zr,zcC pA3,zcC pB3];simp only[zbc,and_self,if_true];refine ziA rfl rfl (zfj hX3 zdi (jar (d.mts.map enM)) (by omega) (by omega) ?_);have g0:=zbp (g:=g) (n:=(d.mts.map enM).length) (xs:=zac (d.mts.map enM)) f0 hpD (show 0≠r by omega);have g1:=zbp (g:=g) (n:=(d.mts.map enM).length) (xs:=zac (d.mts.map enM)) f1 rfl (show 1≠r by omega);have g2:=zbp (g:=g) (n:=(d.mts.map enM).length) (xs:=zac (d.mts.map enM)) f2 (show zal _=true by simp only[zal,AV.plain,pA3,pB3,Bool.and_self]) (show 2≠r by omega);have g3:(zc9 o r g (d.mts.map enM).length (zac (d.mts.map enM)))[3]? = some (OB.box 25 [.i .i64 6,.s [],.nil,.row (d.mts.map enM).length (zac (d.mts.map enM))]):=by
    unfold zc9;rw[ze (by omega),qm,f3,ja];simp only[zf6,zbc,zo,zr,and_self,if_true]
   have hl1:3<(zc9 o r g (d.mts.map enM).length (zac (d.mts.map enM))).length:=by rw[zcp];omega
   generalize zc9 o r g (d.mts.map enM).length (zac (d.mts.map enM))=o5 at g0 g1 g2 g3 hl1 ⊢;rw[zjc] at hsm ⊢;rw[zp,zp] at hsm;have hl2:2<o5.length:=by omega
   simp only[sxZ,z6,z7,z8,j4,j5,j6,j7,j8,j9,x3,x4,x5,x6,x7,x8,reduceCtorEq,↓reduceIte,za,hlen,t1,t2,t3,t4,g0,g1,g2,g3,hl1,hl2,zab];exact⟨_,_,_,_,_,_,rfl,rfl,hsm⟩
 clear hA hlen t1 t2 t3 t4 tr tn ti f0 f1 f2 f3 hol hlt tm;rintro o6 tm ⟨A4,B4,c0,c1,c2,c3,f0,f1,f2,f3,hX4,hlen,t1,t2,t3,t4⟩;have b6:(deK d).length<=4:=qp (zcv _ _ _) (by show (deK1 d).length+1<=4;omega);have d6:(deI d).length<=4:=qp (zcw _ _) (by show (deI1 d).length+1<=4;omega);obtain⟨_,_,e2,pA4,pB4,qA4,qB4⟩:=hX4.sh;injection e2 with _ e2
 injection e2 with _ e2
 injection e2 with ea e2
 injection e2 with eb e2
 subst ea eb;clear e2;have hl3:=(zf.1 f3).1;subst hZ;refine zaa fun Z hZ=>?_;simp only[sxZ,z6,z7,z8,j4,j5,j6,j7,j8,j9,x3,x4,x5,x6,x7,x8,reduceCtorEq,↓reduceIte,za,hlen,t1,t2,t3,t4,f3];have f0:(o6.set 3 (OB.box 25 [.i .i64 6,.s [],.nil,.nil]))[0]? = _:=zg0 f0 (by decide) _;have f1:(o6.set 3 (OB.box 25 [.i .i64 6,.s [],.nil,.nil]))[1]? = _:=zg0 f1 (by decide) _;have f2:(o6.set 3 (OB.box 25 [.i .i64 6,.s [],.nil,.nil]))[2]? = _:=zg0 f2 (by decide) _;have f3:(o6.set 3 (OB.box 25 [.i .i64 6,.s [],.nil,.nil]))[3]? = _:=zk hl3;generalize o6.set 3 (OB.box 25 [.i .i64 6,.s [],.nil,.nil])=o3 at f0 f1 f2 f3 ⊢;subst hZ;refine zaa fun Z hZ=>?_;refine zaa fun W hW=>?_;simp only[sxZ,z6,z7,z8,j4,j5,j6,j7,j8,j9,x3,x4,x5,x6,x7,x8,reduceCtorEq,↓reduceIte,za,f0,hlen,t1,t2,t3,t4];subst hW;rw[zaO];refine zaF (fun n o tm=>∃i:Nat,i<=d.svs.length/\n=d.svs.length - i/\o[0]? = some (OB.box 34 [.s d.id,.row d.also.length (d.also.map .s),.row d.ctl.length (d.ctl.map .s),.row d.mts.length (zce d.mts),.row d.svs.length (zb2 d.svs)])/\o[1]? = some (OB.box 25 [.i .i64 0,.s [],.nil,.nil])/\o[2]? = some (.box 25 [.i .i64 7,.s [],A4,B4])/\(∃X,o[3]? = some (.box 25 [.i .i64 6,.s [],.nil,X])/\zlc 4 ((d.svs.take i).map enV) o X)/\tm.length=101/\tm[1]? = some (.p 0 0)/\tm[2]? = some (.p 1 0)/\tm[3]? = some (.p 2 0)/\tm[4]? = some (.p 3 0)/\tm[68]? = some (.row d.svs.length (zb2 d.svs))/\tm[69]? = some (.i .i64 (d.svs.length:Int))/\tm[70]? = some (.i .i64 (i:Int))) d.svs.length ?_ ?_
 ·refine⟨0,Nat.zero_le _,rfl,f0,f1,f2,⟨.nil,f3,.inl ⟨rfl,rfl⟩⟩,?_⟩;simp only[sxZ,z6,z7,z8,j4,j5,j6,j7,j8,j9,x3,x4,x5,x6,x7,x8,reduceCtorEq,↓reduceIte,zi,za,hlen,t1,t2,t3,t4,y6,and_self]
 clear f0 f1 f2 f3 hlen t1 t2 t3 t4 tm;rintro n o tm ⟨i,hi,rfl,f0,f1,f2,⟨X,f3,hA⟩,hlen,t1,t2,t3,t4,tr,tn,ti⟩;have hol:=(zf.1 f3).1;refine zaa fun W hW=>?_
 by_cases hlt:(i:Int)<(d.svs.length:Int)
 ·have hi':i<d.svs.length:=by omega
  have kv:=sv_at hi';have hm:=h5 _ (List.getElem_mem hi');have htk:(d.svs.take (i+1)).map enV=(d.svs.take i).map enV++[enV d.svs[i]]:=by rw[xo,zl hi',qy];rfl
  have hfl:((d.svs.take i).map enV).length=i:=by rw[qg,qh];omega
  generalize d.svs[i]=y at kv hm htk;generalize (d.svs.take i).map enV=acc at hA htk hfl;have hl4:=zav acc;have elk:svc y=[.s y.id,.row y.typ.length (y.typ.map .s),.row y.eps.length (y.eps.map .s)]:=rfl;rw[elk] at kv;simp only[sxZ,z6,z7,z8,j4,j5,j6,j7,j8,j9,x3,x4,x5,x6,x7,x8,reduceCtorEq,↓reduceIte,za,hlen,tr,tn,ti,hlt];subst hW;refine zaa fun W hW=>?_;simp only[sxZ,z6,z7,z8,j4,j5,j6,j7,j8,j9,x3,x4,x5,x6,x7,x8,reduceCtorEq,↓reduceIte,za,hlen];subst hW;refine zaa fun U hU=>?_;rw[zaO];refine zaa fun W hW=>?_;simp only[sxZ,z6,z7,z8,j4,j5,j6,j7,j8,j9,x3,x4,x5,x6,x7,x8,reduceCtorEq,↓reduceIte,za,hlen,tr,ti,kv];refine⟨⟨by omega,by omega,by omega⟩,by omega,?_⟩;simp only[sxZ,z6,z7,z8,j4,j5,j6,j7,j8,j9,x3,x4,x5,x6,x7,x8,reduceCtorEq,↓reduceIte,za,hlen,gn1,sn1];subst hW;have hA1:=hA.mono (.box 46 [.s y.id,.row y.typ.length (y.typ.map .s),.row y.eps.length (y.eps.map .s)]);have fy:(o++[OB.box 46 [.s y.id,.row y.typ.length (y.typ.map .s),.row y.eps.length (y.eps.map .s)]])[o.length]? = some (.box 46 [.s y.id,.row y.typ.length (y.typ.map .s),.row y.eps.length (y.eps.map .s)]):=gn1 _ _;have g0:=zbg f0 (OB.box 46 [.s y.id,.row y.typ.length (y.typ.map .s),.row y.eps.length (y.eps.map .s)]);have g1:=zbg f1 (OB.box 46 [.s y.id,.row y.typ.length (y.typ.map .s),.row y.eps.length (y.eps.map .s)]);have g2:=zbg f2 (OB.box 46 [.s y.id,.row y.typ.length (y.typ.map .s),.row y.eps.length (y.eps.map .s)]);have g3:=zbg f3 (OB.box 46 [.s y.id,.row y.typ.length (y.typ.map .s),.row y.eps.length (y.eps.map .s)]);have hln:(o++[OB.box 46 [.s y.id,.row y.typ.length (y.typ.map .s),.row y.eps.length (y.eps.map .s)]]).length=o.length+1:=by simp
  generalize o++[OB.box 46 [.s y.id,.row y.typ.length (y.typ.map .s),.row y.eps.length (y.eps.map .s)]]=o7 at hA1 fy g0 g1 g2 g3 hln ⊢;have ho7:3<o7.length:=by omega
  simp only[sxZ,z6,z7,z8,j4,j5,j6,j7,j8,j9,x3,x4,x5,x6,x7,x8,reduceCtorEq,↓reduceIte,za,hlen,t4,g3];refine za5 (zg3 ⟨rfl,rfl⟩) ?_;simp only[sxZ,z6,z7,z8,j4,j5,j6,j7,j8,j9,x3,x4,x5,x6,x7,x8,reduceCtorEq,↓reduceIte,za,hlen,fy];refine za5 (zlv y.id ⟨rfl,rfl⟩) ?_;simp only[sxZ,z6,z7,z8,j4,j5,j6,j7,j8,j9,x3,x4,x5,x6,x7,x8,reduceCtorEq,↓reduceIte,za,hlen,fy];refine za5 (v:=.agg (zae (.mk 7 [] [kId] [jtx y.id]))) (zfj (show ObX 7 [] [] [] [.i .i64 7,.s [],.nil,.nil] from .inr ⟨rfl,rfl,rfl⟩) kId (jtx y.id) (by simp) (by simp) ⟨rfl,rfl⟩) ?_;simp only[sxZ,z6,z7,z8,j4,j5,j6,j7,j8,j9,x3,x4,x5,x6,x7,x8,reduceCtorEq,↓reduceIte,za,hlen,fy];refine za5 (rAr_k y.typ hm.1 ⟨rfl,rfl⟩) ?_;simp only[sxZ,z6,z7,z8,j4,j5,j6,j7,j8,j9,x3,x4,x5,x6,x7,x8,reduceCtorEq,↓reduceIte,za,hlen,fy];refine za5 (v:=.agg (zae (.mk 7 [] [kId,zbF] [jtx y.id,jar (y.typ.map jtx)]))) (zfj (.inl rfl) zbF (jar (y.typ.map jtx)) (by simp) (by simp) ⟨rfl,rfl⟩) ?_;simp only[sxZ,z6,z7,z8,j4,j5,j6,j7,j8,j9,x3,x4,x5,x6,x7,x8,reduceCtorEq,↓reduceIte,za,hlen,fy];refine za5 (rAr_k y.eps hm.2 ⟨rfl,rfl⟩) ?_;simp only[sxZ,z6,z7,z8,j4,j5,j6,j7,j8,j9,x3,x4,x5,x6,x7,x8,reduceCtorEq,↓reduceIte,za,hlen,fy];refine za5 (v:=.agg (zae (.mk 7 [] [kId,zbF,zdE] [jtx y.id,jar (y.typ.map jtx),jar (y.eps.map jtx)]))) (zfj (.inl rfl) zdE (jar (y.eps.map jtx)) (by simp) (by simp) ⟨rfl,rfl⟩) ?_;obtain⟨w0,w1,w2,w3,hw⟩:∃w0 w1 w2 w3,zae (enV y)=[w0,w1,w2,w3]:=⟨_,_,_,_,zaf _⟩;rw[show zae (.mk 7 [] [kId,zbF,zdE] [jtx y.id,jar (y.typ.map jtx),jar (y.eps.map jtx)])=[w0,w1,w2,w3] from hw];rcases hA1 with ⟨h0,rfl⟩|⟨r,g,rfl,hr0,hr⟩
  ·have m3':∀z,(o7++[z])[3]? = some (.box 25 [.i .i64 6,.s [],.nil,.nil]):=fun z=>by rw[zj ho7];exact g3
   simp only[sxZ,z6,z7,z8,j4,j5,j6,j7,j8,j9,x3,x4,x5,x6,x7,x8,reduceCtorEq,↓reduceIte,za,hlen,t4,g3,m3'];subst hU;simp only[sxZ,z6,z7,z8,j4,j5,j6,j7,j8,j9,x3,x4,x5,x6,x7,x8,reduceCtorEq,↓reduceIte,za,hlen,t1,t2,t3,t4,tr,tn,ti];refine⟨by omega,d.svs.length - (i+1),by omega,i+1,by omega,rfl,by rw[zj (by omega)];exact g0,by rw[zj (by omega)];exact g1,by rw[zj (by omega)];exact g2,⟨.orow o7.length 0,by rw[if_pos (by omega)],?_⟩,rfl⟩;rw[htk,h0];refine .inr ⟨o7.length,0,rfl,by omega,?_⟩;rw[ze (by omega),gn1,zy,zao,zak,hw];rfl
  ·have hrl:=(zf.1 hr).1;have hne:¬r=3:=by omega
   simp only[sxZ,z6,z7,z8,j4,j5,j6,j7,j8,j9,x3,x4,x5,x6,x7,x8,reduceCtorEq,↓reduceIte,za,hlen,t4,g3,hr,hne];refine⟨⟨by omega,by omega⟩,?_⟩;subst hU;simp only[sxZ,z6,z7,z8,j4,j5,j6,j7,j8,j9,x3,x4,x5,x6,x7,x8,reduceCtorEq,↓reduceIte,za,hlen,t1,t2,t3,t4,tr,tn,ti];refine⟨by omega,d.svs.length - (i+1),by omega,i+1,by omega,rfl,?_,?_,?_,⟨.orow r (g+1),?_,?_⟩,rfl⟩
   ·rw[if_neg (by omega)];exact g0
   ·rw[if_neg (by omega)];exact g1
   ·rw[if_neg (by omega)];exact g2
   ·rw[if_pos ho7]
   ·rw[htk];refine .inr ⟨r,g+1,rfl,hr0,?_⟩;rw[ze (by omega),zk hrl,zp,za4,zao,zak,hw];rfl
 have hn':i=d.svs.length:=by omega
 rw[hn',jh (zd _)] at hA;simp only[sxZ,z6,z7,z8,j4,j5,j6,j7,j8,j9,x3,x4,x5,x6,x7,x8,reduceCtorEq,↓reduceIte,za,hlen,tr,tn,ti,hlt];subst hW;simp only[sxZ,z6,z7,z8,j4,j5,j6,j7,j8,j9,x3,x4,x5,x6,x7,x8,reduceCtorEq,↓reduceIte,za,hlen];subst hZ;refine zaa fun Z hZ=>?_;refine zaz (fun o tm=>∃A B c0 c1 c2 c3,o[0]? = some (OB.box 34 [.s d.id,.row d.also.length (d.also.map .s),.row d.ctl.length (d.ctl.map .s),.row d.mts.length (zce d.mts),.row d.svs.length (zb2 d.svs)])/\o[1]? = some (OB.box 25 [.i .i64 0,.s [],.nil,.nil])/\o[2]? = some (OB.box 25 [.i .i64 7,.s [],A,B])/\o[3]? = some (OB.box 25 [c0,c1,c2,c3])/\ObX 7 [] (zgL (deK d) zcf (jar (d.svs.map enV))) (zgM (deI d) (jar (d.svs.map enV))) [.i .i64 7,.s [],A,B]/\tm.length=101/\tm[1]? = some (.p 0 0)/\tm[2]? = some (.p 1 0)/\tm[3]? = some (.p 2 0)/\tm[4]? = some (.p 3 0)) ?_ ?_
 ·have hsm:=zge zcf (jar (d.svs.map enV)) hX4;unfold smX at hsm
  by_cases hn:d.svs=[]
  ·have hz0:((0:Int)<((d.svs.map enV).length:Int))=False:=by rw[hn];simp
   have hz1:((0:Int)<0)=False:=by simp
   rw[if_neg (by rw[hn];decide)] at hsm;rcases hA with ⟨h0,rfl⟩|⟨r,g,rfl,hr0,hr⟩
   ·simp only[sxZ,z6,z7,z8,j4,j5,j6,j7,j8,j9,x3,x4,x5,x6,x7,x8,reduceCtorEq,↓reduceIte,za,hlen,t1,t2,t3,t4,f3,hz1,decide_false,zab];exact⟨A4,B4,_,_,_,_,f0,f1,f2,rfl,hsm⟩
   ·simp only[sxZ,z6,z7,z8,j4,j5,j6,j7,j8,j9,x3,x4,x5,x6,x7,x8,reduceCtorEq,↓reduceIte,za,hlen,t1,t2,t3,t4,f3,hr,hz0,decide_false,zab];exact⟨A4,B4,_,_,_,_,f0,f1,f2,rfl,hsm⟩
  ·have hpos:0<d.svs.length:=jr.2 hn;have hz:((0:Int)<((d.svs.map enV).length:Int))=True:=by rw[qg];simp;omega
   rw[if_pos (by unfold zdR;show (_||decide (0<(d.svs.map enV).length))=true;rw[qg,decide_eq_true hpos,Bool.or_true])] at hsm;rcases hA with ⟨h0,_⟩|⟨r,g,rfl,hr0,hr⟩
   ·exact absurd (List.map_eq_nil_iff.1 h0) hn
   simp only[sxZ,z6,z7,z8,j4,j5,j6,j7,j8,j9,x3,x4,x5,x6,x7,x8,reduceCtorEq,↓reduceIte,za,hlen,t1,t2,t3,t4,f2,f3,hr,hz,decide_true];refine zai (zf1 (b:=r) hr ?_);simp only[zlk,zo,zr,zcC pA4,zcC pB4];simp only[zbc,and_self,if_true];refine ziA rfl rfl (zfj hX4 zcf (jar (d.svs.map enV)) (by omega) (by omega) ?_);have g0:=zbp (g:=g) (n:=(d.svs.map enV).length) (xs:=zac (d.svs.map enV)) f0 hpD (show 0≠r by omega);have g1:=zbp (g:=g) (n:=(d.svs.map enV).length) (xs:=zac (d.svs.map enV)) f1 rfl (show 1≠r by omega);have g2:=zbp (g:=g) (n:=(d.svs.map enV).length) (xs:=zac (d.svs.map enV)) f2 (show zal _=true by simp only[zal,AV.plain,pA4,pB4,Bool.and_self]) (show 2≠r by omega);have g3:(zc9 o r g (d.svs.map enV).length (zac (d.svs.map enV)))[3]? = some (OB.box 25 [.i .i64 6,.s [],.nil,.row (d.svs.map enV).length (zac (d.svs.map enV))]):=by
    unfold zc9;rw[ze (by omega),qm,f3,ja];simp only[zf6,zbc,zo,zr,and_self,if_true]
   have hl1:3<(zc9 o r g (d.svs.map enV).length (zac (d.svs.map enV))).length:=by rw[zcp];omega
   generalize zc9 o r g (d.svs.map enV).length (zac (d.svs.map enV))=o5 at g0 g1 g2 g3 hl1 ⊢;rw[zjc] at hsm ⊢;rw[zp,zp] at hsm;have hl2:2<o5.length:=by omega
   simp only[sxZ,z6,z7,z8,j4,j5,j6,j7,j8,j9,x3,x4,x5,x6,x7,x8,reduceCtorEq,↓reduceIte,za,hlen,t1,t2,t3,t4,g0,g1,g2,g3,hl1,hl2,zab];exact⟨_,_,_,_,_,_,rfl,rfl,hsm⟩
 clear hA hlen t1 t2 t3 t4 tr tn ti f0 f1 f2 f3 hol hlt tm;rintro o6 tm ⟨A5,B5,c0,c1,c2,c3,f0,f1,f2,f3,hX5,hlen,t1,t2,t3,t4⟩;obtain⟨_,_,e2,pA5,pB5,qA5,qB5⟩:=hX5.sh;injection e2 with _ e2
 injection e2 with _ e2
 injection e2 with ea e2
 injection e2 with eb e2
 subst ea eb;clear e2;have hl1:=(zf.1 f1).1;subst hZ;simp only[sxZ,z6,z7,z8,j4,j5,j6,j7,j8,j9,x3,x4,x5,x6,x7,x8,reduceCtorEq,↓reduceIte,za,hlen,t1,t2,t3,t4,f1,f2,hl1,qA5,qB5];refine⟨fun G I y h=>?_,hk⟩;unfold enD;rcases hX5 with h5|⟨e1,e2,h5⟩
 ·rw[h5] at h;exact h
 ·rw[h5] at h;rw[e1,e2];exact zeE h
end
end
section
attribute [local irreducible] run
def TsB (l:List (List UInt8)):Prop:=l.length<=1048576/\∀a∈l,a.length<=140737488351232
structure MtB (x:MtP):Prop where
 id:x.id.length<=140737488351232
 typ:x.typ.length<=140737488351232
 ctl:x.ctl.length<=140737488351232
structure SvB (x:SvP):Prop where
 id:x.id.length<=140737488351232
 typ:TsB x.typ
 eps:TsB x.eps
structure DocB (d:DoP):Prop where
 id:d.id.length<=140737488351232
 also:TsB d.also
 ctl:TsB d.ctl
 mtn:d.mts.length<=1000000
 mtb:∀x∈d.mts,MtB x
 svn:d.svs.length<=1000000
 svb:∀x∈d.svs,SvB x
theorem ts_ok {l:List (List UInt8)} (h:TsB l):JOk (jar (l.map jtx))/\JBd (jar (l.map jtx)) :=
 znZ (by rw[qg];exact h.1) fun y hy=>by obtain⟨a,ha,rfl⟩:=jd.1 hy;exact zgw (h.2 a ha)
theorem enM_ok {x:MtP} (h:MtB x):JOk (enM x)/\JBd (enM x):=by
 unfold enM;exact((ObF.nil.snoc (key:=kId) (by decide) (zgw h.id)).snoc (key:=zbF) (by decide) (zgw h.typ)).snoc (key:=zbQ) (by decide) (zgw h.ctl) |>.val (by decide)
theorem enV_ok {x:SvP} (h:SvB x):JOk (enV x)/\JBd (enV x):=by
 unfold enV;exact((ObF.nil.snoc (key:=kId) (by decide) (zgw h.id)).snoc (key:=zbF) (by decide) (ts_ok h.typ)).snoc (key:=zdE) (by decide) (ts_ok h.eps) |>.val (by decide)
theorem enD_ok {d:DoP} (h:DocB d):JOk (enD d)/\JBd (enD d):=by
 have h1:=h.mtn;have h2:=h.svn;unfold enD deK deI;exact((((ObF.nil.snoc (key:=kId) (by decide) (zgw h.id)).add (key:=zcY) (by decide) (ts_ok h.also)).add (key:=zbQ) (by decide) (ts_ok h.ctl)).add (key:=zdi) (by decide) (znZ (by rw[qg];omega) fun y hy=>by obtain⟨x,hx,rfl⟩:=jd.1 hy;exact enM_ok (h.mtb x hx))).add (key:=zcf) (by decide) (znZ (by rw[qg];omega) fun y hy=>by obtain⟨x,hx,rfl⟩:=jd.1 hy;exact enV_ok (h.svb x hx)) |>.val (by decide)
/-! bounds of what was read -/
theorem zod {u:DidU} (h:ShD u):(zhk u).length<=200000:=by
 obtain⟨h1,h2,h3,h4,h5⟩:=h;unfold zhk;rw[zp,zp,zp,zfc];have z1:((if u.hq=true then [63]++u.query else []):List UInt8).length<=u.query.length+1:=by
  split<;>simp
 have z2:((if u.hf=true then [35]++u.frag else []):List UInt8).length<=u.frag.length+1:=by
  split<;>simp
 omega
theorem IdF.len {m i id:List UInt8} (h:IdF m i id):id.length<=200000:=by
 have:=zod (zhX m i id);rw[h.2] at this;exact this
end
section
variable [Tabs Tryz.prog] {objs:List OB} {K:List OB->AV->Prop}
end
section
variable [Tabs Tryz.prog] {objs:List OB} {K:List OB->AV->Prop}
end
section
variable [Tabs Tryz.prog] {objs:List OB} {K:List OB->AV->Prop}
end
theorem zgA {α:Type} {l:List α} {b:Nat} {x:α} (h:l[b]? = some x):b<l.length:=by
 rcases Nat.lt_or_ge b l.length with h0|h0
 ·exact h0
 ·rw[List.getElem?_eq_none h0] at h;cases h
section
variable [Tabs Tryz.prog] {objs:List OB} {K:List OB->AV->Prop}
end
def zlU (objs:List OB) (b:Nat) (T:TypeId) (l:List UInt8):Prop :=
 (objs[b]? = some (.box T [.o (.pointer none),.nil])/\l=[])\/∃r gen,objs[b]? = some (.box T [.p b 0,.orow r gen])/\objs[r]? = some (.orow 5 1 gen l.length (byA l))
def zhR (objs:List OB) (b:Nat):Option Nat :=
 match objs[b]? with
 | some (.box _ [_,.orow r _])=>some r
 | _=>none
def Kept (objs:List OB) (b:Nat) (objs':List OB):Prop:=objs.length<=objs'.length/\(∀(j:Nat) ob,objs[j]? = some ob->j≠b->zhR objs b≠some j->objs'[j]? = some ob/\zhR objs' b≠some j)
theorem Kept.refl (objs:List OB) (b:Nat):Kept objs b objs:=⟨zd _,fun j ob h _ h2=>⟨h,h2⟩⟩
theorem Kept.trans {o1 o2 o3:List OB} {b:Nat} (h:Kept o1 b o2) (k:Kept o2 b o3):Kept o1 b o3 :=
 ⟨qp h.1 k.1,fun j ob h1 h2 h3=>by
  obtain⟨a1,a2⟩:=h.2 j ob h1 h2 h3;exact k.2 j ob a1 h2 a2⟩
theorem zlU.lt {objs:List OB} {b:Nat} {T:TypeId} {l:List UInt8} (h:zlU objs b T l):b<objs.length/\∀r,zhR objs b=some r->r<objs.length:=by
 rcases h with ⟨h,_⟩|⟨r,gen,h,h2⟩
 ·refine⟨zgA h,fun r hr=>?_⟩;unfold zhR at hr;rw[h] at hr;cases hr
 ·refine⟨zgA h,fun r' hr=>?_⟩;unfold zhR at hr;rw[h] at hr;injection hr with hr;subst hr;exact zgA h2
theorem zlU.app {objs:List OB} {b:Nat} {T:TypeId} {l:List UInt8} (h:zlU objs b T l) (more:List OB):zlU (objs++more) b T l/\zhR (objs++more) b=zhR objs b:=by
 have hlt:=h.lt.1;have e:(objs++more)[b]? = objs[b]?:=zj hlt;refine⟨?_,by unfold zhR;rw[e]⟩;rcases h with ⟨h,h2⟩|⟨r,gen,h,h2⟩
 ·exact .inl ⟨by rw[e];exact h,h2⟩
 ·exact .inr ⟨r,gen,by rw[e];exact h,by rw[zj (zgA h2)];exact h2⟩
theorem Kept.drop {objs more objs':List OB} {b:Nat} {T:TypeId} {l:List UInt8} (h:zlU objs b T l) (k:Kept (objs++more) b objs'):Kept objs b objs':=by
 refine⟨by have:=k.1;simp at this;omega,fun j ob h1 h2 h3=>k.2 j ob (by rw[zj (zgA h1)];exact h1) h2 (by rw[(h.app more).2];exact h3)⟩
section
variable [Tabs Tryz.prog] {objs:List OB} {K:List OB->AV->Prop}
end
section
variable [Tabs Tryz.prog] {objs:List OB} {K:List OB->AV->Prop}
end
section
variable [Tabs Tryz.prog] {objs:List OB} {K:List OB->AV->Prop}
end
section
variable [Tabs Tryz.prog] {objs:List OB} {K:List OB->AV->Prop}
end
section
variable [Tabs Tryz.prog] {objs:List OB} {K:List OB->AV->Prop}
end
theorem zgc:∀l:List (List UInt8),zal (l.map AV.s)=true
 | []=>rfl
 | x::l=>zgc l
section
variable [Tabs Tryz.prog] {objs:List OB} {K:List OB->AV->Prop}
end
section
attribute [local irreducible] run
section
variable [Tabs Tryz.prog] {objs:List OB} {K:List OB->AV->Prop}
theorem zgu (l:List (List UInt8)) (n m:Int) (hl:l.length<=140737488351232) (hw:∀w∈l,w.length<=140737488351232) (hk:K objs (.b (decide ((l.length:Int)<=n)&&l.all fun w=>decide ((w.length:Int)<=m)))):zad Tryz.prog 45 [.row l.length (l.map .s),.i .i64 n,.i .i64 m] objs K:=by
 refine zaL is_keep_Strings (by simp[zal,AV.plain,zgc]) fun C _=>?_
 by_cases c1:n<l.length
 ·rw[decide_eq_false (by omega)] at hk;simp only[c_keep_Strings,sxZ,z6,z7,z8,j4,j5,j6,j7,j8,j9,x3,x4,x5,x6,x7,x8,reduceCtorEq,↓reduceIte,c1];exact hk
 ·rw[decide_eq_true (by omega),Bool.true_and] at hk;simp only[c_keep_Strings,sxZ,z6,z7,z8,j4,j5,j6,j7,j8,j9,x3,x4,x5,x6,x7,x8,reduceCtorEq,↓reduceIte,c1];refine zaF (fun k objs tm=>∃i:Nat,i<=l.length/\k=l.length - i/\tm.length=24/\tm[2]? = some (.i .i64 m)/\tm[13]? = some (.row l.length (l.map .s))/\tm[14]? = some (.i .i64 l.length)/\tm[15]? = some (.i .i64 i)/\(l.all fun w=>decide ((w.length:Int)<=m))=((l.drop i).all fun w=>decide ((w.length:Int)<=m))) l.length ⟨0,by omega,rfl,rfl,rfl,rfl,rfl,rfl,rfl⟩ ?_;rintro k o tm ⟨i,hi,rfl,hlen,t2,t13,t14,t15,hall⟩
  by_cases hlt:(i:Int)<l.length
  ·have hlt':i<l.length:=by omega
   have hat:(l.map AV.s)[i]? = some (.s l[i]):=by simp[hlt']
   rw[List.drop_eq_getElem_cons hlt',List.all_cons] at hall
   by_cases c2:m<l[i].length
   ·rw[decide_eq_false (by omega),Bool.false_and] at hall;rw[hall] at hk;simp only[sxZ,z6,z7,z8,j4,j5,j6,j7,j8,j9,x3,x4,x5,x6,x7,x8,reduceCtorEq,↓reduceIte,za,hlen,t2,t13,t14,t15,hlt,jf,Nat.mul_one,hat,qg,c2];exact⟨by omega,hk⟩
   ·rw[decide_eq_true (by omega),Bool.true_and] at hall;simp only[sxZ,z6,z7,z8,j4,j5,j6,j7,j8,j9,x3,x4,x5,x6,x7,x8,reduceCtorEq,↓reduceIte,za,hlen,t2,t13,t14,t15,hlt,jf,Nat.mul_one,hat,qg,c2];exact⟨by omega,⟨by omega,by omega⟩,_,by omega,i+1,by omega,rfl,rfl,hall⟩
  ·obtain rfl:i=l.length:=by omega
   rw[List.drop_length,List.all_nil] at hall;rw[hall] at hk;simp only[sxZ,z6,z7,z8,j4,j5,j6,j7,j8,j9,x3,x4,x5,x6,x7,x8,reduceCtorEq,↓reduceIte,za,hlen,t2,t13,t14,t15,hlt];exact hk
end
end
end Go.Proofs.YtceenajkieomoaaGreatDoor
namespace Go.Proofs.YtceenajkieomoaaGreatDoor.Sx
open Go.RowKit Go.WideShapes Go.ChangeShapes Go.ChangeAt
open List renaming getElem?_eq_getElem->zl, getElem?_eq_some_iff->zf, getElem?_map->qm, getElem_mem->jg, mem_append->zw, mem_cons->zu, mem_map->jd
open Option renaming bind_eq_some_iff->yb
theorem zhv {H:Type} (d:DataW H):∀l:List (DataW H),d∈l->Rows.uptoBulk d<=Rows.uptoBulkAll l
 | [],h=>by cases h
 | e::l,h=>by
  simp only[Rows.uptoBulkAll];rcases zu.1 h with rfl|h
  ·omega
  ·have:=zhv d l h;omega
theorem bulk_pos {H:Type} (d:DataW H):1<=Rows.uptoBulk d:=by
 cases d with
 | lit l=>cases l<;>simp[Rows.uptoBulk]
 | _=>simp[Rows.uptoBulk]
theorem zkX {H:Type}:∀l:List (DataW H),l.length<=Rows.uptoBulkAll l
 | []=>Nat.zero_le _
 | e::l=>by
  have h1:=bulk_pos e;have h2:=zkX l;simp only[Rows.uptoBulkAll,List.length_cons];omega
mutual
def ShU:TT->List AV->Prop
 | .s,xs=>∃l:List UInt8,xs=[.s l]/\l.length<=1048576
 | .b,xs=>∃b,xs=[.b b]
 | .i k,xs=>∃n,xs=[.i k n]/\(Lit.int k n).wf=true
 | .st ts,xs=>ShUs ts xs
 | .sl t,xs=>∃gs:List (List AV),xs=[.row gs.length gs.flatten]/\gs.length<=1048576/\∀g∈gs,ShU t g
 | .rv,xs=>∃r:RV,xs=zfE r/\RVok r
def ShUs:List TT->List AV->Prop
 | [],xs=>xs=[]
 | t::ts,xs=>∃a b,xs=a++b/\ShU t a/\ShUs ts b
end
def ShV:TT->AV->Prop
 | .st ts,x=>∃cs,x=.agg cs/\ShUs ts cs
 | .rv,x=>∃r:RV,x=.agg (zfE r)/\RVok r
 | t,x=>ShU t [x]
def ShVs:List TT->List AV->Prop
 | [],xs=>xs=[]
 | t::ts,xs=>∃x ys,xs=x::ys/\ShV t x/\ShVs ts ys
theorem zhQ {w:World} {G:Gh} {I:Imm} {t:TT} (a:Addr) (c:Nat) (hI:∀g o v,w.cell? ⟨g,o,none⟩=some v->I g o v):∀k:Nat,
  (∀i,i<k->∃(g:List AV) (ys:List Value),ys.length=c/\(∀j,j<c->w.cell? ((a.add (i*c)).add j)=ys[j]?)/\zah G I g ys/\ShU t g/\∀u∈ys,u.oneCell'=true) ->
  ∃(gs:List (List AV)) (ys:List Value),gs.length=k/\ys.length=k*c/\zah G I gs.flatten ys/\(∀g∈gs,ShU t g)/\(∀u∈ys,u.oneCell'=true)/\∀j,j<k*c->w.cell? (a.add j)=ys[j]?
 | 0,_=>⟨[],[],rfl,by simp,zah.nil,by simp,by simp,fun j hj=>by simp at hj⟩
 | k+1,h=>by
  obtain⟨gs,ys,h1,h2,h3,h4,h5,h6⟩:=zhQ a c hI k (fun i hi=>h i (by omega));obtain⟨g,zs,k1,k2,k3,k4,k5⟩:=h k (by omega);have hm:(k+1)*c=k*c+c:=Nat.succ_mul k c;refine⟨gs++[g],ys++zs,by simp[h1],by rw[List.length_append,h2,k1,hm],?_,?_,?_,?_⟩
  ·rw[List.flatten_append,List.flatten_cons,List.flatten_nil,List.append_nil];exact zah.append h3 k3
  ·intro x hx;rcases zw.1 hx with hx|hx
   ·exact h4 x hx
   ·rw[List.mem_singleton] at hx;subst hx;exact k4
  ·intro u hu;rcases zw.1 hu with hu|hu
   ·exact h5 u hu
   ·exact k5 u hu
  ·intro j hj
   by_cases hjk:j<k*c
   ·rw[h6 j hjk,List.getElem?_append_left (by omega)]
   ·have:=k2 (j - k*c) (by omega);rw[Addr.add_add,show k*c+(j - k*c)=j by omega] at this;rw[this,List.getElem?_append_right (by omega),h2]
section
variable {H:Type} {enc:TypeId×Value->H} {P:Program} {w:World} {base:Nat} {spare:Nat->Bool} {held:Bool} {G:Gh} {I:Imm}
theorem zfI (d:Nat) (ih:∀(t:TypeId) (tt:TT) (fuel:Nat) (cs:List Value) (x:DataW H×List MemPlace),trT P d t=some tt->DataW.trod enc P w base spare held fuel t cs=some x->(∀n∈x.1.weights P t,n<=reachBytes)->Rows.uptoBulk x.1<=1048576->∃xs,zah G I xs cs/\ShU tt xs/\∀u∈cs,u.oneCell'=true) (n:Nat) :
  ∀(fs:List Field) (ts:List TT) (o:Nat) (cs:List Value),trTs P (trT P d) o fs=some ts->cs.length=o+zf0 P fs->(∀f∈fs,∃x,DataW.trod enc P w base spare held n f.type ((cs.drop f.offset).take (P.cellsOf f.type))=some x/\(∀m∈x.1.weights P f.type,m<=reachBytes)/\Rows.uptoBulk x.1<=1048576) ->
   ∃xs,zah G I xs (cs.drop o)/\ShUs ts xs/\∀u∈cs.drop o,u.oneCell'=true
 | [],ts,o,cs,ht,hl,hf=>by
  simp only[trTs,Option.some.injEq] at ht;subst ht;have:cs.drop o=[]:=List.drop_eq_nil_of_le (by simp[zf0] at hl;omega);rw[this];exact⟨[],zah.nil,rfl,by simp⟩
 | f::fs,ts,o,cs,ht,hl,hf=>by
  simp only[trTs] at ht
  split at ht
  ·rename_i t ts' h1 h2
   split at ht
   ·rename_i ho;injection ht with ht;subst ht
    obtain⟨x,hx,hxw,hxb⟩:=hf f (List.mem_cons_self ..);rw[ho] at hx;obtain⟨xs,k1,k2,k3⟩:=ih _ _ _ _ _ h1 hx hxw hxb;simp only[zf0] at hl;obtain⟨ys,m1,m2,m3⟩:=zfI d ih n fs ts' (o+P.cellsOf f.type) cs h2 (by omega) (fun f' hf'=>hf f' (List.mem_cons_of_mem _ hf'));have e:cs.drop o=(cs.drop o).take (P.cellsOf f.type)++cs.drop (o+P.cellsOf f.type):=by
     rw[<-List.drop_drop,List.take_append_drop]
    refine⟨xs++ys,?_,?_,?_⟩
    ·rw[e];exact zah.append k1 m1
    ·exact⟨xs,ys,rfl,k2,m2⟩
    ·rw[e];intro u hu;rcases zw.1 hu with hu|hu
     ·exact k3 u hu
     ·exact m3 u hu
   ·cases ht
  ·cases ht
theorem zi4 (hI:∀g o v,w.cell? ⟨g,o,none⟩=some v->I g o v) (hspa:∀b,spare b=true) {t e:TypeId} {te:TT} {fuel:Nat} {cs:List Value} {x:DataW H×List MemPlace} (hu:P.underlying t=some (.slice e)) (hc:0<P.cellsOf e/\0<P.bytesOf e)
  (ih:∀(n:Nat) (ys:List Value) (x:DataW H×List MemPlace),n<fuel->DataW.trod enc P w base spare held n e ys=some x->(∀n∈x.1.weights P e,n<=reachBytes)->Rows.uptoBulk x.1<=1048576->∃g,zah G I g ys/\ShU te g/\∀u∈ys,u.oneCell'=true)
  (h:DataW.trod enc P w base spare held fuel t cs=some x) (hwt:∀n∈x.1.weights P t,n<=reachBytes) (hbk:Rows.uptoBulk x.1<=1048576):∃xs,zah G I xs cs/\ShU (.sl te) xs/\∀u∈cs,u.oneCell'=true:=by
 rcases DataW.trod_slice hu h with ⟨rfl,rfl⟩|⟨a,len,cap,elems,rest,n,hfu,rfl,rfl,hb,hl,hm,hlen,hel,hsr,_⟩
 ·exact⟨[.row 0 []],zah.cons (by simp only[Den];exact⟨none,0,[],rfl,⟨Nat.le_refl _,fun ad h=>by cases h⟩,zah.nil,by simp,by simp⟩) zah.nil,⟨[],rfl,by simp,by simp⟩,by simp;rfl⟩
 ·have hw2:(elems.length+rest.length)*P.bytesOf e<=reachBytes:=by
   have:=hwt ((elems.map (·.1)).length+(rest.map (·.1)).length |> (·*P.bytesOf e)) (by simp[DataW.weights,hu]);simpa using this
  have hbe:Rows.uptoBulkAll (elems.map (·.1))<=1048576:=by simp only[Rows.uptoBulk] at hbk;omega
  have hel2:elems.length<=1048576:=by have:=zkX (elems.map (·.1));rw[List.length_map] at this;omega
  have hel3:∀i,i<len->∃(g:List AV) (ys:List Value),ys.length=P.cellsOf e/\(∀j,j<P.cellsOf e->w.cell? ((a.add (i*P.cellsOf e)).add j)=ys[j]?)/\zah G I g ys/\ShU te g/\∀u∈ys,u.oneCell'=true:=by
   intro i hi;have h1:=hel i hi;have hil:i<elems.length:=by omega
   rw[zl hil,yb] at h1;obtain⟨ys,y1,y2⟩:=h1;obtain⟨_,z1,z2⟩:=World.cells?_some y1;obtain⟨g,g1,g2,g3⟩:=ih n ys _ (by omega) y2 (fun m hm=>hwt m (by
    simp only[DataW.weights,hu,zu,zw];exact .inr (.inl (zb6 (jd.2 ⟨_,jg hil,rfl⟩) m hm)))) (Nat.le_trans (zhv _ _ (jd.2 ⟨_,jg hil,rfl⟩)) hbe)
   exact⟨g,ys,z1,z2,g1,g2,g3⟩
  obtain⟨gs,ys,k1,k2,k3,k4,k5,k6⟩:=zhQ (G:=G) a (P.cellsOf e) hI len hel3;have hsp0:cap≠0->a.spot=none:=by
   intro hcap
   by_cases hl0:0<len
   ·have hp:0<len*P.cellsOf e:=Nat.mul_pos hl0 hc.1;have h2:=k6 0 hp;rw[zl (by omega)] at h2;have:=World.cell?_spot h2;simpa[Addr.add] using this
   ·have hr:=(hsr (hspa _)).2 0 (by omega);have hrl:=(hsr (hspa _)).1;rw[zl (by omega),yb] at hr;obtain⟨zs,y1,_⟩:=hr;obtain⟨_,z1,z2⟩:=World.cells?_some y1;have h2:=z2 0 hc.1;rw[zl (by omega)] at h2;have:=World.cell?_spot h2;have hl1:len=0:=by omega
    subst hl1;simpa[Addr.add] using this
  refine⟨[.row gs.length gs.flatten],zah.cons ?_ zah.nil,⟨gs,rfl,by omega,k4⟩,by simp;rfl⟩;simp only[Den];refine⟨some a,cap,ys,by rw[k1],⟨by omega,fun ad h hc0=>by injection h with h;subst h;exact hsp0 hc0⟩,k3,k5,fun j u hj=>?_⟩;have hjl:=(zf.1 hj).1;have hlp:len≠0:=by rintro rfl;rw[k2,Nat.zero_mul] at hjl;omega
  have hs:=hsp0 (by omega);refine⟨a.block,a.off,by cases a;simp only at hs;subst hs;rfl,hI _ _ _ ?_⟩;have h2:=k6 j (k2▸hjl);rw[zk7 hs] at h2;rw[h2,hj]
theorem zlz (hI:∀g o v,w.cell? ⟨g,o,none⟩=some v->I g o v) (hspa:∀b,spare b=true):∀(d:Nat) (t:TypeId) (tt:TT) (fuel:Nat) (cs:List Value) (x:DataW H×List MemPlace),trT P d t=some tt->DataW.trod enc P w base spare held fuel t cs=some x->(∀n∈x.1.weights P t,n<=reachBytes)->Rows.uptoBulk x.1<=1048576->∃xs,zah G I xs cs/\ShU tt xs/\∀u∈cs,u.oneCell'=true:=by
 intro d
 induction d with
 | zero=>intro t tt fuel cs x ht;simp[trT] at ht
 | succ d ih=>
  intro t tt fuel cs x ht h hwt hbk;simp only[trT] at ht
  split at ht
  ·rename_i hu;injection ht with ht;subst ht
   obtain⟨s,rfl,rfl,hs⟩:=DataW.trod_string hu h;refine⟨[.s s.data.toList],zah.cons (by simp[Den]) zah.nil,⟨_,rfl,?_⟩,by simp;rfl⟩;have h9:(s.data.toList).length+1<=1048576:=by simpa[Rows.uptoBulk] using hbk
   omega
  ·rename_i hu;injection ht with ht;subst ht
   obtain⟨b,rfl,_⟩:=DataW.trod_bool hu h;exact⟨[.b b],zah.cons (by simp[Den]) zah.nil,⟨_,rfl⟩,by simp;rfl⟩
  ·rename_i k hu;injection ht with ht;subst ht
   obtain⟨n,rfl,_,hw⟩:=DataW.trod_int hu h;exact⟨[.i k n],zah.cons (by simp[Den]) zah.nil,⟨_,rfl,hw⟩,by simp;rfl⟩
  ·rename_i fs hu
   split at ht
   ·rename_i hrv;injection ht with ht;subst ht
    exact open_rv hI hspa hu hrv (fuel+1) fuel cs x (by omega) h hwt
   split at ht
   ·rename_i hc
    cases hts:trTs P (trT P d) 0 fs.toList with
    | none=>rw[hts] at ht;cases ht
    | some ts=>
     rw[hts] at ht;injection ht with ht;subst ht
     obtain⟨xs,n,_,rfl,hlen,hxl,hf⟩:=DataW.trod_struct hu h;have hall:∀f∈fs.toList,∃x,DataW.trod enc P w base spare held n f.type ((cs.drop f.offset).take (P.cellsOf f.type))=some x/\(∀m∈x.1.weights P f.type,m<=reachBytes)/\Rows.uptoBulk x.1<=1048576:=by
      intro f hfm;obtain⟨j,hj⟩:=List.mem_iff_getElem?.1 hfm;have h1:=hf j f (by simpa using hj);have hjl:j<xs.length:=by
       rw[hxl];have:=(zf.1 hj).1;simpa using this
      rw[zl hjl] at h1;refine⟨_,h1,fun m hm=>hwt m ?_,Nat.le_trans (zhv _ _ (jd.2 ⟨_,jg hjl,rfl⟩)) (show Rows.uptoBulkAll (xs.map (·.1))<=1048576 by simp only[Rows.uptoBulk] at hbk;omega)⟩;have hj2:(fs.toList.map (·.type))[j]? = some f.type:=by rw[qm,hj];rfl
      have:=DataW.weights_mem_each hj2 (show (xs.map (·.1))[j]? = some xs[j].1 by rw[qm,zl hjl];rfl) m hm;simpa[DataW.weights,hu] using this
     obtain⟨ys,k1,k2,k3⟩:=zfI d ih n fs.toList ts 0 cs hts (by rw[hlen,hc];omega) hall;exact⟨ys,by simpa using k1,k2,by simpa using k3⟩
   ·cases ht
  ·rename_i e hu
   split at ht
   ·rename_i hc
    cases hte:trT P d e with
    | none=>rw[hte] at ht;cases ht
    | some te=>
     rw[hte] at ht;injection ht with ht;subst ht
     exact zi4 hI hspa hu hc (fun n ys y _ hy hyw hyb=>ih e te n ys y hte hy hyw hyb) h hwt hbk
   ·cases ht
  ·cases ht
theorem zm8 (hI:∀g o v,w.cell? ⟨g,o,none⟩=some v->I g o v) (hspa:∀b,spare b=true) {r:Reach} {b0:Nat} {t:TypeId} {tt:TT} {v:Value} {dd:DataW H} {ps:List MemPlace} (ht:trT P 20 t=some tt) (hv:Value.okWide P w r b0 t v) (h:DataW.Trod enc P w base spare held t v dd ps) (hwt:∀n∈dd.weights P t,n<=reachBytes) (hbk:Rows.uptoBulk dd<=1048576):∃x,Den G I x v/\ShV tt x:=by
 obtain⟨fuel,hf⟩:=h;obtain⟨xs,h1,h2,h3⟩:=zlz hI hspa 20 t tt fuel _ _ ht hf hwt hbk;have ht':=ht;unfold trT at ht
 cases tt with
 | st ts=>
  split at ht<;>first|(injection ht with ht;cases ht;done)|skip
  ·rename_i fs hu;obtain⟨cs,rfl,_⟩:=okWide_struct hu hv;refine⟨.agg xs,?_,⟨xs,rfl,h2⟩⟩;simp only[Den];exact⟨cs.toList,by simp,h1,h3⟩
  ·split at ht
   ·cases hq:trT P 19 _ with
    | none=>rw[hq] at ht;cases ht
    | some q=>rw[hq] at ht;injection ht with ht;cases ht
   ·cases ht
  ·cases ht
 | rv=>
  split at ht<;>first|(injection ht with ht;cases ht;done)|skip
  ·rename_i fs hu;obtain⟨cs,rfl,_⟩:=okWide_struct hu hv;obtain⟨r,rfl,hr⟩:=h2;refine⟨.agg (zfE r),?_,⟨r,rfl,hr⟩⟩;simp only[Den];exact⟨cs.toList,by simp,h1,h3⟩
  ·split at ht
   ·cases hq:trT P 19 _ with
    | none=>rw[hq] at ht;cases ht
    | some q=>rw[hq] at ht;injection ht with ht;cases ht
   ·cases ht
  ·cases ht
 | sl t=>
  split at ht<;>first|(injection ht with ht;cases ht;done)|skip
  ·split at ht
   ·injection ht with ht;cases ht
   split at ht
   ·cases hq:trTs P (trT P 19) 0 _ with
    | none=>rw[hq] at ht;cases ht
    | some q=>rw[hq] at ht;injection ht with ht;cases ht
   ·cases ht
  ·rename_i e hu;obtain⟨a,len,cap,rfl⟩:=okWide_slice hu hv;obtain⟨gs,rfl,hl,hg⟩:=h2;simp only[zah] at h1;obtain⟨y,ys,e1,k1,k2⟩:=h1;subst k2;have e2:[Value.slice a len cap]=[y]:=e1;injection e2 with e2 _
   subst e2;exact⟨.row gs.length gs.flatten,k1,⟨gs,rfl,hl,hg⟩⟩
  ·cases ht
 | s=>
  split at ht<;>first|(injection ht with ht;cases ht;done)|skip
  ·rename_i hu;obtain⟨s,rfl⟩:=okWide_string hu hv;obtain⟨l,rfl,hl⟩:=h2;simp only[zah] at h1;obtain⟨y,ys,e,k1,k2⟩:=h1;subst k2;have e2:[Value.string s]=[y]:=e;injection e2 with e2 _
   subst e2;exact⟨.s l,k1,⟨l,rfl,hl⟩⟩
  ·split at ht
   ·injection ht with ht;cases ht
   split at ht
   ·cases hq:trTs P (trT P 19) 0 _ with
    | none=>rw[hq] at ht;cases ht
    | some q=>rw[hq] at ht;injection ht with ht;cases ht
   ·cases ht
  ·split at ht
   ·cases hq:trT P 19 _ with
    | none=>rw[hq] at ht;cases ht
    | some q=>rw[hq] at ht;injection ht with ht;cases ht
   ·cases ht
  ·cases ht
 | b=>
  split at ht<;>first|(injection ht with ht;cases ht;done)|skip
  ·rename_i hu;obtain⟨s,rfl⟩:=okWide_bool hu hv;obtain⟨l,rfl⟩:=h2;simp only[zah] at h1;obtain⟨y,ys,e,k1,k2⟩:=h1;subst k2;have e2:[Value.bool s]=[y]:=e;injection e2 with e2 _
   subst e2;exact⟨.b l,k1,⟨l,rfl⟩⟩
  ·split at ht
   ·injection ht with ht;cases ht
   split at ht
   ·cases hq:trTs P (trT P 19) 0 _ with
    | none=>rw[hq] at ht;cases ht
    | some q=>rw[hq] at ht;injection ht with ht;cases ht
   ·cases ht
  ·split at ht
   ·cases hq:trT P 19 _ with
    | none=>rw[hq] at ht;cases ht
    | some q=>rw[hq] at ht;injection ht with ht;cases ht
   ·cases ht
  ·cases ht
 | i k=>
  split at ht<;>first|(injection ht with ht;cases ht;done)|skip
  ·rename_i k' hu;injection ht with ht;injection ht with ht;subst ht
   obtain⟨s,rfl⟩:=okWide_int hu hv;obtain⟨l,rfl,hl⟩:=h2;simp only[zah] at h1;obtain⟨y,ys,e,k1,k2⟩:=h1;subst k2;have e2:[Value.int _ s]=[y]:=e;injection e2 with e2 _
   subst e2;exact⟨.i _ l,k1,⟨l,rfl,hl⟩⟩
  ·split at ht
   ·injection ht with ht;cases ht
   split at ht
   ·cases hq:trTs P (trT P 19) 0 _ with
    | none=>rw[hq] at ht;cases ht
    | some q=>rw[hq] at ht;injection ht with ht;cases ht
   ·cases ht
  ·split at ht
   ·cases hq:trT P 19 _ with
    | none=>rw[hq] at ht;cases ht
    | some q=>rw[hq] at ht;injection ht with ht;cases ht
   ·cases ht
  ·cases ht
theorem openU_args (hI:∀g o v,w.cell? ⟨g,o,none⟩=some v->I g o v) (hspa:∀b,spare b=true) {r:Reach} {b0:Nat}:∀(ts:List TypeId) (tts:List TT) (vs:List Value) (ds:List (DataW H)) (ps:List MemPlace),ts.mapM (trT P 20)=some tts->(∀(j:Nat) t v,ts[j]? = some t->vs[j]? = some v->Value.okWide P w r b0 t v)->DataW.TrodAll enc P w base spare held ts vs ds ps->(∀n∈DataW.weightsEach P ts ds,n<=reachBytes)->Rows.uptoBulkAll ds<=1048576->∃xs,zah G I xs vs/\ShVs tts xs
 | [],tts,vs,ds,ps,ht,hv,h,hwt,hbk=>by
  simp at ht;subst ht;obtain⟨rfl,_,_⟩:=trodAll_nil h;exact⟨[],zah.nil,rfl⟩
 | t::ts,tts,vs,ds,ps,ht,hv,h,hwt,hbk=>by
  simp only[List.mapM_cons,Option.bind_eq_bind,Option.pure_def] at ht
  cases h1:trT P 20 t with
  | none=>simp[h1] at ht
  | some tt=>
   cases h2:ts.mapM (trT P 20) with
   | none=>simp[h1,h2] at ht
   | some tts'=>
    simp[h1,h2] at ht;subst ht;obtain⟨v,vs',d,ds',p,q,rfl,rfl,rfl,k1,k2⟩:=trodAll_cons h;obtain⟨x,x1,x2⟩:=zm8 (G:=G) (I:=I) hI hspa h1 (hv 0 t v rfl rfl) k1 (fun n hn=>hwt n (by simp only[DataW.weightsEach,zw];exact .inl hn)) (by simp only[Rows.uptoBulkAll] at hbk;omega);obtain⟨xs,y1,y2⟩:=openU_args hI hspa ts tts' vs' ds' q h2 (fun j t v hj hv'=>hv (j+1) t v (by simpa using hj) (by simpa using hv')) k2 (fun n hn=>hwt n (by simp only[DataW.weightsEach,zw];exact .inr hn)) (by simp only[Rows.uptoBulkAll] at hbk;omega);exact⟨x::xs,zah.cons x1 y1,⟨x,xs,rfl,x2,y2⟩⟩
end
end Go.Proofs.YtceenajkieomoaaGreatDoor.Sx
namespace Go.Proofs.YtceenajkieomoaaGreatDoor
open Nat renaming reduceAdd -> z6, reduceSub -> z7, reduceLeDiff -> z8, reduceLT -> j4, reduceMul -> j5, reduceEqDiff -> j6
open Int renaming reduceToNat -> j7, reduceAdd -> j8, reduceSub -> j9, reduceMul -> x3, reduceNeg -> x4, reduceLT -> x5, reduceLE -> x6, reduceEq -> x7, reduceNe -> x8
open Go.RowKit Sx
open List renaming flatten_cons->y8, length_cons->zx, mem_cons->zu, mem_cons_of_mem->qq, mem_cons_self->ju
section
attribute [local irreducible] run
theorem zfr:∀{gs:List (List AV)},(∀g∈gs,ShU .s g)->∃l:List (List UInt8),gs.flatten=l.map .s/\gs.length=l.length/\∀x∈l,x.length<=1048576
 | [],_=>⟨[],rfl,rfl,by simp⟩
 | g::gs,h=>by
  obtain⟨l,h1,h2,h3⟩:=zfr (fun x hx=>h x (qq _ hx));obtain⟨x,rfl,hw⟩:=h g (ju ..);refine⟨x::l,by rw[y8,h1];rfl,by rw[zx,zx,h2],fun y hy=>?_⟩;rcases zu.1 hy with rfl|hy
  ·exact hw
  ·exact h3 y hy
theorem sl_mtU:∀{gs:List (List AV)},(∀g∈gs,ShU (.st [.s,.s,.s]) g)->∃l:List MtP,gs.flatten=zce l/\gs.length=l.length/\∀x∈l,MtB x
 | [],_=>⟨[],rfl,rfl,by simp⟩
 | g::gs,h=>by
  obtain⟨l,h1,h2,h3⟩:=sl_mtU (fun x hx=>h x (qq _ hx));obtain⟨_,_,rfl,⟨a,rfl,ha⟩,_,_,rfl,⟨b,rfl,hb⟩,_,_,rfl,⟨c,rfl,hc⟩,rfl⟩:=h g (ju ..);refine⟨⟨a,b,c⟩::l,by rw[y8,h1];rfl,by rw[zx,zx,h2],fun y hy=>?_⟩;rcases zu.1 hy with rfl|hy
  ·exact⟨by show a.length<=_;omega,by show b.length<=_;omega,by show c.length<=_;omega⟩
  ·exact h3 y hy
theorem sl_svU:∀{gs:List (List AV)},(∀g∈gs,ShU (.st [.s,.sl .s,.sl .s]) g)->∃l:List SvP,gs.flatten=zb2 l/\gs.length=l.length/\∀x∈l,SvB x
 | [],_=>⟨[],rfl,rfl,by simp⟩
 | g::gs,h=>by
  obtain⟨l,h1,h2,h3⟩:=sl_svU (fun x hx=>h x (qq _ hx));obtain⟨_,_,rfl,⟨a,rfl,ha⟩,_,_,rfl,⟨t,rfl,ht,ht2⟩,_,_,rfl,⟨p,rfl,hp,hp2⟩,rfl⟩:=h g (ju ..);obtain⟨t',e1,e2,e5⟩:=zfr ht2;obtain⟨p',e3,e4,e6⟩:=zfr hp2;refine⟨⟨a,t',p'⟩::l,?_,by rw[zx,zx,h2],fun y hy=>?_⟩
  ·rw[y8,h1,e1,e2,e3,e4];rfl
  ·rcases zu.1 hy with rfl|hy
   ·exact⟨by show a.length<=_;omega,⟨by show t'.length<=_;omega,fun x hx=>by have:=e5 x hx;omega⟩,⟨by show p'.length<=_;omega,fun x hx=>by have:=e6 x hx;omega⟩⟩
   ·exact h3 y hy
def strB (l:List (List UInt8)):Bool:=decide ((l.length:Int)<=70)&&l.all fun w=>decide ((w.length:Int)<=300)
def zlB (d:DoP):Bool:=decide ((d.id.length:Int)<=300)&&(strB d.also&&(strB d.ctl&&(decide ((d.mts.length:Int)<=70)&&decide ((d.svs.length:Int)<=70))))
theorem keptD_b {d:DoP} (h:zlB d=true):d.also.length<=70/\d.ctl.length<=70/\d.mts.length<=70/\d.svs.length<=70:=by
 unfold zlB strB at h;simp only[Bool.and_eq_true,decide_eq_true_eq] at h;omega
section
variable [Tabs Tryz.prog] {objs:List OB} {K:List OB->AV->Prop}
theorem kept17_k (d:DoP) (h1:TsB d.also) (h2:TsB d.ctl) (hk:K objs (.b (zlB d))):zad Tryz.prog 16 [.agg (doc d)] objs K:=by
 refine zaL is_law17_kept (by unfold doc;simp only[zal,AV.plain,zaD,zdh,zdc,Bool.and_self]) fun C _=>?_;rw[c_law17_kept];unfold doc;have k1:=fun {objs:List OB} {K:List OB->AV->Prop} (h:K objs (.b (strB d.also)))=>zgu d.also 70 300 (by have:=h1.1;omega) h1.2 (objs:=objs) (K:=K) h;have k2:=fun {objs:List OB} {K:List OB->AV->Prop} (h:K objs (.b (strB d.ctl)))=>zgu d.ctl 70 300 (by have:=h2.1;omega) h2.2 (objs:=objs) (K:=K) h;unfold zlB at hk;generalize strB d.also=a1 at k1 hk;generalize strB d.ctl=a2 at k2 hk;refine zaa fun Z hZ=>?_;simp only[sxZ,z6,z7,z8,j4,j5,j6,j7,j8,j9,x3,x4,x5,x6,x7,x8,reduceCtorEq,↓reduceIte];subst hZ;refine zaa fun Z hZ=>?_
 by_cases c0:(d.id.length:Int)<=300
 rotate_left
 ·rw[decide_eq_false c0] at hk;simp only[sxZ,z6,z7,z8,j4,j5,j6,j7,j8,j9,x3,x4,x5,x6,x7,x8,reduceCtorEq,↓reduceIte,c0,decide_false];subst hZ;simp only[sxZ,z6,z7,z8,j4,j5,j6,j7,j8,j9,x3,x4,x5,x6,x7,x8,reduceCtorEq,↓reduceIte];exact hk
 rw[decide_eq_true c0,Bool.true_and] at hk;simp only[sxZ,z6,z7,z8,j4,j5,j6,j7,j8,j9,x3,x4,x5,x6,x7,x8,reduceCtorEq,↓reduceIte,c0,decide_true];refine zai (k1 ?_)
 cases a1 with
 | false=>
  simp only[sxZ,z6,z7,z8,j4,j5,j6,j7,j8,j9,x3,x4,x5,x6,x7,x8,reduceCtorEq,↓reduceIte];subst hZ;simp only[sxZ,z6,z7,z8,j4,j5,j6,j7,j8,j9,x3,x4,x5,x6,x7,x8,reduceCtorEq,↓reduceIte];exact hk
 | true=>
 rw[Bool.true_and] at hk;simp only[sxZ,z6,z7,z8,j4,j5,j6,j7,j8,j9,x3,x4,x5,x6,x7,x8,reduceCtorEq,↓reduceIte];refine zai (k2 ?_)
 cases a2 with
 | false=>
  simp only[sxZ,z6,z7,z8,j4,j5,j6,j7,j8,j9,x3,x4,x5,x6,x7,x8,reduceCtorEq,↓reduceIte];subst hZ;simp only[sxZ,z6,z7,z8,j4,j5,j6,j7,j8,j9,x3,x4,x5,x6,x7,x8,reduceCtorEq,↓reduceIte];exact hk
 | true=>
 rw[Bool.true_and] at hk
 by_cases c1:(d.mts.length:Int)<=70
 rotate_left
 ·rw[decide_eq_false c1] at hk;simp only[sxZ,z6,z7,z8,j4,j5,j6,j7,j8,j9,x3,x4,x5,x6,x7,x8,reduceCtorEq,↓reduceIte,c1,decide_false];subst hZ;simp only[sxZ,z6,z7,z8,j4,j5,j6,j7,j8,j9,x3,x4,x5,x6,x7,x8,reduceCtorEq,↓reduceIte];exact hk
 rw[decide_eq_true c1,Bool.true_and] at hk;simp only[sxZ,z6,z7,z8,j4,j5,j6,j7,j8,j9,x3,x4,x5,x6,x7,x8,reduceCtorEq,↓reduceIte,c1,decide_true];subst hZ;simp only[sxZ,z6,z7,z8,j4,j5,j6,j7,j8,j9,x3,x4,x5,x6,x7,x8,reduceCtorEq,↓reduceIte];exact hk
end
section
variable [Tabs Tryz.prog] [Utf Tryz.prog]
theorem zfS [Shp Tryz.prog] (d:DoP) (h0:d.id.length<=1048576) (h1:TsB d.also) (h2:TsB d.ctl) (hm:∀x∈d.mts,MtB x) (hs:∀x∈d.svs,SvB x):zad Tryz.prog 5 [.agg (doc d)] [] (fun _ r=>r=.b true):=by
 refine zaL is_law17_DiddocEncodes (by unfold doc;simp only[zal,AV.plain,zaD,zdh,zdc,Bool.and_self]) fun C _=>?_;rw[c_law17_DiddocEncodes];have K1:=fun {objs:List OB} {K:List OB->AV->Prop} (h:K objs (.b (zlB d)))=>kept17_k d h1 h2 (objs:=objs) (K:=K) h;have hb:=keptD_b (d:=d);generalize zlB d=kb at K1 hb;unfold doc;unfold doc at K1;refine zaa fun Z hZ=>?_;simp only[sxZ,z6,z7,z8,j4,j5,j6,j7,j8,j9,x3,x4,x5,x6,x7,x8,reduceCtorEq,↓reduceIte];subst hZ;refine zaa fun Z hZ=>?_;simp only[sxZ,z6,z7,z8,j4,j5,j6,j7,j8,j9,x3,x4,x5,x6,x7,x8,reduceCtorEq,↓reduceIte];refine zai (sane17_k ?_);simp only[sxZ,z6,z7,z8,j4,j5,j6,j7,j8,j9,x3,x4,x5,x6,x7,x8,reduceCtorEq,↓reduceIte];subst hZ;refine zaa fun Z hZ=>?_;simp only[sxZ,z6,z7,z8,j4,j5,j6,j7,j8,j9,x3,x4,x5,x6,x7,x8,reduceCtorEq,↓reduceIte];refine za5 (K1 ⟨rfl,rfl⟩) ?_
 cases kb with
 | false=>
  simp only[sxZ,z6,z7,z8,j4,j5,j6,j7,j8,j9,x3,x4,x5,x6,x7,x8,reduceCtorEq,↓reduceIte];subst hZ;simp only[sxZ,z6,z7,z8,j4,j5,j6,j7,j8,j9,x3,x4,x5,x6,x7,x8,reduceCtorEq,↓reduceIte]
 | true=>
 obtain⟨b1,b2,b3,b4⟩:=hb rfl;have hm5:MtsB d.svs:=fun x hx=>⟨(hs x hx).typ.1,(hs x hx).eps.1⟩;have hok:=(enD_ok (d:=d) ⟨by omega,h1,h2,by omega,hm,by omega,hs⟩).1;have P1:=fun {objs:List OB} {K:List OB->AV->Prop} (h:K objs (.agg (zae (enD d))))=>zoJ d (by omega) (by omega) (by omega) (by omega) hm5 (objs:=objs) (K:=K) h;have P2:=fun {objs:List OB} {K:List OB->AV->Prop} (h:K objs (.agg (zae (enD d))))=>zi0 d (by omega) (by omega) (by omega) (by omega) hm5 (objs:=objs) (K:=K) h;have P3:=fun {objs:List OB} {K:List OB->AV->Prop} (h:K objs (.b true))=>same14_k ((enD d).size+1) (enD d) (enD d) (Nat.lt_succ_self _) hok (objs:=objs) (K:=K) (by rw[zgh];exact h);generalize zae (enD d)=cs at P1 P2 P3;unfold doc at P1 P2;simp only[sxZ,z6,z7,z8,j4,j5,j6,j7,j8,j9,x3,x4,x5,x6,x7,x8,reduceCtorEq,↓reduceIte];refine za5 (P1 ⟨rfl,rfl⟩) ?_;simp only[sxZ,z6,z7,z8,j4,j5,j6,j7,j8,j9,x3,x4,x5,x6,x7,x8,reduceCtorEq,↓reduceIte];refine za5 (P2 ⟨rfl,rfl⟩) ?_;simp only[sxZ,z6,z7,z8,j4,j5,j6,j7,j8,j9,x3,x4,x5,x6,x7,x8,reduceCtorEq,↓reduceIte];refine za5 (P3 ⟨rfl,rfl⟩) ?_;simp only[sxZ,z6,z7,z8,j4,j5,j6,j7,j8,j9,x3,x4,x5,x6,x7,x8,reduceCtorEq,↓reduceIte];subst hZ;simp only[sxZ,z6,z7,z8,j4,j5,j6,j7,j8,j9,x3,x4,x5,x6,x7,x8,reduceCtorEq,↓reduceIte]
theorem diddocEncodes_c [Shp Tryz.prog] (l0:List UInt8) (w0:l0.length<=1048576) (g1:List (List AV)) (w1:g1.length<=1048576) (h1:∀g∈g1,ShU .s g) (g2:List (List AV)) (w2:g2.length<=1048576) (h2:∀g∈g2,ShU .s g) (g3:List (List AV)) (w3:g3.length<=1048576) (h3:∀g∈g3,ShU (.st [.s,.s,.s]) g) (g4:List (List AV)) (w4:g4.length<=1048576) (h4:∀g∈g4,ShU (.st [.s,.sl .s,.sl .s]) g) :
  zad Tryz.prog 5 [.agg [.s l0,.row g1.length g1.flatten,.row g2.length g2.flatten,.row g3.length g3.flatten,.row g4.length g4.flatten]] [] (fun _ r=>r=.b true):=by
 obtain⟨al,a1,a2,a3⟩:=zfr h1;obtain⟨ct,c1,c2,c3⟩:=zfr h2;obtain⟨ms,m1,m2,m3⟩:=sl_mtU h3;obtain⟨vs,v1,v2,v3⟩:=sl_svU h4;rw[a1,a2,c1,c2,m1,m2,v1,v2];exact zfS ⟨l0,al,ct,ms,vs⟩ w0 ⟨by show al.length<=_;omega,fun x hx=>by have:=a3 x hx;omega⟩ ⟨by show ct.length<=_;omega,fun x hx=>by have:=c3 x hx;omega⟩ m3 v3
end
end
instance tabs_utf:Utf Tryz.prog:=⟨fun _ _=>⟨trivial⟩⟩
end Go.Proofs.YtceenajkieomoaaGreatDoor
