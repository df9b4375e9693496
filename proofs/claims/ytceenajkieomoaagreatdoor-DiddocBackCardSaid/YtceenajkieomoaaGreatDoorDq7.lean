/- The texts that the proofs of these statements reach, in their order, as few files. -/
import Derived.Test.YtceenajkieomoaaGreatDoorDq6
set_option linter.unusedVariables false
set_option linter.unusedSimpArgs false
set_option maxRecDepth 100000
namespace Go.Proofs.YtceenajkieomoaaGreatDoor
open Nat renaming reduceAdd -> z6, reduceSub -> z7, reduceLeDiff -> z8, reduceLT -> j4, reduceMul -> j5, reduceEqDiff -> j6
open Int renaming reduceToNat -> j7, reduceAdd -> j8, reduceSub -> j9, reduceMul -> x6, reduceNeg -> x7, reduceLT -> x8, reduceLE -> x9, reduceEq -> y4, reduceNe -> y5
open Go.RowKit Sx
open Int renaming cast_ofNat_Int->y8, toNat_natCast->jf
open List renaming Perm->ja, append_assoc->zy, append_nil->jh, cons_append->qw, drop_of_length_le->xn, flatMap_cons->x4, getElem?_append_left->zp, getElem?_eq_getElem->zo, getElem?_eq_some_iff->zh, getElem?_set->za, getElem?_set_ne->zf, getElem?_set_self->zk, getElem_cons_succ->yg, getElem_mem->jn, length_append->zm, length_cons->zx, length_map->qo, length_nil->qk, length_set->zi, length_take->qg, map_append->jj, map_cons->zl, map_nil->zu, mem_append->zt, mem_cons->zv, mem_cons_of_mem->qp, mem_iff_getElem->xw, mem_map->qz, mem_singleton->jt, nil_append->qd, not_mem_nil->jw, sublist_cons_self->jo, take_add_one->y9, take_of_length_le->jp, take_succ_eq_append_getElem->yc
open Nat renaming le_refl->ze, le_trans->qq, zero_le->zd
open Option renaming getD_some->qh
section
attribute [local irreducible] run
def SlP (ks:List (List UInt8)) (its:List JV) (X:AV) (R1:List (Nat×OB)) (Y:AV) (R2:List (Nat×OB)):Prop :=
 (ks=[]/\its=[]/\X=.nil/\R1=[]/\Y=.nil/\R2=[])\/∃b1 g1 b2 g2,X=.orow b1 g1/\R1=[(b1,.orow 9 1 g1 ks.length (ks.map .s))]/\Y=.orow b2 g2/\R2=[(b2,.orow 25 4 g2 its.length (zac its))]
theorem SlP.k {ks:List (List UInt8)} {its:List JV} {X Y:AV} {R1 R2:List (Nat×OB)} (h:SlP ks its X R1 Y R2):SlO 9 1 ks.length (ks.map .s) X R1:=by
 rcases h with ⟨rfl,rfl,rfl,rfl,rfl,rfl⟩|⟨b1,g1,b2,g2,rfl,rfl,rfl,rfl⟩
 ·exact .inl ⟨rfl,rfl,rfl,rfl⟩
 ·exact .inr ⟨_,_,rfl,rfl⟩
theorem SlP.i {ks:List (List UInt8)} {its:List JV} {X Y:AV} {R1 R2:List (Nat×OB)} (h:SlP ks its X R1 Y R2):SlO 25 4 its.length (zac its) Y R2:=by
 rcases h with ⟨rfl,rfl,rfl,rfl,rfl,rfl⟩|⟨b1,g1,b2,g2,rfl,rfl,rfl,rfl⟩
 ·exact .inl ⟨rfl,zan,rfl,rfl⟩
 ·exact .inr ⟨_,_,rfl,rfl⟩
theorem SlP.flat {ks:List (List UInt8)} {its:List JV} {X Y:AV} {R1 R2:List (Nat×OB)} (h:SlP ks its X R1 Y R2):X.flat=true/\Y.flat=true:=by
 rcases h with ⟨rfl,rfl,rfl,rfl,rfl,rfl⟩|⟨b1,g1,b2,g2,rfl,rfl,rfl,rfl⟩<;>exact⟨rfl,rfl⟩
section
variable [Tabs Tryz.prog] [Utf Tryz.prog] {objs:List OB} {K:List OB->AV->Prop} {L:List (Nat×OB)} {p:Nat} {s:List UInt8} {ρ:Rs}
theorem object_k {val:Rs->Tk->JV×Rs} {d:Nat} (hv:ValK s p d val) (hg:GV s val) (hn:∀ρ t,(val ρ t).2.fail=0->ρ.nodes+1<=(val ρ t).2.nodes) (hvz:ValFroz val) (hs:s.length<=1048576) (hB:GB s ρ) (hC:zaK ((p,zaJ s ρ)::L)) (hO:zaL ((p,zaJ s ρ)::L) objs)
  (hk:∀o,zaL ((p,zaJ s (zgB s val ρ).2)::L) o->K o (.agg (zak (zgB s val ρ).1))):zae Tryz.prog 62 [.p p 0,.i .i64 (d:Int)] objs K:=by
 refine znb (E1:=9) (s1:=1) (E2:=25) (s2:=4) (zgB s val ρ).1 (zgr hC) hk ?_;refine zcX is_ref14_parser_object fun C _=>?_;have fin:∀{o:List OB} {ρ':Rs} {ks:List (List UInt8)} {its:List JV} {X Y:AV} {R1 R2:List (Nat×OB)} {qt qv qr:Nat} {T V W:OB},zgB s val ρ=(.mk 7 [] ks its,ρ')->SlP ks its X R1 Y R2->zaL ((p,zaJ s ρ')::(qt,T)::(qv,V)::(qr,W)::(R1++(R2++L))) o ->
   ∃X' R1 Y' R2,SlO 9 1 (zgB s val ρ).1.keys.length ((zgB s val ρ).1.keys.map .s) X' R1/\SlO 25 4 (zgB s val ρ).1.items.length (zac (zgB s val ρ).1.items) Y' R2/\zaL ((p,zaJ s (zgB s val ρ).2)::(R1++(R2++L))) (o.set qr (jvB 7 X Y))/\AV.agg [.i .i64 7,.s [],X,Y]=.agg [.i .i64 (zgB s val ρ).1.kind,.s (zgB s val ρ).1.text,X',Y']:=by
  intro o ρ' ks its X Y R1 R2 qt qv qr T V W he hS hO;rw[he];refine⟨X,R1,Y,R2,hS.k,hS.i,?_,rfl⟩;exact(zaL.set (A:=[(p,zaJ s ρ'),(qt,T),(qv,V)]) (jvB 7 X Y) hO).sub ((((jo _ _).trans (jo _ _)).trans (jo _ _)).cons_cons _)
 rw[c_ref14_parser_object];refine zaa fun Z0 hZ0=>?_;simp only[sxZ,z6,z7,z8,j4,j5,j6,j7,j8,j9,x6,x7,x8,x9,y4,y5,reduceCtorEq,↓reduceIte];have hO1:=hO.new zvB;unfold zvB at hO1;generalize hqr:objs.length=qr at hO1 ⊢;generalize objs++[OB.box 25 [.i .i64 0,.s [],.nil,.nil]]=o1 at hO1 ⊢;subst hZ0;refine zaa fun Z0 hZ0=>?_;simp only[sxZ,z6,z7,z8,j4,j5,j6,j7,j8,j9,x6,x7,x8,x9,y4,y5,reduceCtorEq,↓reduceIte,gn1,sn1];have hO2:=hO1.new (jvB 7 .nil .nil);unfold jvB at hO2;generalize hqv:o1.length=qv at hO2 ⊢;generalize o1++[OB.box 25 [.i .i64 7,.s [],.nil,.nil]]=o2 at hO2 ⊢;subst hZ0;refine zaa fun Z0 hZ0=>?_;simp only[sxZ,z6,z7,z8,j4,j5,j6,j7,j8,j9,x6,x7,x8,x9,y4,y5,reduceCtorEq,↓reduceIte];have hO2':zaL ((p,zaJ s ρ)::(qv,jvB 7 .nil .nil)::(qr,zvB)::L) o2:=hO2.perm ((ja.cons _ (ja.swap _ _ _)).trans (ja.swap _ _ _));refine zah (zcF (by omega) hO2' fun o3 hO3=>?_);have hB1:=zbp hB;have hT1:=zbI hB;have hrobj:zgB s val ρ=if isP (zad s ρ).1 125=true then (.mk 7 [] [] [],(zad s ρ).2) else (.mk 7 [] (zbM s val (s.length+2) (zad s ρ).2 (zad s ρ).1 [] []).1.1 (zbM s val (s.length+2) (zad s ρ).2 (zad s ρ).1 [] []).1.2,(zbM s val (s.length+2) (zad s ρ).2 (zad s ρ).1 [] []).2):=rfl
 generalize zad s ρ=N at hO3 hB1 hT1 hrobj ⊢;obtain⟨T,ρ1⟩:=N;simp only at hO3 hB1 hT1 hrobj ⊢;unfold zh9 tkC;simp only[sxZ,z6,z7,z8,j4,j5,j6,j7,j8,j9,x6,x7,x8,x9,y4,y5,reduceCtorEq,↓reduceIte,gn1,sn1];have f1:∀x y z,OB.box 56 [.i .i64 x,.s y,.i .i64 z]=za0 (x,y,z):=fun _ _ _=>rfl;rw[f1];have hO4:=hO3.new (za0 T);have hO4:zaL ((p,zaJ s ρ1)::(o3.length,za0 T)::(qv,jvB 7 .nil .nil)::(qr,zvB)::([]++([]++L))) (o3++[za0 T]):=hO4.perm (ja.swap _ _ _);generalize o3.length=qt at hO4 ⊢;generalize o3++[za0 (T.1,T.2.1,T.2.2)]=o4 at hO4 ⊢;have st:∀(o:List OB) (ρ':Rs) (T':Tk) (X:AV) (R1:List (Nat×OB)) (Y:AV) (R2:List (Nat×OB)),zaL ((p,zaJ s ρ')::(qt,za0 T')::(qv,jvB 7 X Y)::(qr,zvB)::(R1++(R2++L))) o->o[p]? = some (.box 53 [.s s,.i .i64 ρ'.pos,.i .i64 (ρ'.nodes:Int),.i .i64 ρ'.fail,.i .i64 ρ'.wh])/\o[qt]? = some (.box 56 [.i .i64 T'.1,.s T'.2.1,.i .i64 T'.2.2])/\o[qv]? = some (.box 25 [.i .i64 7,.s [],X,Y])/\o[qr]? = some (.box 25 [.i .i64 0,.s [],.nil,.nil])/\(∀x,(o.set qr x)[qr]? = some x)/\(∀x,(o.set qt x)[qt]? = some x)/\(∀x,(o.set qv x)[qv]? = some x) :=
  fun o ρ' T' X R1 Y R2 h=>⟨h.get (by simp[zaJ]),h.get (by simp[za0,tkC]),h.get (by simp[jvB]),h.get (by simp[zvB]),fun x=>zk (h.lt (i:=qr) (x:=zvB) (by simp)),fun x=>zk (h.lt (i:=qt) (x:=za0 T') (by simp)),fun x=>zk (h.lt (i:=qv) (x:=jvB 7 X Y) (by simp))⟩
 subst hZ0;refine zaa fun Z0 hZ0=>?_;obtain⟨e1,e2,e3,e4,s1,s2,s3⟩:=st _ _ _ _ _ _ _ hO4;simp only[sxZ,z6,z7,z8,j4,j5,j6,j7,j8,j9,x6,x7,x8,x9,y4,y5,reduceCtorEq,↓reduceIte,e2];refine zah (zfY T 125 ?_)
 cases hcl:isP T 125 with
 | true=>
  rw[hcl,if_pos rfl] at hrobj;simp only[sxZ,z6,z7,z8,j4,j5,j6,j7,j8,j9,x6,x7,x8,x9,y4,y5,reduceCtorEq,↓reduceIte,e3,e4,s1];exact fin hrobj (.inl ⟨rfl,rfl,rfl,rfl,rfl,rfl⟩) hO4
 | false=>
  rw[hcl,if_neg Bool.false_ne_true] at hrobj;simp only[sxZ,z6,z7,z8,j4,j5,j6,j7,j8,j9,x6,x7,x8,x9,y4,y5,reduceCtorEq,↓reduceIte];subst hZ0;refine zaa fun Z0 hZ0=>?_;clear e1 e2 e3 e4 s1 s2 s3;simp only[sxZ,z6,z7,z8,j4,j5,j6,j7,j8,j9,x6,x7,x8,x9,y4,y5,reduceCtorEq,↓reduceIte];refine zaH (fun n o tm=>∃(i:Nat) (ρ':Rs) (T':Tk) (ks:List (List UInt8)) (its:List JV) (X:AV) (R1:List (Nat×OB)) (Y:AV) (R2:List (Nat×OB)),n=s.length+2 - i/\ks.length=i/\its.length=i/\zgB s val ρ=(.mk 7 [] (zbM s val n ρ' T' ks its).1.1 (zbM s val n ρ' T' ks its).1.2,(zbM s val n ρ' T' ks its).2)/\GB s ρ'/\T'.2.1.length<=s.length/\(ρ'.fail=0->i<=ρ'.nodes)/\SlP ks its X R1 Y R2/\zaL ((p,zaJ s ρ')::(qt,za0 T')::(qv,jvB 7 X Y)::(qr,zvB)::(R1++(R2++L))) o /\
    tm.length=98/\tm[0]? = some (.p p 0)/\tm[1]? = some (.i .i64 (d:Int))/\tm[4]? = some (.p qr 0)/\tm[5]? = some (.p qv 0)/\tm[6]? = some (.p qt 0)) (s.length+2) ⟨0,ρ1,T,[],[],.nil,[],.nil,[],rfl,rfl,rfl,hrobj,hB1.1,hT1,fun _=>zd _,.inl ⟨rfl,rfl,rfl,rfl,rfl,rfl⟩,hO4,rfl,rfl,rfl,rfl,rfl,rfl⟩ ?_
  clear hO hO1 hO2 hO2' hO3 hO4 hrobj hB1 hT1 hcl;rintro n o tm ⟨i,ρ',T',ks,its,X,R1,Y,R2,rfl,hi,hi2,hrobj,hGB,hTx,hnd,hS,hO,hlen,t0,t1,t4,t5,t6⟩;obtain⟨e1,e2,e3,e4,s1,s2,s3⟩:=st _ _ _ _ _ _ _ hO;refine zaa fun Z hZ=>?_
  by_cases c1:ρ'.fail=0
  rotate_left
  ·have he:zbM s val (s.length+2 - i) ρ' T' ks its=((ks,its),ρ'):=by
    cases s.length+2 - i with
    | zero=>rw[zbM]
    | succ m=>rw[zbM,if_pos c1]
   rw[he] at hrobj;simp only[sxZ,z6,z7,z8,j4,j5,j6,j7,j8,j9,x6,x7,x8,x9,y4,y5,reduceCtorEq,↓reduceIte,za,hlen,t0,e1,c1];subst hZ;subst hZ0;simp only[sxZ,z6,z7,z8,j4,j5,j6,j7,j8,j9,x6,x7,x8,x9,y4,y5,reduceCtorEq,↓reduceIte,za,hlen,t4,t5,e3,e4,s1,hS.flat.1,hS.flat.2];exact fin hrobj hS hO
  have hil:i<=s.length:=by
   have h1:=hnd c1;have h2:=hGB.n0 c1;have h3:=hGB.p1;omega
  obtain⟨m,hm⟩:∃m,s.length+2 - i=m+1:=⟨s.length+1 - i,by omega⟩;rw[hm,zbM,if_neg (fun h=>h c1)] at hrobj;simp only at hrobj;simp only[sxZ,z6,z7,z8,j4,j5,j6,j7,j8,j9,x6,x7,x8,x9,y4,y5,reduceCtorEq,↓reduceIte,za,hlen,t0,e1,c1];subst hZ;rw[zaR];clear s1 s2 s3 e1 e4;refine zaa fun Z hZ=>?_;have hk1:∀t,t=ks->zki ρ' T' t=(if T'.2.1∈ks then zaV (if ¬T'.1=3 then zaV ρ' T'.2.2 140 else ρ') T'.2.2 143 else if ¬T'.1=3 then zaV ρ' T'.2.2 140 else ρ'):=fun t h=>by rw[h];rfl
  have hk1:=hk1 ks rfl;have hGk:=gb_key hGB T' ks;have hnk:=rkey_n ρ' T' ks;generalize hρa:(if ¬T'.1=3 then zaV ρ' T'.2.2 140 else ρ')=ρa at hk1;refine zaD (fun o tm=>zaL ((p,zaJ s ρa)::(qt,za0 T')::(qv,jvB 7 X Y)::(qr,zvB)::(R1++(R2++L))) o/\tm.length=98/\tm[0]? = some (.p p 0)/\tm[1]? = some (.i .i64 (d:Int))/\tm[4]? = some (.p qr 0)/\tm[5]? = some (.p qv 0)/\tm[6]? = some (.p qt 0)) ?_ ?_
  ·refine zaa fun W hW=>?_
   by_cases c3:T'.1=3
   ·rw[if_neg (fun h=>h c3)] at hρa;subst hρa;simp only[sxZ,z6,z7,z8,j4,j5,j6,j7,j8,j9,x6,x7,x8,x9,y4,y5,reduceCtorEq,↓reduceIte,za,hlen,t6,e2,c3];subst hW;simp only[sxZ,z6,z7,z8,j4,j5,j6,j7,j8,j9,x6,x7,x8,x9,y4,y5,reduceCtorEq,↓reduceIte,zab,zi,za,hlen,t0,t1,t4,t5,t6,and_self,and_true];exact hO
   ·rw[if_pos c3] at hρa;simp only[sxZ,z6,z7,z8,j4,j5,j6,j7,j8,j9,x6,x7,x8,x9,y4,y5,reduceCtorEq,↓reduceIte,za,hlen,t6,e2,c3];subst hW;simp only[sxZ,z6,z7,z8,j4,j5,j6,j7,j8,j9,x6,x7,x8,x9,y4,y5,reduceCtorEq,↓reduceIte,za,hlen,t0,t6,e2];refine zah (zcm hO T'.2.2 140 fun o8 hO8=>?_);rw[hρa] at hO8;simp only[sxZ,z6,z7,z8,j4,j5,j6,j7,j8,j9,x6,x7,x8,x9,y4,y5,reduceCtorEq,↓reduceIte,zab,zi,za,hlen,t0,t1,t4,t5,t6,and_self,and_true];exact hO8
  clear hO hlen t0 t1 t4 t5 t6 e2 e3;rintro oa tm ⟨hO,hlen,t0,t1,t4,t5,t6⟩;subst hZ;refine zaa fun Z hZ=>?_;refine zaD (fun o tm=>zaL ((p,zaJ s (zki ρ' T' ks))::(qt,za0 T')::(qv,jvB 7 X Y)::(qr,zvB)::(R1++(R2++L))) o/\tm.length=98/\tm[0]? = some (.p p 0)/\tm[1]? = some (.i .i64 (d:Int))/\tm[4]? = some (.p qr 0)/\tm[5]? = some (.p qv 0)/\tm[6]? = some (.p qt 0)) ?_ ?_
  ·obtain⟨e1,e2,e3,e4,s1,s2,s3⟩:=st _ _ _ _ _ _ _ hO;refine zaa fun W hW=>?_;have hPerm:((p,zaJ s ρa)::(qt,za0 T')::(qv,jvB 7 X Y)::(qr,zvB)::(R1++(R2++L))).Perm (R1++(R2++((p,zaJ s ρa)::(qt,za0 T')::(qv,jvB 7 X Y)::(qr,zvB)::L))):=by
    have h0:∀(A B C:List (Nat×OB)),(A++(B++C)).Perm (B++(A++C)):=fun A B C=>by
     rw[<-zy,<-zy];exact ja.append_right C List.perm_append_comm
    refine(h0 [(p,zaJ s ρa),(qt,za0 T'),(qv,jvB 7 X Y),(qr,zvB)] R1 (R2++L)).trans ?_;exact ja.append_left R1 (h0 [(p,zaJ s ρa),(qt,za0 T'),(qv,jvB 7 X Y),(qr,zvB)] R2 L)
   simp only[sxZ,z6,z7,z8,j4,j5,j6,j7,j8,j9,x6,x7,x8,x9,y4,y5,reduceCtorEq,↓reduceIte,za,hlen,t5,t6,e2,e3];refine zah (znd ks its T'.2.1 (by omega) (by omega) hS.k hS.i (hO.perm hPerm) (fun hm o w ho=>?_) (fun hm o ho=>?_))
   ·have ho:=ho.perm hPerm.symm;rw[if_pos hm] at hk1;rw[zaf];simp only[sxZ,z6,z7,z8,j4,j5,j6,j7,j8,j9,x6,x7,x8,x9,y4,y5,reduceCtorEq,↓reduceIte,za,hlen,gn1,sn1];have ho2:=ho.app [OB.box 25 [.i .i64 w.kind,.s w.text,.row w.keys.length (w.keys.map .s),.row w.items.length (zac w.items)]];obtain⟨e1',e2',e3',_,_,_,_⟩:=st _ _ _ _ _ _ _ ho2;subst hW;simp only[sxZ,z6,z7,z8,j4,j5,j6,j7,j8,j9,x6,x7,x8,x9,y4,y5,reduceCtorEq,↓reduceIte,za,hlen,t0,t6,e2'];refine zah (zcm ho2 T'.2.2 143 fun o8 hO8=>?_);rw[<-hk1] at hO8;simp only[sxZ,z6,z7,z8,j4,j5,j6,j7,j8,j9,x6,x7,x8,x9,y4,y5,reduceCtorEq,↓reduceIte,zab,zi,za,hlen,t0,t1,t4,t5,t6,and_self,and_true];exact hO8
   ·have ho:=ho.perm hPerm.symm;rw[if_neg hm] at hk1;simp only[sxZ,z6,z7,z8,j4,j5,j6,j7,j8,j9,x6,x7,x8,x9,y4,y5,reduceCtorEq,↓reduceIte,za,hlen,gn1,sn1];have ho2:=ho.app [OB.box 25 [.i .i64 0,.s [],.nil,.nil]];subst hW;rw[<-hk1] at ho2;simp only[sxZ,z6,z7,z8,j4,j5,j6,j7,j8,j9,x6,x7,x8,x9,y4,y5,reduceCtorEq,↓reduceIte,zab,zi,za,hlen,t0,t1,t4,t5,t6,and_self,and_true];exact ho2
  clear hO hlen t0 t1 t4 t5 t6 hk1 hρa;generalize zki ρ' T' ks=ρk at hrobj hGk hnk;rintro ob tm ⟨hO,hlen,t0,t1,t4,t5,t6⟩;subst hZ;refine zaa fun Z hZ=>?_;obtain⟨e1,e2,e3,e4,s1,s2,s3⟩:=st _ _ _ _ _ _ _ hO;simp only[sxZ,z6,z7,z8,j4,j5,j6,j7,j8,j9,x6,x7,x8,x9,y4,y5,reduceCtorEq,↓reduceIte,za,hlen,t6,e2];refine zc6 (fun tm=>tm.length=98/\tm[0]? = some (.p p 0)/\tm[1]? = some (.i .i64 (d:Int))/\tm[4]? = some (.p qr 0)/\tm[5]? = some (.p qv 0)/\tm[6]? = some (.p qt 0)/\tm[9]? = some (.s T'.2.1)) ?_ ?_
  ·simp only[sxZ,z6,z7,z8,j4,j5,j6,j7,j8,j9,x6,x7,x8,x9,y4,y5,reduceCtorEq,↓reduceIte,zi,za,hlen,t0,t1,t4,t5,t6,and_self]
  clear hlen t0 t1 t4 t5 t6;rintro tm ⟨hlen,t0,t1,t4,t5,t6,t9⟩;subst hZ;refine zaa fun Z hZ=>?_;refine zaa fun W0 hW0=>?_;simp only[sxZ,z6,z7,z8,j4,j5,j6,j7,j8,j9,x6,x7,x8,x9,y4,y5,reduceCtorEq,↓reduceIte,za,hlen,t0];refine zah (zcF (by omega) hO fun o6 hO6=>?_);have hB_ρ2:=zbp hGk;have hT_ρ2:=zbI hGk;have hn_ρ2:=zbh s ρk;have hz_ρ2:=zcf s ρk;generalize zad s ρk=N at hO6 hB_ρ2 hT_ρ2 hn_ρ2 hz_ρ2 hrobj ⊢;obtain⟨T2,ρ2⟩:=N;simp only at hO6 hB_ρ2 hT_ρ2 hn_ρ2 hz_ρ2 hrobj ⊢;obtain⟨e1,e2,e3,e4,s1,s2,s3⟩:=st _ _ _ _ _ _ _ hO6;unfold zh9 tkC;simp only[sxZ,z6,z7,z8,j4,j5,j6,j7,j8,j9,x6,x7,x8,x9,y4,y5,reduceCtorEq,↓reduceIte,za,hlen,t6,e2,s2];rw[f1];have hO7:zaL ((p,zaJ s ρ2)::(qt,za0 T2)::(qv,jvB 7 X Y)::(qr,zvB)::(R1++(R2++L))) (o6.set qt (za0 (T2.1,T2.2.1,T2.2.2))):=zaL.set (A:=[(p,zaJ s ρ2)]) (za0 T2) hO6;generalize o6.set qt (za0 (T2.1,T2.2.1,T2.2.2))=o7 at hO7 ⊢;refine zc6 (fun tm=>tm.length=98/\tm[0]? = some (.p p 0)/\tm[1]? = some (.i .i64 (d:Int))/\tm[4]? = some (.p qr 0)/\tm[5]? = some (.p qv 0)/\tm[6]? = some (.p qt 0)/\tm[9]? = some (.s T'.2.1)) ?_ ?_
  ·simp only[sxZ,z6,z7,z8,j4,j5,j6,j7,j8,j9,x6,x7,x8,x9,y4,y5,reduceCtorEq,↓reduceIte,zi,za,hlen,t0,t1,t4,t5,t6,t9,and_self]
  clear hO6 hO hlen t0 t1 t4 t5 t6 t9 e1 e2 e3 e4 s1 s2 s3;rintro tm ⟨hlen,t0,t1,t4,t5,t6,t9⟩;have hO:=hO7;clear hO7;subst hW0;refine zaD (fun o tm=>zaL ((p,zaJ s (za1 ρ2 T2 58))::(qt,za0 T2)::(qv,jvB 7 X Y)::(qr,zvB)::(R1++(R2++L))) o/\tm.length=98/\tm[0]? = some (.p p 0)/\tm[1]? = some (.i .i64 (d:Int))/\tm[4]? = some (.p qr 0)/\tm[5]? = some (.p qv 0)/\tm[6]? = some (.p qt 0)/\tm[9]? = some (.s T'.2.1)) ?_ ?_
  ·obtain⟨e1,e2,e3,e4,s1,s2,s3⟩:=st _ _ _ _ _ _ _ hO;refine zaa fun W hW=>?_
   by_cases c3:ρ2.fail=0
   rotate_left
   ·have hw:za1 ρ2 T2 58=ρ2:=by unfold za1;rw[if_neg (fun h=>c3 h.1)]
    simp only[sxZ,z6,z7,z8,j4,j5,j6,j7,j8,j9,x6,x7,x8,x9,y4,y5,reduceCtorEq,↓reduceIte,za,hlen,t0,e1,c3];subst hW;simp only[sxZ,z6,z7,z8,j4,j5,j6,j7,j8,j9,x6,x7,x8,x9,y4,y5,reduceCtorEq,↓reduceIte,zab,zi,za,hlen,t0,t1,t4,t5,t6,t9,hw,and_self,and_true];exact hO
   ·simp only[sxZ,z6,z7,z8,j4,j5,j6,j7,j8,j9,x6,x7,x8,x9,y4,y5,reduceCtorEq,↓reduceIte,za,hlen,t0,t6,e1,e2,c3];refine zah (zfY T2 58 ?_)
    cases h44:isP T2 58 with
    | true=>
     have hw:za1 ρ2 T2 58=ρ2:=by unfold za1;rw[if_neg (fun h=>by rw[h44] at h;cases h.2)]
     simp only[sxZ,z6,z7,z8,j4,j5,j6,j7,j8,j9,x6,x7,x8,x9,y4,y5,reduceCtorEq,↓reduceIte,za,hlen];subst hW;simp only[sxZ,z6,z7,z8,j4,j5,j6,j7,j8,j9,x6,x7,x8,x9,y4,y5,reduceCtorEq,↓reduceIte,zab,zi,za,hlen,t0,t1,t4,t5,t6,t9,hw,and_self,and_true];exact hO
    | false=>
     have hw:za1 ρ2 T2 58=zaV ρ2 T2.2.2 140:=by unfold za1;rw[if_pos ⟨c3,h44⟩]
     simp only[sxZ,z6,z7,z8,j4,j5,j6,j7,j8,j9,x6,x7,x8,x9,y4,y5,reduceCtorEq,↓reduceIte,za,hlen];subst hW;simp only[sxZ,z6,z7,z8,j4,j5,j6,j7,j8,j9,x6,x7,x8,x9,y4,y5,reduceCtorEq,↓reduceIte,za,hlen,t0,t6,e2];refine zah (zcm hO T2.2.2 140 fun o8 hO8=>?_);simp only[sxZ,z6,z7,z8,j4,j5,j6,j7,j8,j9,x6,x7,x8,x9,y4,y5,reduceCtorEq,↓reduceIte,zab,zi,za,hlen,t0,t1,t4,t5,t6,t9,hw,and_self,and_true];exact hO8
  clear hO hlen t0 t1 t4 t5 t6 t9;rintro oc tm ⟨hO,hlen,t0,t1,t4,t5,t6,t9⟩;have hG3:=zeY hB_ρ2.1 T2 58;have hn3:=zeK ρ2 T2 58;have hz3:=zeL ρ2 T2 58;generalize za1 ρ2 T2 58=ρ3 at hO hG3 hn3 hz3 hrobj;subst hZ;refine zaa fun Z hZ=>?_;simp only[sxZ,z6,z7,z8,j4,j5,j6,j7,j8,j9,x6,x7,x8,x9,y4,y5,reduceCtorEq,↓reduceIte,za,hlen,t0];refine zah (zcF (by omega) hO fun o6 hO6=>?_);have hB4:=zbp hG3;have hT4:=zbI hG3;have hn4:=zbh s ρ3;have hz4:=zcf s ρ3;generalize zad s ρ3=N at hO6 hB4 hT4 hn4 hz4 hrobj ⊢;obtain⟨T4,ρ4⟩:=N;simp only at hO6 hB4 hT4 hn4 hz4 hrobj ⊢;have hvc:=fun {objs:List OB} {K:List OB->AV->Prop} {L:List (Nat×OB)} (h1) (h2) (h3)=>hv (objs:=objs) (K:=K) (L:=L) (ρ:=ρ4) T4 hB4.1 hB4.2 hT4 h1 h2 h3;have hg5:=hg ρ4 T4 hB4.1 hB4.2;have hn5:=hn ρ4 T4;have hz5:=hvz ρ4 T4;generalize val ρ4 T4=a at hvc hg5 hn5 hz5 hrobj;obtain⟨v,ρ5⟩:=a;simp only at hvc hg5 hn5 hz5 hrobj;obtain⟨c0,c1',c2,c3,hcv⟩:∃c0 c1 c2 c3,zak v=[c0,c1,c2,c3]:=⟨_,_,_,_,zaf v⟩;have hcf:(AV.agg [c0,c1',c2,c3]).flat=true:=by
   have:=zaf v;rw[hcv] at this;injection this with q0 this
   injection this with q1 this
   injection this with q2 this
   injection this with q3 _
   subst q0 q1 q2 q3
   rfl
  have hCL:zaK ((p,zaJ s ρ4)::(qt,za0 T2)::(qv,jvB 7 X Y)::(qr,zvB)::(R1++(R2++L))):=zha hS.k hS.i hC;unfold zh9 tkC;simp only[sxZ,z6,z7,z8,j4,j5,j6,j7,j8,j9,x6,x7,x8,x9,y4,y5,reduceCtorEq,↓reduceIte,za,hlen,t0,t1];refine zah (hvc hCL hO6 fun o7 hO7=>?_);rw[hcv];simp only[sxZ,z6,z7,z8,j4,j5,j6,j7,j8,j9,x6,x7,x8,x9,y4,y5,reduceCtorEq,↓reduceIte,za,hlen,gn1,sn1,hcf];have hO8:=hO7.new (.box 25 [c0,c1',c2,c3]);generalize o7.length=qi at hO8 ⊢;generalize o7++[OB.box 25 [c0,c1',c2,c3]]=o8 at hO8 ⊢;refine zc6 (fun tm=>tm.length=98/\tm[0]? = some (.p p 0)/\tm[1]? = some (.i .i64 (d:Int))/\tm[4]? = some (.p qr 0)/\tm[5]? = some (.p qv 0)/\tm[6]? = some (.p qt 0)/\tm[9]? = some (.s T'.2.1)/\tm[10]? = some (.p qi 0)) ?_ ?_
  ·simp only[sxZ,z6,z7,z8,j4,j5,j6,j7,j8,j9,x6,x7,x8,x9,y4,y5,reduceCtorEq,↓reduceIte,zi,za,hlen,t0,t1,t4,t5,t6,t9,and_self]
  clear hO hO6 hO7 hlen t0 t1 t4 t5 t6 t9;rintro tm ⟨hlen,t0,t1,t4,t5,t6,t9,t10⟩;subst hZ;refine zaa fun Z hZ=>?_;have hO8p:zaL ((p,zaJ s ρ5)::(qt,za0 T2)::(qv,jvB 7 X Y)::(qr,zvB)::(R1++(R2++L))) o8:=hO8.sub (jo _ _);obtain⟨e1,e2,e3,e4,s1,s2,s3⟩:=st _ _ _ _ _ _ _ hO8p;have ei:=hO8.get (i:=qi) (x:=.box 25 [c0,c1',c2,c3]) (by simp);refine zaD (fun o tm=>∃X' R1' Y' R2',SlP (ks++[T'.2.1]) (its++[v]) X' R1' Y' R2'/\zaL ((p,zaJ s ρ5)::(qt,za0 T2)::(qv,jvB 7 X' Y')::(qr,zvB)::(R1'++(R2'++L))) o/\tm.length=98/\tm[0]? = some (.p p 0)/\tm[1]? = some (.i .i64 (d:Int))/\tm[4]? = some (.p qr 0)/\tm[5]? = some (.p qv 0)/\tm[6]? = some (.p qt 0)) ?_ ?_
  ·rcases hS with ⟨z1,z2,rfl,rfl,rfl,rfl⟩|⟨b1,g1,b2,g2,rfl,rfl,rfl,rfl⟩
   ·have hlq:=(zh.1 e3).1;have hli:=(zh.1 ei).1;have n1:¬qv=o8.length:=by omega
    have n2:¬qi=o8.length:=by omega
    have h1:∀x,(o8++[x])[qv]? = some (.box 25 [.i .i64 7,.s [],.nil,.nil]):=fun x=>by rw[zp hlq];exact e3
    have h2:∀x,(o8++[x])[qi]? = some (.box 25 [c0,c1',c2,c3]):=fun x=>by rw[zp hli];exact ei
    have h3:∀x y,(o8++[x]++[y])[qv]? = some (.box 25 [.i .i64 7,.s [],.nil,.nil]):=fun x y=>by rw[zp (by simp;omega)];exact h1 x
    have h4:∀x y z,((o8++[x]++[y]).set qv z)[qv]? = some z:=fun x y z=>zk (by simp;omega);subst z1 z2;simp only[sxZ,z6,z7,z8,j4,j5,j6,j7,j8,j9,x6,x7,x8,x9,y4,y5,reduceCtorEq,↓reduceIte,za,hlen,t5,t9,t10,e3,ei,gn1,sn1,h1,h2,h3,h4,n1,n2,zab,zi,List.set_set,t0,t1,t4,t6,and_self,and_true,not_false_eq_true,true_and];have hN:=(hO8p.new (.orow 9 1 0 1 [AV.s T'.2.1])).new (.orow 25 4 0 1 [c0,c1',c2,c3]);have elen:(o8++[OB.orow 9 1 0 1 [AV.s T'.2.1]]).length=o8.length+1:=by simp
    rw[elen] at hN;have hR:=hN.set (A:=[(o8.length+1,OB.orow 25 4 0 1 [c0,c1',c2,c3]),(o8.length,OB.orow 9 1 0 1 [AV.s T'.2.1]),(p,zaJ s ρ5),(qt,za0 T2)]) (jvB 7 (.orow o8.length 0) (.orow (o8.length+1) 0));refine⟨_,[(o8.length,OB.orow 9 1 0 1 [AV.s T'.2.1])],_,[(o8.length+1,OB.orow 25 4 0 1 [c0,c1',c2,c3])],.inr ⟨_,_,_,_,rfl,rfl,rfl,by rw[zav,zan,hcv];rfl⟩,hR.perm ?_⟩;refine(List.perm_append_comm (l₁:=[(o8.length+1,OB.orow 25 4 0 1 [c0,c1',c2,c3]),(o8.length,OB.orow 9 1 0 1 [AV.s T'.2.1])]) (l₂:=[(p,zaJ s ρ5),(qt,za0 T2),(qv,jvB 7 (.orow o8.length 0) (.orow (o8.length+1) 0)),(qr,zvB)])).append_right L |>.trans ?_;exact ja.cons _ (ja.cons _ (ja.cons _ (ja.cons _ (ja.swap _ _ _))))
   ·have eb1:=hO8.get (i:=b1) (x:=.orow 9 1 g1 ks.length (ks.map .s)) (by simp);have eb2:=hO8.get (i:=b2) (x:=.orow 25 4 g2 its.length (zac its)) (by simp);have hlq:=(zh.1 e3).1;have hl1:=(zh.1 eb1).1;have hl2:=(zh.1 eb2).1;have hnd8:=hO8.1;simp only[zl,jj,zu,List.nodup_cons,qw,qd,zv,zt,jw,or_false,not_or] at hnd8;have n1:¬qv=b1:=hnd8.2.2.2.1.2.1;have n2:¬qi=b1:=hnd8.1.2.2.2.2.1;have n3:¬b1=b2:=hnd8.2.2.2.2.2.1.1;have n4:¬qv=b2:=hnd8.2.2.2.1.2.2.1;have n1':¬b1=qv:=fun h=>n1 h.symm;have n2':¬b1=qi:=fun h=>n2 h.symm;have n4':¬b2=qv:=fun h=>n4 h.symm;have h0:∀x,(o8.set b1 x)[b1]? = some x:=fun x=>zk hl1;have h1:∀x,(o8.set b1 x)[qv]? = some (.box 25 [.i .i64 7,.s [],.orow b1 g1,.orow b2 g2]):=fun x=>by rw[zf n1'];exact e3
    have h2:∀x,(o8.set b1 x)[qi]? = some (.box 25 [c0,c1',c2,c3]):=fun x=>by rw[zf n2'];exact ei
    have h5:∀x,(o8.set b1 x)[b2]? = some (.orow 25 4 g2 its.length (zac its)):=fun x=>by rw[zf n3];exact eb2
    have h3:∀x y,((o8.set b1 x).set b2 y)[qv]? = some (.box 25 [.i .i64 7,.s [],.orow b1 g1,.orow b2 g2]):=fun x y=>by rw[zf n4'];exact h1 x
    have h4:∀x y z,(((o8.set b1 x).set b2 y).set qv z)[qv]? = some z:=fun x y z=>zk (by simp;omega);have hjl:=zaE its;simp only[sxZ,z6,z7,z8,j4,j5,j6,j7,j8,j9,x6,x7,x8,x9,y4,y5,reduceCtorEq,↓reduceIte,za,hlen,t5,t9,t10,e3,ei,eb1,h0,h1,h2,h3,h4,h5,n1,n2,zab,zi,List.set_set,t0,t1,t4,t6,and_self,and_true,not_false_eq_true,true_and];refine⟨⟨by omega,by omega⟩,⟨by omega,by omega⟩,?_⟩;have hN:=hO8p.set (A:=[(p,zaJ s ρ5),(qt,za0 T2),(qv,jvB 7 (.orow b1 g1) (.orow b2 g2)),(qr,zvB)]) (.orow 9 1 (g1+1) (ks.length+1) (ks.map AV.s++[AV.s T'.2.1]));have hN:=hN.set (A:=[(p,zaJ s ρ5),(qt,za0 T2),(qv,jvB 7 (.orow b1 g1) (.orow b2 g2)),(qr,zvB),(b1,OB.orow 9 1 (g1+1) (ks.length+1) (ks.map AV.s++[AV.s T'.2.1]))]) (.orow 25 4 (g2+1) (its.length+1) (zac its++[c0,c1',c2,c3]));have hR:=hN.set (A:=[(p,zaJ s ρ5),(qt,za0 T2)]) (jvB 7 (.orow b1 (g1+1)) (.orow b2 (g2+1)));exact⟨_,[(b1,OB.orow 9 1 (g1+1) (ks.length+1) (ks.map AV.s++[AV.s T'.2.1]))],_,[(b2,OB.orow 25 4 (g2+1) (its.length+1) (zac its++[c0,c1',c2,c3]))],.inr ⟨_,_,_,_,rfl,by rw[jj,zm];rfl,rfl,by rw[zbT,zav,zan,hcv,zm];rfl⟩,hR⟩
  clear hO8 hO8p hS hlen t0 t1 t4 t5 t6 t9 t10 e1 e2 e3 e4 s1 s2 s3 ei hCL hvc hv hg hn hcf hB hGB hTx;rintro oc tm ⟨X',R1',Y',R2',hS,hO,hlen,t0,t1,t4,t5,t6⟩;subst hZ;refine zaa fun Z hZ=>?_;simp only[sxZ,z6,z7,z8,j4,j5,j6,j7,j8,j9,x6,x7,x8,x9,y4,y5,reduceCtorEq,↓reduceIte,za,hlen,t0];refine zah (zcF (by omega) hO fun o6 hO6=>?_);have hB_ρ6:=zbp hg5;have hT_ρ6:=zbI hg5;have hn_ρ6:=zbh s ρ5;have hz_ρ6:=zcf s ρ5;generalize zad s ρ5=N at hO6 hB_ρ6 hT_ρ6 hn_ρ6 hz_ρ6 hrobj ⊢;obtain⟨T6,ρ6⟩:=N;simp only at hO6 hB_ρ6 hT_ρ6 hn_ρ6 hz_ρ6 hrobj ⊢;obtain⟨e1,e2,e3,e4,s1,s2,s3⟩:=st _ _ _ _ _ _ _ hO6;unfold zh9 tkC;simp only[sxZ,z6,z7,z8,j4,j5,j6,j7,j8,j9,x6,x7,x8,x9,y4,y5,reduceCtorEq,↓reduceIte,za,hlen,t6,e2,s2];rw[f1];have hO7:zaL ((p,zaJ s ρ6)::(qt,za0 T6)::(qv,jvB 7 X' Y')::(qr,zvB)::(R1'++(R2'++L))) (o6.set qt (za0 (T6.1,T6.2.1,T6.2.2))):=zaL.set (A:=[(p,zaJ s ρ6)]) (za0 T6) hO6;generalize o6.set qt (za0 (T6.1,T6.2.1,T6.2.2))=o7 at hO7 ⊢;refine zc6 (fun tm=>tm.length=98/\tm[0]? = some (.p p 0)/\tm[1]? = some (.i .i64 (d:Int))/\tm[4]? = some (.p qr 0)/\tm[5]? = some (.p qv 0)/\tm[6]? = some (.p qt 0)) ?_ ?_
  ·simp only[sxZ,z6,z7,z8,j4,j5,j6,j7,j8,j9,x6,x7,x8,x9,y4,y5,reduceCtorEq,↓reduceIte,zi,za,hlen,t0,t1,t4,t5,t6,and_self]
  clear hO6 hO hlen t0 t1 t4 t5 t6 e1 e2 e3 e4 s1 s2 s3;rintro tm ⟨hlen,t0,t1,t4,t5,t6⟩;have hO:=hO7;clear hO7;subst hZ;refine zaa fun Z hZ=>?_;obtain⟨e1,e2,e3,e4,s1,s2,s3⟩:=st _ _ _ _ _ _ _ hO;simp only[sxZ,z6,z7,z8,j4,j5,j6,j7,j8,j9,x6,x7,x8,x9,y4,y5,reduceCtorEq,↓reduceIte,za,hlen,t6,e2];refine zah (zfY T6 125 ?_)
  cases hcl:isP T6 125 with
  | true=>
   rw[hcl,if_pos rfl] at hrobj;simp only[sxZ,z6,z7,z8,j4,j5,j6,j7,j8,j9,x6,x7,x8,x9,y4,y5,reduceCtorEq,↓reduceIte,za,hlen,t4,t5,e3,e4,s1,hS.flat.1,hS.flat.2];exact fin hrobj hS hO
  | false=>
  rw[hcl,if_neg Bool.false_ne_true] at hrobj;simp only[sxZ,z6,z7,z8,j4,j5,j6,j7,j8,j9,x6,x7,x8,x9,y4,y5,reduceCtorEq,↓reduceIte,za,hlen];refine zc6 (fun tm=>tm.length=98/\tm[0]? = some (.p p 0)/\tm[1]? = some (.i .i64 (d:Int))/\tm[4]? = some (.p qr 0)/\tm[5]? = some (.p qv 0)/\tm[6]? = some (.p qt 0)) ?_ ?_
  ·simp only[sxZ,z6,z7,z8,j4,j5,j6,j7,j8,j9,x6,x7,x8,x9,y4,y5,reduceCtorEq,↓reduceIte,zi,za,hlen,t0,t1,t4,t5,t6,and_self]
  clear hlen t0 t1 t4 t5 t6 e1 e2 e3 e4 s1 s2 s3;rintro tm ⟨hlen,t0,t1,t4,t5,t6⟩;subst hZ;refine zaa fun Z hZ=>?_;refine zaD (fun o tm=>zaL ((p,zaJ s (za1 ρ6 T6 44))::(qt,za0 T6)::(qv,jvB 7 X' Y')::(qr,zvB)::(R1'++(R2'++L))) o/\tm.length=98/\tm[0]? = some (.p p 0)/\tm[1]? = some (.i .i64 (d:Int))/\tm[4]? = some (.p qr 0)/\tm[5]? = some (.p qv 0)/\tm[6]? = some (.p qt 0)) ?_ ?_
  ·obtain⟨e1,e2,e3,e4,s1,s2,s3⟩:=st _ _ _ _ _ _ _ hO;refine zaa fun W hW=>?_
   by_cases c3:ρ6.fail=0
   rotate_left
   ·have hw:za1 ρ6 T6 44=ρ6:=by unfold za1;rw[if_neg (fun h=>c3 h.1)]
    simp only[sxZ,z6,z7,z8,j4,j5,j6,j7,j8,j9,x6,x7,x8,x9,y4,y5,reduceCtorEq,↓reduceIte,za,hlen,t0,e1,c3];subst hW;simp only[sxZ,z6,z7,z8,j4,j5,j6,j7,j8,j9,x6,x7,x8,x9,y4,y5,reduceCtorEq,↓reduceIte,zab,zi,za,hlen,t0,t1,t4,t5,t6,hw,and_self,and_true];exact hO
   ·simp only[sxZ,z6,z7,z8,j4,j5,j6,j7,j8,j9,x6,x7,x8,x9,y4,y5,reduceCtorEq,↓reduceIte,za,hlen,t0,t6,e1,e2,c3];refine zah (zfY T6 44 ?_)
    cases h44:isP T6 44 with
    | true=>
     have hw:za1 ρ6 T6 44=ρ6:=by unfold za1;rw[if_neg (fun h=>by rw[h44] at h;cases h.2)]
     simp only[sxZ,z6,z7,z8,j4,j5,j6,j7,j8,j9,x6,x7,x8,x9,y4,y5,reduceCtorEq,↓reduceIte,za,hlen];subst hW;simp only[sxZ,z6,z7,z8,j4,j5,j6,j7,j8,j9,x6,x7,x8,x9,y4,y5,reduceCtorEq,↓reduceIte,zab,zi,za,hlen,t0,t1,t4,t5,t6,hw,and_self,and_true];exact hO
    | false=>
     have hw:za1 ρ6 T6 44=zaV ρ6 T6.2.2 140:=by unfold za1;rw[if_pos ⟨c3,h44⟩]
     simp only[sxZ,z6,z7,z8,j4,j5,j6,j7,j8,j9,x6,x7,x8,x9,y4,y5,reduceCtorEq,↓reduceIte,za,hlen];subst hW;simp only[sxZ,z6,z7,z8,j4,j5,j6,j7,j8,j9,x6,x7,x8,x9,y4,y5,reduceCtorEq,↓reduceIte,za,hlen,t0,t6,e2];refine zah (zcm hO T6.2.2 140 fun o8 hO8=>?_);simp only[sxZ,z6,z7,z8,j4,j5,j6,j7,j8,j9,x6,x7,x8,x9,y4,y5,reduceCtorEq,↓reduceIte,zab,zi,za,hlen,t0,t1,t4,t5,t6,hw,and_self,and_true];exact hO8
  clear hO hlen t0 t1 t4 t5 t6;rintro oc tm ⟨hO,hlen,t0,t1,t4,t5,t6⟩;have hG7:=zeY hB_ρ6.1 T6 44;have hn7:=zeK ρ6 T6 44;have hz7:=zeL ρ6 T6 44;generalize za1 ρ6 T6 44=ρ7 at hO hG7 hn7 hz7 hrobj;subst hZ;simp only[sxZ,z6,z7,z8,j4,j5,j6,j7,j8,j9,x6,x7,x8,x9,y4,y5,reduceCtorEq,↓reduceIte,za,hlen,t0];refine zah (zcF (by omega) hO fun o9 hO9=>?_);have hB8:=zbp hG7;have hT8:=zbI hG7;have hn8:=zbh s ρ7;have hz8:=zcf s ρ7;generalize zad s ρ7=N at hO9 hB8 hT8 hn8 hz8 hrobj ⊢;obtain⟨T8,ρ8⟩:=N;simp only at hO9 hB8 hT8 hn8 hz8 hrobj ⊢;obtain⟨e1,e2,e3,e4,s1,s2,s3⟩:=st _ _ _ _ _ _ _ hO9;unfold zh9 tkC;simp only[sxZ,z6,z7,z8,j4,j5,j6,j7,j8,j9,x6,x7,x8,x9,y4,y5,reduceCtorEq,↓reduceIte,za,hlen,t6,e2,s2];rw[f1];have hO10:zaL ((p,zaJ s ρ8)::(qt,za0 T8)::(qv,jvB 7 X' Y')::(qr,zvB)::(R1'++(R2'++L))) (o9.set qt (za0 (T8.1,T8.2.1,T8.2.2))):=zaL.set (A:=[(p,zaJ s ρ8)]) (za0 T8) hO9;generalize o9.set qt (za0 (T8.1,T8.2.1,T8.2.2))=o10 at hO10 ⊢;have zz:∀{a b:Rs},zmf a b->b.fail=0->a.fail=0:=fun {a b} h hb=>by
   by_cases c:a.fail=0
   ·exact c
   ·exact absurd ((h c).1.symm.trans hb) c
  refine⟨m,by omega,i+1,ρ8,T8,ks++[T'.2.1],its++[v],X',R1',Y',R2',by omega,by rw[zm,hi];rfl,by rw[zm,hi2];rfl,hrobj,hB8.1,hT8,fun hf=>?_,hS,hO10,?_⟩
  ·have q7:=zz hz8 hf;have q6:=zz hz7 q7;have q5:=zz hz_ρ6 q6;have q4:=zz hz5 q5;have:=hn5 q5;have:=hnd c1;omega
  ·simp only[sxZ,z6,z7,z8,j4,j5,j6,j7,j8,j9,x6,x7,x8,x9,y4,y5,reduceCtorEq,↓reduceIte,zi,za,hlen,t0,t1,t4,t5,t6,and_self]
end
end
section
attribute [local irreducible] run
theorem zl9 {L L':List (Nat×OB)} (h:zaK L) (hm:∀y,y∈L'↔y∈L):zaK L':=fun y hy b g n xs hb=>h y ((hm y).1 hy) b g n xs fun z hz=>hb z ((hm z).2 hz)
theorem ze1 {x:Nat×OB} {i T:Nat} {cs:List AV} {L:List (Nat×OB)} (h:zaK (x::L)) (hp:zap cs=true):zaK (x::(i,.box T cs)::L) :=
 zl9 (zdw (i:=i) (T:=T) h hp) fun y=>by simp only[zv];exact⟨fun h=>by rcases h with h|h|h<;>simp[h],fun h=>by rcases h with h|h|h<;>simp[h]⟩
theorem den_leaf {k:Int} {x:List UInt8} {G:Gh} {I:Imm} {y:Value} (h:Den G I (.agg [.i .i64 k,.s x,.nil,.nil]) y):Den G I (.agg (zak (.mk k x [] []))) y:=by
 rw[zak,zan];simp only[zaj,Den] at h ⊢;obtain⟨zs,rfl,⟨z0,m0,rfl,q0,z1,m1,rfl,q1,z2,m2,rfl,q2,z3,m3,rfl,q3,q4⟩,hz⟩:=h;refine⟨_,rfl,⟨_,_,rfl,q0,_,_,rfl,q1,_,_,rfl,?_,_,_,rfl,?_,q4⟩,hz⟩
 ·exact⟨none,0,[],q2,⟨ze _,fun ad h=>by cases h⟩,rfl,by simp,by simp⟩
 ·exact⟨none,0,[],q3,⟨ze _,fun ad h=>by cases h⟩,rfl,by simp,by simp⟩
def Res (K:List OB->AV->Prop) (v:JV) (o:List OB) (r:AV):Prop:=(∀G I y,Den G I r y->Den G I (.agg (zak v)) y)/\K o (.agg (zak v))
theorem zeg {K:List OB->AV->Prop} {k:Int} {x:List UInt8} {o:List OB} (h:K o (.agg (zak (.mk k x [] [])))):Res K (.mk k x [] []) o (.agg [.i .i64 k,.s x,.nil,.nil]):=⟨fun _ _ _ hy=>den_leaf hy,h⟩
section
variable [Tabs Tryz.prog] [Utf Tryz.prog] {p:Nat} {s:List UInt8}
theorem value_k (hs:s.length<=1048576):∀f d,f+d=65->d<=64->ValK s p d (fun ρ t=>zau s f ρ t d):=by
 intro f
 induction f with
 | zero=>intro d hd hd2;omega
 | succ f ih=>
  intro d hd hd2;unfold ValK;intro objs K L ρ t hB hT hTx hC hO hk;dsimp only at hk;refine jres (.agg (zak (zau s (f+1) ρ t d).1)) ?_;show zae _ _ _ _ (Res K (zau s (f+1) ρ t d).1);refine zcX is_ref14_parser_value fun C _=>?_;obtain⟨k5,k4,kw,k6,k7,kw2⟩:=vk_kind (t:=t);rw[c_ref14_parser_value];refine zaa fun Z hZ=>?_;unfold zh9 tkC;simp only[sxZ,z6,z7,z8,j4,j5,j6,j7,j8,j9,x6,x7,x8,x9,y4,y5,reduceCtorEq,↓reduceIte];have hO1:=(hO.new (za0 t)).new zvB;have elen:(objs++[za0 t]).length=objs.length+1:=by simp
  rw[elen] at hO1;unfold za0 tkC zvB at hO1;generalize objs.length=qt at hO1 ⊢;generalize objs++[OB.box 56 [.i .i64 t.1,.s t.2.1,.i .i64 t.2.2]]++[OB.box 25 [.i .i64 0,.s [],.nil,.nil]]=o at hO1 ⊢;have hO1:zaL ((p,zaJ s ρ)::(qt,za0 t)::(qt+1,zvB)::L) o:=hO1.perm ((List.reverse_perm [(p,zaJ s ρ),(qt,za0 t),(qt+1,zvB)]).append_right L);generalize qt+1=qr at hO1 ⊢;have fin:∀(o:List OB) (ρ':Rs) (x:OB) (M:List (Nat×OB)),zaL ((p,zaJ s ρ')::(qt,za0 t)::(qr,zvB)::(M++L)) o->zaL ((p,zaJ s ρ')::L) (o.set qr x):=fun o ρ' x M h=>(zaL.set (A:=[(p,zaJ s ρ'),(qt,za0 t)]) x h).sub ((((List.sublist_append_right M L).trans (jo _ _)).trans (jo _ _)).cons_cons _);have st:∀(o:List OB) (ρ':Rs) (M:List (Nat×OB)),zaL ((p,zaJ s ρ')::(qt,za0 t)::(qr,zvB)::(M++L)) o->o[p]? = some (.box 53 [.s s,.i .i64 ρ'.pos,.i .i64 (ρ'.nodes:Int),.i .i64 ρ'.fail,.i .i64 ρ'.wh])/\o[qt]? = some (.box 56 [.i .i64 t.1,.s t.2.1,.i .i64 t.2.2])/\o[qr]? = some (.box 25 [.i .i64 0,.s [],.nil,.nil])/\(∀x,(o.set qr x)[qr]? = some x) :=
   fun o ρ' M h=>⟨h.get (by simp[zaJ]),h.get (by simp[za0,tkC]),h.get (by simp[zvB]),fun x=>zk (h.lt (i:=qr) (x:=zvB) (by simp))⟩
  have hO1:zaL ((p,zaJ s ρ)::(qt,za0 t)::(qr,zvB)::([]++L)) o:=hO1;obtain⟨e1,e2,e3,s1⟩:=st _ _ _ hO1;subst hZ;refine zaa fun Z hZ=>?_;refine zaD (fun o' tm=>o=o'/\tm.length=117/\tm[0]? = some (.p p 0)/\tm[2]? = some (.i .i64 (d:Int))/\tm[4]? = some (.p qt 0)/\tm[6]? = some (.p qr 0)/\tm[7]? = some (.b (!decide (vkE t=0)))) ?_ ?_
  ·by_cases a3:t.1=3
   ·have hv:¬vkE t=0:=by have:=k5.2 a3;omega
    simp only[sxZ,z6,z7,z8,j4,j5,j6,j7,j8,j9,x6,x7,x8,x9,y4,y5,reduceCtorEq,↓reduceIte,e2,a3,zab,hv,decide_false,Bool.not_false,and_self]
   by_cases a4:t.1=4
   ·have hv:¬vkE t=0:=by have:=k4.2 a4;omega
    simp only[sxZ,z6,z7,z8,j4,j5,j6,j7,j8,j9,x6,x7,x8,x9,y4,y5,reduceCtorEq,↓reduceIte,e2,a3,a4,zab,hv,decide_false,Bool.not_false,and_self]
   by_cases a5:t.1=5
   ·have hv:¬vkE t=0:=by have:=kw.2 a5;omega
    simp only[sxZ,z6,z7,z8,j4,j5,j6,j7,j8,j9,x6,x7,x8,x9,y4,y5,reduceCtorEq,↓reduceIte,e2,a3,a4,a5,zab,hv,decide_false,Bool.not_false,and_self]
   simp only[sxZ,z6,z7,z8,j4,j5,j6,j7,j8,j9,x6,x7,x8,x9,y4,y5,reduceCtorEq,↓reduceIte,e2,a3,a4,a5];refine zah (zfY t 91 ?_)
   cases h91:isP t 91 with
   | true=>
    have hv:¬vkE t=0:=by have:=k6.2 h91;omega
    simp only[sxZ,z6,z7,z8,j4,j5,j6,j7,j8,j9,x6,x7,x8,x9,y4,y5,reduceCtorEq,↓reduceIte,zab,hv,decide_false,Bool.not_false,and_self]
   | false=>
    simp only[sxZ,z6,z7,z8,j4,j5,j6,j7,j8,j9,x6,x7,x8,x9,y4,y5,reduceCtorEq,↓reduceIte,e2];refine zah (zfY t 123 ?_)
    cases h123:isP t 123 with
    | true=>
     have hv:¬vkE t=0:=by have:=k7.2 h123;omega
     simp only[sxZ,z6,z7,z8,j4,j5,j6,j7,j8,j9,x6,x7,x8,x9,y4,y5,reduceCtorEq,↓reduceIte,zab,hv,decide_false,Bool.not_false,and_self]
    | false=>
     have hv:vkE t=0:=by
      have n5:¬vkE t=5:=fun h=>a3 (k5.1 h);have n4:¬vkE t=4:=fun h=>a4 (k4.1 h);have nw:¬(vkE t=1\/vkE t=2\/vkE t=3):=fun h=>a5 (kw.1 h);have n6:¬vkE t=6:=fun h=>by rw[k6.1 h] at h91;cases h91
      have n7:¬vkE t=7:=fun h=>by rw[k7.1 h] at h123;cases h123
      have:=vk_val t;omega
     simp only[sxZ,z6,z7,z8,j4,j5,j6,j7,j8,j9,x6,x7,x8,x9,y4,y5,reduceCtorEq,↓reduceIte,zab,hv,decide_true,Bool.not_true,and_self]
  rintro o' tm ⟨rfl,hlen,t0,t2,t4,t6,t7⟩;subst hZ;refine zaa fun Z hZ=>?_
  by_cases c0:ρ.fail=0
  rotate_left
  ·rw[zau,if_pos c0] at hk ⊢;simp only[sxZ,z6,z7,z8,j4,j5,j6,j7,j8,j9,x6,x7,x8,x9,y4,y5,reduceCtorEq,↓reduceIte,za,hlen,t0,t6,e1,e3,c0,s1];exact zeg (hk _ (fin _ _ _ _ hO1))
  rw[zau,if_neg (fun h=>h c0)] at hk ⊢;simp only[sxZ,z6,z7,z8,j4,j5,j6,j7,j8,j9,x6,x7,x8,x9,y4,y5,reduceCtorEq,↓reduceIte,za,hlen,t0,e1,c0];subst hZ;refine zaa fun Z hZ=>?_
  by_cases cv:vkE t=0
  ·rw[if_pos cv] at hk ⊢;simp only[cv,decide_true,Bool.not_true] at t7;simp only[sxZ,z6,z7,z8,j4,j5,j6,j7,j8,j9,x6,x7,x8,x9,y4,y5,reduceCtorEq,↓reduceIte,za,hlen,t0,t4,t7,e2];refine zah (zcm hO1 t.2.2 140 fun o2 hO2=>?_);obtain⟨e1,e2,e3,s1⟩:=st _ _ _ hO2;simp only[sxZ,z6,z7,z8,j4,j5,j6,j7,j8,j9,x6,x7,x8,x9,y4,y5,reduceCtorEq,↓reduceIte,za,hlen,t6,e3,s1];exact zeg (hk _ (fin _ _ _ _ hO2))
  rw[if_neg cv] at hk ⊢;simp only[cv,decide_false,Bool.not_false] at t7;simp only[sxZ,z6,z7,z8,j4,j5,j6,j7,j8,j9,x6,x7,x8,x9,y4,y5,reduceCtorEq,↓reduceIte,za,hlen,t7];subst hZ;refine zaa fun Z hZ=>?_
  by_cases c2:t.1=2/\d=64
  ·rw[if_pos c2] at hk ⊢;have c2b:(d:Int)=64:=by omega
   have c2a:=c2.1;simp only[sxZ,z6,z7,z8,j4,j5,j6,j7,j8,j9,x6,x7,x8,x9,y4,y5,reduceCtorEq,↓reduceIte,za,hlen,t0,t2,t4,e2,c2a,c2b];refine zah (zcm hO1 t.2.2 141 fun o2 hO2=>?_);obtain⟨e1,e2,e3,s1⟩:=st _ _ _ hO2;simp only[sxZ,z6,z7,z8,j4,j5,j6,j7,j8,j9,x6,x7,x8,x9,y4,y5,reduceCtorEq,↓reduceIte,za,hlen,t6,e3,s1];exact zeg (hk _ (fin _ _ _ _ hO2))
  rw[if_neg c2] at hk ⊢;refine zaD (fun o' tm=>o=o'/\tm.length=117/\tm[0]? = some (.p p 0)/\tm[2]? = some (.i .i64 (d:Int))/\tm[4]? = some (.p qt 0)/\tm[6]? = some (.p qr 0)) ?_ ?_
  ·by_cases c2a:t.1=2
   ·have c2b:¬(d:Int)=64:=fun h=>c2 ⟨c2a,by omega⟩;simp only[sxZ,z6,z7,z8,j4,j5,j6,j7,j8,j9,x6,x7,x8,x9,y4,y5,reduceCtorEq,↓reduceIte,za,hlen,t0,t2,t4,t6,e2,c2a,c2b,zab,zi,and_self]
   ·simp only[sxZ,z6,z7,z8,j4,j5,j6,j7,j8,j9,x6,x7,x8,x9,y4,y5,reduceCtorEq,↓reduceIte,za,hlen,t0,t2,t4,t6,e2,c2a,zab,zi,and_self]
  clear hlen t0 t2 t4 t6 t7;rintro o' tm ⟨rfl,hlen,t0,t2,t4,t6⟩;subst hZ;refine zaa fun Z hZ=>?_;have hO2:=hO1.new (.box 25 [.i .i64 5,.s t.2.1,.nil,.nil]);have hO2:zaL ((p,zaJ s ρ)::(qt,za0 t)::(qr,zvB)::([(o.length,.box 25 [.i .i64 5,.s t.2.1,.nil,.nil])]++L)) (o++[.box 25 [.i .i64 5,.s t.2.1,.nil,.nil]]):=hO2.perm (List.perm_middle (l₁:=[(p,zaJ s ρ),(qt,za0 t),(qr,zvB)])).symm;simp only[sxZ,z6,z7,z8,j4,j5,j6,j7,j8,j9,x6,x7,x8,x9,y4,y5,reduceCtorEq,↓reduceIte,za,hlen,t4,e2,gn1,sn1];have hqv:¬o.length=qt/\¬o.length=p:=by
   have h1:=hO1.lt (i:=qt) (x:=za0 t) (by simp);have h2:=hO1.lt (i:=p) (x:=zaJ s ρ) (by simp);omega
  generalize o.length=qv at hO2 hqv ⊢;generalize o++[OB.box 25 [.i .i64 5,.s t.2.1,.nil,.nil]]=o2 at hO2 ⊢;refine zc6 (fun tm=>tm.length=117/\tm[0]? = some (.p p 0)/\tm[2]? = some (.i .i64 (d:Int))/\tm[4]? = some (.p qt 0)/\tm[6]? = some (.p qr 0)/\tm[8]? = some (.p qv 0)) ?_ ?_
  ·simp only[sxZ,z6,z7,z8,j4,j5,j6,j7,j8,j9,x6,x7,x8,x9,y4,y5,reduceCtorEq,↓reduceIte,zi,za,hlen,t0,t2,t4,t6,and_self]
  clear hlen t0 t2 t4 t6 e1 e2 e3 s1 hO1;rintro tm ⟨hlen,t0,t2,t4,t6,t8⟩;subst hZ;refine zaa fun Z hZ=>?_;have hcnt:zaN ρ t=(if 20000<(if t.1=4/\¬(zcG t.2.1).1=0 then zaV ρ t.2.2 (zcG t.2.1).1 else ρ).nodes+1 then zaV ⟨(if t.1=4/\¬(zcG t.2.1).1=0 then zaV ρ t.2.2 (zcG t.2.1).1 else ρ).pos,(if t.1=4/\¬(zcG t.2.1).1=0 then zaV ρ t.2.2 (zcG t.2.1).1 else ρ).nodes+1,(if t.1=4/\¬(zcG t.2.1).1=0 then zaV ρ t.2.2 (zcG t.2.1).1 else ρ).fail,(if t.1=4/\¬(zcG t.2.1).1=0 then zaV ρ t.2.2 (zcG t.2.1).1 else ρ).wh⟩ t.2.2 142 else ⟨(if t.1=4/\¬(zcG t.2.1).1=0 then zaV ρ t.2.2 (zcG t.2.1).1 else ρ).pos,(if t.1=4/\¬(zcG t.2.1).1=0 then zaV ρ t.2.2 (zcG t.2.1).1 else ρ).nodes+1,(if t.1=4/\¬(zcG t.2.1).1=0 then zaV ρ t.2.2 (zcG t.2.1).1 else ρ).fail,(if t.1=4/\¬(zcG t.2.1).1=0 then zaV ρ t.2.2 (zcG t.2.1).1 else ρ).wh⟩):=rfl;have hxn:(if t.1=4/\¬(zcG t.2.1).1=0 then zaV ρ t.2.2 (zcG t.2.1).1 else ρ).nodes=ρ.nodes:=by
   split
   ·exact zdV _ _ _
   ·rfl
  generalize hx:(if t.1=4/\¬(zcG t.2.1).1=0 then zaV ρ t.2.2 (zcG t.2.1).1 else ρ)=x at hcnt hxn;refine zaD (fun o tm=>zaL ((p,zaJ s x)::(qt,za0 t)::(qr,zvB)::([(qv,.box 25 [.i .i64 (if t.1=4 then 4 else 5),.s (if t.1=4 then (zcG t.2.1).2 else t.2.1),.nil,.nil])]++L)) o/\tm.length=117/\tm[0]? = some (.p p 0)/\tm[2]? = some (.i .i64 (d:Int))/\tm[4]? = some (.p qt 0)/\tm[6]? = some (.p qr 0)/\tm[8]? = some (.p qv 0)) ?_ ?_
  ·obtain⟨e1,e2,e3,s1⟩:=st _ _ _ hO2
   by_cases a4:t.1=4
   rotate_left
   ·rw[if_neg (fun h=>a4 h.1)] at hx;subst hx;simp only[sxZ,z6,z7,z8,j4,j5,j6,j7,j8,j9,x6,x7,x8,x9,y4,y5,reduceCtorEq,↓reduceIte,za,hlen,t0,t2,t4,t6,t8,e2,a4,zab,zi,and_self,and_true,if_false];exact hO2
   have eqv:=hO2.get (i:=qv) (x:=.box 25 [.i .i64 5,.s t.2.1,.nil,.nil]) (by simp);simp only[sxZ,z6,z7,z8,j4,j5,j6,j7,j8,j9,x6,x7,x8,x9,y4,y5,reduceCtorEq,↓reduceIte,za,hlen,t4,e2,a4];refine zah (zmS t.2.1 (by omega) ?_)
   by_cases cn:(zcG t.2.1).1=0
   ·rw[if_neg (fun h=>h.2 cn)] at hx;subst hx;simp only[sxZ,z6,z7,z8,j4,j5,j6,j7,j8,j9,x6,x7,x8,x9,y4,y5,reduceCtorEq,↓reduceIte,za,hlen,t0,t2,t4,t6,t8,cn,eqv,zab,zi,and_self,and_true,if_pos];exact zaL.set (A:=[(p,zaJ s ρ),(qt,za0 t),(qr,zvB)]) (.box 25 [.i .i64 4,.s (zcG t.2.1).2,.nil,.nil]) hO2
   ·rw[if_pos ⟨a4,cn⟩] at hx;simp only[sxZ,z6,z7,z8,j4,j5,j6,j7,j8,j9,x6,x7,x8,x9,y4,y5,reduceCtorEq,↓reduceIte,za,hlen,t0,t4,e2,cn];refine zah (zcm hO2 t.2.2 (zcG t.2.1).1 fun o3 hO3=>?_);rw[hx] at hO3;have eqv:=hO3.get (i:=qv) (x:=.box 25 [.i .i64 5,.s t.2.1,.nil,.nil]) (by simp);simp only[sxZ,z6,z7,z8,j4,j5,j6,j7,j8,j9,x6,x7,x8,x9,y4,y5,reduceCtorEq,↓reduceIte,za,hlen,t0,t2,t4,t6,t8,eqv,zab,zi,and_self,and_true,if_pos];exact zaL.set (A:=[(p,zaJ s x),(qt,za0 t),(qr,zvB)]) (.box 25 [.i .i64 4,.s (zcG t.2.1).2,.nil,.nil]) hO3
  clear hlen t0 t2 t4 t6 t8 hO2 hx;generalize hkk:(if t.1=4 then (4:Int) else 5)=kk;generalize hxx:(if t.1=4 then (zcG t.2.1).2 else t.2.1)=xx;rintro o3 tm ⟨hO3,hlen,t0,t2,t4,t6,t8⟩;subst hZ;refine zaa fun Z hZ=>?_;have f2:∀b:Rs,OB.box 53 [.s s,.i .i64 b.pos,.i .i64 ((b.nodes:Int)+1),.i .i64 b.fail,.i .i64 b.wh]=zaJ s ⟨b.pos,b.nodes+1,b.fail,b.wh⟩:=fun _=>rfl;have hnb:=hB.n1;refine zaD (fun o tm=>zaL ((p,zaJ s (zaN ρ t))::(qt,za0 t)::(qr,zvB)::([(qv,.box 25 [.i .i64 kk,.s xx,.nil,.nil])]++L)) o/\tm.length=117/\tm[0]? = some (.p p 0)/\tm[2]? = some (.i .i64 (d:Int))/\tm[4]? = some (.p qt 0)/\tm[6]? = some (.p qr 0)/\tm[8]? = some (.p qv 0)) ?_ ?_
  ·obtain⟨e1,e2,e3,s1⟩:=st _ _ _ hO3;refine zaa fun W hW=>?_;simp only[sxZ,z6,z7,z8,j4,j5,j6,j7,j8,j9,x6,x7,x8,x9,y4,y5,reduceCtorEq,↓reduceIte,za,hlen,t0,e1];refine⟨⟨by omega,by omega⟩,?_⟩;rw[f2];have hO4:=zaL.set (A:=[]) (zaJ s ⟨x.pos,x.nodes+1,x.fail,x.wh⟩) hO3;have hO4:zaL ((p,zaJ s ⟨x.pos,x.nodes+1,x.fail,x.wh⟩)::(qt,za0 t)::(qr,zvB)::([(qv,.box 25 [.i .i64 kk,.s xx,.nil,.nil])]++L)) (o3.set p (zaJ s ⟨x.pos,x.nodes+1,x.fail,x.wh⟩)):=hO4;generalize o3.set p (zaJ s ⟨x.pos,x.nodes+1,x.fail,x.wh⟩)=o4 at hO4 ⊢;obtain⟨e1,e2,e3,s1⟩:=st _ _ _ hO4;subst hW
   by_cases c7:20000<x.nodes+1
   ·rw[if_pos c7] at hcnt;have c7':(20000:Int)<((x.nodes+1:Nat):Int):=by omega
    simp only[sxZ,z6,z7,z8,j4,j5,j6,j7,j8,j9,x6,x7,x8,x9,y4,y5,reduceCtorEq,↓reduceIte,za,hlen,t0,t2,t4,t6,e1,e2,c7'];refine zah (zcm hO4 t.2.2 142 fun o5 hO5=>?_);rw[<-hcnt] at hO5;simp only[sxZ,z6,z7,z8,j4,j5,j6,j7,j8,j9,x6,x7,x8,x9,y4,y5,reduceCtorEq,↓reduceIte,za,hlen,t0,t2,t4,t6,t8,zab,zi,and_self,and_true];exact hO5
   ·rw[if_neg c7] at hcnt;have c7':¬(20000:Int)<((x.nodes+1:Nat):Int):=by omega
    rw[<-hcnt] at hO4;simp only[sxZ,z6,z7,z8,j4,j5,j6,j7,j8,j9,x6,x7,x8,x9,y4,y5,reduceCtorEq,↓reduceIte,za,hlen,t0,t2,t4,t6,t8,e1,c7',zab,zi,and_self,and_true];exact hO4
  clear hO3 hlen t0 t2 t4 t6 t8 hcnt hxn x;rintro o4 tm ⟨hO4,hlen,t0,t2,t4,t6,t8⟩;have hGc:=zkY hB hT (vk_end cv) c0;have hGv:GV s (fun ρ t=>zau s f ρ t (d+1)):=zfC s f (d+1);generalize zaN ρ t=ρc at hO4 hGc hk ⊢;obtain⟨e1,e2,e3,s1⟩:=st _ _ _ hO4;subst hZ;refine zaa fun Z hZ=>?_;rw[zaR];have hCa:zaK ((p,zaJ s ρc)::(qt,za0 t)::(qr,zvB)::([(qv,.box 25 [.i .i64 kk,.s xx,.nil,.nil])]++L)):=ze1 (ze1 (ze1 (zgr hC) rfl) rfl) rfl
  by_cases a5:t.1=5
  ·rw[if_pos a5] at hk ⊢;simp only[sxZ,z6,z7,z8,j4,j5,j6,j7,j8,j9,x6,x7,x8,x9,y4,y5,reduceCtorEq,↓reduceIte,za,hlen,t4,e2,a5];refine zah (rword_k t.2.1 ?_);simp only[sxZ,z6,z7,z8,j4,j5,j6,j7,j8,j9,x6,x7,x8,x9,y4,y5,reduceCtorEq,↓reduceIte,za,hlen,t6,e3,s1];exact zeg (hk _ (fin _ _ _ _ hO4))
  rw[if_neg a5] at hk ⊢;simp only[sxZ,z6,z7,z8,j4,j5,j6,j7,j8,j9,x6,x7,x8,x9,y4,y5,reduceCtorEq,↓reduceIte,za,hlen,t4,e2,a5];refine zah (zfY t 91 ?_)
  cases h91:isP t 91 with
  | true=>
   have h2:=(zkV h91).1;have hd3:d<64:=by
    rcases Nat.lt_or_ge d 64 with h|h
    ·exact h
    ·exact absurd ⟨h2,by omega⟩ c2
   have hval:ValK s p (d+1) (fun ρ t=>zau s f ρ t (d+1)):=ih (d+1) (by omega) (by omega);have hn1:=fun ρ t=>(zhr s f (d+1)).2 ρ t (by omega);rw[h91] at hk;rw[if_pos rfl] at hk ⊢;simp only[sxZ,z6,z7,z8,j4,j5,j6,j7,j8,j9,x6,x7,x8,x9,y4,y5,reduceCtorEq,↓reduceIte,za,hlen,t0,t2];refine⟨⟨by omega,by omega⟩,?_⟩;rw[show ((d:Int)+1)=((d+1:Nat):Int) from rfl];refine zah (array_k hval hGv hn1 hs hGc hCa hO4 fun o9 hO9=>?_);obtain⟨e1,e2,e3,s1⟩:=st _ _ _ hO9;generalize (zgu s (fun ρ t=>zau s f ρ t (d+1)) ρc).1=v at hk ⊢;have hk2:=hk _ (fin _ _ (.box 25 (zak v)) _ hO9);have hjc:=zaf v;rw[hjc] at hk2 ⊢;simp only[sxZ,z6,z7,z8,j4,j5,j6,j7,j8,j9,x6,x7,x8,x9,y4,y5,reduceCtorEq,↓reduceIte,za,hlen,t6,e3,s1];exact⟨fun G I y hy=>by rw[hjc];exact hy,by rw[hjc];exact hk2⟩
  | false=>
  rw[h91] at hk;rw[if_neg Bool.false_ne_true] at hk ⊢;simp only[sxZ,z6,z7,z8,j4,j5,j6,j7,j8,j9,x6,x7,x8,x9,y4,y5,reduceCtorEq,↓reduceIte,za,hlen,t4,e2];refine zah (zfY t 123 ?_)
  cases h123:isP t 123 with
  | true=>
   have h2:=(zkV h123).1;have hd3:d<64:=by
    rcases Nat.lt_or_ge d 64 with h|h
    ·exact h
    ·exact absurd ⟨h2,by omega⟩ c2
   have hval:ValK s p (d+1) (fun ρ t=>zau s f ρ t (d+1)):=ih (d+1) (by omega) (by omega);have hn1:=fun ρ t=>(zhr s f (d+1)).2 ρ t (by omega);rw[h123] at hk;rw[if_pos rfl] at hk ⊢;simp only[sxZ,z6,z7,z8,j4,j5,j6,j7,j8,j9,x6,x7,x8,x9,y4,y5,reduceCtorEq,↓reduceIte,za,hlen,t0,t2];refine⟨⟨by omega,by omega⟩,?_⟩;rw[show ((d:Int)+1)=((d+1:Nat):Int) from rfl];refine zah (object_k hval hGv hn1 (fun ρ t=>zjl s f ρ t (d+1)) hs hGc hCa hO4 fun o9 hO9=>?_);obtain⟨e1,e2,e3,s1⟩:=st _ _ _ hO9;generalize (zgB s (fun ρ t=>zau s f ρ t (d+1)) ρc).1=v at hk ⊢;have hk2:=hk _ (fin _ _ (.box 25 (zak v)) _ hO9);have hjc:=zaf v;rw[hjc] at hk2 ⊢;simp only[sxZ,z6,z7,z8,j4,j5,j6,j7,j8,j9,x6,x7,x8,x9,y4,y5,reduceCtorEq,↓reduceIte,za,hlen,t6,e3,s1];exact⟨fun G I y hy=>by rw[hjc];exact hy,by rw[hjc];exact hk2⟩
  | false=>
  rw[h123] at hk;rw[if_neg Bool.false_ne_true] at hk ⊢;have eqv:=hO4.get (i:=qv) (x:=.box 25 [.i .i64 kk,.s xx,.nil,.nil]) (by simp);simp only[sxZ,z6,z7,z8,j4,j5,j6,j7,j8,j9,x6,x7,x8,x9,y4,y5,reduceCtorEq,↓reduceIte,za,hlen];subst hZ;simp only[sxZ,z6,z7,z8,j4,j5,j6,j7,j8,j9,x6,x7,x8,x9,y4,y5,reduceCtorEq,↓reduceIte,za,hlen,t6,t8,eqv,e3,s1];have hkv:(if t.1=4 then (JV.mk 4 (zcG t.2.1).2 [] [],ρc) else (JV.mk 5 t.2.1 [] [],ρc))=(JV.mk kk xx [] [],ρc):=by
   rw[<-hkk,<-hxx]
   split<;>rfl
  rw[hkv] at hk ⊢;exact zeg (hk _ (fin _ _ _ _ hO4))
end
end
section
attribute [local irreducible] run
section
variable [Tabs Tryz.prog] [Utf Tryz.prog] {objs:List OB} {K:List OB->AV->Prop}
theorem zkm (s:List UInt8) (hs:s.length<=1048576) (hk:K objs (zhC (zbQ s))):zae Tryz.prog 9 [.s s] objs K:=by
 refine jres (zhC (zbQ s)) ?_;refine za5 is_ref14_Parse rfl fun C _=>?_;have hr:zbQ s=(if 1048576<s.length then (jvZ,0,142) else
   if ¬(if (zad s (zau s 65 (zad s rs0).2 (zad s rs0).1 0).2).2.fail=0/\¬(zad s (zau s 65 (zad s rs0).2 (zad s rs0).1 0).2).1.1=1 then zaV (zad s (zau s 65 (zad s rs0).2 (zad s rs0).1 0).2).2 (zad s (zau s 65 (zad s rs0).2 (zad s rs0).1 0).2).1.2.2 140 else (zad s (zau s 65 (zad s rs0).2 (zad s rs0).1 0).2).2).fail=0 then (jvZ,(if (zad s (zau s 65 (zad s rs0).2 (zad s rs0).1 0).2).2.fail=0/\¬(zad s (zau s 65 (zad s rs0).2 (zad s rs0).1 0).2).1.1=1 then zaV (zad s (zau s 65 (zad s rs0).2 (zad s rs0).1 0).2).2 (zad s (zau s 65 (zad s rs0).2 (zad s rs0).1 0).2).1.2.2 140 else (zad s (zau s 65 (zad s rs0).2 (zad s rs0).1 0).2).2).wh,(if (zad s (zau s 65 (zad s rs0).2 (zad s rs0).1 0).2).2.fail=0/\¬(zad s (zau s 65 (zad s rs0).2 (zad s rs0).1 0).2).1.1=1 then zaV (zad s (zau s 65 (zad s rs0).2 (zad s rs0).1 0).2).2 (zad s (zau s 65 (zad s rs0).2 (zad s rs0).1 0).2).1.2.2 140 else (zad s (zau s 65 (zad s rs0).2 (zad s rs0).1 0).2).2).fail) else ((zau s 65 (zad s rs0).2 (zad s rs0).1 0).1,(s.length:Int),0)):=rfl
 rw[if_neg (by omega)] at hr;have finE:∀{a e:Int},zbQ s=(jvZ,a,e)->((∀G I y,Den G I (.tup [.agg zvC,.i .i64 a,.i .i64 e]) y->Den G I (zhC (zbQ s)) y)/\K objs (zhC (zbQ s))):=fun {a e} h=>⟨fun G I y hy=>by rw[h];exact den_zv hy,hk⟩;have c1:¬(1048576:Int)<s.length:=by omega
 rw[c_ref14_Parse];refine zaa fun Z hZ=>?_;simp only[sxZ,z6,z7,z8,j4,j5,j6,j7,j8,j9,x6,x7,x8,x9,y4,y5,reduceCtorEq,↓reduceIte];subst hZ;refine zaa fun Z hZ=>?_;simp only[sxZ,z6,z7,z8,j4,j5,j6,j7,j8,j9,x6,x7,x8,x9,y4,y5,reduceCtorEq,↓reduceIte,c1];subst hZ;refine zaa fun Z hZ=>?_;simp only[sxZ,z6,z7,z8,j4,j5,j6,j7,j8,j9,x6,x7,x8,x9,y4,y5,reduceCtorEq,↓reduceIte];have hO:zaL ((1,zaJ s rs0)::[(0,zvB)]) [zvB,zaJ s rs0]:=⟨by simp,fun x hx=>by
  simp only[zv,jw,or_false] at hx;rcases hx with rfl|rfl<;>rfl⟩
 have hCn:zaK []:=fun y hy=>by cases hy
 have hC:∀ρ,zaK ((1,zaJ s ρ)::[(0,zvB)]):=fun ρ=>zdw (zdw hCn rfl) rfl;have hB:GB s rs0:=⟨by decide,by show (0:Int)<=_;omega,fun _=>by decide,by show (0:Int)<=_;omega⟩;have f0:[OB.box 25 [.i .i64 0,.s [],.nil,.nil],OB.box 53 [.s s,.i .i64 0,.i .i64 0,.i .i64 0,.i .i64 0]]=[zvB,zaJ s rs0]:=rfl;rw[f0];generalize [zvB,zaJ s rs0]=o0 at hO ⊢;subst hZ;refine zaa fun Z hZ=>?_;simp only[sxZ,z6,z7,z8,j4,j5,j6,j7,j8,j9,x6,x7,x8,x9,y4,y5,reduceCtorEq,↓reduceIte];refine zah (zcF (by omega) hO fun o1 hO1=>?_);have hB1:=zbp hB;have hT1:=zbI hB;generalize zad s rs0=N at hO1 hB1 hT1 hr ⊢;obtain⟨T1,ρ1⟩:=N;simp only at hO1 hB1 hT1 hr ⊢;have hval:ValK s 1 0 (fun ρ t=>zau s 65 ρ t 0):=value_k hs 65 0 rfl (by decide);have hvc:=fun {objs:List OB} {K:List OB->AV->Prop} {L:List (Nat×OB)} (h1) (h2) (h3)=>hval (objs:=objs) (K:=K) (L:=L) (ρ:=ρ1) T1 hB1.1 hB1.2 hT1 h1 h2 h3;have hg2:=zfC s 65 0 ρ1 T1 hB1.1 hB1.2;simp only at hvc hg2;generalize zau s 65 ρ1 T1 0=R at hvc hg2 hr;obtain⟨v,ρ2⟩:=R;simp only at hvc hg2 hr;unfold zh9 tkC;simp only[sxZ,z6,z7,z8,j4,j5,j6,j7,j8,j9,x6,x7,x8,x9,y4,y5,reduceCtorEq,↓reduceIte];refine zah (hvc (hC _) hO1 fun o2 hO2=>?_);have hjc:=zaf v;rw[hjc];simp only[sxZ,z6,z7,z8,j4,j5,j6,j7,j8,j9,x6,x7,x8,x9,y4,y5,reduceCtorEq,↓reduceIte,gn1,sn1];have hO3:=hO2.new (.box 25 (zak v));rw[hjc] at hO3;have hO3:zaL ((1,zaJ s ρ2)::(o2.length,.box 25 [.i .i64 v.kind,.s v.text,.row v.keys.length (v.keys.map .s),.row v.items.length (zac v.items)])::[(0,zvB)]) (o2++[.box 25 [.i .i64 v.kind,.s v.text,.row v.keys.length (v.keys.map .s),.row v.items.length (zac v.items)]]):=hO3.perm (ja.swap _ _ _);generalize o2.length=qv at hO3 ⊢;generalize o2++[OB.box 25 [.i .i64 v.kind,.s v.text,.row v.keys.length (v.keys.map .s),.row v.items.length (zac v.items)]]=o3 at hO3 ⊢;subst hZ;refine zaa fun Z hZ=>?_;refine zaa fun W hW=>?_;simp only[sxZ,z6,z7,z8,j4,j5,j6,j7,j8,j9,x6,x7,x8,x9,y4,y5,reduceCtorEq,↓reduceIte];refine zah (zcF (by omega) hO3 fun o4 hO4=>?_);generalize zad s ρ2=N at hO4 hr ⊢;obtain⟨T3,ρ3⟩:=N;simp only at hO4 hr ⊢;unfold zh9 tkC;simp only[sxZ,z6,z7,z8,j4,j5,j6,j7,j8,j9,x6,x7,x8,x9,y4,y5,reduceCtorEq,↓reduceIte,gn1,sn1];have f1:∀x y z,OB.box 56 [.i .i64 x,.s y,.i .i64 z]=za0 (x,y,z):=fun _ _ _=>rfl;rw[f1];have hO5:=hO4.new (za0 T3);have hO5:zaL ((1,zaJ s ρ3)::(o4.length,za0 T3)::(qv,.box 25 [.i .i64 v.kind,.s v.text,.row v.keys.length (v.keys.map .s),.row v.items.length (zac v.items)])::[(0,zvB)]) (o4++[za0 (T3.1,T3.2.1,T3.2.2)]):=hO5.perm (ja.swap _ _ _);generalize o4.length=qt at hO5 ⊢;generalize o4++[za0 (T3.1,T3.2.1,T3.2.2)]=o5 at hO5 ⊢;subst hW;have e1:=hO5.get (i:=1) (x:=zaJ s ρ3) (by simp);have e2:=hO5.get (i:=qt) (x:=za0 T3) (by simp);unfold zaJ at e1;unfold za0 tkC at e2;generalize hρ:(if ρ3.fail=0/\¬T3.1=1 then zaV ρ3 T3.2.2 140 else ρ3)=ρ4 at hr;refine zaD (fun o tm=>zaL ((1,zaJ s ρ4)::(qt,za0 T3)::(qv,.box 25 [.i .i64 v.kind,.s v.text,.row v.keys.length (v.keys.map .s),.row v.items.length (zac v.items)])::[(0,zvB)]) o/\tm.length=52/\tm[0]? = some (.s s)/\tm[2]? = some (.p 0 0)/\tm[5]? = some (.p 1 0)/\tm[6]? = some (.p qv 0)) ?_ ?_
 ·by_cases c3:ρ3.fail=0
  ·by_cases c4:T3.1=1
   ·rw[if_neg (fun h=>h.2 c4)] at hρ;subst hρ;simp only[sxZ,z6,z7,z8,j4,j5,j6,j7,j8,j9,x6,x7,x8,x9,y4,y5,reduceCtorEq,↓reduceIte,e1,e2,c3,c4,zab,and_self,and_true];exact hO5
   ·rw[if_pos ⟨c3,c4⟩] at hρ;simp only[sxZ,z6,z7,z8,j4,j5,j6,j7,j8,j9,x6,x7,x8,x9,y4,y5,reduceCtorEq,↓reduceIte,e1,e2,c3,c4];refine zah (zcm hO5 T3.2.2 140 fun o6 hO6=>?_);rw[hρ] at hO6;simp only[sxZ,z6,z7,z8,j4,j5,j6,j7,j8,j9,x6,x7,x8,x9,y4,y5,reduceCtorEq,↓reduceIte,zab,and_self,and_true];exact hO6
  ·rw[if_neg (fun h=>c3 h.1)] at hρ;subst hρ;simp only[sxZ,z6,z7,z8,j4,j5,j6,j7,j8,j9,x6,x7,x8,x9,y4,y5,reduceCtorEq,↓reduceIte,e1,e2,c3,zab,and_self,and_true];exact hO5
 clear hO5 e1 e2;rintro o6 tm ⟨hO6,hlen,t0,t2,t5,t6⟩;have e1:=hO6.get (i:=1) (x:=zaJ s ρ4) (by simp);have e0:=hO6.get (i:=0) (x:=zvB) (by simp);have ev:=hO6.get (i:=qv) (x:=.box 25 [.i .i64 v.kind,.s v.text,.row v.keys.length (v.keys.map .s),.row v.items.length (zac v.items)]) (by simp);have hlt:=(zh.1 e0).1;have gs:∀x,(o6.set 0 x)[0]? = some x:=fun x=>zk hlt;unfold zaJ at e1;unfold zvB at e0;subst hZ;refine zaa fun Z hZ=>?_
 by_cases c5:ρ4.fail=0
 ·rw[if_neg (fun h=>h c5)] at hr;simp only[sxZ,z6,z7,z8,j4,j5,j6,j7,j8,j9,x6,x7,x8,x9,y4,y5,reduceCtorEq,↓reduceIte,za,hlen,t5,e1,c5];subst hZ;simp only[sxZ,z6,z7,z8,j4,j5,j6,j7,j8,j9,x6,x7,x8,x9,y4,y5,reduceCtorEq,↓reduceIte,za,hlen,t0,t2,t6,e0,ev,gs];simp only[pub,AV.plain,za3,za4,sxZ,z6,z7,z8,j4,j5,j6,j7,j8,j9,x6,x7,x8,x9,y4,y5,reduceCtorEq,↓reduceIte];exact⟨fun G I y hy=>by rw[hr,zhC,hjc];exact hy,hk⟩
 ·rw[if_pos c5] at hr;simp only[sxZ,z6,z7,z8,j4,j5,j6,j7,j8,j9,x6,x7,x8,x9,y4,y5,reduceCtorEq,↓reduceIte,za,hlen,t2,t5,e0,e1,c5,gs];exact finE hr
end
section
variable [Tabs Tryz.prog] [Pow Tryz.prog] [Utf Tryz.prog]
end
end
section
attribute [local irreducible] run
theorem JTx.idB {v:JV} (hv:JTx v):IdB v:=by
 refine⟨qq (zjF hv kId).txt (by decide),fun key y hy=>?_⟩;obtain⟨i,hi,rfl⟩:=xw.1 hy;exact qq (zjF ((zjF hv key).its hi) kId).txt (by decide)
def sA17:List UInt8:=[123,34,105,100,34,58,34,100,105,100,58,119,101,98,58,97,46,101,120,97,109,112,108,101,34,44,34,115,101,114,118,105,99,101,34,58,91,123,34,105,100,34,58,34,35,102,105,108,101,115,34,44,34,116,121,112,101,34,58,34,88,34,44,34,115,101,114,118,105,99,101,69,110,100,112,111,105,110,116,34,58,34,104,116,116,112,115,58,47,47,97,46,101,120,97,109,112,108,101,47,102,47,34,125,93,125]
def ziX:List UInt8:=[100,105,100,58,119,101,98,58,97,46,101,120,97,109,112,108,101]
def zl0:List UInt8:=ziX++[35,102,105,108,101,115]
def zlI:JV:=.mk 7 [] [kId,zb5,zdO] [.mk 5 [35,102,105,108,101,115] [] [],.mk 5 [88] [] [],.mk 5 [104,116,116,112,115,58,47,47,97,46,101,120,97,109,112,108,101,47,102,47] [] []]
def zmh:JV:=.mk 7 [] [kId,zb6] [.mk 5 ziX [] [],.mk 6 [] [] [zlI]]
theorem eA17:(zbQ sA17).1=zmh:=by kernel_rfl
theorem dA17:ddE zmh=(0,⟨ziX,[],[],[],[⟨zl0,[[88]],[[104,116,116,112,115,58,47,47,97,46,101,120,97,109,112,108,101,47,102,47]]⟩]⟩):=by kernel_rfl
theorem selA17:zjj zmh zl0=(zlI,true):=by kernel_rfl
theorem okA17:JKp zmh:=by
 unfold zmh zlI;simp[JKp,zjS,kId,zb5,zdO,zb6,ziX]
theorem jokA17:JOk zmh:=by
 unfold zmh zlI;simp[JOk,zdj,Lit.wf,IntKind.min,IntKind.max,IntKind.signed,IntKind.bits,kId,zb5,zdO,zb6,ziX]
section
variable [Tabs Tryz.prog] [Utf Tryz.prog] {objs:List OB} {K:List OB->AV->Prop}
theorem sane17_k [Shp Tryz.prog] (hk:K objs (.b true)):zae Tryz.prog 7 [] objs K:=by
 refine za5 is_law17_sane rfl fun C _=>?_;rw[c_law17_sane];have hB:IdB zmh:=okA17.idB;refine zaa fun Z hZ=>?_;simp only[sxZ,z6,z7,z8,j4,j5,j6,j7,j8,j9,x6,x7,x8,x9,y4,y5,reduceCtorEq,↓reduceIte];subst hZ;refine zaa fun Z hZ=>?_;simp only[sxZ,z6,z7,z8,j4,j5,j6,j7,j8,j9,x6,x7,x8,x9,y4,y5,reduceCtorEq,↓reduceIte];refine zah (zkm sA17 (by decide) ?_);have e1:=eA17;obtain⟨⟨x,a,e⟩,hx⟩:∃R,zbQ sA17=R:=⟨_,rfl⟩;rw[hx] at e1 ⊢;dsimp only at e1;subst e1;unfold zhC;obtain⟨a0,a1,a2,a3,hA⟩:∃a0 a1 a2 a3,zak zmh=[a0,a1,a2,a3]:=⟨_,_,_,_,zaf zmh⟩;rw[hA];simp only[sxZ,z6,z7,z8,j4,j5,j6,j7,j8,j9,x6,x7,x8,x9,y4,y5,reduceCtorEq,↓reduceIte,gn1,sn1];subst hZ;refine zaa fun Z hZ=>?_;simp only[sxZ,z6,z7,z8,j4,j5,j6,j7,j8,j9,x6,x7,x8,x9,y4,y5,reduceCtorEq,↓reduceIte];rw[<-hA];refine zah (dd_k zmh jokA17 okA17.bd hB ?_);rw[dA17];unfold ddAV doc;rw[hA];simp only[sxZ,z6,z7,z8,j4,j5,j6,j7,j8,j9,x6,x7,x8,x9,y4,y5,reduceCtorEq,↓reduceIte,gn1,sn1];subst hZ;refine zaa fun Z hZ=>?_;simp only[sxZ,z6,z7,z8,j4,j5,j6,j7,j8,j9,x6,x7,x8,x9,y4,y5,reduceCtorEq,↓reduceIte];rw[<-hA];refine zah (sel_k zmh zl0 jokA17 okA17.bd hB ?_);rw[selA17];unfold zbO;rw[hA,zaf zlI];simp only[sxZ,z6,z7,z8,j4,j5,j6,j7,j8,j9,x6,x7,x8,x9,y4,y5,reduceCtorEq,↓reduceIte,gn1,sn1];subst hZ;refine zaa fun Z hZ=>?_;have n1:(((1:Nat):Int)=1)=True:=by simp
 have hsv:zcN [⟨zl0,[[88]],[[104,116,116,112,115,58,47,47,97,46,101,120,97,109,112,108,101,47,102,47]]⟩]=[.s zl0,.row 1 [.s [88]],.row 1 [.s [104,116,116,112,115,58,47,47,97,46,101,120,97,109,112,108,101,47,102,47]]]:=rfl;have hid:zl0=[100,105,100,58,119,101,98,58,97,46,101,120,97,109,112,108,101,35,102,105,108,101,115]:=rfl;rw[hsv];simp only[sxZ,z6,z7,z8,j4,j5,j6,j7,j8,j9,x6,x7,x8,x9,y4,y5,reduceCtorEq,↓reduceIte,n1,decide_true,zx,qk,zl,zu];rw[hid];simp only[sxZ,z6,z7,z8,j4,j5,j6,j7,j8,j9,x6,x7,x8,x9,y4,y5,reduceCtorEq,↓reduceIte,n1,decide_true,zx,qk,zl,zu];refine⟨by decide,by decide,?_⟩;subst hZ;simp only[sxZ,z6,z7,z8,j4,j5,j6,j7,j8,j9,x6,x7,x8,x9,y4,y5,reduceCtorEq,↓reduceIte];rw[show zlI.kind=7 from rfl];exact hk
end
end
section
attribute [local irreducible] run
def enM (x:MtP):JV:=job [kId,zb5,zbS] [jtx x.id,jtx x.typ,jtx x.ctl]
def enV (x:SvP):JV:=job [kId,zb5,zdO] [jtx x.id,jar (x.typ.map jtx),jar (x.eps.map jtx)]
def deK (d:DoP):List (List UInt8):=zgz (zgz (zgz [kId] zcS (jar (d.also.map jtx))) zbS (jar (d.ctl.map jtx))) zct (jar (d.mts.map enM))
def deI (d:DoP):List JV:=zgA (zgA (zgA [jtx d.id] (jar (d.also.map jtx))) (jar (d.ctl.map jtx))) (jar (d.mts.map enM))
def enD (d:DoP):JV:=job (zgz (deK d) zb6 (jar (d.svs.map enV))) (zgA (deI d) (jar (d.svs.map enV)))
theorem zmr {l:List (List UInt8)} (hl:l.length<=64):txD (l.map jtx)=(0,l):=by
 unfold txD;rw[if_neg (by rw[qo];omega),if_pos (by rw[List.all_map];exact List.all_eq_true.2 fun x _=>rfl),List.map_map]
 congr 1
 calc l.map _=l.map id:=List.map_congr_left fun p h=>rfl
  _=l:=List.map_id l
theorem zfu {α:Type} {v:JV} {key:List UInt8} {f:JV->Int×List α} {l:List α} {g:α->JV} (h:za2 v key=if zde (jar (l.map g))=true then (jar (l.map g),true) else (jvZ,false)) (hf:f (jar (l.map g))=(0,l)):opD v key f=(0,l):=by
 cases l with
 | nil=>
  rw[zu,if_neg (show ¬zde (jar [])=true by decide)] at h;unfold opD;rw[h];rfl
 | cons a l=>
  rw[if_pos (by unfold zde;show (_||decide (0<((a::l).map g).length))=true;simp)] at h;unfold opD;rw[h,if_pos rfl];exact hf
theorem zhV {α:Type} {f:JV->Int×α} {g:α->JV}:∀{l:List α},(∀x∈l,f (g x)=(0,x))->zgw f (l.map g)=(0,l)
 | [],_=>rfl
 | a::l,h=>by
  have h1:=h a (by simp);have h2:=zhV fun x hx=>h x (qp _ hx);rw[zl,zgw,h1,h2]
  rfl
def IdF (m i id:List UInt8):Prop:=zeh m i id=(0,(zeh m i id).2)/\zcI (zeh m i id).2=id
theorem resD_can {m i r:List UInt8} (h:(zeh m i r).1=0):CanD (zeh m i r).2:=by
 have hz:∀s,(zdQ s).1=0->CanD (zdQ s).2:=fun s hs=>CanD.of4 (s:=s) (by rw[<-hs]);unfold zeh at h ⊢
 split
 ·rename_i c;rw[if_pos c] at h;exact hz _ h
 ·rename_i c;rw[if_neg c] at h
  split
  ·rename_i c2;rw[if_pos c2] at h;exact hz _ h
  ·rename_i c2;rw[if_neg c2] at h;cases h
theorem res_fmt {m i:List UInt8} {u:DidU} (h:CanD u):zeh m i (zcI u)=(0,u):=by
 unfold zeh;have hp:Lib.hasPrefix (zcI u) zbs=true:=by
  unfold zcI zcg;simp only[zy];exact List.isPrefixOf_iff_prefix.2 (List.prefix_append _ _)
 rw[if_pos hp];exact h.back
theorem zhK {m i:List UInt8} {y:JV} (h:(zd9 m i y).1=0):IdF m i (zd9 m i y).2:=by
 unfold zd9 at h ⊢
 split
 ·rename_i c;rw[if_pos c] at h;cases h
 ·rename_i c;rw[if_neg c] at h
  split
  ·rename_i c2;rw[if_pos c2] at h;cases h
  ·rename_i c2;have hc:=resD_can (Decidable.not_not.1 c2);show IdF m i (zcI _);unfold IdF;rw[res_fmt hc];exact⟨rfl,rfl⟩
theorem zjX {v:JV} {key s:List UInt8} (h:za2 v key=(jtx s,true)):tmD v key=(s,true):=by
 unfold tmD;rw[h];rfl
theorem zky {m i id:List UInt8} {v:JV} (h:za2 v kId=(jtx id,true)) (hf:IdF m i id):zd9 m i v=(0,id):=by
 unfold zd9;rw[zjX h];dsimp only;rw[if_neg (by decide),hf.1,if_neg (by simp)];show (0,zcI (zeh m i id).2)=_;rw[hf.2]
theorem mt_back {m i:List UInt8} {x:MtP} (hf:IdF m i x.id):mtD m i (enM x)=(0,x):=by
 have g1:za2 (enM x) kId=(jtx x.id,true):=rfl;have g2:za2 (enM x) zb5=(jtx x.typ,true):=rfl;have g3:za2 (enM x) zbS=(jtx x.ctl,true):=rfl;unfold mtD;rw[zky g1 hf,zjX g2,zjX g3,if_neg (by simp),if_pos ⟨rfl,rfl⟩]
theorem zju {l:List (List UInt8)} (hl:l.length<=64):olD (jar (l.map jtx))=(0,l):=by
 unfold olD;rw[if_pos (show (jar (l.map jtx)).kind=6 from rfl)];exact zmr hl
theorem sv_back {m i:List UInt8} {x:SvP} (hf:IdF m i x.id) (hs:ShV x):svD m i (enV x)=(0,x):=by
 have g1:za2 (enV x) kId=(jtx x.id,true):=rfl;have g2:za2 (enV x) zb5=(jar (x.typ.map jtx),true):=rfl;have g3:za2 (enV x) zdO=(jar (x.eps.map jtx),true):=rfl;unfold svD;rw[zky g1 hf,g2,g3];dsimp only;rw[zju hs.1,zju hs.2,if_neg (by simp),if_neg (by simp),if_neg (show ¬(jar (x.eps.map jtx)).kind=7 by show ¬(6:Int)=7;decide),if_neg (by simp)]
structure DocF (m i:List UInt8) (d:DoP):Prop where
 did:zdf (zcg m i)=(0,m,i)
 id:d.id=zcg m i
 sh:ShO d
 mts:∀x∈d.mts,IdF m i x.id
 svs:∀x∈d.svs,IdF m i x.id
theorem ziQ {α:Type} (f:JV->Int×α):∀l:List JV,(zgw f l).1=0->∀x∈(zgw f l).2,∃y∈l,x=(f y).2/\(f y).1=0
 | [],_,x,hx=>by cases hx
 | y::l,h,x,hx=>by
  rw[zgw] at h hx
  by_cases c:(f y).1=0
  ·rw[if_neg (show ¬(f y).1≠0 from fun e=>e c)] at h hx
   by_cases c2:(zgw f l).1=0
   ·rw[if_neg (show ¬(zgw f l).1≠0 from fun e=>e c2)] at h hx;rcases zv.1 hx with rfl|hx
    ·exact⟨y,by simp,rfl,c⟩
    ·obtain⟨z,hz,e⟩:=ziQ f l c2 x hx;exact⟨z,qp _ hz,e⟩
   ·rw[if_pos c2] at h;exact absurd h c2
  ·rw[if_pos c] at h;exact absurd h c
theorem zdC {α:Type} {v:JV} {key:List UInt8} {f:JV->Int×α} (h:(opD v key (elD f)).1=0):∀x∈(opD v key (elD f)).2,∃y∈(za2 v key).1.items,x=(f y).2/\(f y).1=0:=by
 unfold opD at h ⊢
 split
 ·rename_i c;rw[if_pos c] at h;unfold elD at h ⊢
  split
  ·rename_i c2;rw[if_pos c2] at h
   split
   ·intro x hx;cases hx
   ·rename_i c3;rw[if_neg c3] at h;exact ziQ f _ h
  ·intro x hx;cases hx
 ·intro x hx;cases hx
theorem mt_id {m i:List UInt8} {y:JV} (h:(mtD m i y).1=0):(zd9 m i y).1=0/\(mtD m i y).2.id=(zd9 m i y).2:=by
 unfold mtD at h ⊢
 by_cases c:(zd9 m i y).1=0
 ·rw[if_neg (show ¬(zd9 m i y).1≠0 from fun e=>e c)] at h ⊢;refine⟨c,?_⟩
  split
  ·rfl
  ·rename_i c2;rw[if_neg c2] at h;cases h
 ·rw[if_pos c] at h;exact absurd h c
theorem sv_id {m i:List UInt8} {y:JV} (h:(svD m i y).1=0):(zd9 m i y).1=0/\(svD m i y).2.id=(zd9 m i y).2:=by
 unfold svD at h ⊢
 by_cases c:(zd9 m i y).1=0
 ·rw[if_neg (show ¬(zd9 m i y).1≠0 from fun e=>e c)] at h ⊢;refine⟨c,?_⟩
  by_cases c2:(olD (za2 y zb5).1).1=0
  ·rw[if_neg (show ¬(olD (za2 y zb5).1).1≠0 from fun e=>e c2)] at h ⊢
   split
   ·rfl
   ·rename_i c3;rw[if_neg c3] at h
    by_cases c4:(olD (za2 y zdO).1).1=0
    ·rw[if_neg (show ¬(olD (za2 y zdO).1).1≠0 from fun e=>e c4)]
    ·rw[if_pos c4] at h;exact absurd h c4
  ·rw[if_pos c2] at h;exact absurd h c2
 ·rw[if_pos c] at h;exact absurd h c
theorem sb_did {v:JV} (h:(sbD v).1=0):zdf (tmD v kId).1=(0,(sbD v).2):=by
 unfold sbD at h ⊢
 split
 ·rename_i c;rw[if_pos c] at h;cases h
 ·rename_i c;rw[if_neg c] at h
  split
  ·rename_i c2;rw[if_pos c2] at h;cases h
  ·rename_i c2;have c2:=Decidable.not_not.1 c2;exact Prod.ext c2 rfl
theorem zhZ {v:JV} (h:(ddE v).1=0):(sbD v).1=0/\(opD v zcS ltD).1=0/\(opD v zbS olD).1=0/\(opD v zct (elD (mtD (sbD v).2.1 (sbD v).2.2))).1=0/\(opD v zb6 (elD (svD (sbD v).2.1 (sbD v).2.2))).1=0/\(ddE v).2=⟨zcg (sbD v).2.1 (sbD v).2.2,(opD v zcS ltD).2,(opD v zbS olD).2,(opD v zct (elD (mtD (sbD v).2.1 (sbD v).2.2))).2,(opD v zb6 (elD (svD (sbD v).2.1 (sbD v).2.2))).2⟩:=by
 unfold ddE at h ⊢
 by_cases c1:(sbD v).1=0
 rotate_left
 ·rw[if_pos c1] at h;exact absurd h c1
 by_cases c2:(opD v zcS ltD).1=0
 rotate_left
 ·rw[if_neg (fun e=>e c1),if_pos c2] at h;exact absurd h c2
 by_cases c3:(opD v zbS olD).1=0
 rotate_left
 ·rw[if_neg (fun e=>e c1),if_neg (fun e=>e c2),if_pos c3] at h;exact absurd h c3
 by_cases c4:(opD v zct (elD (mtD (sbD v).2.1 (sbD v).2.2))).1=0
 rotate_left
 ·rw[if_neg (fun e=>e c1),if_neg (fun e=>e c2),if_neg (fun e=>e c3),if_pos c4] at h;exact absurd h c4
 by_cases c5:(opD v zb6 (elD (svD (sbD v).2.1 (sbD v).2.2))).1=0
 rotate_left
 ·rw[if_neg (fun e=>e c1),if_neg (fun e=>e c2),if_neg (fun e=>e c3),if_neg (fun e=>e c4),if_pos c5] at h;exact absurd h c5
 refine⟨c1,c2,c3,c4,c5,?_⟩;rw[if_neg (fun e=>e c1),if_neg (fun e=>e c2),if_neg (fun e=>e c3),if_neg (fun e=>e c4),if_neg (fun e=>e c5)]
theorem dd_fit {v:JV} (h:(ddE v).1=0):DocF (sbD v).2.1 (sbD v).2.2 (ddE v).2:=by
 obtain⟨c1,c2,c3,c4,c5,e⟩:=zhZ h;have hs:=ddE_sh v;rw[e] at hs ⊢;refine⟨did_can (sb_did c1),rfl,hs,fun x hx=>?_,fun x hx=>?_⟩
 ·obtain⟨y,_,rfl,hy⟩:=zdC c4 x hx;obtain⟨h1,h2⟩:=mt_id hy;rw[h2];exact zhK h1
 ·obtain⟨y,_,rfl,hy⟩:=zdC c5 x hx;obtain⟨h1,h2⟩:=sv_id hy;rw[h2];exact zhK h1
theorem dd_back {m i:List UInt8} {d:DoP} (h:DocF m i d):ddE (enD d)=(0,d):=by
 obtain⟨hd,hid,⟨s1,s2,s3,s4,s5⟩,hm,hv⟩:=h;have l0:[kId].length=[jtx d.id].length:=rfl;have l1:=ze7 (key:=zcS) (v:=jar (d.also.map jtx)) l0;have l2:=ze7 (key:=zbS) (v:=jar (d.ctl.map jtx)) l1;have l3:=ze7 (key:=zct) (v:=jar (d.mts.map enM)) l2;have g0:za2 (enD d) kId=(jtx d.id,true):=by
  unfold enD deK deI;rw[zaG l3 (by decide),zaG l2 (by decide),zaG l1 (by decide),zaG l0 (by decide)];exact zgg (ks:=[]) (its:=[]) rfl (by simp)
 have g1:za2 (enD d) zcS=if zde (jar (d.also.map jtx))=true then (jar (d.also.map jtx),true) else (jvZ,false):=by
  unfold enD deK deI;rw[zaG l3 (by decide),zaG l2 (by decide),zaG l1 (by decide)];exact zfB l0 (by decide)
 have g2:za2 (enD d) zbS=if zde (jar (d.ctl.map jtx))=true then (jar (d.ctl.map jtx),true) else (jvZ,false):=by
  unfold enD deK deI;rw[zaG l3 (by decide),zaG l2 (by decide)];exact zfB l1 (zdE (by decide) (by decide))
 have g3:za2 (enD d) zct=if zde (jar (d.mts.map enM))=true then (jar (d.mts.map enM),true) else (jvZ,false):=by
  unfold enD deK deI;rw[zaG l3 (by decide)];exact zfB l2 (zdE (zdE (by decide) (by decide)) (by decide))
 have g4:za2 (enD d) zb6=if zde (jar (d.svs.map enV))=true then (jar (d.svs.map enV),true) else (jvZ,false):=by
  unfold enD deK deI;exact zfB l3 (zdE (zdE (zdE (by decide) (by decide)) (by decide)) (by decide))
 have e0:sbD (enD d)=(0,m,i):=by
  unfold sbD;rw[zjX g0];dsimp only;rw[hid,hd,if_neg (by decide),if_neg (by simp)]
 have e1:opD (enD d) zcS ltD=(0,d.also):=zfu g1 (by unfold ltD;rw[if_pos (show (jar (d.also.map jtx)).kind=6 from rfl)];exact zmr s1);have e2:opD (enD d) zbS olD=(0,d.ctl):=zfu g2 (zju s2);have e3:opD (enD d) zct (elD (mtD m i))=(0,d.mts):=zfu g3 (by
  unfold elD;rw[if_pos (show (jar (d.mts.map enM)).kind=6 from rfl),if_neg (by show ¬64<(d.mts.map enM).length;rw[qo];omega)];exact zhV fun x hx=>mt_back (hm x hx))
 have e4:opD (enD d) zb6 (elD (svD m i))=(0,d.svs):=zfu g4 (by
  unfold elD;rw[if_pos (show (jar (d.svs.map enV)).kind=6 from rfl),if_neg (by show ¬64<(d.svs.map enV).length;rw[qo];omega)];exact zhV fun x hx=>sv_back (hv x hx) (s5 x hx))
 unfold ddE;rw[e0];dsimp only;rw[e1,e2,e3,e4,if_neg (by decide),if_neg (by simp),if_neg (by simp),if_neg (by simp),if_neg (by simp),<-hid]
theorem zmB {v:JV} (h:(ddE v).1=0) {id:List UInt8} (hx:(∃x∈(ddE v).2.mts,x.id=id)\/∃x∈(ddE v).2.svs,x.id=id):(zjj v id).2=true:=by
 obtain⟨c1,c2,c3,c4,c5,e⟩:=zhZ h;rw[e] at hx;have:∃y∈ziz v,hitB (sbD v).2.1 (sbD v).2.2 id y=true:=by
  rcases hx with ⟨x,hx,rfl⟩|⟨x,hx,rfl⟩
  ·obtain⟨y,hm,rfl,hy⟩:=zdC c4 x hx;obtain⟨h1,h2⟩:=mt_id hy;exact⟨y,List.mem_append_left _ hm,by unfold hitB;rw[h1,h2];simp⟩
  ·obtain⟨y,hm,rfl,hy⟩:=zdC c5 x hx;obtain⟨h1,h2⟩:=sv_id hy;exact⟨y,List.mem_append_right _ hm,by unfold hitB;rw[h1,h2];simp⟩
 unfold zjj;rw[if_neg (show ¬(ddE v).1≠0 from fun c=>c h)];obtain⟨y,hy,hh⟩:=this
 cases hf:(ziz v).find? (hitB (sbD v).2.1 (sbD v).2.2 id) with
 | some z=>rfl
 | none=>exact absurd hh (List.find?_eq_none.1 hf y hy)
end
section
attribute [local irreducible] run
end
section
attribute [local irreducible] run
def zme (E n:Nat) (cs:List AV) (o:List OB) (X:AV):Prop:=(n=0/\cs=[]/\X=.nil)\/∃r g,X=.orow r g/\3<=r/\o[r]? = some (.orow E 3 g n cs)
theorem zme.call {E n:Nat} {cs:List AV} {o o':List OB} {X:AV} {b:Nat} {Y:OB} (h:zme E n cs o X) (hx:Ext o o' b Y) (hb:b=2):zme E n cs o' X:=by
 rcases h with h|⟨r,g,h1,h2,h3⟩
 ·exact .inl h
 ·exact .inr ⟨r,g,h1,h2,hx.2.2 r _ (by omega) h3 trivial⟩
theorem zme.mono {E n:Nat} {cs:List AV} {o:List OB} {X:AV} (h:zme E n cs o X) (z:OB):zme E n cs (o++[z]) X:=by
 rcases h with h|⟨r,g,h1,h2,h3⟩
 ·exact .inl h
 ·exact .inr ⟨r,g,h1,h2,zbb h3 z⟩
theorem zme.set {E n:Nat} {cs:List AV} {o:List OB} {X:AV} (h:zme E n cs o X) {j:Nat} {Z:OB} (hz:o[j]? = some Z) (hne:∀g n cs,Z≠.orow E 3 g n cs) (W:OB):zme E n cs (o.set j W) X:=by
 rcases h with h|⟨r,g,h1,h2,h3⟩
 ·exact .inl h
 ·exact .inr ⟨r,g,h1,h2,set_keep h3 (fun e=>by rw[e,h3] at hz;injection hz with hz;exact hne _ _ _ hz.symm) W⟩
theorem zme.lt {E n:Nat} {cs:List AV} {o:List OB} {X:AV} (h:zme E n cs o X):X.plain=true\/∃r g,X=.orow r g/\r<o.length:=by
 rcases h with ⟨_,_,rfl⟩|⟨r,g,h1,h2,h3⟩
 ·exact .inl rfl
 ·exact .inr ⟨r,g,h1,(zh.1 h3).1⟩
def DoB (F:List UInt8) (A Ct:List (List UInt8)) (M X:AV):OB:=.box 34 [.s F,.row A.length (A.map .s),.row Ct.length (Ct.map .s),M,X]
structure DSu (o1 o:List OB) (m i:List UInt8) (e:Int) (jb:Nat) (F:List UInt8) (A Ct:List (List UInt8)) (ms:List MtP) (vs:List SvP) (M X:AV):Prop where
 ex:Ext o1 o 2 (rqB m i e)
 ej:o[jb]? = some (DoB F A Ct M X)
 rm:zme 48 ms.length (zc0 ms) o M
 rv:zme 46 vs.length (zcN vs) o X
theorem DSu.plm {o1 o:List OB} {m i:List UInt8} {e:Int} {jb:Nat} {F:List UInt8} {A Ct:List (List UInt8)} {ms:List MtP} {vs:List SvP} {M X:AV} (h:DSu o1 o m i e jb F A Ct ms vs M X):PlM o.length (DoB F A Ct M X):=by
 intro c hc;simp only[zv,jw,or_false] at hc;rcases hc with rfl|rfl|rfl|rfl|rfl
 ·exact .inl rfl
 ·exact .inl (zaI _)
 ·exact .inl (zaI _)
 ·exact h.rm.lt
 ·exact h.rv.lt
theorem DSu.app {o1 o:List OB} {m i:List UInt8} {e:Int} {jb:Nat} {F:List UInt8} {A Ct:List (List UInt8)} {ms:List MtP} {vs:List SvP} {M X:AV} (h:DSu o1 o m i e jb F A Ct ms vs M X) (z:OB):DSu o1 (o++[z]) m i e jb F A Ct ms vs M X :=
 ⟨h.ex.app z,zbb h.ej z,h.rm.mono z,h.rv.mono z⟩
theorem DSu.call {o1 o o':List OB} {m i:List UInt8} {e e':Int} {jb:Nat} {F:List UInt8} {A Ct:List (List UInt8)} {ms:List MtP} {vs:List SvP} {M X:AV} (h:DSu o1 o m i e jb F A Ct ms vs M X) (hx:Ext o o' 2 (rqB m i e')) (hj:jb≠2):DSu o1 o' m i e' jb F A Ct ms vs M X :=
 ⟨h.ex.trans hx,hx.2.2 jb _ hj h.ej h.plm,h.rm.call hx rfl,h.rv.call hx rfl⟩
section
variable [Tabs Tryz.prog] {objs:List OB} {K:List OB->AV->Prop}
end
end
section
attribute [local irreducible] run
section
variable [Tabs Tryz.prog] {objs:List OB} {K:List OB->AV->Prop}
end
end
section
attribute [local irreducible] run
section
variable [Tabs Tryz.prog] {objs:List OB} {K:List OB->AV->Prop}
theorem encMt_k (x:MtP) (hk:K objs (.agg (zak (enM x)))):zae Tryz.prog 50 [.agg (mtc x)] objs K:=by
 refine za5 is_diddoc_encodeMethod (by unfold mtc;simp only[zap,AV.plain,zaI,Bool.and_self]) fun C _=>?_;rw[c_diddoc_encodeMethod];unfold mtc;refine zaa fun Z hZ=>?_;simp only[sxZ,z6,z7,z8,j4,j5,j6,j7,j8,j9,x6,x7,x8,x9,y4,y5,reduceCtorEq,↓reduceIte];subst hZ;refine zaa fun Z hZ=>?_;simp only[sxZ,z6,z7,z8,j4,j5,j6,j7,j8,j9,x6,x7,x8,x9,y4,y5,reduceCtorEq,↓reduceIte];have hO:ObR 3 2 [] [] [OB.box 48 [.s x.id,.s x.typ,.s x.ctl],.box 25 [.i .i64 0,.s [],.nil,.nil],.box 93 [.nil,.nil]]:=⟨.nil,.nil,rfl,.inl ⟨rfl,rfl⟩,.inl ⟨rfl,rfl⟩⟩;have e0:[OB.box 48 [.s x.id,.s x.typ,.s x.ctl],.box 25 [.i .i64 0,.s [],.nil,.nil],.box 93 [.nil,.nil]][0]? = some (OB.box 48 [.s x.id,.s x.typ,.s x.ctl]):=rfl;have e1:[OB.box 48 [.s x.id,.s x.typ,.s x.ctl],.box 25 [.i .i64 0,.s [],.nil,.nil],.box 93 [.nil,.nil]][1]? = some (OB.box 25 [.i .i64 0,.s [],.nil,.nil]):=rfl;have hl:3<=[OB.box 48 [.s x.id,.s x.typ,.s x.ctl],.box 25 [.i .i64 0,.s [],.nil,.nil],.box 93 [.nil,.nil]].length:=by simp
 generalize [OB.box 48 [.s x.id,.s x.typ,.s x.ctl],.box 25 [.i .i64 0,.s [],.nil,.nil],.box 93 [.nil,.nil]]=o0 at hO e0 e1 hl ⊢;subst hZ;refine zaa fun Z hZ=>?_;simp only[sxZ,z6,z7,z8,j4,j5,j6,j7,j8,j9,x6,x7,x8,x9,y4,y5,reduceCtorEq,↓reduceIte,e0];refine zah (zdF x.id ?_);simp only[sxZ,z6,z7,z8,j4,j5,j6,j7,j8,j9,x6,x7,x8,x9,y4,y5,reduceCtorEq,↓reduceIte];refine zah (zc8 3 2 _ _ kId (jtx x.id) hO hl (by omega) (by simp) (by simp) fun o1 O1 l1 q1=>?_);rw[qd,qd] at O1;have f0:=(q1 0 (by omega) (by omega)).trans e0;have f1:=(q1 1 (by omega) (by omega)).trans e1;simp only[sxZ,z6,z7,z8,j4,j5,j6,j7,j8,j9,x6,x7,x8,x9,y4,y5,reduceCtorEq,↓reduceIte];subst hZ;refine zaa fun Z hZ=>?_;simp only[sxZ,z6,z7,z8,j4,j5,j6,j7,j8,j9,x6,x7,x8,x9,y4,y5,reduceCtorEq,↓reduceIte,f0];refine zah (zdF x.typ ?_);simp only[sxZ,z6,z7,z8,j4,j5,j6,j7,j8,j9,x6,x7,x8,x9,y4,y5,reduceCtorEq,↓reduceIte];refine zah (zc8 3 2 _ _ zb5 (jtx x.typ) O1 (by omega) (by omega) (by simp) (by simp) fun o2 O2 l2 q2=>?_);simp only[qw,qd] at O2;have f0:=(q2 0 (by omega) (by omega)).trans f0;have f1:=(q2 1 (by omega) (by omega)).trans f1;simp only[sxZ,z6,z7,z8,j4,j5,j6,j7,j8,j9,x6,x7,x8,x9,y4,y5,reduceCtorEq,↓reduceIte];subst hZ;refine zaa fun Z hZ=>?_;simp only[sxZ,z6,z7,z8,j4,j5,j6,j7,j8,j9,x6,x7,x8,x9,y4,y5,reduceCtorEq,↓reduceIte,f0];refine zah (zdF x.ctl ?_);simp only[sxZ,z6,z7,z8,j4,j5,j6,j7,j8,j9,x6,x7,x8,x9,y4,y5,reduceCtorEq,↓reduceIte];refine zah (zc8 3 2 _ _ zbS (jtx x.ctl) O2 (by omega) (by omega) (by simp) (by simp) fun o3 O3 l3 q3=>?_);simp only[qw,qd] at O3;have f0:=(q3 0 (by omega) (by omega)).trans f0;have f1:=(q3 1 (by omega) (by omega)).trans f1;simp only[sxZ,z6,z7,z8,j4,j5,j6,j7,j8,j9,x6,x7,x8,x9,y4,y5,reduceCtorEq,↓reduceIte];subst hZ;simp only[sxZ,z6,z7,z8,j4,j5,j6,j7,j8,j9,x6,x7,x8,x9,y4,y5,reduceCtorEq,↓reduceIte];refine zah (zgb 3 2 _ _ O3 (by omega) (by omega) fun o7 l7 q7=>?_);have e3:=q7 1 _ (by omega) (by omega) f1 rfl;have hl0:=(zh.1 e3).1;unfold enM at hk;generalize [kId,zb5,zbS]=kk at hk ⊢;generalize [jtx x.id,jtx x.typ,jtx x.ctl]=ii at hk ⊢;have hc:zak (job kk ii)=[.i .i64 7,.s [],.row kk.length (kk.map .s),.row ii.length (zac ii)]:=by rw[zaf];rfl
 rw[hc] at hk ⊢;have hj1:=za4 ii;have hj2:=zaI kk;generalize zac ii=cs at hj1 hk ⊢;generalize kk.map AV.s=ks at hj2 hk ⊢;have s1:∀X,(o7.set 1 X)[1]? = some X:=fun X=>zk hl0;simp only[sxZ,z6,z7,z8,j4,j5,j6,j7,j8,j9,x6,x7,x8,x9,y4,y5,reduceCtorEq,↓reduceIte,e3,s1,hj1,hj2];exact hk
theorem encSv_k (x:SvP) (h1:x.typ.length<=1000000) (h2:x.eps.length<=1000000) (hk:K objs (.agg (zak (enV x)))):zae Tryz.prog 52 [.agg (svc x)] objs K:=by
 refine za5 is_diddoc_encodeService (by unfold svc;simp only[zap,AV.plain,zaI,Bool.and_self]) fun C _=>?_;rw[c_diddoc_encodeService];unfold svc;refine zaa fun Z hZ=>?_;simp only[sxZ,z6,z7,z8,j4,j5,j6,j7,j8,j9,x6,x7,x8,x9,y4,y5,reduceCtorEq,↓reduceIte];subst hZ;refine zaa fun Z hZ=>?_;simp only[sxZ,z6,z7,z8,j4,j5,j6,j7,j8,j9,x6,x7,x8,x9,y4,y5,reduceCtorEq,↓reduceIte];have hO:ObR 3 2 [] [] [OB.box 46 [.s x.id,.row x.typ.length (x.typ.map .s),.row x.eps.length (x.eps.map .s)],.box 25 [.i .i64 0,.s [],.nil,.nil],.box 93 [.nil,.nil]]:=⟨.nil,.nil,rfl,.inl ⟨rfl,rfl⟩,.inl ⟨rfl,rfl⟩⟩;have e0:[OB.box 46 [.s x.id,.row x.typ.length (x.typ.map .s),.row x.eps.length (x.eps.map .s)],.box 25 [.i .i64 0,.s [],.nil,.nil],.box 93 [.nil,.nil]][0]? = some (OB.box 46 [.s x.id,.row x.typ.length (x.typ.map .s),.row x.eps.length (x.eps.map .s)]):=rfl;have e1:[OB.box 46 [.s x.id,.row x.typ.length (x.typ.map .s),.row x.eps.length (x.eps.map .s)],.box 25 [.i .i64 0,.s [],.nil,.nil],.box 93 [.nil,.nil]][1]? = some (OB.box 25 [.i .i64 0,.s [],.nil,.nil]):=rfl;have hl:3<=[OB.box 46 [.s x.id,.row x.typ.length (x.typ.map .s),.row x.eps.length (x.eps.map .s)],.box 25 [.i .i64 0,.s [],.nil,.nil],.box 93 [.nil,.nil]].length:=by simp
 generalize [OB.box 46 [.s x.id,.row x.typ.length (x.typ.map .s),.row x.eps.length (x.eps.map .s)],.box 25 [.i .i64 0,.s [],.nil,.nil],.box 93 [.nil,.nil]]=o0 at hO e0 e1 hl ⊢;subst hZ;refine zaa fun Z hZ=>?_;simp only[sxZ,z6,z7,z8,j4,j5,j6,j7,j8,j9,x6,x7,x8,x9,y4,y5,reduceCtorEq,↓reduceIte,e0];refine zah (zdF x.id ?_);simp only[sxZ,z6,z7,z8,j4,j5,j6,j7,j8,j9,x6,x7,x8,x9,y4,y5,reduceCtorEq,↓reduceIte];refine zah (zc8 3 2 _ _ kId (jtx x.id) hO hl (by omega) (by simp) (by simp) fun o1 O1 l1 q1=>?_);rw[qd,qd] at O1;have f0:=(q1 0 (by omega) (by omega)).trans e0;have f1:=(q1 1 (by omega) (by omega)).trans e1;simp only[sxZ,z6,z7,z8,j4,j5,j6,j7,j8,j9,x6,x7,x8,x9,y4,y5,reduceCtorEq,↓reduceIte];subst hZ;refine zaa fun Z hZ=>?_;simp only[sxZ,z6,z7,z8,j4,j5,j6,j7,j8,j9,x6,x7,x8,x9,y4,y5,reduceCtorEq,↓reduceIte,f0];refine zah (zeq x.typ h1 ?_);simp only[sxZ,z6,z7,z8,j4,j5,j6,j7,j8,j9,x6,x7,x8,x9,y4,y5,reduceCtorEq,↓reduceIte];refine zah (zc8 3 2 _ _ zb5 (jar (x.typ.map jtx)) O1 (by omega) (by omega) (by simp) (by simp) fun o2 O2 l2 q2=>?_);simp only[qw,qd] at O2;have f0:=(q2 0 (by omega) (by omega)).trans f0;have f1:=(q2 1 (by omega) (by omega)).trans f1;simp only[sxZ,z6,z7,z8,j4,j5,j6,j7,j8,j9,x6,x7,x8,x9,y4,y5,reduceCtorEq,↓reduceIte];subst hZ;refine zaa fun Z hZ=>?_;simp only[sxZ,z6,z7,z8,j4,j5,j6,j7,j8,j9,x6,x7,x8,x9,y4,y5,reduceCtorEq,↓reduceIte,f0];refine zah (zeq x.eps h2 ?_);simp only[sxZ,z6,z7,z8,j4,j5,j6,j7,j8,j9,x6,x7,x8,x9,y4,y5,reduceCtorEq,↓reduceIte];refine zah (zc8 3 2 _ _ zdO (jar (x.eps.map jtx)) O2 (by omega) (by omega) (by simp) (by simp) fun o3 O3 l3 q3=>?_);simp only[qw,qd] at O3;have f0:=(q3 0 (by omega) (by omega)).trans f0;have f1:=(q3 1 (by omega) (by omega)).trans f1;simp only[sxZ,z6,z7,z8,j4,j5,j6,j7,j8,j9,x6,x7,x8,x9,y4,y5,reduceCtorEq,↓reduceIte];subst hZ;simp only[sxZ,z6,z7,z8,j4,j5,j6,j7,j8,j9,x6,x7,x8,x9,y4,y5,reduceCtorEq,↓reduceIte];refine zah (zgb 3 2 _ _ O3 (by omega) (by omega) fun o7 l7 q7=>?_);have e3:=q7 1 _ (by omega) (by omega) f1 rfl;have hl0:=(zh.1 e3).1;unfold enV at hk;generalize [kId,zb5,zdO]=kk at hk ⊢;generalize [jtx x.id,jar (x.typ.map jtx),jar (x.eps.map jtx)]=ii at hk ⊢;have hc:zak (job kk ii)=[.i .i64 7,.s [],.row kk.length (kk.map .s),.row ii.length (zac ii)]:=by rw[zaf];rfl
 rw[hc] at hk ⊢;have hj1:=za4 ii;have hj2:=zaI kk;generalize zac ii=cs at hj1 hk ⊢;generalize kk.map AV.s=ks at hj2 hk ⊢;have s1:∀X,(o7.set 1 X)[1]? = some X:=fun X=>zk hl0;simp only[sxZ,z6,z7,z8,j4,j5,j6,j7,j8,j9,x6,x7,x8,x9,y4,y5,reduceCtorEq,↓reduceIte,e3,s1,hj1,hj2];exact hk
end
end
section
attribute [local irreducible] run
theorem mt_at:∀{l:List MtP} {i:Nat} (hi:i<l.length),((zc0 l).drop (i*3)).take 3=mtc l[i]
 | x::l,0,hi=>by
  rw[Nat.zero_mul,List.drop_zero];unfold zc0;rw[x4];rfl
 | x::l,i+1,hi=>by
  have h:=mt_at (l:=l) (i:=i) (by simpa using hi);rw[yg,<-h];have e:(zc0 (x::l)).drop ((i+1)*3)=(zc0 l).drop (i*3):=by
   unfold zc0;rw[x4,List.drop_append,xn (by unfold mtc;simp only[zx,qk];omega)];have:(i+1)*3 - (mtc x).length=i*3:=by unfold mtc;simp only[zx,qk];omega
   rw[this,qd]
  rw[e]
theorem sv_at:∀{l:List SvP} {i:Nat} (hi:i<l.length),((zcN l).drop (i*3)).take 3=svc l[i]
 | x::l,0,hi=>by
  rw[Nat.zero_mul,List.drop_zero];unfold zcN;rw[x4];rfl
 | x::l,i+1,hi=>by
  have h:=sv_at (l:=l) (i:=i) (by simpa using hi);rw[yg,<-h];have e:(zcN (x::l)).drop ((i+1)*3)=(zcN l).drop (i*3):=by
   unfold zcN;rw[x4,List.drop_append,xn (by unfold svc;simp only[zx,qk];omega)];have:(i+1)*3 - (svc x).length=i*3:=by unfold svc;simp only[zx,qk];omega
   rw[this,qd]
  rw[e]
theorem zjP {l c:List AV} {i k:Nat} (h:(l.drop (i*3)).take 3=c) (hk:k<3):l[i*3+k]? = c[k]?:=by
 rw[<-h,List.getElem?_take_of_lt hk,List.getElem?_drop]
section
variable [Tabs Tryz.prog] {objs:List OB} {K:List OB->AV->Prop}
theorem zfr (a b:List (List UInt8)) (ha:a.length<=1000000) (hk:K objs (.b (decide (a=b)))):zae Tryz.prog 39 [.row a.length (a.map .s),.row b.length (b.map .s)] objs K:=by
 refine za5 is_ref01_Same (by simp[zap,AV.plain,zaI]) fun C _=>?_
 by_cases c1:(a.length:Int)=b.length
 ·simp only[c1,c_ref01_Same,sxZ,z6,z7,z8,j4,j5,j6,j7,j8,j9,x6,x7,x8,x9,y4,y5,reduceCtorEq,↓reduceIte];have c1':a.length=b.length:=by omega
  refine zaH (fun n objs tm=>∃i:Nat,i<=a.length/\n=a.length - i/\tm.length=26/\tm[0]? = some (.row a.length (a.map .s))/\tm[1]? = some (.row b.length (b.map .s))/\tm[12]? = some (.i .i64 b.length)/\tm[13]? = some (.i .i64 i)/\a.take i=b.take i) a.length ⟨0,zd _,rfl,rfl,rfl,rfl,rfl,rfl,rfl⟩ ?_;rintro n objs tm ⟨i,hi,rfl,hlen,t0,t1,t12,t13,hall⟩
  by_cases hlt:(i:Int)<b.length
  ·have hlt':i<a.length:=by omega
   have hltb:i<b.length:=by omega
   have hat:(a.map AV.s)[i]? = some (.s a[i]):=by simp[hlt']
   have hbt:(b.map AV.s)[i]? = some (.s b[i]):=by simp[hltb]
   have hne:a[i]≠b[i]->a≠b:=by
    rintro h rfl;exact h rfl
   by_cases c2:a[i]=b[i]
   ·simp only[sxZ,z6,z7,z8,j4,j5,j6,j7,j8,j9,x6,x7,x8,x9,y4,y5,reduceCtorEq,↓reduceIte,za,hlen,t0,t1,t12,t13,hlt,jf,Nat.mul_one,hat,hbt,c2,qo];refine⟨⟨by omega,by omega⟩,⟨by omega,by omega⟩,⟨by omega,by omega⟩,a.length - (i+1),by omega,i+1,by omega,rfl,rfl,?_⟩;rw[yc hlt',yc hltb,hall,c2]
   ·rw[decide_eq_false (hne c2)] at hk;simp only[sxZ,z6,z7,z8,j4,j5,j6,j7,j8,j9,x6,x7,x8,x9,y4,y5,reduceCtorEq,↓reduceIte,za,hlen,t0,t1,t12,t13,hlt,jf,Nat.mul_one,hat,hbt,c2,qo];exact⟨⟨by omega,by omega⟩,⟨by omega,by omega⟩,hk⟩
  ·obtain rfl:i=a.length:=by omega
   rw[jp (ze _),jp (by omega)] at hall;rw[decide_eq_true hall] at hk;simp only[sxZ,z6,z7,z8,j4,j5,j6,j7,j8,j9,x6,x7,x8,x9,y4,y5,reduceCtorEq,↓reduceIte,za,hlen,t0,t1,t12,t13,hlt];exact hk
 ·rw[decide_eq_false (by rintro rfl;exact c1 rfl)] at hk;simp only[c1,c_ref01_Same,sxZ,z6,z7,z8,j4,j5,j6,j7,j8,j9,x6,x7,x8,x9,y4,y5,reduceCtorEq,↓reduceIte];exact hk
theorem same17_k (d:DoP) (h1:d.also.length<=1000000) (h2:d.ctl.length<=1000000) (h3:d.mts.length<=1000000) (h4:d.svs.length<=1000000) (h5:∀x∈d.svs,x.typ.length<=1000000/\x.eps.length<=1000000) (hk:K objs (.b true)):zae Tryz.prog 12 [.agg (doc d),.agg (doc d)] objs K:=by
 obtain⟨id,al,ct,ms,vs⟩:=d;dsimp only at h1 h2 h3 h4 h5;have hl3:=zfw ms;have hl4:=zfq vs;refine za5 is_ref17_Same (by unfold doc;simp only[zap,AV.plain,zaI,zf9,zfO,Bool.and_self]) fun C _=>?_;rw[c_ref17_Same];unfold doc;dsimp only;refine zaa fun Y hY=>?_;simp only[sxZ,z6,z7,z8,j4,j5,j6,j7,j8,j9,x6,x7,x8,x9,y4,y5,reduceCtorEq,↓reduceIte];subst hY;refine zaa fun Y hY=>?_;simp only[sxZ,z6,z7,z8,j4,j5,j6,j7,j8,j9,x6,x7,x8,x9,y4,y5,reduceCtorEq,↓reduceIte];refine zah (zfr al al h1 ?_);simp only[sxZ,z6,z7,z8,j4,j5,j6,j7,j8,j9,x6,x7,x8,x9,y4,y5,reduceCtorEq,↓reduceIte];refine zah (zfr ct ct h2 ?_);simp only[sxZ,z6,z7,z8,j4,j5,j6,j7,j8,j9,x6,x7,x8,x9,y4,y5,reduceCtorEq,↓reduceIte];subst hY;refine zaa fun Y hY=>?_;refine zaa fun Z hZ=>?_;simp only[sxZ,z6,z7,z8,j4,j5,j6,j7,j8,j9,x6,x7,x8,x9,y4,y5,reduceCtorEq,↓reduceIte];subst hZ;rw[zaR];refine zaH (fun n o tm=>∃i:Nat,i<=ms.length/\n=ms.length - i/\o[0]? = some (OB.box 34 [.s id,.row al.length (al.map .s),.row ct.length (ct.map .s),.row ms.length (zc0 ms),.row vs.length (zcN vs)])/\o[1]? = some (OB.box 34 [.s id,.row al.length (al.map .s),.row ct.length (ct.map .s),.row ms.length (zc0 ms),.row vs.length (zcN vs)])/\tm.length=116/\tm[2]? = some (.p 0 0)/\tm[3]? = some (.p 1 0)/\tm[48]? = some (.i .i64 (ms.length:Int))/\tm[49]? = some (.i .i64 (i:Int))) ms.length ⟨0,zd _,rfl,rfl,rfl,rfl,rfl,rfl,rfl,rfl⟩ ?_;rintro n o tm ⟨i,hi,rfl,e0,e1,hlen,t2,t3,t48,t49⟩;refine zaa fun Z hZ=>?_
 by_cases hlt:(i:Int)<(ms.length:Int)
 ·have hi':i<ms.length:=by omega
  have kv:=mt_at hi';generalize ms[i]=y at kv;unfold mtc at kv;simp only[sxZ,z6,z7,z8,j4,j5,j6,j7,j8,j9,x6,x7,x8,x9,y4,y5,reduceCtorEq,↓reduceIte,za,hlen,t48,t49,hlt];subst hZ;refine zaa fun Z hZ=>?_;simp only[sxZ,z6,z7,z8,j4,j5,j6,j7,j8,j9,x6,x7,x8,x9,y4,y5,reduceCtorEq,↓reduceIte,za,hlen];subst hZ;refine zaa fun W hW=>?_;rw[zaR];refine zaa fun Z hZ=>?_;simp only[sxZ,z6,z7,z8,j4,j5,j6,j7,j8,j9,x6,x7,x8,x9,y4,y5,reduceCtorEq,↓reduceIte,za,hlen,t49];subst hZ;simp only[sxZ,z6,z7,z8,j4,j5,j6,j7,j8,j9,x6,x7,x8,x9,y4,y5,reduceCtorEq,↓reduceIte,za,hlen,t2,t3,e0,e1,kv]
  (and_intros<;>try omega)
  subst hW;simp only[sxZ,z6,z7,z8,j4,j5,j6,j7,j8,j9,x6,x7,x8,x9,y4,y5,reduceCtorEq,↓reduceIte,za,hlen,t2,t3,t48,t49];exact⟨by omega,ms.length - (i+1),by omega,i+1,by omega,rfl,e0,e1,rfl⟩
 simp only[sxZ,z6,z7,z8,j4,j5,j6,j7,j8,j9,x6,x7,x8,x9,y4,y5,reduceCtorEq,↓reduceIte,za,hlen,t48,t49,hlt];subst hZ;simp only[sxZ,z6,z7,z8,j4,j5,j6,j7,j8,j9,x6,x7,x8,x9,y4,y5,reduceCtorEq,↓reduceIte,za,hlen];subst hY;refine zaa fun Y hY=>?_;refine zaa fun Z hZ=>?_;simp only[sxZ,z6,z7,z8,j4,j5,j6,j7,j8,j9,x6,x7,x8,x9,y4,y5,reduceCtorEq,↓reduceIte,za,hlen,t2,e0];subst hZ;rw[zaR];refine zaH (fun n o tm=>∃i:Nat,i<=vs.length/\n=vs.length - i/\o[0]? = some (OB.box 34 [.s id,.row al.length (al.map .s),.row ct.length (ct.map .s),.row ms.length (zc0 ms),.row vs.length (zcN vs)])/\o[1]? = some (OB.box 34 [.s id,.row al.length (al.map .s),.row ct.length (ct.map .s),.row ms.length (zc0 ms),.row vs.length (zcN vs)])/\tm.length=116/\tm[2]? = some (.p 0 0)/\tm[3]? = some (.p 1 0)/\tm[66]? = some (.i .i64 (vs.length:Int))/\tm[67]? = some (.i .i64 (i:Int))) vs.length ⟨0,zd _,rfl,e0,e1,?_⟩ ?_
 ·simp only[sxZ,z6,z7,z8,j4,j5,j6,j7,j8,j9,x6,x7,x8,x9,y4,y5,reduceCtorEq,↓reduceIte,zi,za,hlen,t2,t3,y8,and_self]
 clear hlen t2 t3 t48 t49 e0 e1 hlt hi;rintro n o tm ⟨i,hi,rfl,e0,e1,hlen,t2,t3,t66,t67⟩;refine zaa fun Z hZ=>?_
 by_cases hlt:(i:Int)<(vs.length:Int)
 ·have hi':i<vs.length:=by omega
  have kv:=sv_at hi';have hm:=h5 vs[i] (jn hi');generalize vs[i]=y at kv hm;have k0:=zjP kv (k:=0) (by decide);have k1:=zjP kv (k:=1) (by decide);have k2:=zjP kv (k:=2) (by decide);unfold svc at k0 k1 k2;simp only[List.getElem?_cons_zero,List.getElem?_cons_succ] at k0 k1 k2;simp only[sxZ,z6,z7,z8,j4,j5,j6,j7,j8,j9,x6,x7,x8,x9,y4,y5,reduceCtorEq,↓reduceIte,za,hlen,t66,t67,hlt];subst hZ;refine zaa fun Z hZ=>?_;simp only[sxZ,z6,z7,z8,j4,j5,j6,j7,j8,j9,x6,x7,x8,x9,y4,y5,reduceCtorEq,↓reduceIte,za,hlen];subst hZ;refine zaa fun W hW=>?_;rw[zaR];refine zaa fun Z hZ=>?_;simp only[sxZ,z6,z7,z8,j4,j5,j6,j7,j8,j9,x6,x7,x8,x9,y4,y5,reduceCtorEq,↓reduceIte,za,hlen,t67];subst hZ;simp only[sxZ,z6,z7,z8,j4,j5,j6,j7,j8,j9,x6,x7,x8,x9,y4,y5,reduceCtorEq,↓reduceIte,za,hlen,t2,t3,e0,e1,k0,k1,k2]
  (and_intros<;>try omega)
  refine zgY (zfr y.typ y.typ hm.1 ⟨rfl,rfl⟩) ?_;simp only[sxZ,z6,z7,z8,j4,j5,j6,j7,j8,j9,x6,x7,x8,x9,y4,y5,reduceCtorEq,↓reduceIte,za,hlen,t2,t3,e0,e1,k0,k1,k2]
  (and_intros<;>try omega)
  refine zgY (zfr y.eps y.eps hm.2 ⟨rfl,rfl⟩) ?_;simp only[sxZ,z6,z7,z8,j4,j5,j6,j7,j8,j9,x6,x7,x8,x9,y4,y5,reduceCtorEq,↓reduceIte,za,hlen];subst hW;simp only[sxZ,z6,z7,z8,j4,j5,j6,j7,j8,j9,x6,x7,x8,x9,y4,y5,reduceCtorEq,↓reduceIte,za,hlen,t2,t3,t66,t67];exact⟨by omega,vs.length - (i+1),by omega,i+1,by omega,rfl,e0,e1,rfl⟩
 simp only[sxZ,z6,z7,z8,j4,j5,j6,j7,j8,j9,x6,x7,x8,x9,y4,y5,reduceCtorEq,↓reduceIte,za,hlen,t66,t67,hlt];subst hZ;subst hY;simp only[sxZ,z6,z7,z8,j4,j5,j6,j7,j8,j9,x6,x7,x8,x9,y4,y5,reduceCtorEq,↓reduceIte,za,hlen];exact hk
end
end
section
attribute [local irreducible] run
theorem zek {o:List OB} {r g n j:Nat} {xs:List AV} {Y:OB} (h:o[j]? = some Y) (hp:PlO Y) (hn:j≠r):(zeE o r g n xs)[j]? = some Y:=by
 unfold zeE;rw[zf (Ne.symm hn),List.getElem?_map,h,Option.map_some,zjf hp]
def MtsB (l:List SvP):Prop:=∀x∈l,x.typ.length<=1000000/\x.eps.length<=1000000
def deK1 (d:DoP):List (List UInt8):=zgz (zgz [kId] zcS (jar (d.also.map jtx))) zbS (jar (d.ctl.map jtx))
def deI1 (d:DoP):List JV:=zgA (zgA [jtx d.id] (jar (d.also.map jtx))) (jar (d.ctl.map jtx))
section
variable [Tabs Tryz.prog] {objs:List OB} {K:List OB->AV->Prop}
theorem zpe (d:DoP) (h1:d.also.length<=1000000) (h2:d.ctl.length<=1000000) (h3:d.mts.length<=1000000) (h4:d.svs.length<=1000000) (h5:MtsB d.svs) (hk:K objs (.agg (zak (enD d)))):zae Tryz.prog 17 [.agg (doc d)] objs K:=by
 have hlm:=zfw d.mts;have hls:=zfq d.svs;have hpD:PlO (OB.box 34 [.s d.id,.row d.also.length (d.also.map .s),.row d.ctl.length (d.ctl.map .s),.row d.mts.length (zc0 d.mts),.row d.svs.length (zcN d.svs)]):=by
  show zap _=true;simp only[zap,AV.plain,zaI,zf9,zfO,Bool.and_self]
 refine za5 is_diddoc_Encode (by unfold doc;simp only[zap,AV.plain,zaI,zf9,zfO,Bool.and_self]) fun C _=>?_;rw[c_diddoc_Encode];unfold doc;refine zaa fun Z hZ=>?_;simp only[sxZ,z6,z7,z8,j4,j5,j6,j7,j8,j9,x6,x7,x8,x9,y4,y5,reduceCtorEq,↓reduceIte];subst hZ;refine zaa fun Z hZ=>?_;simp only[sxZ,z6,z7,z8,j4,j5,j6,j7,j8,j9,x6,x7,x8,x9,y4,y5,reduceCtorEq,↓reduceIte];have hO:ObR 3 2 [] [] [OB.box 34 [.s d.id,.row d.also.length (d.also.map .s),.row d.ctl.length (d.ctl.map .s),.row d.mts.length (zc0 d.mts),.row d.svs.length (zcN d.svs)],.box 25 [.i .i64 0,.s [],.nil,.nil],.box 93 [.nil,.nil]]:=⟨.nil,.nil,rfl,.inl ⟨rfl,rfl⟩,.inl ⟨rfl,rfl⟩⟩;have e0:[OB.box 34 [.s d.id,.row d.also.length (d.also.map .s),.row d.ctl.length (d.ctl.map .s),.row d.mts.length (zc0 d.mts),.row d.svs.length (zcN d.svs)],.box 25 [.i .i64 0,.s [],.nil,.nil],.box 93 [.nil,.nil]][0]? = some (OB.box 34 [.s d.id,.row d.also.length (d.also.map .s),.row d.ctl.length (d.ctl.map .s),.row d.mts.length (zc0 d.mts),.row d.svs.length (zcN d.svs)]):=rfl;have e1:[OB.box 34 [.s d.id,.row d.also.length (d.also.map .s),.row d.ctl.length (d.ctl.map .s),.row d.mts.length (zc0 d.mts),.row d.svs.length (zcN d.svs)],.box 25 [.i .i64 0,.s [],.nil,.nil],.box 93 [.nil,.nil]][1]? = some (OB.box 25 [.i .i64 0,.s [],.nil,.nil]):=rfl;have hl:3<=[OB.box 34 [.s d.id,.row d.also.length (d.also.map .s),.row d.ctl.length (d.ctl.map .s),.row d.mts.length (zc0 d.mts),.row d.svs.length (zcN d.svs)],.box 25 [.i .i64 0,.s [],.nil,.nil],.box 93 [.nil,.nil]].length:=by simp
 generalize [OB.box 34 [.s d.id,.row d.also.length (d.also.map .s),.row d.ctl.length (d.ctl.map .s),.row d.mts.length (zc0 d.mts),.row d.svs.length (zcN d.svs)],.box 25 [.i .i64 0,.s [],.nil,.nil],.box 93 [.nil,.nil]]=o0 at hO e0 e1 hl ⊢;subst hZ;refine zaa fun Z hZ=>?_;simp only[sxZ,z6,z7,z8,j4,j5,j6,j7,j8,j9,x6,x7,x8,x9,y4,y5,reduceCtorEq,↓reduceIte,e0];refine zah (zdF d.id ?_);simp only[sxZ,z6,z7,z8,j4,j5,j6,j7,j8,j9,x6,x7,x8,x9,y4,y5,reduceCtorEq,↓reduceIte];refine zah (zc8 3 2 _ _ kId (jtx d.id) hO hl (by omega) (by simp) (by simp) fun o1 O1 l1 q1=>?_);rw[qd,qd] at O1;have b1:[kId].length<=1:=ze _;have d1:[jtx d.id].length<=1:=ze _;have f0:=(q1 0 (by omega) (by omega)).trans e0;have f1:=(q1 1 (by omega) (by omega)).trans e1;simp only[sxZ,z6,z7,z8,j4,j5,j6,j7,j8,j9,x6,x7,x8,x9,y4,y5,reduceCtorEq,↓reduceIte];subst hZ;refine zaa fun Z hZ=>?_;clear hO e0 e1 q1;simp only[sxZ,z6,z7,z8,j4,j5,j6,j7,j8,j9,x6,x7,x8,x9,y4,y5,reduceCtorEq,↓reduceIte,f0];refine zah (zeq d.also h1 ?_);simp only[sxZ,z6,z7,z8,j4,j5,j6,j7,j8,j9,x6,x7,x8,x9,y4,y5,reduceCtorEq,↓reduceIte];refine zah (zdG 3 2 _ _ zcS (jar (d.also.map jtx)) O1 (by omega) (by omega) (by omega) (by omega) fun o2 O2 l2 q2=>?_);have b2:=zeC [kId] zcS (jar (d.also.map jtx));have d2:=zeD [jtx d.id] (jar (d.also.map jtx));have f0:=(q2 0 (by omega) (by omega)).trans f0;have f1:=(q2 1 (by omega) (by omega)).trans f1;simp only[sxZ,z6,z7,z8,j4,j5,j6,j7,j8,j9,x6,x7,x8,x9,y4,y5,reduceCtorEq,↓reduceIte];subst hZ;refine zaa fun Z hZ=>?_;clear O1 q2;simp only[sxZ,z6,z7,z8,j4,j5,j6,j7,j8,j9,x6,x7,x8,x9,y4,y5,reduceCtorEq,↓reduceIte,f0];refine zah (zeq d.ctl h2 ?_);simp only[sxZ,z6,z7,z8,j4,j5,j6,j7,j8,j9,x6,x7,x8,x9,y4,y5,reduceCtorEq,↓reduceIte];refine zah (zdG 3 2 _ _ zbS (jar (d.ctl.map jtx)) O2 (by omega) (by omega) (by omega) (by omega) fun o3 O3 l3 q3=>?_);have O3':ObR 3 2 (deK1 d) (deI1 d) o3:=O3;have b3:(deK1 d).length<=3:=qq (zeC _ _ _) (by omega);have d3:(deI1 d).length<=3:=qq (zeD _ _) (by omega);have f0:=(q3 0 (by omega) (by omega)).trans f0;have f1:=(q3 1 (by omega) (by omega)).trans f1;have hl3:3<=o3.length:=by omega
 simp only[sxZ,z6,z7,z8,j4,j5,j6,j7,j8,j9,x6,x7,x8,x9,y4,y5,reduceCtorEq,↓reduceIte];subst hZ;refine zaa fun Z hZ=>?_;clear O2 O3 q3 b1 b2 d1 d2 l1 l2 l3;simp only[sxZ,z6,z7,z8,j4,j5,j6,j7,j8,j9,x6,x7,x8,x9,y4,y5,reduceCtorEq,↓reduceIte];subst hZ;refine zaa fun Z hZ=>?_;refine zaa fun W hW=>?_;simp only[sxZ,z6,z7,z8,j4,j5,j6,j7,j8,j9,x6,x7,x8,x9,y4,y5,reduceCtorEq,↓reduceIte,f0];subst hW;rw[zaR];refine zaH (fun n o tm=>∃i:Nat,i<=d.mts.length/\n=d.mts.length - i/\(∀j,j<o3.length->o[j]? = o3[j]?)/\o3.length<=o.length/\zpz o3.length ((d.mts.take i).map enM) o (tm[4]?.getD .u)/\tm.length=54/\tm[1]? = some (.p 0 0)/\tm[2]? = some (.p 1 0)/\tm[3]? = some (.p 2 0)/\tm[22]? = some (.row d.mts.length (zc0 d.mts))/\tm[23]? = some (.i .i64 (d.mts.length:Int))/\tm[24]? = some (.i .i64 (i:Int))) d.mts.length ?_ ?_
 ·refine⟨0,zd _,rfl,fun _ _=>rfl,ze _,.inl ⟨rfl,?_⟩,?_⟩
  ·simp only[sxZ,z6,z7,z8,j4,j5,j6,j7,j8,j9,x6,x7,x8,x9,y4,y5,reduceCtorEq,↓reduceIte,zi,za];try rfl
  ·simp only[sxZ,z6,z7,z8,j4,j5,j6,j7,j8,j9,x6,x7,x8,x9,y4,y5,reduceCtorEq,↓reduceIte,zi,za,y8,and_self]
 rintro n o tm ⟨i,hi,rfl,hfr,hlo,hA,hlen,t1,t2,t3,tr,tn,ti⟩;obtain⟨a4,t4⟩:∃a,tm[4]? = some a:=⟨_,zo (by omega)⟩;rw[t4,qh] at hA;refine zaa fun W hW=>?_
 by_cases hlt:(i:Int)<(d.mts.length:Int)
 ·have hi':i<d.mts.length:=by omega
  have kv:=mt_at hi';have hm:=trivial;have htk:(d.mts.take (i+1)).map enM=(d.mts.take i).map enM++[enM d.mts[i]]:=by rw[y9,zo hi',jj];rfl
  have hfl:((d.mts.take i).map enM).length=i:=by rw[qo,qg];omega
  generalize d.mts[i]=y at kv hm htk;generalize (d.mts.take i).map enM=acc at hA htk hfl;have hl4:=zaE acc;have elk:mtc y=[.s y.id,.s y.typ,.s y.ctl]:=rfl;rw[elk] at kv;simp only[sxZ,z6,z7,z8,j4,j5,j6,j7,j8,j9,x6,x7,x8,x9,y4,y5,reduceCtorEq,↓reduceIte,za,hlen,tr,tn,ti,hlt];subst hW;refine zaa fun W hW=>?_;simp only[sxZ,z6,z7,z8,j4,j5,j6,j7,j8,j9,x6,x7,x8,x9,y4,y5,reduceCtorEq,↓reduceIte,za,hlen];subst hW;refine zaa fun V hV=>?_;rw[zaR];refine zaa fun W hW=>?_;simp only[sxZ,z6,z7,z8,j4,j5,j6,j7,j8,j9,x6,x7,x8,x9,y4,y5,reduceCtorEq,↓reduceIte,za,hlen,tr,ti,kv];refine⟨⟨by omega,by omega,by omega⟩,by omega,?_⟩;simp only[sxZ,z6,z7,z8,j4,j5,j6,j7,j8,j9,x6,x7,x8,x9,y4,y5,reduceCtorEq,↓reduceIte,za,hlen,gn1,sn1];subst hW;have hA1:=hA.mono (.box 48 [.s y.id,.s y.typ,.s y.ctl]);have fy:(o++[OB.box 48 [.s y.id,.s y.typ,.s y.ctl]])[o.length]? = some (.box 48 [.s y.id,.s y.typ,.s y.ctl]):=gn1 _ _;have hfr1:∀j,j<o3.length->(o++[OB.box 48 [.s y.id,.s y.typ,.s y.ctl]])[j]? = o3[j]?:=fun j hj=>by rw[zp (by omega)];exact hfr j hj
  have hln:(o++[OB.box 48 [.s y.id,.s y.typ,.s y.ctl]]).length=o.length+1:=by simp
  generalize o++[OB.box 48 [.s y.id,.s y.typ,.s y.ctl]]=oq at hA1 fy hfr1 hln ⊢;simp only[sxZ,z6,z7,z8,j4,j5,j6,j7,j8,j9,x6,x7,x8,x9,y4,y5,reduceCtorEq,↓reduceIte,za,hlen,t4,fy];rw[<-elk];refine zah (encMt_k y ?_);obtain⟨c0,c1,c2,c3,hc⟩:∃c0 c1 c2 c3,zak (enM y)=[c0,c1,c2,c3]:=⟨_,_,_,_,zaf _⟩;rw[hc];rcases hA1 with ⟨h0,rfl⟩|⟨r,g,rfl,hr0,hr⟩
  ·simp only[sxZ,z6,z7,z8,j4,j5,j6,j7,j8,j9,x6,x7,x8,x9,y4,y5,reduceCtorEq,↓reduceIte,za,hlen,t4];subst hV;simp only[sxZ,z6,z7,z8,j4,j5,j6,j7,j8,j9,x6,x7,x8,x9,y4,y5,reduceCtorEq,↓reduceIte,za,hlen,t1,t2,t3,tr,tn,ti];refine⟨by omega,d.mts.length - (i+1),by omega,i+1,by omega,rfl,fun j hj=>by rw[zp (by omega)];exact hfr1 j hj,by omega,?_,rfl⟩;rw[htk,h0];exact .inr ⟨_,0,rfl,by omega,by rw[gn1,qd,zav,zan,hc];rfl⟩
  ·have hrl:=(zh.1 hr).1;simp only[sxZ,z6,z7,z8,j4,j5,j6,j7,j8,j9,x6,x7,x8,x9,y4,y5,reduceCtorEq,↓reduceIte,za,hlen,t4,hr];refine⟨⟨by omega,by omega⟩,?_⟩;subst hV;simp only[sxZ,z6,z7,z8,j4,j5,j6,j7,j8,j9,x6,x7,x8,x9,y4,y5,reduceCtorEq,↓reduceIte,za,hlen,t1,t2,t3,tr,tn,ti];refine⟨by omega,d.mts.length - (i+1),by omega,i+1,by omega,rfl,fun j hj=>?_,by omega,?_,rfl⟩
   ·rw[if_neg (by omega)];exact hfr1 j hj
   ·rw[htk];refine .inr ⟨r,g+1,rfl,hr0,?_⟩;rw[zk hrl,zm,zbT,zav,zan,hc,jh];rfl
 have hn:i=d.mts.length:=by omega
 rw[hn,jp (ze _)] at hA;simp only[sxZ,z6,z7,z8,j4,j5,j6,j7,j8,j9,x6,x7,x8,x9,y4,y5,reduceCtorEq,↓reduceIte,za,hlen,tr,tn,ti,hlt];subst hW;simp only[sxZ,z6,z7,z8,j4,j5,j6,j7,j8,j9,x6,x7,x8,x9,y4,y5,reduceCtorEq,↓reduceIte,za,hlen];have e0o:o[0]? = some (OB.box 34 [.s d.id,.row d.also.length (d.also.map .s),.row d.ctl.length (d.ctl.map .s),.row d.mts.length (zc0 d.mts),.row d.svs.length (zcN d.svs)]):=(hfr 0 (by omega)).trans f0;have e1o:o[1]? = some (OB.box 25 [.i .i64 0,.s [],.nil,.nil]):=(hfr 1 (by omega)).trans f1;have hlol:3<=o.length:=by omega
 subst hZ;refine zaa fun Z hZ=>?_;refine zaD (fun o tm=>ObR 3 2 (deK d) (deI d) o/\o[0]? = some (OB.box 34 [.s d.id,.row d.also.length (d.also.map .s),.row d.ctl.length (d.ctl.map .s),.row d.mts.length (zc0 d.mts),.row d.svs.length (zcN d.svs)])/\o[1]? = some (OB.box 25 [.i .i64 0,.s [],.nil,.nil])/\3<=o.length/\tm.length=54/\tm[1]? = some (.p 0 0)/\tm[2]? = some (.p 1 0)/\tm[3]? = some (.p 2 0)) ?_ ?_
 ·rcases hA with ⟨h0,rfl⟩|⟨r,g,rfl,hr0,hr⟩
  ·simp only[sxZ,z6,z7,z8,j4,j5,j6,j7,j8,j9,x6,x7,x8,x9,y4,y5,reduceCtorEq,↓reduceIte,za,hlen,t4];refine zah (zd6 ?_);have hA2:∀{K:List OB->AV->Prop},K o (.agg (zak (jar [])))->zae Tryz.prog 51 [.row 0 []] o K:=fun {K} h=>by
    have:=zcT (objs:=o) (K:=K) [] h
    rwa [zan] at this
   refine hA2 ?_;rw[<-h0];have O5:=O3'.tr hfr;simp only[sxZ,z6,z7,z8,j4,j5,j6,j7,j8,j9,x6,x7,x8,x9,y4,y5,reduceCtorEq,↓reduceIte,za,hlen,t3];refine zah (zdG 3 2 _ _ zct (jar (d.mts.map enM)) O5 hlol (by omega) (by omega) (by omega) fun o6 O6 l6 q6=>?_);have g0:=(q6 0 (by omega) (by omega)).trans e0o;have g1:=(q6 1 (by omega) (by omega)).trans e1o;simp only[sxZ,z6,z7,z8,j4,j5,j6,j7,j8,j9,x6,x7,x8,x9,y4,y5,reduceCtorEq,↓reduceIte,za,hlen,t1,t2,t3,zab];exact⟨O6,g0,g1,by omega⟩
  ·simp only[sxZ,z6,z7,z8,j4,j5,j6,j7,j8,j9,x6,x7,x8,x9,y4,y5,reduceCtorEq,↓reduceIte,za,hlen,t4];refine zah (ze4 (b:=r) hr ?_);simp only[zbq,zl,zu,and_self,if_true];refine zcT (d.mts.map enM) ?_;have O5:=O3'.pub hfr r g (d.mts.map enM).length (zac (d.mts.map enM)) hr0;have hl5:3<=(zeE o r g (d.mts.map enM).length (zac (d.mts.map enM))).length:=by rw[zdB];omega
   have e05:=zek (g:=g) (n:=(d.mts.map enM).length) (xs:=zac (d.mts.map enM)) e0o hpD (show 0≠r by omega);have e15:=zek (g:=g) (n:=(d.mts.map enM).length) (xs:=zac (d.mts.map enM)) e1o rfl (show 1≠r by omega);generalize zeE o r g (d.mts.map enM).length (zac (d.mts.map enM))=o5 at O5 hl5 e05 e15 ⊢;simp only[sxZ,z6,z7,z8,j4,j5,j6,j7,j8,j9,x6,x7,x8,x9,y4,y5,reduceCtorEq,↓reduceIte,za,hlen,t3];refine zah (zdG 3 2 _ _ zct (jar (d.mts.map enM)) O5 hl5 (by omega) (by omega) (by omega) fun o6 O6 l6 q6=>?_);have g0:=(q6 0 (by omega) (by omega)).trans e05;have g1:=(q6 1 (by omega) (by omega)).trans e15;simp only[sxZ,z6,z7,z8,j4,j5,j6,j7,j8,j9,x6,x7,x8,x9,y4,y5,reduceCtorEq,↓reduceIte,za,hlen,t1,t2,t3,zab];exact⟨O6,g0,g1,by omega⟩
 clear hfr hlo hA hlen t1 t2 t3 tr tn ti t4 e0o e1o hlol hlt hn f0 f1 O3' b3 d3 hl3 tm;have b6:(deK d).length<=4:=qq (zeC _ _ _) (by show (deK1 d).length+1<=4;exact Nat.succ_le_succ (qq (zeC _ _ _) (by have:=zeC [kId] zcS (jar (d.also.map jtx));simp only[zx,qk] at this;omega)));have d6:(deI d).length<=4:=qq (zeD _ _) (by show (deI1 d).length+1<=4;exact Nat.succ_le_succ (qq (zeD _ _) (by have:=zeD [jtx d.id] (jar (d.also.map jtx));simp only[zx,qk] at this;omega)));rintro o6 tm ⟨O6,f0,f1,hl3,hlen,t1,t2,t3⟩;subst hZ;refine zaa fun Z hZ=>?_;simp only[sxZ,z6,z7,z8,j4,j5,j6,j7,j8,j9,x6,x7,x8,x9,y4,y5,reduceCtorEq,↓reduceIte,za,hlen];subst hZ;refine zaa fun Z hZ=>?_;refine zaa fun W hW=>?_;simp only[sxZ,z6,z7,z8,j4,j5,j6,j7,j8,j9,x6,x7,x8,x9,y4,y5,reduceCtorEq,↓reduceIte,f0,za,hlen,t1,t2,t3];subst hW;rw[zaR];refine zaH (fun n o tm=>∃i:Nat,i<=d.svs.length/\n=d.svs.length - i/\(∀j,j<o6.length->o[j]? = o6[j]?)/\o6.length<=o.length/\zpz o6.length ((d.svs.take i).map enV) o (tm[4]?.getD .u)/\tm.length=54/\tm[1]? = some (.p 0 0)/\tm[2]? = some (.p 1 0)/\tm[3]? = some (.p 2 0)/\tm[38]? = some (.row d.svs.length (zcN d.svs))/\tm[39]? = some (.i .i64 (d.svs.length:Int))/\tm[40]? = some (.i .i64 (i:Int))) d.svs.length ?_ ?_
 ·refine⟨0,zd _,rfl,fun _ _=>rfl,ze _,.inl ⟨rfl,?_⟩,?_⟩
  ·simp only[sxZ,z6,z7,z8,j4,j5,j6,j7,j8,j9,x6,x7,x8,x9,y4,y5,reduceCtorEq,↓reduceIte,zi,za,za,hlen,t1,t2,t3];try rfl
  ·simp only[sxZ,z6,z7,z8,j4,j5,j6,j7,j8,j9,x6,x7,x8,x9,y4,y5,reduceCtorEq,↓reduceIte,zi,za,za,hlen,t1,t2,t3,y8,and_self]
 rintro n o tm ⟨i,hi,rfl,hfr,hlo,hA,hlen,t1,t2,t3,tr,tn,ti⟩;obtain⟨a4,t4⟩:∃a,tm[4]? = some a:=⟨_,zo (by omega)⟩;rw[t4,qh] at hA;refine zaa fun W hW=>?_
 by_cases hlt:(i:Int)<(d.svs.length:Int)
 ·have hi':i<d.svs.length:=by omega
  have kv:=sv_at hi';have hm:=h5 _ (jn hi');have htk:(d.svs.take (i+1)).map enV=(d.svs.take i).map enV++[enV d.svs[i]]:=by rw[y9,zo hi',jj];rfl
  have hfl:((d.svs.take i).map enV).length=i:=by rw[qo,qg];omega
  generalize d.svs[i]=y at kv hm htk;generalize (d.svs.take i).map enV=acc at hA htk hfl;have hl4:=zaE acc;have elk:svc y=[.s y.id,.row y.typ.length (y.typ.map .s),.row y.eps.length (y.eps.map .s)]:=rfl;rw[elk] at kv;simp only[sxZ,z6,z7,z8,j4,j5,j6,j7,j8,j9,x6,x7,x8,x9,y4,y5,reduceCtorEq,↓reduceIte,za,hlen,tr,tn,ti,hlt];subst hW;refine zaa fun W hW=>?_;simp only[sxZ,z6,z7,z8,j4,j5,j6,j7,j8,j9,x6,x7,x8,x9,y4,y5,reduceCtorEq,↓reduceIte,za,hlen];subst hW;refine zaa fun V hV=>?_;rw[zaR];refine zaa fun W hW=>?_;simp only[sxZ,z6,z7,z8,j4,j5,j6,j7,j8,j9,x6,x7,x8,x9,y4,y5,reduceCtorEq,↓reduceIte,za,hlen,tr,ti,kv];refine⟨⟨by omega,by omega,by omega⟩,by omega,?_⟩;simp only[sxZ,z6,z7,z8,j4,j5,j6,j7,j8,j9,x6,x7,x8,x9,y4,y5,reduceCtorEq,↓reduceIte,za,hlen,gn1,sn1];subst hW;have hA1:=hA.mono (.box 46 [.s y.id,.row y.typ.length (y.typ.map .s),.row y.eps.length (y.eps.map .s)]);have fy:(o++[OB.box 46 [.s y.id,.row y.typ.length (y.typ.map .s),.row y.eps.length (y.eps.map .s)]])[o.length]? = some (.box 46 [.s y.id,.row y.typ.length (y.typ.map .s),.row y.eps.length (y.eps.map .s)]):=gn1 _ _;have hfr1:∀j,j<o6.length->(o++[OB.box 46 [.s y.id,.row y.typ.length (y.typ.map .s),.row y.eps.length (y.eps.map .s)]])[j]? = o6[j]?:=fun j hj=>by rw[zp (by omega)];exact hfr j hj
  have hln:(o++[OB.box 46 [.s y.id,.row y.typ.length (y.typ.map .s),.row y.eps.length (y.eps.map .s)]]).length=o.length+1:=by simp
  generalize o++[OB.box 46 [.s y.id,.row y.typ.length (y.typ.map .s),.row y.eps.length (y.eps.map .s)]]=oq at hA1 fy hfr1 hln ⊢;simp only[sxZ,z6,z7,z8,j4,j5,j6,j7,j8,j9,x6,x7,x8,x9,y4,y5,reduceCtorEq,↓reduceIte,za,hlen,t4,fy];rw[<-elk];refine zah (encSv_k y hm.1 hm.2 ?_);obtain⟨c0,c1,c2,c3,hc⟩:∃c0 c1 c2 c3,zak (enV y)=[c0,c1,c2,c3]:=⟨_,_,_,_,zaf _⟩;rw[hc];rcases hA1 with ⟨h0,rfl⟩|⟨r,g,rfl,hr0,hr⟩
  ·simp only[sxZ,z6,z7,z8,j4,j5,j6,j7,j8,j9,x6,x7,x8,x9,y4,y5,reduceCtorEq,↓reduceIte,za,hlen,t4];subst hV;simp only[sxZ,z6,z7,z8,j4,j5,j6,j7,j8,j9,x6,x7,x8,x9,y4,y5,reduceCtorEq,↓reduceIte,za,hlen,t1,t2,t3,tr,tn,ti];refine⟨by omega,d.svs.length - (i+1),by omega,i+1,by omega,rfl,fun j hj=>by rw[zp (by omega)];exact hfr1 j hj,by omega,?_,rfl⟩;rw[htk,h0];exact .inr ⟨_,0,rfl,by omega,by rw[gn1,qd,zav,zan,hc];rfl⟩
  ·have hrl:=(zh.1 hr).1;simp only[sxZ,z6,z7,z8,j4,j5,j6,j7,j8,j9,x6,x7,x8,x9,y4,y5,reduceCtorEq,↓reduceIte,za,hlen,t4,hr];refine⟨⟨by omega,by omega⟩,?_⟩;subst hV;simp only[sxZ,z6,z7,z8,j4,j5,j6,j7,j8,j9,x6,x7,x8,x9,y4,y5,reduceCtorEq,↓reduceIte,za,hlen,t1,t2,t3,tr,tn,ti];refine⟨by omega,d.svs.length - (i+1),by omega,i+1,by omega,rfl,fun j hj=>?_,by omega,?_,rfl⟩
   ·rw[if_neg (by omega)];exact hfr1 j hj
   ·rw[htk];refine .inr ⟨r,g+1,rfl,hr0,?_⟩;rw[zk hrl,zm,zbT,zav,zan,hc,jh];rfl
 have hn:i=d.svs.length:=by omega
 rw[hn,jp (ze _)] at hA;simp only[sxZ,z6,z7,z8,j4,j5,j6,j7,j8,j9,x6,x7,x8,x9,y4,y5,reduceCtorEq,↓reduceIte,za,hlen,tr,tn,ti,hlt];subst hW;simp only[sxZ,z6,z7,z8,j4,j5,j6,j7,j8,j9,x6,x7,x8,x9,y4,y5,reduceCtorEq,↓reduceIte,za,hlen];have e0o:o[0]? = some (OB.box 34 [.s d.id,.row d.also.length (d.also.map .s),.row d.ctl.length (d.ctl.map .s),.row d.mts.length (zc0 d.mts),.row d.svs.length (zcN d.svs)]):=(hfr 0 (by omega)).trans f0;have e1o:o[1]? = some (OB.box 25 [.i .i64 0,.s [],.nil,.nil]):=(hfr 1 (by omega)).trans f1;have hlol:3<=o.length:=by omega
 subst hZ;refine zaa fun Z hZ=>?_;refine zaD (fun o tm=>ObR 3 2 (zgz (deK d) zb6 (jar (d.svs.map enV))) (zgA (deI d) (jar (d.svs.map enV))) o/\o[0]? = some (OB.box 34 [.s d.id,.row d.also.length (d.also.map .s),.row d.ctl.length (d.ctl.map .s),.row d.mts.length (zc0 d.mts),.row d.svs.length (zcN d.svs)])/\o[1]? = some (OB.box 25 [.i .i64 0,.s [],.nil,.nil])/\3<=o.length/\tm.length=54/\tm[1]? = some (.p 0 0)/\tm[2]? = some (.p 1 0)/\tm[3]? = some (.p 2 0)) ?_ ?_
 ·rcases hA with ⟨h0,rfl⟩|⟨r,g,rfl,hr0,hr⟩
  ·simp only[sxZ,z6,z7,z8,j4,j5,j6,j7,j8,j9,x6,x7,x8,x9,y4,y5,reduceCtorEq,↓reduceIte,za,hlen,t4];refine zah (zd6 ?_);have hA2:∀{K:List OB->AV->Prop},K o (.agg (zak (jar [])))->zae Tryz.prog 51 [.row 0 []] o K:=fun {K} h=>by
    have:=zcT (objs:=o) (K:=K) [] h
    rwa [zan] at this
   refine hA2 ?_;rw[<-h0];have O5:=O6.tr hfr;simp only[sxZ,z6,z7,z8,j4,j5,j6,j7,j8,j9,x6,x7,x8,x9,y4,y5,reduceCtorEq,↓reduceIte,za,hlen,t3];refine zah (zdG 3 2 _ _ zb6 (jar (d.svs.map enV)) O5 hlol (by omega) (by omega) (by omega) fun o6 O6 l6 q6=>?_);have g0:=(q6 0 (by omega) (by omega)).trans e0o;have g1:=(q6 1 (by omega) (by omega)).trans e1o;simp only[sxZ,z6,z7,z8,j4,j5,j6,j7,j8,j9,x6,x7,x8,x9,y4,y5,reduceCtorEq,↓reduceIte,za,hlen,t1,t2,t3,zab];exact⟨O6,g0,g1,by omega⟩
  ·simp only[sxZ,z6,z7,z8,j4,j5,j6,j7,j8,j9,x6,x7,x8,x9,y4,y5,reduceCtorEq,↓reduceIte,za,hlen,t4];refine zah (ze4 (b:=r) hr ?_);simp only[zbq,zl,zu,and_self,if_true];refine zcT (d.svs.map enV) ?_;have O5:=O6.pub hfr r g (d.svs.map enV).length (zac (d.svs.map enV)) hr0;have hl5:3<=(zeE o r g (d.svs.map enV).length (zac (d.svs.map enV))).length:=by rw[zdB];omega
   have e05:=zek (g:=g) (n:=(d.svs.map enV).length) (xs:=zac (d.svs.map enV)) e0o hpD (show 0≠r by omega);have e15:=zek (g:=g) (n:=(d.svs.map enV).length) (xs:=zac (d.svs.map enV)) e1o rfl (show 1≠r by omega);generalize zeE o r g (d.svs.map enV).length (zac (d.svs.map enV))=o5 at O5 hl5 e05 e15 ⊢;simp only[sxZ,z6,z7,z8,j4,j5,j6,j7,j8,j9,x6,x7,x8,x9,y4,y5,reduceCtorEq,↓reduceIte,za,hlen,t3];refine zah (zdG 3 2 _ _ zb6 (jar (d.svs.map enV)) O5 hl5 (by omega) (by omega) (by omega) fun o6 O6 l6 q6=>?_);have g0:=(q6 0 (by omega) (by omega)).trans e05;have g1:=(q6 1 (by omega) (by omega)).trans e15;simp only[sxZ,z6,z7,z8,j4,j5,j6,j7,j8,j9,x6,x7,x8,x9,y4,y5,reduceCtorEq,↓reduceIte,za,hlen,t1,t2,t3,zab];exact⟨O6,g0,g1,by omega⟩
 clear hfr hlo hA hlen t1 t2 t3 tr tn ti t4 e0o e1o hlol hlt hn f0 f1 O6 hl3 tm;rintro o6 tm ⟨O6,f0,f1,hl3,hlen,t1,t2,t3⟩;subst hZ;simp only[sxZ,z6,z7,z8,j4,j5,j6,j7,j8,j9,x6,x7,x8,x9,y4,y5,reduceCtorEq,↓reduceIte,za,hlen,t3];refine zah (zgb 3 2 _ _ O6 (by omega) (by omega) fun o7 l7 q7=>?_);have e7:=q7 1 _ (by omega) (by omega) f1 rfl;have hl7:=(zh.1 e7).1;have s1:∀X,(o7.set 1 X)[1]? = some X:=fun X=>zk hl7;unfold enD at hk;generalize zgz (deK d) zb6 (jar (d.svs.map enV))=kk at hk ⊢;generalize zgA (deI d) (jar (d.svs.map enV))=ii at hk ⊢;have hc:zak (job kk ii)=[.i .i64 7,.s [],.row kk.length (kk.map .s),.row ii.length (zac ii)]:=by rw[zaf];rfl
 rw[hc] at hk ⊢;have hj1:=za4 ii;have hj2:=zaI kk;generalize zac ii=cs at hj1 hk ⊢;generalize kk.map AV.s=ks at hj2 hk ⊢;simp only[sxZ,z6,z7,z8,j4,j5,j6,j7,j8,j9,x6,x7,x8,x9,y4,y5,reduceCtorEq,↓reduceIte,za,hlen,t2,e7,hl7,s1,hj1,hj2];exact hk
end
end
section
attribute [local irreducible] run
theorem jc_mk (k:Int) (t:List UInt8) (ks:List (List UInt8)) (its:List JV):zak (.mk k t ks its)=[.i .i64 k,.s t,.row ks.length (ks.map .s),.row its.length (zac its)]:=zaf _
section
variable [Tabs Tryz.prog] {objs:List OB} {K:List OB->AV->Prop}
def ObX (k:Int) (t:List UInt8) (ks:List (List UInt8)) (its:List JV) (X:List AV):Prop:=X=zak (.mk k t ks its)\/(ks=[]/\its=[]/\X=[.i .i64 k,.s t,.nil,.nil])
omit [Tabs Tryz.prog] in
theorem znj {o:List OB} {d n:Nat} {xs:List AV} (h:zap xs=true):pub o d (.row n xs)=some (.row n xs):=by
 have h2:(AV.row n xs).plain=true:=h
 cases d<;>(simp only[pub];rw[if_pos h2])
omit [Tabs Tryz.prog] in
theorem znk {o:List OB} {d:Nat}:pub o d .nil=some .nil:=by cases d<;>(simp only[pub];rfl)
omit [Tabs Tryz.prog] in
theorem ObX.sh {k:Int} {t:List UInt8} {ks:List (List UInt8)} {its:List JV} {X:List AV} (h:ObX k t ks its X):∃A B,X=[.i .i64 k,.s t,A,B]/\A.plain=true/\B.plain=true/\(∀o d,pub o d A=some A)/\∀o d,pub o d B=some B:=by
 rcases h with rfl|⟨_,_,rfl⟩
 ·rw[jc_mk];exact⟨_,_,rfl,za3 ks,za4 its,fun o d=>znj (za3 ks),fun o d=>znj (za4 its)⟩
 ·exact⟨_,_,rfl,rfl,rfl,fun o d=>znk,fun o d=>znk⟩
end
end
section
attribute [local irreducible] run
section
variable [Tabs Tryz.prog] {objs:List OB} {K:List OB->AV->Prop}
end
end
section
attribute [local irreducible] run
def TsB (l:List (List UInt8)):Prop:=l.length<=1000000/\∀a∈l,a.length<=140737488351232
structure MtB (x:MtP):Prop where
 id:x.id.length<=140737488351232
 typ:x.typ.length<=140737488351232
 ctl:x.ctl.length<=140737488351232
structure SvB (x:SvP):Prop where
 id:x.id.length<=140737488351232
 typ:TsB x.typ
 eps:TsB x.eps
structure DocB (d:DoP):Prop where
 id:d.id.length<=140737488351232
 also:TsB d.also
 ctl:TsB d.ctl
 mtn:d.mts.length<=1000000
 mtb:∀x∈d.mts,MtB x
 svn:d.svs.length<=1000000
 svb:∀x∈d.svs,SvB x
theorem ts_ok {l:List (List UInt8)} (h:TsB l):JOk (jar (l.map jtx))/\JBd (jar (l.map jtx)) :=
 zos (by rw[qo];exact h.1) fun y hy=>by obtain⟨a,ha,rfl⟩:=qz.1 hy;exact zg0 (h.2 a ha)
theorem enM_ok {x:MtP} (h:MtB x):JOk (enM x)/\JBd (enM x):=by
 unfold enM;exact((ObF.nil.snoc (key:=kId) (by decide) (zg0 h.id)).snoc (key:=zb5) (by decide) (zg0 h.typ)).snoc (key:=zbS) (by decide) (zg0 h.ctl) |>.val (by decide)
theorem enV_ok {x:SvP} (h:SvB x):JOk (enV x)/\JBd (enV x):=by
 unfold enV;exact((ObF.nil.snoc (key:=kId) (by decide) (zg0 h.id)).snoc (key:=zb5) (by decide) (ts_ok h.typ)).snoc (key:=zdO) (by decide) (ts_ok h.eps) |>.val (by decide)
theorem enD_ok {d:DoP} (h:DocB d):JOk (enD d)/\JBd (enD d):=by
 have h1:=h.mtn;have h2:=h.svn;unfold enD deK deI;exact((((ObF.nil.snoc (key:=kId) (by decide) (zg0 h.id)).add (key:=zcS) (by decide) (ts_ok h.also)).add (key:=zbS) (by decide) (ts_ok h.ctl)).add (key:=zct) (by decide) (zos (by rw[qo];omega) fun y hy=>by obtain⟨x,hx,rfl⟩:=qz.1 hy;exact enM_ok (h.mtb x hx))).add (key:=zb6) (by decide) (zos (by rw[qo];omega) fun y hy=>by obtain⟨x,hx,rfl⟩:=qz.1 hy;exact enV_ok (h.svb x hx)) |>.val (by decide)
/-! bounds of what was read -/
theorem tmD_lk {v:JV} (hv:JOk v) (key:List UInt8):(tmD v key).1.length<=140737488351232:=by
 unfold tmD
 split
 ·exact(zc9 hv key).txt
 ·exact zd _
theorem txD_b {l:List JV} (h:∀y∈l,JOk y):TsB (txD l).2:=by
 refine⟨qq (zjb l) (by decide),?_⟩;unfold txD
 split
 ·intro a ha;cases ha
 split
 ·intro a ha;obtain⟨y,hy,rfl⟩:=qz.1 ha;exact(h y hy).txt
 ·intro a ha;cases ha
theorem zhO {v:JV} (hv:JOk v):∀y∈v.items,JOk y:=fun y hy=>by
 obtain⟨i,hi,rfl⟩:=xw.1 hy;exact hv.its hi
theorem zhm:TsB []:=⟨zd _,fun a ha=>by cases ha⟩
theorem ltD_b {v:JV} (hv:JOk v):TsB (ltD v).2:=by
 unfold ltD;split
 ·exact txD_b (zhO hv)
 ·exact zhm
theorem olD_b {v:JV} (hv:JOk v):TsB (olD v).2:=by
 unfold olD;split
 ·exact txD_b (zhO hv)
 ·exact txD_b fun y hy=>by rw[jt] at hy;subst hy;exact hv
theorem opD_b {v:JV} (hv:JOk v) (key:List UInt8) {f:JV->Int×List (List UInt8)} (h:∀{x},JOk x->TsB (f x).2):TsB (opD v key f).2:=by
 unfold opD;split
 ·exact h (zc9 hv key)
 ·exact zhm
theorem zoD {u:DidU} (h:ShD u):(zcI u).length<=200000:=by
 obtain⟨h1,h2,h3,h4,h5⟩:=h;unfold zcI;rw[zm,zm,zm,zcy];have z1:((if u.hq=true then [63]++u.query else []):List UInt8).length<=u.query.length+1:=by
  split<;>simp
 have z2:((if u.hf=true then [35]++u.frag else []):List UInt8).length<=u.frag.length+1:=by
  split<;>simp
 omega
theorem IdF.len {m i id:List UInt8} (h:IdF m i id):id.length<=200000:=by
 have:=zoD (ziq m i id);rw[h.2] at this;exact this
theorem mt_b {m i:List UInt8} {y:JV} (hy:JOk y) (h:(mtD m i y).1=0):MtB (mtD m i y).2:=by
 obtain⟨h1,h2⟩:=mt_id h;have hl:=(zhK h1).len;refine⟨by rw[h2];omega,?_,?_⟩
 ·unfold mtD
  split
  ·exact zd _
  ·split
   ·exact tmD_lk hy _
   ·exact zd _
 ·unfold mtD
  split
  ·exact zd _
  ·split
   ·exact tmD_lk hy _
   ·exact zd _
theorem sv_b {m i:List UInt8} {y:JV} (hy:JOk y) (h:(svD m i y).1=0):SvB (svD m i y).2:=by
 obtain⟨h1,h2⟩:=sv_id h;have hl:=(zhK h1).len;refine⟨by rw[h2];omega,?_,?_⟩
 ·unfold svD
  repeat' split
  all_goals first
   | exact zhm
   | exact olD_b (zc9 hy _)
 ·unfold svD
  repeat' split
  all_goals first
   | exact zhm
   | exact olD_b (zc9 hy _)
theorem dd_b {v:JV} (hv:JOk v) (h:(ddE v).1=0):DocB (ddE v).2:=by
 obtain⟨c1,c2,c3,c4,c5,e⟩:=zhZ h;have hs:=ddE_sh v;have hl:=zhq v;rw[e] at hs ⊢;refine⟨by rw[zcy];omega,opD_b hv _ ltD_b,opD_b hv _ olD_b,qq hs.2.2.1 (by decide),fun x hx=>?_,qq hs.2.2.2.1 (by decide),fun x hx=>?_⟩
 ·obtain⟨y,hm,rfl,hy⟩:=zdC c4 x hx;exact mt_b (zhO (zc9 hv _) y hm) hy
 ·obtain⟨y,hm,rfl,hy⟩:=zdC c5 x hx;exact sv_b (zhO (zc9 hv _) y hm) hy
theorem getJ_in (v:JV) (key:List UInt8):(za2 v key).1∈v.items\/(za2 v key).1=jvZ:=by
 unfold za2
 split
 ·split
  ·rename_i x hx;exact .inl (List.mem_of_getElem? hx)
  ·exact .inr rfl
 ·exact .inr rfl
theorem zfx {its:List JV} {v x:JV} (h:x∈zgA its v):x∈its\/x=v:=by
 unfold zgA at h
 split at h
 ·rcases zt.1 h with h|h
  ·exact .inl h
  ·rw[jt] at h;exact .inr h
 ·exact .inl h
theorem enD_id {m i:List UInt8} {d:DoP} (h:DocF m i d):IdB (enD d):=by
 have h0:d.id.length<=100000000:=by
  have:=zeu (zcg m i);rw[h.did] at this;rw[h.id,zcy];dsimp only at this;omega
 have jx:∀a,(za2 (jtx a) kId).1.text.length<=100000000:=fun a=>by rw[ziL (by show ¬(5:Int)=7;decide)];exact zd _
 refine⟨?_,fun key y hy=>?_⟩
 ·have l0:[kId].length=[jtx d.id].length:=rfl;have l1:=ze7 (key:=zcS) (v:=jar (d.also.map jtx)) l0;have l2:=ze7 (key:=zbS) (v:=jar (d.ctl.map jtx)) l1;have l3:=ze7 (key:=zct) (v:=jar (d.mts.map enM)) l2;have g0:za2 (enD d) kId=(jtx d.id,true):=by
   unfold enD deK deI;rw[zaG l3 (by decide),zaG l2 (by decide),zaG l1 (by decide),zaG l0 (by decide)];exact zgg (ks:=[]) (its:=[]) rfl (by simp)
  rw[g0];exact h0
 ·rcases getJ_in (enD d) key with hk|hk
  ·generalize (za2 (enD d) key).1=x at hy hk;rcases zfx hk with hk|rfl
   ·rcases zfx hk with hk|rfl
    ·rcases zfx hk with hk|rfl
     ·rcases zfx hk with hk|rfl
      ·rw[jt] at hk;subst hk;cases hy
      ·obtain⟨a,_,rfl⟩:=qz.1 hy;exact jx a
     ·obtain⟨a,_,rfl⟩:=qz.1 hy;exact jx a
    ·obtain⟨a,ha,rfl⟩:=qz.1 hy;have:=(h.mts a ha).len;show a.id.length<=_;omega
   ·obtain⟨a,ha,rfl⟩:=qz.1 hy;have:=(h.svs a ha).len;show a.id.length<=_;omega
  ·rw[hk] at hy;cases hy
end
section
attribute [local irreducible] run
section
variable [Tabs Tryz.prog]
end
end
section
attribute [local irreducible] run
section
variable [Tabs Tryz.prog] {objs:List OB} {K:List OB->AV->Prop}
end
end
section
attribute [local irreducible] run
section
variable [Tabs Tryz.prog]
end
end
section
attribute [local irreducible] run
section
variable [Tabs Tryz.prog]
end
end
section
attribute [local irreducible] run
section
variable [Tabs Tryz.prog] {objs:List OB} {K:List OB->AV->Prop} {L:List (Nat×OB)}
end
end
section
attribute [local irreducible] run
section
variable [Tabs Tryz.prog]
end
end
section
attribute [local irreducible] run
section
variable [Tabs Tryz.prog]
end
end
section
attribute [local irreducible] run
section
variable [Tabs Tryz.prog] {objs:List OB} {K:List OB->AV->Prop}
end
section
variable [Tabs Tryz.prog] [Pow Tryz.prog] [Utf Tryz.prog]
end
end
section
attribute [local irreducible] run
section
variable [Tabs Tryz.prog] [Utf Tryz.prog]
end
end
section
attribute [local irreducible] run
section
variable [Tabs Tryz.prog] [Utf Tryz.prog]
theorem diddocBack_c [Shp Tryz.prog] (l0:List UInt8) (w0:l0.length<=140737488351232):zae Tryz.prog 6 [.s l0] [] (fun _ r=>r=.b true):=by
 refine za5 is_law17_DiddocBack rfl fun C _=>?_;rw[c_law17_DiddocBack];refine zaa fun Z hZ=>?_;simp only[sxZ,z6,z7,z8,j4,j5,j6,j7,j8,j9,x6,x7,x8,x9,y4,y5,reduceCtorEq,↓reduceIte];subst hZ;refine zaa fun Z hZ=>?_;simp only[sxZ,z6,z7,z8,j4,j5,j6,j7,j8,j9,x6,x7,x8,x9,y4,y5,reduceCtorEq,↓reduceIte];refine zah (sane17_k ?_);simp only[sxZ,z6,z7,z8,j4,j5,j6,j7,j8,j9,x6,x7,x8,x9,y4,y5,reduceCtorEq,↓reduceIte];subst hZ;refine zaa fun Z hZ=>?_
 by_cases hlen:(3000:Int)<(l0.length:Int)
 ·simp only[sxZ,z6,z7,z8,j4,j5,j6,j7,j8,j9,x6,x7,x8,x9,y4,y5,reduceCtorEq,↓reduceIte,hlen]
 simp only[sxZ,z6,z7,z8,j4,j5,j6,j7,j8,j9,x6,x7,x8,x9,y4,y5,reduceCtorEq,↓reduceIte,hlen];subst hZ;refine zaa fun Z hZ=>?_;simp only[sxZ,z6,z7,z8,j4,j5,j6,j7,j8,j9,x6,x7,x8,x9,y4,y5,reduceCtorEq,↓reduceIte];refine zah (zkm l0 (by omega) ?_);have hok:=zmN (s:=l0) (by omega);have hbd:=zmO (s:=l0) (by omega);have hbi:=(zmM (s:=l0) (by omega)).idB;obtain⟨⟨v,a,e⟩,hx⟩:∃R,zbQ l0=R:=⟨_,rfl⟩;rw[hx] at hok hbd hbi ⊢;dsimp only at hok hbd hbi;unfold zhC;have PD:=fun {objs:List OB} {K:List OB->AV->Prop} (h:K objs (ddAV (ddE v)))=>dd_k v hok hbd hbi (objs:=objs) (K:=K) h;have PS:=fun (id:List UInt8) {objs:List OB} {K:List OB->AV->Prop} (h:K objs (zbO (zjj v id)))=>sel_k v id hok hbd hbi (objs:=objs) (K:=K) h;rw[zaf v] at PD PS ⊢;simp only[sxZ,z6,z7,z8,j4,j5,j6,j7,j8,j9,x6,x7,x8,x9,y4,y5,reduceCtorEq,↓reduceIte,gn1,sn1];subst hZ;refine zaa fun Z hZ=>?_;simp only[sxZ,z6,z7,z8,j4,j5,j6,j7,j8,j9,x6,x7,x8,x9,y4,y5,reduceCtorEq,↓reduceIte];refine zah (PD ?_)
 by_cases hf:(ddE v).1=0
 rotate_left
 ·have hz:=ddE_err hf;generalize ddE v=R at hf hz ⊢;obtain⟨f,d⟩:=R;dsimp only at hf hz;subst hz;unfold ddAV doc doZ;have n0:(((0:Nat):Int)=0)=True:=by simp
  simp only[sxZ,z6,z7,z8,j4,j5,j6,j7,j8,j9,x6,x7,x8,x9,y4,y5,reduceCtorEq,↓reduceIte,gn1,sn1,qk,zu];subst hZ;refine zaa fun Z hZ=>?_
  by_cases he:e=0
  ·simp only[sxZ,z6,z7,z8,j4,j5,j6,j7,j8,j9,x6,x7,x8,x9,y4,y5,reduceCtorEq,↓reduceIte,he,hf,n0,decide_true]
  ·simp only[sxZ,z6,z7,z8,j4,j5,j6,j7,j8,j9,x6,x7,x8,x9,y4,y5,reduceCtorEq,↓reduceIte,he,n0,decide_true]
 have he:e=0:=by
  by_cases h0:e=0
  ·exact h0
  ·have h1:=rparse_z (s:=l0) (by rw[hx];exact h0);rw[hx] at h1;dsimp only at h1;rw[h1] at hf;exact absurd hf (by decide)
 subst he;have hF:=dd_fit hf;have hB:=dd_b hok hf;have hfind:=fun id h=>zmB (v:=v) hf (id:=id) h;obtain⟨d,hd⟩:∃d,ddE v=(0,d):=⟨(ddE v).2,Prod.ext hf rfl⟩;rw[hd] at hF hB hfind ⊢;dsimp only at hF hB hfind;have hback:=dd_back hF;have hbi2:=enD_id hF;obtain⟨ho2,hb2⟩:=enD_ok hB;obtain⟨s1,s2,s3,s4,s5⟩:=hF.sh;have hm5:MtsB d.svs:=fun x hx=>by
  obtain⟨u1,u2⟩:=s5 x hx
  constructor<;>omega
 have hlm:=zfw d.mts;have hls:=zfq d.svs;have PE:=fun {objs:List OB} {K:List OB->AV->Prop} (h:K objs (.agg (zak (enD d))))=>zpe d (by omega) (by omega) (by omega) (by omega) hm5 (objs:=objs) (K:=K) h;have PD2:=fun {objs:List OB} {K:List OB->AV->Prop} (h:K objs (ddAV (0,d)))=>dd_k (enD d) ho2 hb2 hbi2 (objs:=objs) (K:=K) (by rw[hback];exact h);have PM:=fun {objs:List OB} {K:List OB->AV->Prop} (h:K objs (.b true))=>same17_k d (by omega) (by omega) (by omega) (by omega) hm5 (objs:=objs) (K:=K) h;obtain⟨b0,b1,b2,b3,hC⟩:∃b0 b1 b2 b3,zak (enD d)=[b0,b1,b2,b3]:=⟨_,_,_,_,zaf _⟩;rw[hC] at PE PD2;unfold ddAV doc at *;dsimp only at PE PD2 PM ⊢;simp only[sxZ,z6,z7,z8,j4,j5,j6,j7,j8,j9,x6,x7,x8,x9,y4,y5,reduceCtorEq,↓reduceIte,gn1,sn1];subst hZ;refine zaa fun Z hZ=>?_;simp only[sxZ,z6,z7,z8,j4,j5,j6,j7,j8,j9,x6,x7,x8,x9,y4,y5,reduceCtorEq,↓reduceIte];subst hZ;refine zaa fun Z hZ=>?_;simp only[sxZ,z6,z7,z8,j4,j5,j6,j7,j8,j9,x6,x7,x8,x9,y4,y5,reduceCtorEq,↓reduceIte];refine zah (PE ?_);simp only[sxZ,z6,z7,z8,j4,j5,j6,j7,j8,j9,x6,x7,x8,x9,y4,y5,reduceCtorEq,↓reduceIte];refine zah (PD2 ?_);simp only[sxZ,z6,z7,z8,j4,j5,j6,j7,j8,j9,x6,x7,x8,x9,y4,y5,reduceCtorEq,↓reduceIte,gn1,sn1];subst hZ;refine zaa fun Z hZ=>?_;simp only[sxZ,z6,z7,z8,j4,j5,j6,j7,j8,j9,x6,x7,x8,x9,y4,y5,reduceCtorEq,↓reduceIte];refine zah (PM ?_);simp only[sxZ,z6,z7,z8,j4,j5,j6,j7,j8,j9,x6,x7,x8,x9,y4,y5,reduceCtorEq,↓reduceIte];subst hZ;refine zaa fun Z hZ=>?_;refine zaa fun W hW=>?_;simp only[sxZ,z6,z7,z8,j4,j5,j6,j7,j8,j9,x6,x7,x8,x9,y4,y5,reduceCtorEq,↓reduceIte];subst hW;rw[zaR];refine zaH (fun n o tm=>∃i:Nat,i<=d.svs.length/\n=d.svs.length - i/\o[0]? = some (OB.box 25 [.i .i64 v.kind,.s v.text,.row v.keys.length (v.keys.map .s),.row v.items.length (zac v.items)])/\o[1]? = some (OB.box 34 [.s d.id,.row d.also.length (d.also.map .s),.row d.ctl.length (d.ctl.map .s),.row d.mts.length (zc0 d.mts),.row d.svs.length (zcN d.svs)])/\tm.length=97/\tm[3]? = some (.p 0 0)/\tm[6]? = some (.p 1 0)/\tm[64]? = some (.row d.svs.length (zcN d.svs))/\tm[65]? = some (.i .i64 (d.svs.length:Int))/\tm[66]? = some (.i .i64 (i:Int))) d.svs.length ?_ ?_
 ·exact⟨0,zd _,rfl,rfl,rfl,rfl,rfl,rfl,rfl,rfl,rfl⟩
 rintro n o tm ⟨i,hi,rfl,f0,f1,hlen',t3,t6,tr,tn,ti⟩;refine zaa fun W hW=>?_
 by_cases hlt:(i:Int)<(d.svs.length:Int)
 ·have hi':i<d.svs.length:=by omega
  have kv:=sv_at hi';have hsel:=hfind d.svs[i].id (.inr ⟨d.svs[i],jn hi',rfl⟩);generalize d.svs[i]=y at kv hsel;have elk:svc y=[.s y.id,.row y.typ.length (y.typ.map .s),.row y.eps.length (y.eps.map .s)]:=rfl;rw[elk] at kv;simp only[sxZ,z6,z7,z8,j4,j5,j6,j7,j8,j9,x6,x7,x8,x9,y4,y5,reduceCtorEq,↓reduceIte,za,hlen',tr,tn,ti,hlt];subst hW;refine zaa fun W hW=>?_;simp only[sxZ,z6,z7,z8,j4,j5,j6,j7,j8,j9,x6,x7,x8,x9,y4,y5,reduceCtorEq,↓reduceIte,za,hlen'];subst hW;refine zaa fun U hU=>?_;rw[zaR];refine zaa fun W hW=>?_;simp only[sxZ,z6,z7,z8,j4,j5,j6,j7,j8,j9,x6,x7,x8,x9,y4,y5,reduceCtorEq,↓reduceIte,za,hlen',tr,ti,kv];refine⟨⟨by omega,by omega,by omega⟩,by omega,?_⟩;simp only[sxZ,z6,z7,z8,j4,j5,j6,j7,j8,j9,x6,x7,x8,x9,y4,y5,reduceCtorEq,↓reduceIte,za,hlen',gn1,sn1];have g0:=zbb f0 (OB.box 46 [.s y.id,.row y.typ.length (y.typ.map .s),.row y.eps.length (y.eps.map .s)]);have g1:=zbb f1 (OB.box 46 [.s y.id,.row y.typ.length (y.typ.map .s),.row y.eps.length (y.eps.map .s)]);have gy:(o++[OB.box 46 [.s y.id,.row y.typ.length (y.typ.map .s),.row y.eps.length (y.eps.map .s)]])[o.length]? = some (.box 46 [.s y.id,.row y.typ.length (y.typ.map .s),.row y.eps.length (y.eps.map .s)]):=gn1 _ _;generalize o.length=q at gy ⊢;generalize o++[OB.box 46 [.s y.id,.row y.typ.length (y.typ.map .s),.row y.eps.length (y.eps.map .s)]]=o7 at g0 g1 gy ⊢;subst hW;refine zaa fun W hW=>?_;simp only[sxZ,z6,z7,z8,j4,j5,j6,j7,j8,j9,x6,x7,x8,x9,y4,y5,reduceCtorEq,↓reduceIte,za,hlen',t3,g0,gy];refine zah (PS y.id ?_);generalize zjj v y.id=R at hsel ⊢;obtain⟨x,ok⟩:=R;dsimp only at hsel;subst hsel;unfold zbO;dsimp only;rw[zaf x];simp only[sxZ,z6,z7,z8,j4,j5,j6,j7,j8,j9,x6,x7,x8,x9,y4,y5,reduceCtorEq,↓reduceIte,za,hlen',gn1,sn1];have k0:=zbb g0 (OB.box 25 [.i .i64 x.kind,.s x.text,.row x.keys.length (x.keys.map .s),.row x.items.length (zac x.items)]);have k1:=zbb g1 (OB.box 25 [.i .i64 x.kind,.s x.text,.row x.keys.length (x.keys.map .s),.row x.items.length (zac x.items)]);subst hW;simp only[sxZ,z6,z7,z8,j4,j5,j6,j7,j8,j9,x6,x7,x8,x9,y4,y5,reduceCtorEq,↓reduceIte,za,hlen'];subst hU;simp only[sxZ,z6,z7,z8,j4,j5,j6,j7,j8,j9,x6,x7,x8,x9,y4,y5,reduceCtorEq,↓reduceIte,za,hlen',t3,t6,tr,tn,ti];exact⟨by omega,d.svs.length - (i+1),by omega,i+1,by omega,rfl,k0,k1,rfl⟩
 simp only[sxZ,z6,z7,z8,j4,j5,j6,j7,j8,j9,x6,x7,x8,x9,y4,y5,reduceCtorEq,↓reduceIte,za,hlen',tr,tn,ti,hlt];subst hW;simp only[sxZ,z6,z7,z8,j4,j5,j6,j7,j8,j9,x6,x7,x8,x9,y4,y5,reduceCtorEq,↓reduceIte,za,hlen'];subst hZ;refine zaa fun Z hZ=>?_;refine zaa fun W hW=>?_;simp only[sxZ,z6,z7,z8,j4,j5,j6,j7,j8,j9,x6,x7,x8,x9,y4,y5,reduceCtorEq,↓reduceIte,za,hlen',t6,f1];subst hW;rw[zaR];refine zaH (fun n o tm=>∃i:Nat,i<=d.mts.length/\n=d.mts.length - i/\o[0]? = some (OB.box 25 [.i .i64 v.kind,.s v.text,.row v.keys.length (v.keys.map .s),.row v.items.length (zac v.items)])/\o[1]? = some (OB.box 34 [.s d.id,.row d.also.length (d.also.map .s),.row d.ctl.length (d.ctl.map .s),.row d.mts.length (zc0 d.mts),.row d.svs.length (zcN d.svs)])/\tm.length=97/\tm[3]? = some (.p 0 0)/\tm[6]? = some (.p 1 0)/\tm[81]? = some (.row d.mts.length (zc0 d.mts))/\tm[82]? = some (.i .i64 (d.mts.length:Int))/\tm[83]? = some (.i .i64 (i:Int))) d.mts.length ?_ ?_
 ·refine⟨0,zd _,rfl,f0,f1,?_⟩;simp only[sxZ,z6,z7,z8,j4,j5,j6,j7,j8,j9,x6,x7,x8,x9,y4,y5,reduceCtorEq,↓reduceIte,zi,za,hlen',t3,t6,y8,and_self]
 rintro n o tm ⟨i,hi,rfl,f0,f1,hlen',t3,t6,tr,tn,ti⟩;refine zaa fun W hW=>?_
 by_cases hlt:(i:Int)<(d.mts.length:Int)
 ·have hi':i<d.mts.length:=by omega
  have kv:=mt_at hi';have hsel:=hfind d.mts[i].id (.inl ⟨d.mts[i],jn hi',rfl⟩);generalize d.mts[i]=y at kv hsel;have elk:mtc y=[.s y.id,.s y.typ,.s y.ctl]:=rfl;rw[elk] at kv;simp only[sxZ,z6,z7,z8,j4,j5,j6,j7,j8,j9,x6,x7,x8,x9,y4,y5,reduceCtorEq,↓reduceIte,za,hlen',tr,tn,ti,hlt];subst hW;refine zaa fun W hW=>?_;simp only[sxZ,z6,z7,z8,j4,j5,j6,j7,j8,j9,x6,x7,x8,x9,y4,y5,reduceCtorEq,↓reduceIte,za,hlen'];subst hW;refine zaa fun U hU=>?_;rw[zaR];refine zaa fun W hW=>?_;simp only[sxZ,z6,z7,z8,j4,j5,j6,j7,j8,j9,x6,x7,x8,x9,y4,y5,reduceCtorEq,↓reduceIte,za,hlen',tr,ti,kv];refine⟨⟨by omega,by omega,by omega⟩,by omega,?_⟩;simp only[sxZ,z6,z7,z8,j4,j5,j6,j7,j8,j9,x6,x7,x8,x9,y4,y5,reduceCtorEq,↓reduceIte,za,hlen',gn1,sn1];have g0:=zbb f0 (OB.box 48 [.s y.id,.s y.typ,.s y.ctl]);have g1:=zbb f1 (OB.box 48 [.s y.id,.s y.typ,.s y.ctl]);have gy:(o++[OB.box 48 [.s y.id,.s y.typ,.s y.ctl]])[o.length]? = some (.box 48 [.s y.id,.s y.typ,.s y.ctl]):=gn1 _ _;generalize o.length=q at gy ⊢;generalize o++[OB.box 48 [.s y.id,.s y.typ,.s y.ctl]]=o7 at g0 g1 gy ⊢;subst hW;refine zaa fun W hW=>?_;simp only[sxZ,z6,z7,z8,j4,j5,j6,j7,j8,j9,x6,x7,x8,x9,y4,y5,reduceCtorEq,↓reduceIte,za,hlen',t3,g0,gy];refine zah (PS y.id ?_);generalize zjj v y.id=R at hsel ⊢;obtain⟨x,ok⟩:=R;dsimp only at hsel;subst hsel;unfold zbO;dsimp only;rw[zaf x];simp only[sxZ,z6,z7,z8,j4,j5,j6,j7,j8,j9,x6,x7,x8,x9,y4,y5,reduceCtorEq,↓reduceIte,za,hlen',gn1,sn1];have k0:=zbb g0 (OB.box 25 [.i .i64 x.kind,.s x.text,.row x.keys.length (x.keys.map .s),.row x.items.length (zac x.items)]);have k1:=zbb g1 (OB.box 25 [.i .i64 x.kind,.s x.text,.row x.keys.length (x.keys.map .s),.row x.items.length (zac x.items)]);subst hW;simp only[sxZ,z6,z7,z8,j4,j5,j6,j7,j8,j9,x6,x7,x8,x9,y4,y5,reduceCtorEq,↓reduceIte,za,hlen'];subst hU;simp only[sxZ,z6,z7,z8,j4,j5,j6,j7,j8,j9,x6,x7,x8,x9,y4,y5,reduceCtorEq,↓reduceIte,za,hlen',t3,t6,tr,tn,ti];exact⟨by omega,d.mts.length - (i+1),by omega,i+1,by omega,rfl,k0,k1,rfl⟩
 simp only[sxZ,z6,z7,z8,j4,j5,j6,j7,j8,j9,x6,x7,x8,x9,y4,y5,reduceCtorEq,↓reduceIte,za,hlen',tr,tn,ti,hlt];subst hW;simp only[sxZ,z6,z7,z8,j4,j5,j6,j7,j8,j9,x6,x7,x8,x9,y4,y5,reduceCtorEq,↓reduceIte,za,hlen'];subst hZ;simp only[sxZ,z6,z7,z8,j4,j5,j6,j7,j8,j9,x6,x7,x8,x9,y4,y5,reduceCtorEq,↓reduceIte,za,hlen']
end
end
instance tabs_utf:Utf Tryz.prog:=⟨fun _ _=>⟨trivial⟩⟩
end Go.Proofs.YtceenajkieomoaaGreatDoor
