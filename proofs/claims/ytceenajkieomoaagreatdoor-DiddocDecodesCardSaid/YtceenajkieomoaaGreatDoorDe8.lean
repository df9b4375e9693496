/- The texts that the proofs of these statements reach, in their order, as few files. -/
import Derived.Test.YtceenajkieomoaaGreatDoorDe7
set_option linter.unusedVariables false
set_option linter.unusedSimpArgs false
set_option maxRecDepth 100000
namespace Go.Proofs.YtceenajkieomoaaGreatDoor
open Nat renaming reduceAdd -> z6, reduceSub -> z7, reduceLeDiff -> z8, reduceLT -> j4, reduceMul -> j5, reduceEqDiff -> j6
open Int renaming reduceToNat -> j7, reduceAdd -> j8, reduceSub -> j9, reduceMul -> x0, reduceNeg -> x6, reduceLT -> x7, reduceLE -> x8, reduceEq -> x9, reduceNe -> y4
open Go.RowKit Sx
open Int renaming cast_ofNat_Int->yd, toNat_natCast->jf
open List renaming Perm->qx, append_assoc->qb, drop_of_length_le->xr, flatMap_cons->xi, getElem?_append_left->qc, getElem?_eq_getElem->zl, getElem?_eq_some_iff->zf, getElem?_set->za, getElem?_set_ne->zi, getElem?_set_self->zk, getElem_cons_succ->yh, getElem_mem->qw, length_append->zm, length_cons->zr, length_map->qm, length_nil->qj, length_set->zh, length_take->qd, map_append->je, map_cons->zo, map_nil->zx, mem_append->zy, mem_cons->zt, mem_cons_of_mem->qq, nil_append->qp, nodup_cons->y7, not_mem_nil->xg, sublist_cons_self->jj, take_add_one->ye, take_of_length_le->jk, take_succ_eq_append_getElem->xt, take_zero->jn
open Nat renaming le_refl->ze, zero_le->zd
section
attribute [local irreducible] run
theorem zj8 {i:Nat} {T T':Nat} {cs cs':List AV} {L:List (Nat×OB)} (h:zaR ((i,.box T cs)::L)) (hp:zan cs'=true):zaR ((i,.box T' cs')::L):=by
 intro y hy b g n xs hb;rcases zt.1 hy with rfl|hy
 ·show OB.box T' _=_;rw[zd0 hp]
 ·exact h y (qq _ hy) b g n xs fun y hy=>by
   rcases zt.1 hy with rfl|hy
   ·exact hb (i,.box T' cs') (by simp)
   ·exact hb y (qq _ hy)
theorem zgz {p:Nat} {s:List UInt8} {ρ ρ':Rs} {L:List (Nat×OB)} (h:zaR ((p,zaQ s ρ)::L)):zaR ((p,zaQ s ρ')::L):=zj8 h rfl
theorem zhe {E1 s1 n1 E2 s2 n2:Nat} {x1 x2:List AV} {X Y:AV} {R1 R2 L:List (Nat×OB)} {p qt qv qr:Nat} {s:List UInt8} {ρ ρ':Rs} {T:Tk} {k:Int} (h1:SlO E1 s1 n1 x1 X R1) (h2:SlO E2 s2 n2 x2 Y R2) (h:zaR ((p,zaQ s ρ)::L)):zaR ((p,zaQ s ρ')::(qt,za8 T)::(qv,jvB k X Y)::(qr,zvB)::(R1++(R2++L))):=by
 intro y hy b g m ys hb;simp only[zt,zy] at hy;rcases hy with rfl|rfl|rfl|rfl|hy|hy|hy
 ·exact congrArg (OB.box _) (zd0 rfl)
 ·exact congrArg (OB.box _) (zd0 rfl)
 ·have q1:=zjv h1 (b:=b) (g:=g) (m:=m) (ys:=ys) fun y hy=>hb y (by simp[hy]);have q2:=zjv h2 (b:=b) (g:=g) (m:=m) (ys:=ys) fun y hy=>hb y (by simp[hy]);show OB.box _ _=_;simp only[zo,zx,q1,q2]
  rfl
 ·exact congrArg (OB.box _) (zd0 rfl)
 ·rcases h1 with ⟨_,_,_,rfl⟩|⟨b',g',_,rfl⟩
  ·cases hy
  ·simp only[zt,xg,or_false] at hy;subst hy;rfl
 ·rcases h2 with ⟨_,_,_,rfl⟩|⟨b',g',_,rfl⟩
  ·cases hy
  ·simp only[zt,xg,or_false] at hy;subst hy;rfl
 ·refine h y (qq _ hy) b g m ys fun z hz=>?_;rcases zt.1 hz with rfl|hz
  ·exact hb (p,zaQ s ρ') (by simp)
  ·exact hb z (by simp[hz])
section
variable [Tabs Tryz.prog] [Utf Tryz.prog] {objs:List OB} {K:List OB->AV->Prop} {L:List (Nat×OB)} {p:Nat} {s:List UInt8} {ρ:Rs}
def ValK (s:List UInt8) (p:Nat) (d:Nat) (val:Rs->Tk->JV×Rs):Prop :=
 ∀{objs:List OB} {K:List OB->AV->Prop} {L:List (Nat×OB)} {ρ:Rs} (t:Tk),GB s ρ->GT ρ t->t.2.1.length<=s.length->zaR ((p,zaQ s ρ)::L)->zaS ((p,zaQ s ρ)::L) objs->(∀o,zaS ((p,zaQ s (val ρ t).2)::L) o->K o (.agg (zao (val ρ t).1)))->zaf Tryz.prog 20 [.p p 0,zim t,.i .i64 (d:Int)] objs K
omit [Tabs Tryz.prog] [Utf Tryz.prog] in
theorem zbR (h:GB s ρ):(zag s ρ).1.2.1.length<=s.length:=by
 unfold zag
 split
 ·exact zd _
 split
 ·exact zd _
 ·rename_i h1 h2;have:=zhR (s:=s) h.p0 (by simpa using h2);exact this.2.1
theorem array_k {val:Rs->Tk->JV×Rs} {d:Nat} (hv:ValK s p d val) (hg:GV s val) (hn:∀ρ t,(val ρ t).2.fail=0->ρ.nodes+1<=(val ρ t).2.nodes) (hs:s.length<=1048576) (hB:GB s ρ) (hC:zaR ((p,zaQ s ρ)::L)) (hO:zaS ((p,zaQ s ρ)::L) objs)
  (hk:∀o,zaS ((p,zaQ s (zgD s val ρ).2)::L) o->K o (.agg (zao (zgD s val ρ).1))):zaf Tryz.prog 61 [.p p 0,.i .i64 (d:Int)] objs K:=by
 refine znD (E1:=9) (s1:=1) (E2:=25) (s2:=4) (zgD s val ρ).1 (zgz hC) hk ?_;refine zcj is_ref14_parser_array fun C _=>?_;have fin:∀{o:List OB} {ρ':Rs} {acc:List JV} {X:AV} {R:List (Nat×OB)} {qt qv qr:Nat} {T V W:OB},zgD s val ρ=(.mk 6 [] [] acc,ρ')->SlO 25 4 acc.length (zab acc) X R->zaS ((p,zaQ s ρ')::(qt,T)::(qv,V)::(qr,W)::(R++L)) o ->
   ∃X' R1 Y R2,SlO 9 1 (zgD s val ρ).1.keys.length ((zgD s val ρ).1.keys.map .s) X' R1/\SlO 25 4 (zgD s val ρ).1.items.length (zab (zgD s val ρ).1.items) Y R2/\zaS ((p,zaQ s (zgD s val ρ).2)::(R1++(R2++L))) (o.set qr (jvB 6 .nil X))/\AV.agg [.i .i64 6,.s [],.nil,X]=.agg [.i .i64 (zgD s val ρ).1.kind,.s (zgD s val ρ).1.text,X',Y]:=by
  intro o ρ' acc X R qt qv qr T V W he hS hO;rw[he];refine⟨.nil,[],X,R,.inl ⟨rfl,rfl,rfl,rfl⟩,hS,?_,rfl⟩;exact(zaS.set (A:=[(p,zaQ s ρ'),(qt,T),(qv,V)]) (jvB 6 .nil X) hO).sub ((((jj _ _).trans (jj _ _)).trans (jj _ _)).cons_cons _)
 rw[c_ref14_parser_array];refine zaa fun Y hY=>?_;simp only[sxZ,z6,z7,z8,j4,j5,j6,j7,j8,j9,x0,x6,x7,x8,x9,y4,reduceCtorEq,↓reduceIte];have hO1:=hO.new zvB;unfold zvB at hO1;generalize hqr:objs.length=qr at hO1 ⊢;generalize objs++[OB.box 25 [.i .i64 0,.s [],.nil,.nil]]=o1 at hO1 ⊢;subst hY;refine zaa fun Y hY=>?_;simp only[sxZ,z6,z7,z8,j4,j5,j6,j7,j8,j9,x0,x6,x7,x8,x9,y4,reduceCtorEq,↓reduceIte,gn1,sn1];have hO2:=hO1.new (jvB 6 .nil .nil);unfold jvB at hO2;generalize hqv:o1.length=qv at hO2 ⊢;generalize o1++[OB.box 25 [.i .i64 6,.s [],.nil,.nil]]=o2 at hO2 ⊢;subst hY;refine zaa fun Y hY=>?_;simp only[sxZ,z6,z7,z8,j4,j5,j6,j7,j8,j9,x0,x6,x7,x8,x9,y4,reduceCtorEq,↓reduceIte];have hO2':zaS ((p,zaQ s ρ)::(qv,jvB 6 .nil .nil)::(qr,zvB)::L) o2:=hO2.perm ((qx.cons _ (qx.swap _ _ _)).trans (qx.swap _ _ _));refine zad (zcT (by omega) hO2' fun o3 hO3=>?_);have hB1:=zbw hB;have hT1:=zbR hB;have hrarr:zgD s val ρ=if isP (zag s ρ).1 93=true then (.mk 6 [] [] [],(zag s ρ).2) else (.mk 6 [] [] (zcI s val (s.length+2) (zag s ρ).2 (zag s ρ).1 []).1,(zcI s val (s.length+2) (zag s ρ).2 (zag s ρ).1 []).2):=rfl
 have hn0:=zbm s ρ;generalize zag s ρ=N at hO3 hB1 hT1 hrarr hn0 ⊢;obtain⟨T,ρ1⟩:=N;simp only at hO3 hB1 hT1 hrarr hn0 ⊢;unfold zim tkC;simp only[sxZ,z6,z7,z8,j4,j5,j6,j7,j8,j9,x0,x6,x7,x8,x9,y4,reduceCtorEq,↓reduceIte,gn1,sn1];have f1:∀x y z,OB.box 56 [.i .i64 x,.s y,.i .i64 z]=za8 (x,y,z):=fun _ _ _=>rfl;rw[f1];have hO4:=hO3.new (za8 T);have hO4:zaS ((p,zaQ s ρ1)::(o3.length,za8 T)::(qv,jvB 6 .nil .nil)::(qr,zvB)::([]++L)) (o3++[za8 T]):=hO4.perm (qx.swap _ _ _);generalize o3.length=qt at hO4 ⊢;generalize o3++[za8 (T.1,T.2.1,T.2.2)]=o4 at hO4 ⊢;have st:∀(o:List OB) (ρ':Rs) (T':Tk) (X:AV) (R:List (Nat×OB)),zaS ((p,zaQ s ρ')::(qt,za8 T')::(qv,jvB 6 .nil X)::(qr,zvB)::(R++L)) o->o[p]? = some (.box 53 [.s s,.i .i64 ρ'.pos,.i .i64 (ρ'.nodes:Int),.i .i64 ρ'.fail,.i .i64 ρ'.wh])/\o[qt]? = some (.box 56 [.i .i64 T'.1,.s T'.2.1,.i .i64 T'.2.2])/\o[qv]? = some (.box 25 [.i .i64 6,.s [],.nil,X])/\o[qr]? = some (.box 25 [.i .i64 0,.s [],.nil,.nil])/\(∀x,(o.set qr x)[qr]? = some x)/\(∀x,(o.set qt x)[qt]? = some x)/\(∀x,(o.set qv x)[qv]? = some x) :=
  fun o ρ' T' X R h=>⟨h.get (by simp[zaQ]),h.get (by simp[za8,tkC]),h.get (by simp[jvB]),h.get (by simp[zvB]),fun x=>zk (h.lt (i:=qr) (x:=zvB) (by simp)),fun x=>zk (h.lt (i:=qt) (x:=za8 T') (by simp)),fun x=>zk (h.lt (i:=qv) (x:=jvB 6 .nil X) (by simp))⟩
 subst hY;refine zaa fun Y hY=>?_;obtain⟨e1,e2,e3,e4,s1,s2,s3⟩:=st _ _ _ _ _ hO4;simp only[sxZ,z6,z7,z8,j4,j5,j6,j7,j8,j9,x0,x6,x7,x8,x9,y4,reduceCtorEq,↓reduceIte,e2];refine zad (zf5 T 93 ?_)
 cases hcl:isP T 93 with
 | true=>
  rw[hcl,if_pos rfl] at hrarr;simp only[sxZ,z6,z7,z8,j4,j5,j6,j7,j8,j9,x0,x6,x7,x8,x9,y4,reduceCtorEq,↓reduceIte,e3,e4,s1];exact fin hrarr (.inl ⟨rfl,by rw[zaA],rfl,rfl⟩) hO4
 | false=>
  rw[hcl,if_neg Bool.false_ne_true] at hrarr;simp only[sxZ,z6,z7,z8,j4,j5,j6,j7,j8,j9,x0,x6,x7,x8,x9,y4,reduceCtorEq,↓reduceIte];subst hY;refine zaa fun Y hY=>?_;clear e1 e2 e3 e4 s1 s2 s3;have last:∀(o:List OB) (ρ':Rs) (T':Tk) (acc:List JV) (X:AV) (R:List (Nat×OB)) (tm:List AV),zgD s val ρ=(.mk 6 [] [] acc,ρ')->SlO 25 4 acc.length (zab acc) X R->zaS ((p,zaQ s ρ')::(qt,za8 T')::(qv,jvB 6 .nil X)::(qr,zvB)::(R++L)) o->True:=fun _ _ _ _ _ _ _ _ _ _=>trivial;simp only[sxZ,z6,z7,z8,j4,j5,j6,j7,j8,j9,x0,x6,x7,x8,x9,y4,reduceCtorEq,↓reduceIte];refine zaE (fun n o tm=>∃(i:Nat) (ρ':Rs) (T':Tk) (acc:List JV) (X:AV) (R:List (Nat×OB)),n=s.length+2 - i/\acc.length=i/\zgD s val ρ=(.mk 6 [] [] (zcI s val n ρ' T' acc).1,(zcI s val n ρ' T' acc).2)/\GB s ρ'/\GT ρ' T'/\T'.2.1.length<=s.length/\(ρ'.fail=0->i<=ρ'.nodes)/\SlO 25 4 acc.length (zab acc) X R/\zaS ((p,zaQ s ρ')::(qt,za8 T')::(qv,jvB 6 .nil X)::(qr,zvB)::(R++L)) o /\
    tm.length=49/\tm[0]? = some (.p p 0)/\tm[1]? = some (.i .i64 (d:Int))/\tm[4]? = some (.p qr 0)/\tm[5]? = some (.p qv 0)/\tm[6]? = some (.p qt 0)) (s.length+2) ⟨0,ρ1,T,[],.nil,[],rfl,rfl,hrarr,hB1.1,hB1.2,hT1,fun _=>zd _,.inl ⟨rfl,by rw[zaA],rfl,rfl⟩,hO4,rfl,rfl,rfl,rfl,rfl,rfl⟩ ?_
  clear hO hO1 hO2 hO2' hO3 hO4 hrarr hB1 hT1 hcl hn0;rintro n o tm ⟨i,ρ',T',acc,X,R,rfl,hi,hrarr,hGB,hGT,hTx,hnd,hS,hO,hlen,t0,t1,t4,t5,t6⟩;obtain⟨e1,e2,e3,e4,s1,s2,s3⟩:=st _ _ _ _ _ hO;refine zaa fun Z hZ=>?_
  by_cases c1:ρ'.fail=0
  rotate_left
  ·have he:zcI s val (s.length+2 - i) ρ' T' acc=(acc,ρ'):=by
    cases s.length+2 - i with
    | zero=>rw[zcI]
    | succ m=>rw[zcI,if_pos c1]
   rw[he] at hrarr;simp only[sxZ,z6,z7,z8,j4,j5,j6,j7,j8,j9,x0,x6,x7,x8,x9,y4,reduceCtorEq,↓reduceIte,za,hlen,t0,e1,c1];subst hZ;subst hY;simp only[sxZ,z6,z7,z8,j4,j5,j6,j7,j8,j9,x0,x6,x7,x8,x9,y4,reduceCtorEq,↓reduceIte,za,hlen,t4,t5,e3,e4,s1];exact fin hrarr hS hO
  have hil:i<=s.length:=by
   have h1:=hnd c1;have h2:=hGB.n0 c1;have h3:=hGB.p1;omega
  obtain⟨m,hm⟩:∃m,s.length+2 - i=m+1:=⟨s.length+1 - i,by omega⟩;rw[hm,zcI,if_neg (fun h=>h c1)] at hrarr;simp only at hrarr;simp only[sxZ,z6,z7,z8,j4,j5,j6,j7,j8,j9,x0,x6,x7,x8,x9,y4,reduceCtorEq,↓reduceIte,za,hlen,t0,e1,c1];subst hZ;rw[zaZ];refine zaa fun Z hZ=>?_;have hvc:=fun {objs:List OB} {K:List OB->AV->Prop} {L:List (Nat×OB)} (h1) (h2) (h3)=>hv (objs:=objs) (K:=K) (L:=L) (ρ:=ρ') T' hGB hGT hTx h1 h2 h3;have hg1:=hg ρ' T' hGB hGT;have hn1:=hn ρ' T';generalize val ρ' T'=a at hvc hg1 hn1 hrarr;obtain⟨v,ρ2⟩:=a;simp only at hvc hg1 hn1 hrarr;obtain⟨c0,c1',c2,c3,hcv⟩:∃c0 c1 c2 c3,zao v=[c0,c1,c2,c3]:=⟨_,_,_,_,zae v⟩;have hCL:zaR ((p,zaQ s ρ')::(qt,za8 T')::(qv,jvB 6 .nil X)::(qr,zvB)::(R++L)):=zhe (E1:=0) (s1:=0) (R1:=[]) (.inl ⟨rfl,rfl,rfl,rfl⟩) hS hC;refine zaJ (fun o tm=>∃X' R',SlO 25 4 (acc++[v]).length (zab (acc++[v])) X' R'/\zaS ((p,zaQ s ρ2)::(qt,za8 T')::(qv,jvB 6 .nil X')::(qr,zvB)::(R'++L)) o/\tm.length=49/\tm[0]? = some (.p p 0)/\tm[1]? = some (.i .i64 (d:Int))/\tm[4]? = some (.p qr 0)/\tm[5]? = some (.p qv 0)/\tm[6]? = some (.p qt 0)) ?_ ?_
  ·simp only[sxZ,z6,z7,z8,j4,j5,j6,j7,j8,j9,x0,x6,x7,x8,x9,y4,reduceCtorEq,↓reduceIte,za,hlen,t0,t1,t5,t6,e2,e3];refine zad (hvc hCL hO fun o2 hO2=>?_);obtain⟨e1',e2',e3',e4',s1',s2',s3'⟩:=st _ _ _ _ _ hO2;rw[hcv];rcases hS with ⟨z1,z2,rfl,rfl⟩|⟨b,g,rfl,rfl⟩
   ·have a0:acc=[]:=List.eq_nil_of_length_eq_zero z1;have hlt:=hO2.lt (i:=qv) (x:=jvB 6 .nil .nil) (by simp);have hne:¬o2.length=qv:=by omega
    have gx:∀x,(o2++[x])[qv]? = some (.box 25 [.i .i64 6,.s [],.nil,.nil]):=fun x=>by rw[qc hlt];exact e3'
    simp only[sxZ,z6,z7,z8,j4,j5,j6,j7,j8,j9,x0,x6,x7,x8,x9,y4,reduceCtorEq,↓reduceIte,za,hlen,t0,t1,t5,t6,e2',e3',gn1,sn1,gx,hne,zac,zh,t4,and_self,and_true];have hN:=hO2.new (.orow 25 4 0 1 [c0,c1',c2,c3]);have hR:=hN.set (A:=[(o2.length,OB.orow 25 4 0 1 [c0,c1',c2,c3]),(p,zaQ s ρ2),(qt,za8 T')]) (jvB 6 .nil (.orow o2.length 0));refine⟨_,[(o2.length,.orow 25 4 0 1 [c0,c1',c2,c3])],.inr ⟨_,_,rfl,by rw[a0,qp,zaK,zaA,hcv];rfl⟩,hR.perm ?_⟩;exact List.perm_middle (l₁:=[(p,zaQ s ρ2),(qt,za8 T'),(qv,jvB 6 .nil (.orow o2.length 0)),(qr,zvB)]).symm
   ·have e5:=hO2.get (i:=b) (x:=.orow 25 4 g acc.length (zab acc)) (by simp);have hlt:=hO2.lt (i:=qv) (x:=jvB 6 .nil (.orow b g)) (by simp);have hlt4:=hO2.lt (i:=b) (x:=.orow 25 4 g acc.length (zab acc)) (by simp);have hne:¬b=qv:=by
     intro h;have:=hO2.1;simp only[zo,je,y7] at this;exact this.2.2.1 (by simp[h])
    have gs:∀x,(o2.set b x)[b]? = some x:=fun x=>zk hlt4;have gx:∀x,(o2.set b x)[qv]? = some (.box 25 [.i .i64 6,.s [],.nil,.orow b g]):=fun x=>by rw[zi hne];exact e3'
    have hjl:=zaI acc;simp only[sxZ,z6,z7,z8,j4,j5,j6,j7,j8,j9,x0,x6,x7,x8,x9,y4,reduceCtorEq,↓reduceIte,za,hlen,t0,t1,t5,t6,e2',e3',e5,gs,gx,hne,zac,zh,t4,and_self,and_true];refine⟨⟨by omega,by omega⟩,?_⟩;have hN:=hO2.set (A:=[(p,zaQ s ρ2),(qt,za8 T'),(qv,jvB 6 .nil (.orow b g)),(qr,zvB)]) (.orow 25 4 (g+1) (acc.length+1) (zab acc++[c0,c1',c2,c3]));have hR:=hN.set (A:=[(p,zaQ s ρ2),(qt,za8 T')]) (jvB 6 .nil (.orow b (g+1)));exact⟨_,[(b,.orow 25 4 (g+1) (acc.length+1) (zab acc++[c0,c1',c2,c3]))],.inr ⟨_,_,rfl,by rw[zgh,zaK,zaA,hcv];rfl⟩,hR⟩
  ·clear hO hS hlen t0 t1 t4 t5 t6 e1 e2 e3 e4 s1 s2 s3 hCL hvc hv hg hn;rintro o5 tm ⟨X',R',hS,hO5,hlen,t0,t1,t4,t5,t6⟩;subst hZ;refine zaa fun Z hZ=>?_;simp only[sxZ,z6,z7,z8,j4,j5,j6,j7,j8,j9,x0,x6,x7,x8,x9,y4,reduceCtorEq,↓reduceIte,za,hlen,t0];refine zad (zcT (by omega) hO5 fun o6 hO6=>?_);have hB2:=zbw hg1;have hT2:=zbR hg1;have hn2:=zbm s ρ2;have hfz:=zcv s ρ2;generalize zag s ρ2=N at hO6 hB2 hT2 hn2 hfz hrarr ⊢;obtain⟨T2,ρ3⟩:=N;simp only at hO6 hB2 hT2 hn2 hfz hrarr ⊢;obtain⟨e1,e2,e3,e4,s1,s2,s3⟩:=st _ _ _ _ _ hO6;unfold zim tkC;simp only[sxZ,z6,z7,z8,j4,j5,j6,j7,j8,j9,x0,x6,x7,x8,x9,y4,reduceCtorEq,↓reduceIte,za,hlen,t6,e2,s2];rw[f1];have hO7:=zaS.set (A:=[(p,zaQ s ρ3)]) (za8 T2) hO6;have hO7:zaS ((p,zaQ s ρ3)::(qt,za8 T2)::(qv,jvB 6 .nil X')::(qr,zvB)::(R'++L)) (o6.set qt (za8 (T2.1,T2.2.1,T2.2.2))):=hO7;generalize o6.set qt (za8 (T2.1,T2.2.1,T2.2.2))=o7 at hO7 ⊢;refine zbC (fun t=>t.length=49/\t[0]? = some (.p p 0)/\t[1]? = some (.i .i64 (d:Int))/\t[4]? = some (.p qr 0)/\t[5]? = some (.p qv 0)/\t[6]? = some (.p qt 0)) ?_ ?_
   ·simp only[sxZ,z6,z7,z8,j4,j5,j6,j7,j8,j9,x0,x6,x7,x8,x9,y4,reduceCtorEq,↓reduceIte,zh,za,hlen,t0,t1,t4,t5,t6,and_self]
   clear hO6 hO5 hlen t0 t1 t4 t5 t6 e1 e2 e3 e4 s1 s2 s3;rintro tm ⟨hlen,t0,t1,t4,t5,t6⟩;obtain⟨e1,e2,e3,e4,s1,s2,s3⟩:=st _ _ _ _ _ hO7;subst hZ;refine zaa fun Z hZ=>?_;simp only[sxZ,z6,z7,z8,j4,j5,j6,j7,j8,j9,x0,x6,x7,x8,x9,y4,reduceCtorEq,↓reduceIte,za,hlen,t6,e2];refine zad (zf5 T2 93 ?_)
   cases hcl:isP T2 93 with
   | true=>
    rw[hcl,if_pos rfl] at hrarr;simp only[sxZ,z6,z7,z8,j4,j5,j6,j7,j8,j9,x0,x6,x7,x8,x9,y4,reduceCtorEq,↓reduceIte,za,hlen,t4,t5,e3,e4,s1];exact fin hrarr hS hO7
   | false=>
    rw[hcl,if_neg Bool.false_ne_true] at hrarr;simp only[sxZ,z6,z7,z8,j4,j5,j6,j7,j8,j9,x0,x6,x7,x8,x9,y4,reduceCtorEq,↓reduceIte,za,hlen];subst hZ;refine zaa fun Z hZ=>?_;refine zaJ (fun o tm=>zaS ((p,zaQ s (za9 ρ3 T2 44))::(qt,za8 T2)::(qv,jvB 6 .nil X')::(qr,zvB)::(R'++L)) o/\tm.length=49/\tm[0]? = some (.p p 0)/\tm[1]? = some (.i .i64 (d:Int))/\tm[4]? = some (.p qr 0)/\tm[5]? = some (.p qv 0)/\tm[6]? = some (.p qt 0)) ?_ ?_
    ·refine zaa fun W hW=>?_
     by_cases c3:ρ3.fail=0
     rotate_left
     ·have hw:za9 ρ3 T2 44=ρ3:=by unfold za9;rw[if_neg (fun h=>c3 h.1)]
      simp only[sxZ,z6,z7,z8,j4,j5,j6,j7,j8,j9,x0,x6,x7,x8,x9,y4,reduceCtorEq,↓reduceIte,za,hlen,t0,e1,c3];subst hW;simp only[sxZ,z6,z7,z8,j4,j5,j6,j7,j8,j9,x0,x6,x7,x8,x9,y4,reduceCtorEq,↓reduceIte,zac,zh,za,hlen,t0,t1,t4,t5,t6,hw,and_self,and_true];exact hO7
     ·simp only[sxZ,z6,z7,z8,j4,j5,j6,j7,j8,j9,x0,x6,x7,x8,x9,y4,reduceCtorEq,↓reduceIte,za,hlen,t0,t6,e1,e2,c3];refine zad (zf5 T2 44 ?_)
      cases h44:isP T2 44 with
      | true=>
       have hw:za9 ρ3 T2 44=ρ3:=by unfold za9;rw[if_neg (fun h=>by rw[h44] at h;cases h.2)]
       simp only[sxZ,z6,z7,z8,j4,j5,j6,j7,j8,j9,x0,x6,x7,x8,x9,y4,reduceCtorEq,↓reduceIte,za,hlen];subst hW;simp only[sxZ,z6,z7,z8,j4,j5,j6,j7,j8,j9,x0,x6,x7,x8,x9,y4,reduceCtorEq,↓reduceIte,zac,zh,za,hlen,t0,t1,t4,t5,t6,hw,and_self,and_true];exact hO7
      | false=>
       have hw:za9 ρ3 T2 44=za4 ρ3 T2.2.2 140:=by unfold za9;rw[if_pos ⟨c3,h44⟩]
       simp only[sxZ,z6,z7,z8,j4,j5,j6,j7,j8,j9,x0,x6,x7,x8,x9,y4,reduceCtorEq,↓reduceIte,za,hlen];subst hW;simp only[sxZ,z6,z7,z8,j4,j5,j6,j7,j8,j9,x0,x6,x7,x8,x9,y4,reduceCtorEq,↓reduceIte,za,hlen,t0,t6,e2];refine zad (zcB hO7 T2.2.2 140 fun o8 hO8=>?_);simp only[sxZ,z6,z7,z8,j4,j5,j6,j7,j8,j9,x0,x6,x7,x8,x9,y4,reduceCtorEq,↓reduceIte,zac,zh,za,hlen,t0,t1,t4,t5,t6,hw,and_self,and_true];exact hO8
    ·clear hO7 hlen t0 t1 t4 t5 t6 e1 e2 e3 e4 s1 s2 s3;rintro o8 tm ⟨hO8,hlen,t0,t1,t4,t5,t6⟩;subst hZ;have hB3:=ze8 hB2.1 T2 44;have hn3:=zeT ρ3 T2 44;have hfz3:=zeU ρ3 T2 44;generalize za9 ρ3 T2 44=ρ4 at hO8 hB3 hn3 hfz3 hrarr;simp only[sxZ,z6,z7,z8,j4,j5,j6,j7,j8,j9,x0,x6,x7,x8,x9,y4,reduceCtorEq,↓reduceIte,za,hlen,t0];refine zad (zcT (by omega) hO8 fun o9 hO9=>?_);have hB4:=zbw hB3;have hT4:=zbR hB3;have hn4:=zbm s ρ4;have hfz4:=zcv s ρ4;generalize zag s ρ4=N at hO9 hB4 hT4 hn4 hfz4 hrarr ⊢;obtain⟨T5,ρ5⟩:=N;simp only at hO9 hB4 hT4 hn4 hfz4 hrarr ⊢;obtain⟨e1,e2,e3,e4,s1,s2,s3⟩:=st _ _ _ _ _ hO9;unfold zim tkC;simp only[sxZ,z6,z7,z8,j4,j5,j6,j7,j8,j9,x0,x6,x7,x8,x9,y4,reduceCtorEq,↓reduceIte,za,hlen,t6,e2,s2];rw[f1];have hO10:zaS ((p,zaQ s ρ5)::(qt,za8 T5)::(qv,jvB 6 .nil X')::(qr,zvB)::(R'++L)) (o9.set qt (za8 (T5.1,T5.2.1,T5.2.2))):=zaS.set (A:=[(p,zaQ s ρ5)]) (za8 T5) hO9;generalize o9.set qt (za8 (T5.1,T5.2.1,T5.2.2))=o10 at hO10 ⊢;refine⟨m,by omega,i+1,ρ5,T5,acc++[v],X',R',by omega,by rw[zm,hi];rfl,hrarr,hB4.1,hB4.2,hT4,fun hf=>?_,hS,hO10,?_⟩
     ·have q4:ρ4.fail=0:=by
       by_cases c:ρ4.fail=0
       ·exact c
       ·exact absurd ((hfz4 c).1.symm.trans hf) c
      have q3:ρ3.fail=0:=by
       by_cases c:ρ3.fail=0
       ·exact c
       ·exact absurd ((hfz3 c).1.symm.trans q4) c
      have q2:ρ2.fail=0:=by
       by_cases c:ρ2.fail=0
       ·exact c
       ·exact absurd ((hfz c).1.symm.trans q3) c
      have:=hn1 q2;have:=hnd c1;omega
     ·simp only[sxZ,z6,z7,z8,j4,j5,j6,j7,j8,j9,x0,x6,x7,x8,x9,y4,reduceCtorEq,↓reduceIte,zh,za,hlen,t0,t1,t4,t5,t6,and_self]
end
end
section
attribute [local irreducible] run
def SlP (ks:List (List UInt8)) (its:List JV) (X:AV) (R1:List (Nat×OB)) (Y:AV) (R2:List (Nat×OB)):Prop :=
 (ks=[]/\its=[]/\X=.nil/\R1=[]/\Y=.nil/\R2=[])\/∃b1 g1 b2 g2,X=.orow b1 g1/\R1=[(b1,.orow 9 1 g1 ks.length (ks.map .s))]/\Y=.orow b2 g2/\R2=[(b2,.orow 25 4 g2 its.length (zab its))]
theorem SlP.k {ks:List (List UInt8)} {its:List JV} {X Y:AV} {R1 R2:List (Nat×OB)} (h:SlP ks its X R1 Y R2):SlO 9 1 ks.length (ks.map .s) X R1:=by
 rcases h with ⟨rfl,rfl,rfl,rfl,rfl,rfl⟩|⟨b1,g1,b2,g2,rfl,rfl,rfl,rfl⟩
 ·exact .inl ⟨rfl,rfl,rfl,rfl⟩
 ·exact .inr ⟨_,_,rfl,rfl⟩
theorem SlP.i {ks:List (List UInt8)} {its:List JV} {X Y:AV} {R1 R2:List (Nat×OB)} (h:SlP ks its X R1 Y R2):SlO 25 4 its.length (zab its) Y R2:=by
 rcases h with ⟨rfl,rfl,rfl,rfl,rfl,rfl⟩|⟨b1,g1,b2,g2,rfl,rfl,rfl,rfl⟩
 ·exact .inl ⟨rfl,zaA,rfl,rfl⟩
 ·exact .inr ⟨_,_,rfl,rfl⟩
theorem SlP.flat {ks:List (List UInt8)} {its:List JV} {X Y:AV} {R1 R2:List (Nat×OB)} (h:SlP ks its X R1 Y R2):X.flat=true/\Y.flat=true:=by
 rcases h with ⟨rfl,rfl,rfl,rfl,rfl,rfl⟩|⟨b1,g1,b2,g2,rfl,rfl,rfl,rfl⟩<;>exact⟨rfl,rfl⟩
section
variable [Tabs Tryz.prog] [Utf Tryz.prog] {objs:List OB} {K:List OB->AV->Prop} {L:List (Nat×OB)} {p:Nat} {s:List UInt8} {ρ:Rs}
theorem object_k {val:Rs->Tk->JV×Rs} {d:Nat} (hv:ValK s p d val) (hg:GV s val) (hn:∀ρ t,(val ρ t).2.fail=0->ρ.nodes+1<=(val ρ t).2.nodes) (hvz:ValFroz val) (hs:s.length<=1048576) (hB:GB s ρ) (hC:zaR ((p,zaQ s ρ)::L)) (hO:zaS ((p,zaQ s ρ)::L) objs)
  (hk:∀o,zaS ((p,zaQ s (zgF s val ρ).2)::L) o->K o (.agg (zao (zgF s val ρ).1))):zaf Tryz.prog 62 [.p p 0,.i .i64 (d:Int)] objs K:=by
 refine znD (E1:=9) (s1:=1) (E2:=25) (s2:=4) (zgF s val ρ).1 (zgz hC) hk ?_;refine zcj is_ref14_parser_object fun C _=>?_;have fin:∀{o:List OB} {ρ':Rs} {ks:List (List UInt8)} {its:List JV} {X Y:AV} {R1 R2:List (Nat×OB)} {qt qv qr:Nat} {T V W:OB},zgF s val ρ=(.mk 7 [] ks its,ρ')->SlP ks its X R1 Y R2->zaS ((p,zaQ s ρ')::(qt,T)::(qv,V)::(qr,W)::(R1++(R2++L))) o ->
   ∃X' R1 Y' R2,SlO 9 1 (zgF s val ρ).1.keys.length ((zgF s val ρ).1.keys.map .s) X' R1/\SlO 25 4 (zgF s val ρ).1.items.length (zab (zgF s val ρ).1.items) Y' R2/\zaS ((p,zaQ s (zgF s val ρ).2)::(R1++(R2++L))) (o.set qr (jvB 7 X Y))/\AV.agg [.i .i64 7,.s [],X,Y]=.agg [.i .i64 (zgF s val ρ).1.kind,.s (zgF s val ρ).1.text,X',Y']:=by
  intro o ρ' ks its X Y R1 R2 qt qv qr T V W he hS hO;rw[he];refine⟨X,R1,Y,R2,hS.k,hS.i,?_,rfl⟩;exact(zaS.set (A:=[(p,zaQ s ρ'),(qt,T),(qv,V)]) (jvB 7 X Y) hO).sub ((((jj _ _).trans (jj _ _)).trans (jj _ _)).cons_cons _)
 rw[c_ref14_parser_object];refine zaa fun Z0 hZ0=>?_;simp only[sxZ,z6,z7,z8,j4,j5,j6,j7,j8,j9,x0,x6,x7,x8,x9,y4,reduceCtorEq,↓reduceIte];have hO1:=hO.new zvB;unfold zvB at hO1;generalize hqr:objs.length=qr at hO1 ⊢;generalize objs++[OB.box 25 [.i .i64 0,.s [],.nil,.nil]]=o1 at hO1 ⊢;subst hZ0;refine zaa fun Z0 hZ0=>?_;simp only[sxZ,z6,z7,z8,j4,j5,j6,j7,j8,j9,x0,x6,x7,x8,x9,y4,reduceCtorEq,↓reduceIte,gn1,sn1];have hO2:=hO1.new (jvB 7 .nil .nil);unfold jvB at hO2;generalize hqv:o1.length=qv at hO2 ⊢;generalize o1++[OB.box 25 [.i .i64 7,.s [],.nil,.nil]]=o2 at hO2 ⊢;subst hZ0;refine zaa fun Z0 hZ0=>?_;simp only[sxZ,z6,z7,z8,j4,j5,j6,j7,j8,j9,x0,x6,x7,x8,x9,y4,reduceCtorEq,↓reduceIte];have hO2':zaS ((p,zaQ s ρ)::(qv,jvB 7 .nil .nil)::(qr,zvB)::L) o2:=hO2.perm ((qx.cons _ (qx.swap _ _ _)).trans (qx.swap _ _ _));refine zad (zcT (by omega) hO2' fun o3 hO3=>?_);have hB1:=zbw hB;have hT1:=zbR hB;have hrobj:zgF s val ρ=if isP (zag s ρ).1 125=true then (.mk 7 [] [] [],(zag s ρ).2) else (.mk 7 [] (zbU s val (s.length+2) (zag s ρ).2 (zag s ρ).1 [] []).1.1 (zbU s val (s.length+2) (zag s ρ).2 (zag s ρ).1 [] []).1.2,(zbU s val (s.length+2) (zag s ρ).2 (zag s ρ).1 [] []).2):=rfl
 generalize zag s ρ=N at hO3 hB1 hT1 hrobj ⊢;obtain⟨T,ρ1⟩:=N;simp only at hO3 hB1 hT1 hrobj ⊢;unfold zim tkC;simp only[sxZ,z6,z7,z8,j4,j5,j6,j7,j8,j9,x0,x6,x7,x8,x9,y4,reduceCtorEq,↓reduceIte,gn1,sn1];have f1:∀x y z,OB.box 56 [.i .i64 x,.s y,.i .i64 z]=za8 (x,y,z):=fun _ _ _=>rfl;rw[f1];have hO4:=hO3.new (za8 T);have hO4:zaS ((p,zaQ s ρ1)::(o3.length,za8 T)::(qv,jvB 7 .nil .nil)::(qr,zvB)::([]++([]++L))) (o3++[za8 T]):=hO4.perm (qx.swap _ _ _);generalize o3.length=qt at hO4 ⊢;generalize o3++[za8 (T.1,T.2.1,T.2.2)]=o4 at hO4 ⊢;have st:∀(o:List OB) (ρ':Rs) (T':Tk) (X:AV) (R1:List (Nat×OB)) (Y:AV) (R2:List (Nat×OB)),zaS ((p,zaQ s ρ')::(qt,za8 T')::(qv,jvB 7 X Y)::(qr,zvB)::(R1++(R2++L))) o->o[p]? = some (.box 53 [.s s,.i .i64 ρ'.pos,.i .i64 (ρ'.nodes:Int),.i .i64 ρ'.fail,.i .i64 ρ'.wh])/\o[qt]? = some (.box 56 [.i .i64 T'.1,.s T'.2.1,.i .i64 T'.2.2])/\o[qv]? = some (.box 25 [.i .i64 7,.s [],X,Y])/\o[qr]? = some (.box 25 [.i .i64 0,.s [],.nil,.nil])/\(∀x,(o.set qr x)[qr]? = some x)/\(∀x,(o.set qt x)[qt]? = some x)/\(∀x,(o.set qv x)[qv]? = some x) :=
  fun o ρ' T' X R1 Y R2 h=>⟨h.get (by simp[zaQ]),h.get (by simp[za8,tkC]),h.get (by simp[jvB]),h.get (by simp[zvB]),fun x=>zk (h.lt (i:=qr) (x:=zvB) (by simp)),fun x=>zk (h.lt (i:=qt) (x:=za8 T') (by simp)),fun x=>zk (h.lt (i:=qv) (x:=jvB 7 X Y) (by simp))⟩
 subst hZ0;refine zaa fun Z0 hZ0=>?_;obtain⟨e1,e2,e3,e4,s1,s2,s3⟩:=st _ _ _ _ _ _ _ hO4;simp only[sxZ,z6,z7,z8,j4,j5,j6,j7,j8,j9,x0,x6,x7,x8,x9,y4,reduceCtorEq,↓reduceIte,e2];refine zad (zf5 T 125 ?_)
 cases hcl:isP T 125 with
 | true=>
  rw[hcl,if_pos rfl] at hrobj;simp only[sxZ,z6,z7,z8,j4,j5,j6,j7,j8,j9,x0,x6,x7,x8,x9,y4,reduceCtorEq,↓reduceIte,e3,e4,s1];exact fin hrobj (.inl ⟨rfl,rfl,rfl,rfl,rfl,rfl⟩) hO4
 | false=>
  rw[hcl,if_neg Bool.false_ne_true] at hrobj;simp only[sxZ,z6,z7,z8,j4,j5,j6,j7,j8,j9,x0,x6,x7,x8,x9,y4,reduceCtorEq,↓reduceIte];subst hZ0;refine zaa fun Z0 hZ0=>?_;clear e1 e2 e3 e4 s1 s2 s3;simp only[sxZ,z6,z7,z8,j4,j5,j6,j7,j8,j9,x0,x6,x7,x8,x9,y4,reduceCtorEq,↓reduceIte];refine zaE (fun n o tm=>∃(i:Nat) (ρ':Rs) (T':Tk) (ks:List (List UInt8)) (its:List JV) (X:AV) (R1:List (Nat×OB)) (Y:AV) (R2:List (Nat×OB)),n=s.length+2 - i/\ks.length=i/\its.length=i/\zgF s val ρ=(.mk 7 [] (zbU s val n ρ' T' ks its).1.1 (zbU s val n ρ' T' ks its).1.2,(zbU s val n ρ' T' ks its).2)/\GB s ρ'/\T'.2.1.length<=s.length/\(ρ'.fail=0->i<=ρ'.nodes)/\SlP ks its X R1 Y R2/\zaS ((p,zaQ s ρ')::(qt,za8 T')::(qv,jvB 7 X Y)::(qr,zvB)::(R1++(R2++L))) o /\
    tm.length=98/\tm[0]? = some (.p p 0)/\tm[1]? = some (.i .i64 (d:Int))/\tm[4]? = some (.p qr 0)/\tm[5]? = some (.p qv 0)/\tm[6]? = some (.p qt 0)) (s.length+2) ⟨0,ρ1,T,[],[],.nil,[],.nil,[],rfl,rfl,rfl,hrobj,hB1.1,hT1,fun _=>zd _,.inl ⟨rfl,rfl,rfl,rfl,rfl,rfl⟩,hO4,rfl,rfl,rfl,rfl,rfl,rfl⟩ ?_
  clear hO hO1 hO2 hO2' hO3 hO4 hrobj hB1 hT1 hcl;rintro n o tm ⟨i,ρ',T',ks,its,X,R1,Y,R2,rfl,hi,hi2,hrobj,hGB,hTx,hnd,hS,hO,hlen,t0,t1,t4,t5,t6⟩;obtain⟨e1,e2,e3,e4,s1,s2,s3⟩:=st _ _ _ _ _ _ _ hO;refine zaa fun Z hZ=>?_
  by_cases c1:ρ'.fail=0
  rotate_left
  ·have he:zbU s val (s.length+2 - i) ρ' T' ks its=((ks,its),ρ'):=by
    cases s.length+2 - i with
    | zero=>rw[zbU]
    | succ m=>rw[zbU,if_pos c1]
   rw[he] at hrobj;simp only[sxZ,z6,z7,z8,j4,j5,j6,j7,j8,j9,x0,x6,x7,x8,x9,y4,reduceCtorEq,↓reduceIte,za,hlen,t0,e1,c1];subst hZ;subst hZ0;simp only[sxZ,z6,z7,z8,j4,j5,j6,j7,j8,j9,x0,x6,x7,x8,x9,y4,reduceCtorEq,↓reduceIte,za,hlen,t4,t5,e3,e4,s1,hS.flat.1,hS.flat.2];exact fin hrobj hS hO
  have hil:i<=s.length:=by
   have h1:=hnd c1;have h2:=hGB.n0 c1;have h3:=hGB.p1;omega
  obtain⟨m,hm⟩:∃m,s.length+2 - i=m+1:=⟨s.length+1 - i,by omega⟩;rw[hm,zbU,if_neg (fun h=>h c1)] at hrobj;simp only at hrobj;simp only[sxZ,z6,z7,z8,j4,j5,j6,j7,j8,j9,x0,x6,x7,x8,x9,y4,reduceCtorEq,↓reduceIte,za,hlen,t0,e1,c1];subst hZ;rw[zaZ];clear s1 s2 s3 e1 e4;refine zaa fun Z hZ=>?_;have hk1:∀t,t=ks->zkF ρ' T' t=(if T'.2.1∈ks then za4 (if ¬T'.1=3 then za4 ρ' T'.2.2 140 else ρ') T'.2.2 143 else if ¬T'.1=3 then za4 ρ' T'.2.2 140 else ρ'):=fun t h=>by rw[h];rfl
  have hk1:=hk1 ks rfl;have hGk:=gb_key hGB T' ks;have hnk:=rkey_n ρ' T' ks;generalize hρa:(if ¬T'.1=3 then za4 ρ' T'.2.2 140 else ρ')=ρa at hk1;refine zaJ (fun o tm=>zaS ((p,zaQ s ρa)::(qt,za8 T')::(qv,jvB 7 X Y)::(qr,zvB)::(R1++(R2++L))) o/\tm.length=98/\tm[0]? = some (.p p 0)/\tm[1]? = some (.i .i64 (d:Int))/\tm[4]? = some (.p qr 0)/\tm[5]? = some (.p qv 0)/\tm[6]? = some (.p qt 0)) ?_ ?_
  ·refine zaa fun W hW=>?_
   by_cases c3:T'.1=3
   ·rw[if_neg (fun h=>h c3)] at hρa;subst hρa;simp only[sxZ,z6,z7,z8,j4,j5,j6,j7,j8,j9,x0,x6,x7,x8,x9,y4,reduceCtorEq,↓reduceIte,za,hlen,t6,e2,c3];subst hW;simp only[sxZ,z6,z7,z8,j4,j5,j6,j7,j8,j9,x0,x6,x7,x8,x9,y4,reduceCtorEq,↓reduceIte,zac,zh,za,hlen,t0,t1,t4,t5,t6,and_self,and_true];exact hO
   ·rw[if_pos c3] at hρa;simp only[sxZ,z6,z7,z8,j4,j5,j6,j7,j8,j9,x0,x6,x7,x8,x9,y4,reduceCtorEq,↓reduceIte,za,hlen,t6,e2,c3];subst hW;simp only[sxZ,z6,z7,z8,j4,j5,j6,j7,j8,j9,x0,x6,x7,x8,x9,y4,reduceCtorEq,↓reduceIte,za,hlen,t0,t6,e2];refine zad (zcB hO T'.2.2 140 fun o8 hO8=>?_);rw[hρa] at hO8;simp only[sxZ,z6,z7,z8,j4,j5,j6,j7,j8,j9,x0,x6,x7,x8,x9,y4,reduceCtorEq,↓reduceIte,zac,zh,za,hlen,t0,t1,t4,t5,t6,and_self,and_true];exact hO8
  clear hO hlen t0 t1 t4 t5 t6 e2 e3;rintro oa tm ⟨hO,hlen,t0,t1,t4,t5,t6⟩;subst hZ;refine zaa fun Z hZ=>?_;refine zaJ (fun o tm=>zaS ((p,zaQ s (zkF ρ' T' ks))::(qt,za8 T')::(qv,jvB 7 X Y)::(qr,zvB)::(R1++(R2++L))) o/\tm.length=98/\tm[0]? = some (.p p 0)/\tm[1]? = some (.i .i64 (d:Int))/\tm[4]? = some (.p qr 0)/\tm[5]? = some (.p qv 0)/\tm[6]? = some (.p qt 0)) ?_ ?_
  ·obtain⟨e1,e2,e3,e4,s1,s2,s3⟩:=st _ _ _ _ _ _ _ hO;refine zaa fun W hW=>?_;have hPerm:((p,zaQ s ρa)::(qt,za8 T')::(qv,jvB 7 X Y)::(qr,zvB)::(R1++(R2++L))).Perm (R1++(R2++((p,zaQ s ρa)::(qt,za8 T')::(qv,jvB 7 X Y)::(qr,zvB)::L))):=by
    have h0:∀(A B C:List (Nat×OB)),(A++(B++C)).Perm (B++(A++C)):=fun A B C=>by
     rw[<-qb,<-qb];exact qx.append_right C List.perm_append_comm
    refine(h0 [(p,zaQ s ρa),(qt,za8 T'),(qv,jvB 7 X Y),(qr,zvB)] R1 (R2++L)).trans ?_;exact qx.append_left R1 (h0 [(p,zaQ s ρa),(qt,za8 T'),(qv,jvB 7 X Y),(qr,zvB)] R2 L)
   simp only[sxZ,z6,z7,z8,j4,j5,j6,j7,j8,j9,x0,x6,x7,x8,x9,y4,reduceCtorEq,↓reduceIte,za,hlen,t5,t6,e2,e3];refine zad (znF ks its T'.2.1 (by omega) (by omega) hS.k hS.i (hO.perm hPerm) (fun hm o w ho=>?_) (fun hm o ho=>?_))
   ·have ho:=ho.perm hPerm.symm;rw[if_pos hm] at hk1;rw[zae];simp only[sxZ,z6,z7,z8,j4,j5,j6,j7,j8,j9,x0,x6,x7,x8,x9,y4,reduceCtorEq,↓reduceIte,za,hlen,gn1,sn1];have ho2:=ho.app [OB.box 25 [.i .i64 w.kind,.s w.text,.row w.keys.length (w.keys.map .s),.row w.items.length (zab w.items)]];obtain⟨e1',e2',e3',_,_,_,_⟩:=st _ _ _ _ _ _ _ ho2;subst hW;simp only[sxZ,z6,z7,z8,j4,j5,j6,j7,j8,j9,x0,x6,x7,x8,x9,y4,reduceCtorEq,↓reduceIte,za,hlen,t0,t6,e2'];refine zad (zcB ho2 T'.2.2 143 fun o8 hO8=>?_);rw[<-hk1] at hO8;simp only[sxZ,z6,z7,z8,j4,j5,j6,j7,j8,j9,x0,x6,x7,x8,x9,y4,reduceCtorEq,↓reduceIte,zac,zh,za,hlen,t0,t1,t4,t5,t6,and_self,and_true];exact hO8
   ·have ho:=ho.perm hPerm.symm;rw[if_neg hm] at hk1;simp only[sxZ,z6,z7,z8,j4,j5,j6,j7,j8,j9,x0,x6,x7,x8,x9,y4,reduceCtorEq,↓reduceIte,za,hlen,gn1,sn1];have ho2:=ho.app [OB.box 25 [.i .i64 0,.s [],.nil,.nil]];subst hW;rw[<-hk1] at ho2;simp only[sxZ,z6,z7,z8,j4,j5,j6,j7,j8,j9,x0,x6,x7,x8,x9,y4,reduceCtorEq,↓reduceIte,zac,zh,za,hlen,t0,t1,t4,t5,t6,and_self,and_true];exact ho2
  clear hO hlen t0 t1 t4 t5 t6 hk1 hρa;generalize zkF ρ' T' ks=ρk at hrobj hGk hnk;rintro ob tm ⟨hO,hlen,t0,t1,t4,t5,t6⟩;subst hZ;refine zaa fun Z hZ=>?_;obtain⟨e1,e2,e3,e4,s1,s2,s3⟩:=st _ _ _ _ _ _ _ hO;simp only[sxZ,z6,z7,z8,j4,j5,j6,j7,j8,j9,x0,x6,x7,x8,x9,y4,reduceCtorEq,↓reduceIte,za,hlen,t6,e2];refine zbC (fun tm=>tm.length=98/\tm[0]? = some (.p p 0)/\tm[1]? = some (.i .i64 (d:Int))/\tm[4]? = some (.p qr 0)/\tm[5]? = some (.p qv 0)/\tm[6]? = some (.p qt 0)/\tm[9]? = some (.s T'.2.1)) ?_ ?_
  ·simp only[sxZ,z6,z7,z8,j4,j5,j6,j7,j8,j9,x0,x6,x7,x8,x9,y4,reduceCtorEq,↓reduceIte,zh,za,hlen,t0,t1,t4,t5,t6,and_self]
  clear hlen t0 t1 t4 t5 t6;rintro tm ⟨hlen,t0,t1,t4,t5,t6,t9⟩;subst hZ;refine zaa fun Z hZ=>?_;refine zaa fun W0 hW0=>?_;simp only[sxZ,z6,z7,z8,j4,j5,j6,j7,j8,j9,x0,x6,x7,x8,x9,y4,reduceCtorEq,↓reduceIte,za,hlen,t0];refine zad (zcT (by omega) hO fun o6 hO6=>?_);have hB_ρ2:=zbw hGk;have hT_ρ2:=zbR hGk;have hn_ρ2:=zbm s ρk;have hz_ρ2:=zcv s ρk;generalize zag s ρk=N at hO6 hB_ρ2 hT_ρ2 hn_ρ2 hz_ρ2 hrobj ⊢;obtain⟨T2,ρ2⟩:=N;simp only at hO6 hB_ρ2 hT_ρ2 hn_ρ2 hz_ρ2 hrobj ⊢;obtain⟨e1,e2,e3,e4,s1,s2,s3⟩:=st _ _ _ _ _ _ _ hO6;unfold zim tkC;simp only[sxZ,z6,z7,z8,j4,j5,j6,j7,j8,j9,x0,x6,x7,x8,x9,y4,reduceCtorEq,↓reduceIte,za,hlen,t6,e2,s2];rw[f1];have hO7:zaS ((p,zaQ s ρ2)::(qt,za8 T2)::(qv,jvB 7 X Y)::(qr,zvB)::(R1++(R2++L))) (o6.set qt (za8 (T2.1,T2.2.1,T2.2.2))):=zaS.set (A:=[(p,zaQ s ρ2)]) (za8 T2) hO6;generalize o6.set qt (za8 (T2.1,T2.2.1,T2.2.2))=o7 at hO7 ⊢;refine zbC (fun tm=>tm.length=98/\tm[0]? = some (.p p 0)/\tm[1]? = some (.i .i64 (d:Int))/\tm[4]? = some (.p qr 0)/\tm[5]? = some (.p qv 0)/\tm[6]? = some (.p qt 0)/\tm[9]? = some (.s T'.2.1)) ?_ ?_
  ·simp only[sxZ,z6,z7,z8,j4,j5,j6,j7,j8,j9,x0,x6,x7,x8,x9,y4,reduceCtorEq,↓reduceIte,zh,za,hlen,t0,t1,t4,t5,t6,t9,and_self]
  clear hO6 hO hlen t0 t1 t4 t5 t6 t9 e1 e2 e3 e4 s1 s2 s3;rintro tm ⟨hlen,t0,t1,t4,t5,t6,t9⟩;have hO:=hO7;clear hO7;subst hW0;refine zaJ (fun o tm=>zaS ((p,zaQ s (za9 ρ2 T2 58))::(qt,za8 T2)::(qv,jvB 7 X Y)::(qr,zvB)::(R1++(R2++L))) o/\tm.length=98/\tm[0]? = some (.p p 0)/\tm[1]? = some (.i .i64 (d:Int))/\tm[4]? = some (.p qr 0)/\tm[5]? = some (.p qv 0)/\tm[6]? = some (.p qt 0)/\tm[9]? = some (.s T'.2.1)) ?_ ?_
  ·obtain⟨e1,e2,e3,e4,s1,s2,s3⟩:=st _ _ _ _ _ _ _ hO;refine zaa fun W hW=>?_
   by_cases c3:ρ2.fail=0
   rotate_left
   ·have hw:za9 ρ2 T2 58=ρ2:=by unfold za9;rw[if_neg (fun h=>c3 h.1)]
    simp only[sxZ,z6,z7,z8,j4,j5,j6,j7,j8,j9,x0,x6,x7,x8,x9,y4,reduceCtorEq,↓reduceIte,za,hlen,t0,e1,c3];subst hW;simp only[sxZ,z6,z7,z8,j4,j5,j6,j7,j8,j9,x0,x6,x7,x8,x9,y4,reduceCtorEq,↓reduceIte,zac,zh,za,hlen,t0,t1,t4,t5,t6,t9,hw,and_self,and_true];exact hO
   ·simp only[sxZ,z6,z7,z8,j4,j5,j6,j7,j8,j9,x0,x6,x7,x8,x9,y4,reduceCtorEq,↓reduceIte,za,hlen,t0,t6,e1,e2,c3];refine zad (zf5 T2 58 ?_)
    cases h44:isP T2 58 with
    | true=>
     have hw:za9 ρ2 T2 58=ρ2:=by unfold za9;rw[if_neg (fun h=>by rw[h44] at h;cases h.2)]
     simp only[sxZ,z6,z7,z8,j4,j5,j6,j7,j8,j9,x0,x6,x7,x8,x9,y4,reduceCtorEq,↓reduceIte,za,hlen];subst hW;simp only[sxZ,z6,z7,z8,j4,j5,j6,j7,j8,j9,x0,x6,x7,x8,x9,y4,reduceCtorEq,↓reduceIte,zac,zh,za,hlen,t0,t1,t4,t5,t6,t9,hw,and_self,and_true];exact hO
    | false=>
     have hw:za9 ρ2 T2 58=za4 ρ2 T2.2.2 140:=by unfold za9;rw[if_pos ⟨c3,h44⟩]
     simp only[sxZ,z6,z7,z8,j4,j5,j6,j7,j8,j9,x0,x6,x7,x8,x9,y4,reduceCtorEq,↓reduceIte,za,hlen];subst hW;simp only[sxZ,z6,z7,z8,j4,j5,j6,j7,j8,j9,x0,x6,x7,x8,x9,y4,reduceCtorEq,↓reduceIte,za,hlen,t0,t6,e2];refine zad (zcB hO T2.2.2 140 fun o8 hO8=>?_);simp only[sxZ,z6,z7,z8,j4,j5,j6,j7,j8,j9,x0,x6,x7,x8,x9,y4,reduceCtorEq,↓reduceIte,zac,zh,za,hlen,t0,t1,t4,t5,t6,t9,hw,and_self,and_true];exact hO8
  clear hO hlen t0 t1 t4 t5 t6 t9;rintro oc tm ⟨hO,hlen,t0,t1,t4,t5,t6,t9⟩;have hG3:=ze8 hB_ρ2.1 T2 58;have hn3:=zeT ρ2 T2 58;have hz3:=zeU ρ2 T2 58;generalize za9 ρ2 T2 58=ρ3 at hO hG3 hn3 hz3 hrobj;subst hZ;refine zaa fun Z hZ=>?_;simp only[sxZ,z6,z7,z8,j4,j5,j6,j7,j8,j9,x0,x6,x7,x8,x9,y4,reduceCtorEq,↓reduceIte,za,hlen,t0];refine zad (zcT (by omega) hO fun o6 hO6=>?_);have hB4:=zbw hG3;have hT4:=zbR hG3;have hn4:=zbm s ρ3;have hz4:=zcv s ρ3;generalize zag s ρ3=N at hO6 hB4 hT4 hn4 hz4 hrobj ⊢;obtain⟨T4,ρ4⟩:=N;simp only at hO6 hB4 hT4 hn4 hz4 hrobj ⊢;have hvc:=fun {objs:List OB} {K:List OB->AV->Prop} {L:List (Nat×OB)} (h1) (h2) (h3)=>hv (objs:=objs) (K:=K) (L:=L) (ρ:=ρ4) T4 hB4.1 hB4.2 hT4 h1 h2 h3;have hg5:=hg ρ4 T4 hB4.1 hB4.2;have hn5:=hn ρ4 T4;have hz5:=hvz ρ4 T4;generalize val ρ4 T4=a at hvc hg5 hn5 hz5 hrobj;obtain⟨v,ρ5⟩:=a;simp only at hvc hg5 hn5 hz5 hrobj;obtain⟨c0,c1',c2,c3,hcv⟩:∃c0 c1 c2 c3,zao v=[c0,c1,c2,c3]:=⟨_,_,_,_,zae v⟩;have hcf:(AV.agg [c0,c1',c2,c3]).flat=true:=by
   have:=zae v;rw[hcv] at this;injection this with q0 this
   injection this with q1 this
   injection this with q2 this
   injection this with q3 _
   subst q0 q1 q2 q3
   rfl
  have hCL:zaR ((p,zaQ s ρ4)::(qt,za8 T2)::(qv,jvB 7 X Y)::(qr,zvB)::(R1++(R2++L))):=zhe hS.k hS.i hC;unfold zim tkC;simp only[sxZ,z6,z7,z8,j4,j5,j6,j7,j8,j9,x0,x6,x7,x8,x9,y4,reduceCtorEq,↓reduceIte,za,hlen,t0,t1];refine zad (hvc hCL hO6 fun o7 hO7=>?_);rw[hcv];simp only[sxZ,z6,z7,z8,j4,j5,j6,j7,j8,j9,x0,x6,x7,x8,x9,y4,reduceCtorEq,↓reduceIte,za,hlen,gn1,sn1,hcf];have hO8:=hO7.new (.box 25 [c0,c1',c2,c3]);generalize o7.length=qi at hO8 ⊢;generalize o7++[OB.box 25 [c0,c1',c2,c3]]=o8 at hO8 ⊢;refine zbC (fun tm=>tm.length=98/\tm[0]? = some (.p p 0)/\tm[1]? = some (.i .i64 (d:Int))/\tm[4]? = some (.p qr 0)/\tm[5]? = some (.p qv 0)/\tm[6]? = some (.p qt 0)/\tm[9]? = some (.s T'.2.1)/\tm[10]? = some (.p qi 0)) ?_ ?_
  ·simp only[sxZ,z6,z7,z8,j4,j5,j6,j7,j8,j9,x0,x6,x7,x8,x9,y4,reduceCtorEq,↓reduceIte,zh,za,hlen,t0,t1,t4,t5,t6,t9,and_self]
  clear hO hO6 hO7 hlen t0 t1 t4 t5 t6 t9;rintro tm ⟨hlen,t0,t1,t4,t5,t6,t9,t10⟩;subst hZ;refine zaa fun Z hZ=>?_;have hO8p:zaS ((p,zaQ s ρ5)::(qt,za8 T2)::(qv,jvB 7 X Y)::(qr,zvB)::(R1++(R2++L))) o8:=hO8.sub (jj _ _);obtain⟨e1,e2,e3,e4,s1,s2,s3⟩:=st _ _ _ _ _ _ _ hO8p;have ei:=hO8.get (i:=qi) (x:=.box 25 [c0,c1',c2,c3]) (by simp);refine zaJ (fun o tm=>∃X' R1' Y' R2',SlP (ks++[T'.2.1]) (its++[v]) X' R1' Y' R2'/\zaS ((p,zaQ s ρ5)::(qt,za8 T2)::(qv,jvB 7 X' Y')::(qr,zvB)::(R1'++(R2'++L))) o/\tm.length=98/\tm[0]? = some (.p p 0)/\tm[1]? = some (.i .i64 (d:Int))/\tm[4]? = some (.p qr 0)/\tm[5]? = some (.p qv 0)/\tm[6]? = some (.p qt 0)) ?_ ?_
  ·rcases hS with ⟨z1,z2,rfl,rfl,rfl,rfl⟩|⟨b1,g1,b2,g2,rfl,rfl,rfl,rfl⟩
   ·have hlq:=(zf.1 e3).1;have hli:=(zf.1 ei).1;have n1:¬qv=o8.length:=by omega
    have n2:¬qi=o8.length:=by omega
    have h1:∀x,(o8++[x])[qv]? = some (.box 25 [.i .i64 7,.s [],.nil,.nil]):=fun x=>by rw[qc hlq];exact e3
    have h2:∀x,(o8++[x])[qi]? = some (.box 25 [c0,c1',c2,c3]):=fun x=>by rw[qc hli];exact ei
    have h3:∀x y,(o8++[x]++[y])[qv]? = some (.box 25 [.i .i64 7,.s [],.nil,.nil]):=fun x y=>by rw[qc (by simp;omega)];exact h1 x
    have h4:∀x y z,((o8++[x]++[y]).set qv z)[qv]? = some z:=fun x y z=>zk (by simp;omega);subst z1 z2;simp only[sxZ,z6,z7,z8,j4,j5,j6,j7,j8,j9,x0,x6,x7,x8,x9,y4,reduceCtorEq,↓reduceIte,za,hlen,t5,t9,t10,e3,ei,gn1,sn1,h1,h2,h3,h4,n1,n2,zac,zh,List.set_set,t0,t1,t4,t6,and_self,and_true,not_false_eq_true,true_and];have hN:=(hO8p.new (.orow 9 1 0 1 [AV.s T'.2.1])).new (.orow 25 4 0 1 [c0,c1',c2,c3]);have elen:(o8++[OB.orow 9 1 0 1 [AV.s T'.2.1]]).length=o8.length+1:=by simp
    rw[elen] at hN;have hR:=hN.set (A:=[(o8.length+1,OB.orow 25 4 0 1 [c0,c1',c2,c3]),(o8.length,OB.orow 9 1 0 1 [AV.s T'.2.1]),(p,zaQ s ρ5),(qt,za8 T2)]) (jvB 7 (.orow o8.length 0) (.orow (o8.length+1) 0));refine⟨_,[(o8.length,OB.orow 9 1 0 1 [AV.s T'.2.1])],_,[(o8.length+1,OB.orow 25 4 0 1 [c0,c1',c2,c3])],.inr ⟨_,_,_,_,rfl,rfl,rfl,by rw[zaK,zaA,hcv];rfl⟩,hR.perm ?_⟩;refine(List.perm_append_comm (l₁:=[(o8.length+1,OB.orow 25 4 0 1 [c0,c1',c2,c3]),(o8.length,OB.orow 9 1 0 1 [AV.s T'.2.1])]) (l₂:=[(p,zaQ s ρ5),(qt,za8 T2),(qv,jvB 7 (.orow o8.length 0) (.orow (o8.length+1) 0)),(qr,zvB)])).append_right L |>.trans ?_;exact qx.cons _ (qx.cons _ (qx.cons _ (qx.cons _ (qx.swap _ _ _))))
   ·have eb1:=hO8.get (i:=b1) (x:=.orow 9 1 g1 ks.length (ks.map .s)) (by simp);have eb2:=hO8.get (i:=b2) (x:=.orow 25 4 g2 its.length (zab its)) (by simp);have hlq:=(zf.1 e3).1;have hl1:=(zf.1 eb1).1;have hl2:=(zf.1 eb2).1;have hnd8:=hO8.1;simp only[zo,je,zx,y7,List.cons_append,qp,zt,zy,xg,or_false,not_or] at hnd8;have n1:¬qv=b1:=hnd8.2.2.2.1.2.1;have n2:¬qi=b1:=hnd8.1.2.2.2.2.1;have n3:¬b1=b2:=hnd8.2.2.2.2.2.1.1;have n4:¬qv=b2:=hnd8.2.2.2.1.2.2.1;have n1':¬b1=qv:=fun h=>n1 h.symm;have n2':¬b1=qi:=fun h=>n2 h.symm;have n4':¬b2=qv:=fun h=>n4 h.symm;have h0:∀x,(o8.set b1 x)[b1]? = some x:=fun x=>zk hl1;have h1:∀x,(o8.set b1 x)[qv]? = some (.box 25 [.i .i64 7,.s [],.orow b1 g1,.orow b2 g2]):=fun x=>by rw[zi n1'];exact e3
    have h2:∀x,(o8.set b1 x)[qi]? = some (.box 25 [c0,c1',c2,c3]):=fun x=>by rw[zi n2'];exact ei
    have h5:∀x,(o8.set b1 x)[b2]? = some (.orow 25 4 g2 its.length (zab its)):=fun x=>by rw[zi n3];exact eb2
    have h3:∀x y,((o8.set b1 x).set b2 y)[qv]? = some (.box 25 [.i .i64 7,.s [],.orow b1 g1,.orow b2 g2]):=fun x y=>by rw[zi n4'];exact h1 x
    have h4:∀x y z,(((o8.set b1 x).set b2 y).set qv z)[qv]? = some z:=fun x y z=>zk (by simp;omega);have hjl:=zaI its;simp only[sxZ,z6,z7,z8,j4,j5,j6,j7,j8,j9,x0,x6,x7,x8,x9,y4,reduceCtorEq,↓reduceIte,za,hlen,t5,t9,t10,e3,ei,eb1,h0,h1,h2,h3,h4,h5,n1,n2,zac,zh,List.set_set,t0,t1,t4,t6,and_self,and_true,not_false_eq_true,true_and];refine⟨⟨by omega,by omega⟩,⟨by omega,by omega⟩,?_⟩;have hN:=hO8p.set (A:=[(p,zaQ s ρ5),(qt,za8 T2),(qv,jvB 7 (.orow b1 g1) (.orow b2 g2)),(qr,zvB)]) (.orow 9 1 (g1+1) (ks.length+1) (ks.map AV.s++[AV.s T'.2.1]));have hN:=hN.set (A:=[(p,zaQ s ρ5),(qt,za8 T2),(qv,jvB 7 (.orow b1 g1) (.orow b2 g2)),(qr,zvB),(b1,OB.orow 9 1 (g1+1) (ks.length+1) (ks.map AV.s++[AV.s T'.2.1]))]) (.orow 25 4 (g2+1) (its.length+1) (zab its++[c0,c1',c2,c3]));have hR:=hN.set (A:=[(p,zaQ s ρ5),(qt,za8 T2)]) (jvB 7 (.orow b1 (g1+1)) (.orow b2 (g2+1)));exact⟨_,[(b1,OB.orow 9 1 (g1+1) (ks.length+1) (ks.map AV.s++[AV.s T'.2.1]))],_,[(b2,OB.orow 25 4 (g2+1) (its.length+1) (zab its++[c0,c1',c2,c3]))],.inr ⟨_,_,_,_,rfl,by rw[je,zm];rfl,rfl,by rw[zgh,zaK,zaA,hcv,zm];rfl⟩,hR⟩
  clear hO8 hO8p hS hlen t0 t1 t4 t5 t6 t9 t10 e1 e2 e3 e4 s1 s2 s3 ei hCL hvc hv hg hn hcf hB hGB hTx;rintro oc tm ⟨X',R1',Y',R2',hS,hO,hlen,t0,t1,t4,t5,t6⟩;subst hZ;refine zaa fun Z hZ=>?_;simp only[sxZ,z6,z7,z8,j4,j5,j6,j7,j8,j9,x0,x6,x7,x8,x9,y4,reduceCtorEq,↓reduceIte,za,hlen,t0];refine zad (zcT (by omega) hO fun o6 hO6=>?_);have hB_ρ6:=zbw hg5;have hT_ρ6:=zbR hg5;have hn_ρ6:=zbm s ρ5;have hz_ρ6:=zcv s ρ5;generalize zag s ρ5=N at hO6 hB_ρ6 hT_ρ6 hn_ρ6 hz_ρ6 hrobj ⊢;obtain⟨T6,ρ6⟩:=N;simp only at hO6 hB_ρ6 hT_ρ6 hn_ρ6 hz_ρ6 hrobj ⊢;obtain⟨e1,e2,e3,e4,s1,s2,s3⟩:=st _ _ _ _ _ _ _ hO6;unfold zim tkC;simp only[sxZ,z6,z7,z8,j4,j5,j6,j7,j8,j9,x0,x6,x7,x8,x9,y4,reduceCtorEq,↓reduceIte,za,hlen,t6,e2,s2];rw[f1];have hO7:zaS ((p,zaQ s ρ6)::(qt,za8 T6)::(qv,jvB 7 X' Y')::(qr,zvB)::(R1'++(R2'++L))) (o6.set qt (za8 (T6.1,T6.2.1,T6.2.2))):=zaS.set (A:=[(p,zaQ s ρ6)]) (za8 T6) hO6;generalize o6.set qt (za8 (T6.1,T6.2.1,T6.2.2))=o7 at hO7 ⊢;refine zbC (fun tm=>tm.length=98/\tm[0]? = some (.p p 0)/\tm[1]? = some (.i .i64 (d:Int))/\tm[4]? = some (.p qr 0)/\tm[5]? = some (.p qv 0)/\tm[6]? = some (.p qt 0)) ?_ ?_
  ·simp only[sxZ,z6,z7,z8,j4,j5,j6,j7,j8,j9,x0,x6,x7,x8,x9,y4,reduceCtorEq,↓reduceIte,zh,za,hlen,t0,t1,t4,t5,t6,and_self]
  clear hO6 hO hlen t0 t1 t4 t5 t6 e1 e2 e3 e4 s1 s2 s3;rintro tm ⟨hlen,t0,t1,t4,t5,t6⟩;have hO:=hO7;clear hO7;subst hZ;refine zaa fun Z hZ=>?_;obtain⟨e1,e2,e3,e4,s1,s2,s3⟩:=st _ _ _ _ _ _ _ hO;simp only[sxZ,z6,z7,z8,j4,j5,j6,j7,j8,j9,x0,x6,x7,x8,x9,y4,reduceCtorEq,↓reduceIte,za,hlen,t6,e2];refine zad (zf5 T6 125 ?_)
  cases hcl:isP T6 125 with
  | true=>
   rw[hcl,if_pos rfl] at hrobj;simp only[sxZ,z6,z7,z8,j4,j5,j6,j7,j8,j9,x0,x6,x7,x8,x9,y4,reduceCtorEq,↓reduceIte,za,hlen,t4,t5,e3,e4,s1,hS.flat.1,hS.flat.2];exact fin hrobj hS hO
  | false=>
  rw[hcl,if_neg Bool.false_ne_true] at hrobj;simp only[sxZ,z6,z7,z8,j4,j5,j6,j7,j8,j9,x0,x6,x7,x8,x9,y4,reduceCtorEq,↓reduceIte,za,hlen];refine zbC (fun tm=>tm.length=98/\tm[0]? = some (.p p 0)/\tm[1]? = some (.i .i64 (d:Int))/\tm[4]? = some (.p qr 0)/\tm[5]? = some (.p qv 0)/\tm[6]? = some (.p qt 0)) ?_ ?_
  ·simp only[sxZ,z6,z7,z8,j4,j5,j6,j7,j8,j9,x0,x6,x7,x8,x9,y4,reduceCtorEq,↓reduceIte,zh,za,hlen,t0,t1,t4,t5,t6,and_self]
  clear hlen t0 t1 t4 t5 t6 e1 e2 e3 e4 s1 s2 s3;rintro tm ⟨hlen,t0,t1,t4,t5,t6⟩;subst hZ;refine zaa fun Z hZ=>?_;refine zaJ (fun o tm=>zaS ((p,zaQ s (za9 ρ6 T6 44))::(qt,za8 T6)::(qv,jvB 7 X' Y')::(qr,zvB)::(R1'++(R2'++L))) o/\tm.length=98/\tm[0]? = some (.p p 0)/\tm[1]? = some (.i .i64 (d:Int))/\tm[4]? = some (.p qr 0)/\tm[5]? = some (.p qv 0)/\tm[6]? = some (.p qt 0)) ?_ ?_
  ·obtain⟨e1,e2,e3,e4,s1,s2,s3⟩:=st _ _ _ _ _ _ _ hO;refine zaa fun W hW=>?_
   by_cases c3:ρ6.fail=0
   rotate_left
   ·have hw:za9 ρ6 T6 44=ρ6:=by unfold za9;rw[if_neg (fun h=>c3 h.1)]
    simp only[sxZ,z6,z7,z8,j4,j5,j6,j7,j8,j9,x0,x6,x7,x8,x9,y4,reduceCtorEq,↓reduceIte,za,hlen,t0,e1,c3];subst hW;simp only[sxZ,z6,z7,z8,j4,j5,j6,j7,j8,j9,x0,x6,x7,x8,x9,y4,reduceCtorEq,↓reduceIte,zac,zh,za,hlen,t0,t1,t4,t5,t6,hw,and_self,and_true];exact hO
   ·simp only[sxZ,z6,z7,z8,j4,j5,j6,j7,j8,j9,x0,x6,x7,x8,x9,y4,reduceCtorEq,↓reduceIte,za,hlen,t0,t6,e1,e2,c3];refine zad (zf5 T6 44 ?_)
    cases h44:isP T6 44 with
    | true=>
     have hw:za9 ρ6 T6 44=ρ6:=by unfold za9;rw[if_neg (fun h=>by rw[h44] at h;cases h.2)]
     simp only[sxZ,z6,z7,z8,j4,j5,j6,j7,j8,j9,x0,x6,x7,x8,x9,y4,reduceCtorEq,↓reduceIte,za,hlen];subst hW;simp only[sxZ,z6,z7,z8,j4,j5,j6,j7,j8,j9,x0,x6,x7,x8,x9,y4,reduceCtorEq,↓reduceIte,zac,zh,za,hlen,t0,t1,t4,t5,t6,hw,and_self,and_true];exact hO
    | false=>
     have hw:za9 ρ6 T6 44=za4 ρ6 T6.2.2 140:=by unfold za9;rw[if_pos ⟨c3,h44⟩]
     simp only[sxZ,z6,z7,z8,j4,j5,j6,j7,j8,j9,x0,x6,x7,x8,x9,y4,reduceCtorEq,↓reduceIte,za,hlen];subst hW;simp only[sxZ,z6,z7,z8,j4,j5,j6,j7,j8,j9,x0,x6,x7,x8,x9,y4,reduceCtorEq,↓reduceIte,za,hlen,t0,t6,e2];refine zad (zcB hO T6.2.2 140 fun o8 hO8=>?_);simp only[sxZ,z6,z7,z8,j4,j5,j6,j7,j8,j9,x0,x6,x7,x8,x9,y4,reduceCtorEq,↓reduceIte,zac,zh,za,hlen,t0,t1,t4,t5,t6,hw,and_self,and_true];exact hO8
  clear hO hlen t0 t1 t4 t5 t6;rintro oc tm ⟨hO,hlen,t0,t1,t4,t5,t6⟩;have hG7:=ze8 hB_ρ6.1 T6 44;have hn7:=zeT ρ6 T6 44;have hz7:=zeU ρ6 T6 44;generalize za9 ρ6 T6 44=ρ7 at hO hG7 hn7 hz7 hrobj;subst hZ;simp only[sxZ,z6,z7,z8,j4,j5,j6,j7,j8,j9,x0,x6,x7,x8,x9,y4,reduceCtorEq,↓reduceIte,za,hlen,t0];refine zad (zcT (by omega) hO fun o9 hO9=>?_);have hB8:=zbw hG7;have hT8:=zbR hG7;have hn8:=zbm s ρ7;have hz8:=zcv s ρ7;generalize zag s ρ7=N at hO9 hB8 hT8 hn8 hz8 hrobj ⊢;obtain⟨T8,ρ8⟩:=N;simp only at hO9 hB8 hT8 hn8 hz8 hrobj ⊢;obtain⟨e1,e2,e3,e4,s1,s2,s3⟩:=st _ _ _ _ _ _ _ hO9;unfold zim tkC;simp only[sxZ,z6,z7,z8,j4,j5,j6,j7,j8,j9,x0,x6,x7,x8,x9,y4,reduceCtorEq,↓reduceIte,za,hlen,t6,e2,s2];rw[f1];have hO10:zaS ((p,zaQ s ρ8)::(qt,za8 T8)::(qv,jvB 7 X' Y')::(qr,zvB)::(R1'++(R2'++L))) (o9.set qt (za8 (T8.1,T8.2.1,T8.2.2))):=zaS.set (A:=[(p,zaQ s ρ8)]) (za8 T8) hO9;generalize o9.set qt (za8 (T8.1,T8.2.1,T8.2.2))=o10 at hO10 ⊢;have zz:∀{a b:Rs},zmH a b->b.fail=0->a.fail=0:=fun {a b} h hb=>by
   by_cases c:a.fail=0
   ·exact c
   ·exact absurd ((h c).1.symm.trans hb) c
  refine⟨m,by omega,i+1,ρ8,T8,ks++[T'.2.1],its++[v],X',R1',Y',R2',by omega,by rw[zm,hi];rfl,by rw[zm,hi2];rfl,hrobj,hB8.1,hT8,fun hf=>?_,hS,hO10,?_⟩
  ·have q7:=zz hz8 hf;have q6:=zz hz7 q7;have q5:=zz hz_ρ6 q6;have q4:=zz hz5 q5;have:=hn5 q5;have:=hnd c1;omega
  ·simp only[sxZ,z6,z7,z8,j4,j5,j6,j7,j8,j9,x0,x6,x7,x8,x9,y4,reduceCtorEq,↓reduceIte,zh,za,hlen,t0,t1,t4,t5,t6,and_self]
end
end
section
attribute [local irreducible] run
theorem zmB {L L':List (Nat×OB)} (h:zaR L) (hm:∀y,y∈L'↔y∈L):zaR L':=fun y hy b g n xs hb=>h y ((hm y).1 hy) b g n xs fun z hz=>hb z ((hm z).2 hz)
theorem zfc {x:Nat×OB} {i T:Nat} {cs:List AV} {L:List (Nat×OB)} (h:zaR (x::L)) (hp:zan cs=true):zaR (x::(i,.box T cs)::L) :=
 zmB (zdG (i:=i) (T:=T) h hp) fun y=>by simp only[zt];exact⟨fun h=>by rcases h with h|h|h<;>simp[h],fun h=>by rcases h with h|h|h<;>simp[h]⟩
theorem den_leaf {k:Int} {x:List UInt8} {G:Gh} {I:Imm} {y:Value} (h:Den G I (.agg [.i .i64 k,.s x,.nil,.nil]) y):Den G I (.agg (zao (.mk k x [] []))) y:=by
 rw[zao,zaA];simp only[zaj,Den] at h ⊢;obtain⟨zs,rfl,⟨z0,m0,rfl,q0,z1,m1,rfl,q1,z2,m2,rfl,q2,z3,m3,rfl,q3,q4⟩,hz⟩:=h;refine⟨_,rfl,⟨_,_,rfl,q0,_,_,rfl,q1,_,_,rfl,?_,_,_,rfl,?_,q4⟩,hz⟩
 ·exact⟨none,0,[],q2,⟨ze _,fun ad h=>by cases h⟩,rfl,by simp,by simp⟩
 ·exact⟨none,0,[],q3,⟨ze _,fun ad h=>by cases h⟩,rfl,by simp,by simp⟩
def Res (K:List OB->AV->Prop) (v:JV) (o:List OB) (r:AV):Prop:=(∀G I y,Den G I r y->Den G I (.agg (zao v)) y)/\K o (.agg (zao v))
theorem zen {K:List OB->AV->Prop} {k:Int} {x:List UInt8} {o:List OB} (h:K o (.agg (zao (.mk k x [] [])))):Res K (.mk k x [] []) o (.agg [.i .i64 k,.s x,.nil,.nil]):=⟨fun _ _ _ hy=>den_leaf hy,h⟩
section
variable [Tabs Tryz.prog] [Utf Tryz.prog] {p:Nat} {s:List UInt8}
theorem value_k (hs:s.length<=1048576):∀f d,f+d=65->d<=64->ValK s p d (fun ρ t=>zat s f ρ t d):=by
 intro f
 induction f with
 | zero=>intro d hd hd2;omega
 | succ f ih=>
  intro d hd hd2;unfold ValK;intro objs K L ρ t hB hT hTx hC hO hk;dsimp only at hk;refine jres (.agg (zao (zat s (f+1) ρ t d).1)) ?_;show zaf _ _ _ _ (Res K (zat s (f+1) ρ t d).1);refine zcj is_ref14_parser_value fun C _=>?_;obtain⟨k5,k4,kw,k6,k7,kw2⟩:=vk_kind (t:=t);rw[c_ref14_parser_value];refine zaa fun Z hZ=>?_;unfold zim tkC;simp only[sxZ,z6,z7,z8,j4,j5,j6,j7,j8,j9,x0,x6,x7,x8,x9,y4,reduceCtorEq,↓reduceIte];have hO1:=(hO.new (za8 t)).new zvB;have elen:(objs++[za8 t]).length=objs.length+1:=by simp
  rw[elen] at hO1;unfold za8 tkC zvB at hO1;generalize objs.length=qt at hO1 ⊢;generalize objs++[OB.box 56 [.i .i64 t.1,.s t.2.1,.i .i64 t.2.2]]++[OB.box 25 [.i .i64 0,.s [],.nil,.nil]]=o at hO1 ⊢;have hO1:zaS ((p,zaQ s ρ)::(qt,za8 t)::(qt+1,zvB)::L) o:=hO1.perm ((List.reverse_perm [(p,zaQ s ρ),(qt,za8 t),(qt+1,zvB)]).append_right L);generalize qt+1=qr at hO1 ⊢;have fin:∀(o:List OB) (ρ':Rs) (x:OB) (M:List (Nat×OB)),zaS ((p,zaQ s ρ')::(qt,za8 t)::(qr,zvB)::(M++L)) o->zaS ((p,zaQ s ρ')::L) (o.set qr x):=fun o ρ' x M h=>(zaS.set (A:=[(p,zaQ s ρ'),(qt,za8 t)]) x h).sub ((((List.sublist_append_right M L).trans (jj _ _)).trans (jj _ _)).cons_cons _);have st:∀(o:List OB) (ρ':Rs) (M:List (Nat×OB)),zaS ((p,zaQ s ρ')::(qt,za8 t)::(qr,zvB)::(M++L)) o->o[p]? = some (.box 53 [.s s,.i .i64 ρ'.pos,.i .i64 (ρ'.nodes:Int),.i .i64 ρ'.fail,.i .i64 ρ'.wh])/\o[qt]? = some (.box 56 [.i .i64 t.1,.s t.2.1,.i .i64 t.2.2])/\o[qr]? = some (.box 25 [.i .i64 0,.s [],.nil,.nil])/\(∀x,(o.set qr x)[qr]? = some x) :=
   fun o ρ' M h=>⟨h.get (by simp[zaQ]),h.get (by simp[za8,tkC]),h.get (by simp[zvB]),fun x=>zk (h.lt (i:=qr) (x:=zvB) (by simp))⟩
  have hO1:zaS ((p,zaQ s ρ)::(qt,za8 t)::(qr,zvB)::([]++L)) o:=hO1;obtain⟨e1,e2,e3,s1⟩:=st _ _ _ hO1;subst hZ;refine zaa fun Z hZ=>?_;refine zaJ (fun o' tm=>o=o'/\tm.length=117/\tm[0]? = some (.p p 0)/\tm[2]? = some (.i .i64 (d:Int))/\tm[4]? = some (.p qt 0)/\tm[6]? = some (.p qr 0)/\tm[7]? = some (.b (!decide (vkE t=0)))) ?_ ?_
  ·by_cases a3:t.1=3
   ·have hv:¬vkE t=0:=by have:=k5.2 a3;omega
    simp only[sxZ,z6,z7,z8,j4,j5,j6,j7,j8,j9,x0,x6,x7,x8,x9,y4,reduceCtorEq,↓reduceIte,e2,a3,zac,hv,decide_false,Bool.not_false,and_self]
   by_cases a4:t.1=4
   ·have hv:¬vkE t=0:=by have:=k4.2 a4;omega
    simp only[sxZ,z6,z7,z8,j4,j5,j6,j7,j8,j9,x0,x6,x7,x8,x9,y4,reduceCtorEq,↓reduceIte,e2,a3,a4,zac,hv,decide_false,Bool.not_false,and_self]
   by_cases a5:t.1=5
   ·have hv:¬vkE t=0:=by have:=kw.2 a5;omega
    simp only[sxZ,z6,z7,z8,j4,j5,j6,j7,j8,j9,x0,x6,x7,x8,x9,y4,reduceCtorEq,↓reduceIte,e2,a3,a4,a5,zac,hv,decide_false,Bool.not_false,and_self]
   simp only[sxZ,z6,z7,z8,j4,j5,j6,j7,j8,j9,x0,x6,x7,x8,x9,y4,reduceCtorEq,↓reduceIte,e2,a3,a4,a5];refine zad (zf5 t 91 ?_)
   cases h91:isP t 91 with
   | true=>
    have hv:¬vkE t=0:=by have:=k6.2 h91;omega
    simp only[sxZ,z6,z7,z8,j4,j5,j6,j7,j8,j9,x0,x6,x7,x8,x9,y4,reduceCtorEq,↓reduceIte,zac,hv,decide_false,Bool.not_false,and_self]
   | false=>
    simp only[sxZ,z6,z7,z8,j4,j5,j6,j7,j8,j9,x0,x6,x7,x8,x9,y4,reduceCtorEq,↓reduceIte,e2];refine zad (zf5 t 123 ?_)
    cases h123:isP t 123 with
    | true=>
     have hv:¬vkE t=0:=by have:=k7.2 h123;omega
     simp only[sxZ,z6,z7,z8,j4,j5,j6,j7,j8,j9,x0,x6,x7,x8,x9,y4,reduceCtorEq,↓reduceIte,zac,hv,decide_false,Bool.not_false,and_self]
    | false=>
     have hv:vkE t=0:=by
      have n5:¬vkE t=5:=fun h=>a3 (k5.1 h);have n4:¬vkE t=4:=fun h=>a4 (k4.1 h);have nw:¬(vkE t=1\/vkE t=2\/vkE t=3):=fun h=>a5 (kw.1 h);have n6:¬vkE t=6:=fun h=>by rw[k6.1 h] at h91;cases h91
      have n7:¬vkE t=7:=fun h=>by rw[k7.1 h] at h123;cases h123
      have:=vk_val t;omega
     simp only[sxZ,z6,z7,z8,j4,j5,j6,j7,j8,j9,x0,x6,x7,x8,x9,y4,reduceCtorEq,↓reduceIte,zac,hv,decide_true,Bool.not_true,and_self]
  rintro o' tm ⟨rfl,hlen,t0,t2,t4,t6,t7⟩;subst hZ;refine zaa fun Z hZ=>?_
  by_cases c0:ρ.fail=0
  rotate_left
  ·rw[zat,if_pos c0] at hk ⊢;simp only[sxZ,z6,z7,z8,j4,j5,j6,j7,j8,j9,x0,x6,x7,x8,x9,y4,reduceCtorEq,↓reduceIte,za,hlen,t0,t6,e1,e3,c0,s1];exact zen (hk _ (fin _ _ _ _ hO1))
  rw[zat,if_neg (fun h=>h c0)] at hk ⊢;simp only[sxZ,z6,z7,z8,j4,j5,j6,j7,j8,j9,x0,x6,x7,x8,x9,y4,reduceCtorEq,↓reduceIte,za,hlen,t0,e1,c0];subst hZ;refine zaa fun Z hZ=>?_
  by_cases cv:vkE t=0
  ·rw[if_pos cv] at hk ⊢;simp only[cv,decide_true,Bool.not_true] at t7;simp only[sxZ,z6,z7,z8,j4,j5,j6,j7,j8,j9,x0,x6,x7,x8,x9,y4,reduceCtorEq,↓reduceIte,za,hlen,t0,t4,t7,e2];refine zad (zcB hO1 t.2.2 140 fun o2 hO2=>?_);obtain⟨e1,e2,e3,s1⟩:=st _ _ _ hO2;simp only[sxZ,z6,z7,z8,j4,j5,j6,j7,j8,j9,x0,x6,x7,x8,x9,y4,reduceCtorEq,↓reduceIte,za,hlen,t6,e3,s1];exact zen (hk _ (fin _ _ _ _ hO2))
  rw[if_neg cv] at hk ⊢;simp only[cv,decide_false,Bool.not_false] at t7;simp only[sxZ,z6,z7,z8,j4,j5,j6,j7,j8,j9,x0,x6,x7,x8,x9,y4,reduceCtorEq,↓reduceIte,za,hlen,t7];subst hZ;refine zaa fun Z hZ=>?_
  by_cases c2:t.1=2/\d=64
  ·rw[if_pos c2] at hk ⊢;have c2b:(d:Int)=64:=by omega
   have c2a:=c2.1;simp only[sxZ,z6,z7,z8,j4,j5,j6,j7,j8,j9,x0,x6,x7,x8,x9,y4,reduceCtorEq,↓reduceIte,za,hlen,t0,t2,t4,e2,c2a,c2b];refine zad (zcB hO1 t.2.2 141 fun o2 hO2=>?_);obtain⟨e1,e2,e3,s1⟩:=st _ _ _ hO2;simp only[sxZ,z6,z7,z8,j4,j5,j6,j7,j8,j9,x0,x6,x7,x8,x9,y4,reduceCtorEq,↓reduceIte,za,hlen,t6,e3,s1];exact zen (hk _ (fin _ _ _ _ hO2))
  rw[if_neg c2] at hk ⊢;refine zaJ (fun o' tm=>o=o'/\tm.length=117/\tm[0]? = some (.p p 0)/\tm[2]? = some (.i .i64 (d:Int))/\tm[4]? = some (.p qt 0)/\tm[6]? = some (.p qr 0)) ?_ ?_
  ·by_cases c2a:t.1=2
   ·have c2b:¬(d:Int)=64:=fun h=>c2 ⟨c2a,by omega⟩;simp only[sxZ,z6,z7,z8,j4,j5,j6,j7,j8,j9,x0,x6,x7,x8,x9,y4,reduceCtorEq,↓reduceIte,za,hlen,t0,t2,t4,t6,e2,c2a,c2b,zac,zh,and_self]
   ·simp only[sxZ,z6,z7,z8,j4,j5,j6,j7,j8,j9,x0,x6,x7,x8,x9,y4,reduceCtorEq,↓reduceIte,za,hlen,t0,t2,t4,t6,e2,c2a,zac,zh,and_self]
  clear hlen t0 t2 t4 t6 t7;rintro o' tm ⟨rfl,hlen,t0,t2,t4,t6⟩;subst hZ;refine zaa fun Z hZ=>?_;have hO2:=hO1.new (.box 25 [.i .i64 5,.s t.2.1,.nil,.nil]);have hO2:zaS ((p,zaQ s ρ)::(qt,za8 t)::(qr,zvB)::([(o.length,.box 25 [.i .i64 5,.s t.2.1,.nil,.nil])]++L)) (o++[.box 25 [.i .i64 5,.s t.2.1,.nil,.nil]]):=hO2.perm (List.perm_middle (l₁:=[(p,zaQ s ρ),(qt,za8 t),(qr,zvB)])).symm;simp only[sxZ,z6,z7,z8,j4,j5,j6,j7,j8,j9,x0,x6,x7,x8,x9,y4,reduceCtorEq,↓reduceIte,za,hlen,t4,e2,gn1,sn1];have hqv:¬o.length=qt/\¬o.length=p:=by
   have h1:=hO1.lt (i:=qt) (x:=za8 t) (by simp);have h2:=hO1.lt (i:=p) (x:=zaQ s ρ) (by simp);omega
  generalize o.length=qv at hO2 hqv ⊢;generalize o++[OB.box 25 [.i .i64 5,.s t.2.1,.nil,.nil]]=o2 at hO2 ⊢;refine zbC (fun tm=>tm.length=117/\tm[0]? = some (.p p 0)/\tm[2]? = some (.i .i64 (d:Int))/\tm[4]? = some (.p qt 0)/\tm[6]? = some (.p qr 0)/\tm[8]? = some (.p qv 0)) ?_ ?_
  ·simp only[sxZ,z6,z7,z8,j4,j5,j6,j7,j8,j9,x0,x6,x7,x8,x9,y4,reduceCtorEq,↓reduceIte,zh,za,hlen,t0,t2,t4,t6,and_self]
  clear hlen t0 t2 t4 t6 e1 e2 e3 s1 hO1;rintro tm ⟨hlen,t0,t2,t4,t6,t8⟩;subst hZ;refine zaa fun Z hZ=>?_;have hcnt:zaW ρ t=(if 20000<(if t.1=4/\¬(zcU t.2.1).1=0 then za4 ρ t.2.2 (zcU t.2.1).1 else ρ).nodes+1 then za4 ⟨(if t.1=4/\¬(zcU t.2.1).1=0 then za4 ρ t.2.2 (zcU t.2.1).1 else ρ).pos,(if t.1=4/\¬(zcU t.2.1).1=0 then za4 ρ t.2.2 (zcU t.2.1).1 else ρ).nodes+1,(if t.1=4/\¬(zcU t.2.1).1=0 then za4 ρ t.2.2 (zcU t.2.1).1 else ρ).fail,(if t.1=4/\¬(zcU t.2.1).1=0 then za4 ρ t.2.2 (zcU t.2.1).1 else ρ).wh⟩ t.2.2 142 else ⟨(if t.1=4/\¬(zcU t.2.1).1=0 then za4 ρ t.2.2 (zcU t.2.1).1 else ρ).pos,(if t.1=4/\¬(zcU t.2.1).1=0 then za4 ρ t.2.2 (zcU t.2.1).1 else ρ).nodes+1,(if t.1=4/\¬(zcU t.2.1).1=0 then za4 ρ t.2.2 (zcU t.2.1).1 else ρ).fail,(if t.1=4/\¬(zcU t.2.1).1=0 then za4 ρ t.2.2 (zcU t.2.1).1 else ρ).wh⟩):=rfl;have hxn:(if t.1=4/\¬(zcU t.2.1).1=0 then za4 ρ t.2.2 (zcU t.2.1).1 else ρ).nodes=ρ.nodes:=by
   split
   ·exact zd3 _ _ _
   ·rfl
  generalize hx:(if t.1=4/\¬(zcU t.2.1).1=0 then za4 ρ t.2.2 (zcU t.2.1).1 else ρ)=x at hcnt hxn;refine zaJ (fun o tm=>zaS ((p,zaQ s x)::(qt,za8 t)::(qr,zvB)::([(qv,.box 25 [.i .i64 (if t.1=4 then 4 else 5),.s (if t.1=4 then (zcU t.2.1).2 else t.2.1),.nil,.nil])]++L)) o/\tm.length=117/\tm[0]? = some (.p p 0)/\tm[2]? = some (.i .i64 (d:Int))/\tm[4]? = some (.p qt 0)/\tm[6]? = some (.p qr 0)/\tm[8]? = some (.p qv 0)) ?_ ?_
  ·obtain⟨e1,e2,e3,s1⟩:=st _ _ _ hO2
   by_cases a4:t.1=4
   rotate_left
   ·rw[if_neg (fun h=>a4 h.1)] at hx;subst hx;simp only[sxZ,z6,z7,z8,j4,j5,j6,j7,j8,j9,x0,x6,x7,x8,x9,y4,reduceCtorEq,↓reduceIte,za,hlen,t0,t2,t4,t6,t8,e2,a4,zac,zh,and_self,and_true,if_false];exact hO2
   have eqv:=hO2.get (i:=qv) (x:=.box 25 [.i .i64 5,.s t.2.1,.nil,.nil]) (by simp);simp only[sxZ,z6,z7,z8,j4,j5,j6,j7,j8,j9,x0,x6,x7,x8,x9,y4,reduceCtorEq,↓reduceIte,za,hlen,t4,e2,a4];refine zad (znj t.2.1 (by omega) ?_)
   by_cases cn:(zcU t.2.1).1=0
   ·rw[if_neg (fun h=>h.2 cn)] at hx;subst hx;simp only[sxZ,z6,z7,z8,j4,j5,j6,j7,j8,j9,x0,x6,x7,x8,x9,y4,reduceCtorEq,↓reduceIte,za,hlen,t0,t2,t4,t6,t8,cn,eqv,zac,zh,and_self,and_true,if_pos];exact zaS.set (A:=[(p,zaQ s ρ),(qt,za8 t),(qr,zvB)]) (.box 25 [.i .i64 4,.s (zcU t.2.1).2,.nil,.nil]) hO2
   ·rw[if_pos ⟨a4,cn⟩] at hx;simp only[sxZ,z6,z7,z8,j4,j5,j6,j7,j8,j9,x0,x6,x7,x8,x9,y4,reduceCtorEq,↓reduceIte,za,hlen,t0,t4,e2,cn];refine zad (zcB hO2 t.2.2 (zcU t.2.1).1 fun o3 hO3=>?_);rw[hx] at hO3;have eqv:=hO3.get (i:=qv) (x:=.box 25 [.i .i64 5,.s t.2.1,.nil,.nil]) (by simp);simp only[sxZ,z6,z7,z8,j4,j5,j6,j7,j8,j9,x0,x6,x7,x8,x9,y4,reduceCtorEq,↓reduceIte,za,hlen,t0,t2,t4,t6,t8,eqv,zac,zh,and_self,and_true,if_pos];exact zaS.set (A:=[(p,zaQ s x),(qt,za8 t),(qr,zvB)]) (.box 25 [.i .i64 4,.s (zcU t.2.1).2,.nil,.nil]) hO3
  clear hlen t0 t2 t4 t6 t8 hO2 hx;generalize hkk:(if t.1=4 then (4:Int) else 5)=kk;generalize hxx:(if t.1=4 then (zcU t.2.1).2 else t.2.1)=xx;rintro o3 tm ⟨hO3,hlen,t0,t2,t4,t6,t8⟩;subst hZ;refine zaa fun Z hZ=>?_;have f2:∀b:Rs,OB.box 53 [.s s,.i .i64 b.pos,.i .i64 ((b.nodes:Int)+1),.i .i64 b.fail,.i .i64 b.wh]=zaQ s ⟨b.pos,b.nodes+1,b.fail,b.wh⟩:=fun _=>rfl;have hnb:=hB.n1;refine zaJ (fun o tm=>zaS ((p,zaQ s (zaW ρ t))::(qt,za8 t)::(qr,zvB)::([(qv,.box 25 [.i .i64 kk,.s xx,.nil,.nil])]++L)) o/\tm.length=117/\tm[0]? = some (.p p 0)/\tm[2]? = some (.i .i64 (d:Int))/\tm[4]? = some (.p qt 0)/\tm[6]? = some (.p qr 0)/\tm[8]? = some (.p qv 0)) ?_ ?_
  ·obtain⟨e1,e2,e3,s1⟩:=st _ _ _ hO3;refine zaa fun W hW=>?_;simp only[sxZ,z6,z7,z8,j4,j5,j6,j7,j8,j9,x0,x6,x7,x8,x9,y4,reduceCtorEq,↓reduceIte,za,hlen,t0,e1];refine⟨⟨by omega,by omega⟩,?_⟩;rw[f2];have hO4:=zaS.set (A:=[]) (zaQ s ⟨x.pos,x.nodes+1,x.fail,x.wh⟩) hO3;have hO4:zaS ((p,zaQ s ⟨x.pos,x.nodes+1,x.fail,x.wh⟩)::(qt,za8 t)::(qr,zvB)::([(qv,.box 25 [.i .i64 kk,.s xx,.nil,.nil])]++L)) (o3.set p (zaQ s ⟨x.pos,x.nodes+1,x.fail,x.wh⟩)):=hO4;generalize o3.set p (zaQ s ⟨x.pos,x.nodes+1,x.fail,x.wh⟩)=o4 at hO4 ⊢;obtain⟨e1,e2,e3,s1⟩:=st _ _ _ hO4;subst hW
   by_cases c7:20000<x.nodes+1
   ·rw[if_pos c7] at hcnt;have c7':(20000:Int)<((x.nodes+1:Nat):Int):=by omega
    simp only[sxZ,z6,z7,z8,j4,j5,j6,j7,j8,j9,x0,x6,x7,x8,x9,y4,reduceCtorEq,↓reduceIte,za,hlen,t0,t2,t4,t6,e1,e2,c7'];refine zad (zcB hO4 t.2.2 142 fun o5 hO5=>?_);rw[<-hcnt] at hO5;simp only[sxZ,z6,z7,z8,j4,j5,j6,j7,j8,j9,x0,x6,x7,x8,x9,y4,reduceCtorEq,↓reduceIte,za,hlen,t0,t2,t4,t6,t8,zac,zh,and_self,and_true];exact hO5
   ·rw[if_neg c7] at hcnt;have c7':¬(20000:Int)<((x.nodes+1:Nat):Int):=by omega
    rw[<-hcnt] at hO4;simp only[sxZ,z6,z7,z8,j4,j5,j6,j7,j8,j9,x0,x6,x7,x8,x9,y4,reduceCtorEq,↓reduceIte,za,hlen,t0,t2,t4,t6,t8,e1,c7',zac,zh,and_self,and_true];exact hO4
  clear hO3 hlen t0 t2 t4 t6 t8 hcnt hxn x;rintro o4 tm ⟨hO4,hlen,t0,t2,t4,t6,t8⟩;have hGc:=zlm hB hT (vk_end cv) c0;have hGv:GV s (fun ρ t=>zat s f ρ t (d+1)):=zfK s f (d+1);generalize zaW ρ t=ρc at hO4 hGc hk ⊢;obtain⟨e1,e2,e3,s1⟩:=st _ _ _ hO4;subst hZ;refine zaa fun Z hZ=>?_;rw[zaZ];have hCa:zaR ((p,zaQ s ρc)::(qt,za8 t)::(qr,zvB)::([(qv,.box 25 [.i .i64 kk,.s xx,.nil,.nil])]++L)):=zfc (zfc (zfc (zgz hC) rfl) rfl) rfl
  by_cases a5:t.1=5
  ·rw[if_pos a5] at hk ⊢;simp only[sxZ,z6,z7,z8,j4,j5,j6,j7,j8,j9,x0,x6,x7,x8,x9,y4,reduceCtorEq,↓reduceIte,za,hlen,t4,e2,a5];refine zad (rword_k t.2.1 ?_);simp only[sxZ,z6,z7,z8,j4,j5,j6,j7,j8,j9,x0,x6,x7,x8,x9,y4,reduceCtorEq,↓reduceIte,za,hlen,t6,e3,s1];exact zen (hk _ (fin _ _ _ _ hO4))
  rw[if_neg a5] at hk ⊢;simp only[sxZ,z6,z7,z8,j4,j5,j6,j7,j8,j9,x0,x6,x7,x8,x9,y4,reduceCtorEq,↓reduceIte,za,hlen,t4,e2,a5];refine zad (zf5 t 91 ?_)
  cases h91:isP t 91 with
  | true=>
   have h2:=(zlj h91).1;have hd3:d<64:=by
    rcases Nat.lt_or_ge d 64 with h|h
    ·exact h
    ·exact absurd ⟨h2,by omega⟩ c2
   have hval:ValK s p (d+1) (fun ρ t=>zat s f ρ t (d+1)):=ih (d+1) (by omega) (by omega);have hn1:=fun ρ t=>(zhz s f (d+1)).2 ρ t (by omega);rw[h91] at hk;rw[if_pos rfl] at hk ⊢;simp only[sxZ,z6,z7,z8,j4,j5,j6,j7,j8,j9,x0,x6,x7,x8,x9,y4,reduceCtorEq,↓reduceIte,za,hlen,t0,t2];refine⟨⟨by omega,by omega⟩,?_⟩;rw[show ((d:Int)+1)=((d+1:Nat):Int) from rfl];refine zad (array_k hval hGv hn1 hs hGc hCa hO4 fun o9 hO9=>?_);obtain⟨e1,e2,e3,s1⟩:=st _ _ _ hO9;generalize (zgD s (fun ρ t=>zat s f ρ t (d+1)) ρc).1=v at hk ⊢;have hk2:=hk _ (fin _ _ (.box 25 (zao v)) _ hO9);have hjc:=zae v;rw[hjc] at hk2 ⊢;simp only[sxZ,z6,z7,z8,j4,j5,j6,j7,j8,j9,x0,x6,x7,x8,x9,y4,reduceCtorEq,↓reduceIte,za,hlen,t6,e3,s1];exact⟨fun G I y hy=>by rw[hjc];exact hy,by rw[hjc];exact hk2⟩
  | false=>
  rw[h91] at hk;rw[if_neg Bool.false_ne_true] at hk ⊢;simp only[sxZ,z6,z7,z8,j4,j5,j6,j7,j8,j9,x0,x6,x7,x8,x9,y4,reduceCtorEq,↓reduceIte,za,hlen,t4,e2];refine zad (zf5 t 123 ?_)
  cases h123:isP t 123 with
  | true=>
   have h2:=(zlj h123).1;have hd3:d<64:=by
    rcases Nat.lt_or_ge d 64 with h|h
    ·exact h
    ·exact absurd ⟨h2,by omega⟩ c2
   have hval:ValK s p (d+1) (fun ρ t=>zat s f ρ t (d+1)):=ih (d+1) (by omega) (by omega);have hn1:=fun ρ t=>(zhz s f (d+1)).2 ρ t (by omega);rw[h123] at hk;rw[if_pos rfl] at hk ⊢;simp only[sxZ,z6,z7,z8,j4,j5,j6,j7,j8,j9,x0,x6,x7,x8,x9,y4,reduceCtorEq,↓reduceIte,za,hlen,t0,t2];refine⟨⟨by omega,by omega⟩,?_⟩;rw[show ((d:Int)+1)=((d+1:Nat):Int) from rfl];refine zad (object_k hval hGv hn1 (fun ρ t=>zjy s f ρ t (d+1)) hs hGc hCa hO4 fun o9 hO9=>?_);obtain⟨e1,e2,e3,s1⟩:=st _ _ _ hO9;generalize (zgF s (fun ρ t=>zat s f ρ t (d+1)) ρc).1=v at hk ⊢;have hk2:=hk _ (fin _ _ (.box 25 (zao v)) _ hO9);have hjc:=zae v;rw[hjc] at hk2 ⊢;simp only[sxZ,z6,z7,z8,j4,j5,j6,j7,j8,j9,x0,x6,x7,x8,x9,y4,reduceCtorEq,↓reduceIte,za,hlen,t6,e3,s1];exact⟨fun G I y hy=>by rw[hjc];exact hy,by rw[hjc];exact hk2⟩
  | false=>
  rw[h123] at hk;rw[if_neg Bool.false_ne_true] at hk ⊢;have eqv:=hO4.get (i:=qv) (x:=.box 25 [.i .i64 kk,.s xx,.nil,.nil]) (by simp);simp only[sxZ,z6,z7,z8,j4,j5,j6,j7,j8,j9,x0,x6,x7,x8,x9,y4,reduceCtorEq,↓reduceIte,za,hlen];subst hZ;simp only[sxZ,z6,z7,z8,j4,j5,j6,j7,j8,j9,x0,x6,x7,x8,x9,y4,reduceCtorEq,↓reduceIte,za,hlen,t6,t8,eqv,e3,s1];have hkv:(if t.1=4 then (JV.mk 4 (zcU t.2.1).2 [] [],ρc) else (JV.mk 5 t.2.1 [] [],ρc))=(JV.mk kk xx [] [],ρc):=by
   rw[<-hkk,<-hxx]
   split<;>rfl
  rw[hkv] at hk ⊢;exact zen (hk _ (fin _ _ _ _ hO4))
end
end
section
attribute [local irreducible] run
section
variable [Tabs Tryz.prog] [Utf Tryz.prog] {objs:List OB} {K:List OB->AV->Prop}
theorem zkK (s:List UInt8) (hs:s.length<=1048576) (hk:K objs (zhK (zcC s))):zaf Tryz.prog 9 [.s s] objs K:=by
 refine jres (zhK (zcC s)) ?_;refine zaX is_ref14_Parse rfl fun C _=>?_;have hr:zcC s=(if 1048576<s.length then (jvZ,0,142) else
   if ¬(if (zag s (zat s 65 (zag s rs0).2 (zag s rs0).1 0).2).2.fail=0/\¬(zag s (zat s 65 (zag s rs0).2 (zag s rs0).1 0).2).1.1=1 then za4 (zag s (zat s 65 (zag s rs0).2 (zag s rs0).1 0).2).2 (zag s (zat s 65 (zag s rs0).2 (zag s rs0).1 0).2).1.2.2 140 else (zag s (zat s 65 (zag s rs0).2 (zag s rs0).1 0).2).2).fail=0 then (jvZ,(if (zag s (zat s 65 (zag s rs0).2 (zag s rs0).1 0).2).2.fail=0/\¬(zag s (zat s 65 (zag s rs0).2 (zag s rs0).1 0).2).1.1=1 then za4 (zag s (zat s 65 (zag s rs0).2 (zag s rs0).1 0).2).2 (zag s (zat s 65 (zag s rs0).2 (zag s rs0).1 0).2).1.2.2 140 else (zag s (zat s 65 (zag s rs0).2 (zag s rs0).1 0).2).2).wh,(if (zag s (zat s 65 (zag s rs0).2 (zag s rs0).1 0).2).2.fail=0/\¬(zag s (zat s 65 (zag s rs0).2 (zag s rs0).1 0).2).1.1=1 then za4 (zag s (zat s 65 (zag s rs0).2 (zag s rs0).1 0).2).2 (zag s (zat s 65 (zag s rs0).2 (zag s rs0).1 0).2).1.2.2 140 else (zag s (zat s 65 (zag s rs0).2 (zag s rs0).1 0).2).2).fail) else ((zat s 65 (zag s rs0).2 (zag s rs0).1 0).1,(s.length:Int),0)):=rfl
 rw[if_neg (by omega)] at hr;have finE:∀{a e:Int},zcC s=(jvZ,a,e)->((∀G I y,Den G I (.tup [.agg zvC,.i .i64 a,.i .i64 e]) y->Den G I (zhK (zcC s)) y)/\K objs (zhK (zcC s))):=fun {a e} h=>⟨fun G I y hy=>by rw[h];exact den_zv hy,hk⟩;have c1:¬(1048576:Int)<s.length:=by omega
 rw[c_ref14_Parse];refine zaa fun Z hZ=>?_;simp only[sxZ,z6,z7,z8,j4,j5,j6,j7,j8,j9,x0,x6,x7,x8,x9,y4,reduceCtorEq,↓reduceIte];subst hZ;refine zaa fun Z hZ=>?_;simp only[sxZ,z6,z7,z8,j4,j5,j6,j7,j8,j9,x0,x6,x7,x8,x9,y4,reduceCtorEq,↓reduceIte,c1];subst hZ;refine zaa fun Z hZ=>?_;simp only[sxZ,z6,z7,z8,j4,j5,j6,j7,j8,j9,x0,x6,x7,x8,x9,y4,reduceCtorEq,↓reduceIte];have hO:zaS ((1,zaQ s rs0)::[(0,zvB)]) [zvB,zaQ s rs0]:=⟨by simp,fun x hx=>by
  simp only[zt,xg,or_false] at hx;rcases hx with rfl|rfl<;>rfl⟩
 have hCn:zaR []:=fun y hy=>by cases hy
 have hC:∀ρ,zaR ((1,zaQ s ρ)::[(0,zvB)]):=fun ρ=>zdG (zdG hCn rfl) rfl;have hB:GB s rs0:=⟨by decide,by show (0:Int)<=_;omega,fun _=>by decide,by show (0:Int)<=_;omega⟩;have f0:[OB.box 25 [.i .i64 0,.s [],.nil,.nil],OB.box 53 [.s s,.i .i64 0,.i .i64 0,.i .i64 0,.i .i64 0]]=[zvB,zaQ s rs0]:=rfl;rw[f0];generalize [zvB,zaQ s rs0]=o0 at hO ⊢;subst hZ;refine zaa fun Z hZ=>?_;simp only[sxZ,z6,z7,z8,j4,j5,j6,j7,j8,j9,x0,x6,x7,x8,x9,y4,reduceCtorEq,↓reduceIte];refine zad (zcT (by omega) hO fun o1 hO1=>?_);have hB1:=zbw hB;have hT1:=zbR hB;generalize zag s rs0=N at hO1 hB1 hT1 hr ⊢;obtain⟨T1,ρ1⟩:=N;simp only at hO1 hB1 hT1 hr ⊢;have hval:ValK s 1 0 (fun ρ t=>zat s 65 ρ t 0):=value_k hs 65 0 rfl (by decide);have hvc:=fun {objs:List OB} {K:List OB->AV->Prop} {L:List (Nat×OB)} (h1) (h2) (h3)=>hval (objs:=objs) (K:=K) (L:=L) (ρ:=ρ1) T1 hB1.1 hB1.2 hT1 h1 h2 h3;have hg2:=zfK s 65 0 ρ1 T1 hB1.1 hB1.2;simp only at hvc hg2;generalize zat s 65 ρ1 T1 0=R at hvc hg2 hr;obtain⟨v,ρ2⟩:=R;simp only at hvc hg2 hr;unfold zim tkC;simp only[sxZ,z6,z7,z8,j4,j5,j6,j7,j8,j9,x0,x6,x7,x8,x9,y4,reduceCtorEq,↓reduceIte];refine zad (hvc (hC _) hO1 fun o2 hO2=>?_);have hjc:=zae v;rw[hjc];simp only[sxZ,z6,z7,z8,j4,j5,j6,j7,j8,j9,x0,x6,x7,x8,x9,y4,reduceCtorEq,↓reduceIte,gn1,sn1];have hO3:=hO2.new (.box 25 (zao v));rw[hjc] at hO3;have hO3:zaS ((1,zaQ s ρ2)::(o2.length,.box 25 [.i .i64 v.kind,.s v.text,.row v.keys.length (v.keys.map .s),.row v.items.length (zab v.items)])::[(0,zvB)]) (o2++[.box 25 [.i .i64 v.kind,.s v.text,.row v.keys.length (v.keys.map .s),.row v.items.length (zab v.items)]]):=hO3.perm (qx.swap _ _ _);generalize o2.length=qv at hO3 ⊢;generalize o2++[OB.box 25 [.i .i64 v.kind,.s v.text,.row v.keys.length (v.keys.map .s),.row v.items.length (zab v.items)]]=o3 at hO3 ⊢;subst hZ;refine zaa fun Z hZ=>?_;refine zaa fun W hW=>?_;simp only[sxZ,z6,z7,z8,j4,j5,j6,j7,j8,j9,x0,x6,x7,x8,x9,y4,reduceCtorEq,↓reduceIte];refine zad (zcT (by omega) hO3 fun o4 hO4=>?_);generalize zag s ρ2=N at hO4 hr ⊢;obtain⟨T3,ρ3⟩:=N;simp only at hO4 hr ⊢;unfold zim tkC;simp only[sxZ,z6,z7,z8,j4,j5,j6,j7,j8,j9,x0,x6,x7,x8,x9,y4,reduceCtorEq,↓reduceIte,gn1,sn1];have f1:∀x y z,OB.box 56 [.i .i64 x,.s y,.i .i64 z]=za8 (x,y,z):=fun _ _ _=>rfl;rw[f1];have hO5:=hO4.new (za8 T3);have hO5:zaS ((1,zaQ s ρ3)::(o4.length,za8 T3)::(qv,.box 25 [.i .i64 v.kind,.s v.text,.row v.keys.length (v.keys.map .s),.row v.items.length (zab v.items)])::[(0,zvB)]) (o4++[za8 (T3.1,T3.2.1,T3.2.2)]):=hO5.perm (qx.swap _ _ _);generalize o4.length=qt at hO5 ⊢;generalize o4++[za8 (T3.1,T3.2.1,T3.2.2)]=o5 at hO5 ⊢;subst hW;have e1:=hO5.get (i:=1) (x:=zaQ s ρ3) (by simp);have e2:=hO5.get (i:=qt) (x:=za8 T3) (by simp);unfold zaQ at e1;unfold za8 tkC at e2;generalize hρ:(if ρ3.fail=0/\¬T3.1=1 then za4 ρ3 T3.2.2 140 else ρ3)=ρ4 at hr;refine zaJ (fun o tm=>zaS ((1,zaQ s ρ4)::(qt,za8 T3)::(qv,.box 25 [.i .i64 v.kind,.s v.text,.row v.keys.length (v.keys.map .s),.row v.items.length (zab v.items)])::[(0,zvB)]) o/\tm.length=52/\tm[0]? = some (.s s)/\tm[2]? = some (.p 0 0)/\tm[5]? = some (.p 1 0)/\tm[6]? = some (.p qv 0)) ?_ ?_
 ·by_cases c3:ρ3.fail=0
  ·by_cases c4:T3.1=1
   ·rw[if_neg (fun h=>h.2 c4)] at hρ;subst hρ;simp only[sxZ,z6,z7,z8,j4,j5,j6,j7,j8,j9,x0,x6,x7,x8,x9,y4,reduceCtorEq,↓reduceIte,e1,e2,c3,c4,zac,and_self,and_true];exact hO5
   ·rw[if_pos ⟨c3,c4⟩] at hρ;simp only[sxZ,z6,z7,z8,j4,j5,j6,j7,j8,j9,x0,x6,x7,x8,x9,y4,reduceCtorEq,↓reduceIte,e1,e2,c3,c4];refine zad (zcB hO5 T3.2.2 140 fun o6 hO6=>?_);rw[hρ] at hO6;simp only[sxZ,z6,z7,z8,j4,j5,j6,j7,j8,j9,x0,x6,x7,x8,x9,y4,reduceCtorEq,↓reduceIte,zac,and_self,and_true];exact hO6
  ·rw[if_neg (fun h=>c3 h.1)] at hρ;subst hρ;simp only[sxZ,z6,z7,z8,j4,j5,j6,j7,j8,j9,x0,x6,x7,x8,x9,y4,reduceCtorEq,↓reduceIte,e1,e2,c3,zac,and_self,and_true];exact hO5
 clear hO5 e1 e2;rintro o6 tm ⟨hO6,hlen,t0,t2,t5,t6⟩;have e1:=hO6.get (i:=1) (x:=zaQ s ρ4) (by simp);have e0:=hO6.get (i:=0) (x:=zvB) (by simp);have ev:=hO6.get (i:=qv) (x:=.box 25 [.i .i64 v.kind,.s v.text,.row v.keys.length (v.keys.map .s),.row v.items.length (zab v.items)]) (by simp);have hlt:=(zf.1 e0).1;have gs:∀x,(o6.set 0 x)[0]? = some x:=fun x=>zk hlt;unfold zaQ at e1;unfold zvB at e0;subst hZ;refine zaa fun Z hZ=>?_
 by_cases c5:ρ4.fail=0
 ·rw[if_neg (fun h=>h c5)] at hr;simp only[sxZ,z6,z7,z8,j4,j5,j6,j7,j8,j9,x0,x6,x7,x8,x9,y4,reduceCtorEq,↓reduceIte,za,hlen,t5,e1,c5];subst hZ;simp only[sxZ,z6,z7,z8,j4,j5,j6,j7,j8,j9,x0,x6,x7,x8,x9,y4,reduceCtorEq,↓reduceIte,za,hlen,t0,t2,t6,e0,ev,gs];simp only[pub,AV.plain,zbc,zch,sxZ,z6,z7,z8,j4,j5,j6,j7,j8,j9,x0,x6,x7,x8,x9,y4,reduceCtorEq,↓reduceIte];exact⟨fun G I y hy=>by rw[hr,zhK,hjc];exact hy,hk⟩
 ·rw[if_pos c5] at hr;simp only[sxZ,z6,z7,z8,j4,j5,j6,j7,j8,j9,x0,x6,x7,x8,x9,y4,reduceCtorEq,↓reduceIte,za,hlen,t2,t5,e0,e1,c5,gs];exact finE hr
end
section
variable [Tabs Tryz.prog] [Pow Tryz.prog] [Utf Tryz.prog]
end
end
section
attribute [local irreducible] run
theorem JTx.idB {v:JV} (hv:JTx v):IdB v:=by
 refine⟨Nat.le_trans (zjX hv kId).txt (by decide),fun key y hy=>?_⟩;obtain⟨i,hi,rfl⟩:=List.mem_iff_getElem.1 hy;exact Nat.le_trans (zjX ((zjX hv key).its hi) kId).txt (by decide)
def sA17:List UInt8:=[123,34,105,100,34,58,34,100,105,100,58,119,101,98,58,97,46,101,120,97,109,112,108,101,34,44,34,115,101,114,118,105,99,101,34,58,91,123,34,105,100,34,58,34,35,102,105,108,101,115,34,44,34,116,121,112,101,34,58,34,88,34,44,34,115,101,114,118,105,99,101,69,110,100,112,111,105,110,116,34,58,34,104,116,116,112,115,58,47,47,97,46,101,120,97,109,112,108,101,47,102,47,34,125,93,125]
def zjc:List UInt8:=[100,105,100,58,119,101,98,58,97,46,101,120,97,109,112,108,101]
def zmq:List UInt8:=zjc++[35,102,105,108,101,115]
def zl8:JV:=.mk 7 [] [kId,zbe,zbH] [.mk 5 [35,102,105,108,101,115] [] [],.mk 5 [88] [] [],.mk 5 [104,116,116,112,115,58,47,47,97,46,101,120,97,109,112,108,101,47,102,47] [] []]
def zmJ:JV:=.mk 7 [] [kId,zbz] [.mk 5 zjc [] [],.mk 6 [] [] [zl8]]
theorem eA17:(zcC sA17).1=zmJ:=by kernel_rfl
theorem dA17:ddE zmJ=(0,⟨zjc,[],[],[],[⟨zmq,[[88]],[[104,116,116,112,115,58,47,47,97,46,101,120,97,109,112,108,101,47,102,47]]⟩]⟩):=by kernel_rfl
theorem selA17:selV zmJ zmq=(zl8,true):=by kernel_rfl
theorem okA17:JKp zmJ:=by
 unfold zmJ zl8;simp[JKp,zke,kId,zbe,zbH,zbz,zjc]
theorem jokA17:JOk zmJ:=by
 unfold zmJ zl8;simp[JOk,zdU,Lit.wf,IntKind.min,IntKind.max,IntKind.signed,IntKind.bits,kId,zbe,zbH,zbz,zjc]
section
variable [Tabs Tryz.prog] [Utf Tryz.prog] {objs:List OB} {K:List OB->AV->Prop}
theorem sane17_k [Shp Tryz.prog] (hk:K objs (.b true)):zaf Tryz.prog 7 [] objs K:=by
 refine zaX is_law17_sane rfl fun C _=>?_;rw[c_law17_sane];have hB:IdB zmJ:=okA17.idB;refine zaa fun Z hZ=>?_;simp only[sxZ,z6,z7,z8,j4,j5,j6,j7,j8,j9,x0,x6,x7,x8,x9,y4,reduceCtorEq,↓reduceIte];subst hZ;refine zaa fun Z hZ=>?_;simp only[sxZ,z6,z7,z8,j4,j5,j6,j7,j8,j9,x0,x6,x7,x8,x9,y4,reduceCtorEq,↓reduceIte];refine zad (zkK sA17 (by decide) ?_);have e1:=eA17;obtain⟨⟨x,a,e⟩,hx⟩:∃R,zcC sA17=R:=⟨_,rfl⟩;rw[hx] at e1 ⊢;dsimp only at e1;subst e1;unfold zhK;obtain⟨a0,a1,a2,a3,hA⟩:∃a0 a1 a2 a3,zao zmJ=[a0,a1,a2,a3]:=⟨_,_,_,_,zae zmJ⟩;rw[hA];simp only[sxZ,z6,z7,z8,j4,j5,j6,j7,j8,j9,x0,x6,x7,x8,x9,y4,reduceCtorEq,↓reduceIte,gn1,sn1];subst hZ;refine zaa fun Z hZ=>?_;simp only[sxZ,z6,z7,z8,j4,j5,j6,j7,j8,j9,x0,x6,x7,x8,x9,y4,reduceCtorEq,↓reduceIte];rw[<-hA];refine zad (dd_k zmJ jokA17 okA17.bd hB ?_);rw[dA17];unfold zmK doc;rw[hA];simp only[sxZ,z6,z7,z8,j4,j5,j6,j7,j8,j9,x0,x6,x7,x8,x9,y4,reduceCtorEq,↓reduceIte,gn1,sn1];subst hZ;refine zaa fun Z hZ=>?_;simp only[sxZ,z6,z7,z8,j4,j5,j6,j7,j8,j9,x0,x6,x7,x8,x9,y4,reduceCtorEq,↓reduceIte];rw[<-hA];refine zad (sel_k zmJ zmq jokA17 okA17.bd hB ?_);rw[selA17];unfold zbv;rw[hA,zae zl8];simp only[sxZ,z6,z7,z8,j4,j5,j6,j7,j8,j9,x0,x6,x7,x8,x9,y4,reduceCtorEq,↓reduceIte,gn1,sn1];subst hZ;refine zaa fun Z hZ=>?_;have n1:(((1:Nat):Int)=1)=True:=by simp
 have hsv:zdc [⟨zmq,[[88]],[[104,116,116,112,115,58,47,47,97,46,101,120,97,109,112,108,101,47,102,47]]⟩]=[.s zmq,.row 1 [.s [88]],.row 1 [.s [104,116,116,112,115,58,47,47,97,46,101,120,97,109,112,108,101,47,102,47]]]:=rfl;have hid:zmq=[100,105,100,58,119,101,98,58,97,46,101,120,97,109,112,108,101,35,102,105,108,101,115]:=rfl;rw[hsv];simp only[sxZ,z6,z7,z8,j4,j5,j6,j7,j8,j9,x0,x6,x7,x8,x9,y4,reduceCtorEq,↓reduceIte,n1,decide_true,zr,qj,zo,zx];rw[hid];simp only[sxZ,z6,z7,z8,j4,j5,j6,j7,j8,j9,x0,x6,x7,x8,x9,y4,reduceCtorEq,↓reduceIte,n1,decide_true,zr,qj,zo,zx];refine⟨by decide,by decide,?_⟩;subst hZ;simp only[sxZ,z6,z7,z8,j4,j5,j6,j7,j8,j9,x0,x6,x7,x8,x9,y4,reduceCtorEq,↓reduceIte];rw[show zl8.kind=7 from rfl];exact hk
end
end
section
attribute [local irreducible] run
def rdF (m i:List UInt8) (v:JV):Int:=orE (orE (orE (orE (orE (orE (rtE v kId) (rsD v zcs false).1) (rsD v zbI true).1) (roD v zb2).1) (feD (rmD m i) (roD v zb2).2)) (roD v zbz).1) (feD (rvD m i) (roD v zbz).2)
def rdO (m i:List UInt8) (v:JV):DoP:=⟨zeh m i,(rsD v zcs false).2,(rsD v zbI true).2,(roD v zb2).2.map (fun y=>(rmD m i y).2),(roD v zbz).2.map (fun y=>(rvD m i y).2)⟩
def rdE (v:JV):Int×DoP :=
 if v.kind≠7 then (160,doZ)
 else if (zcN (zaG v kId).1.text).1≠0 then (160,doZ)
 else if rdF (zcN (zaG v kId).1.text).2.1 (zcN (zaG v kId).1.text).2.2 v≠0 then (rdF (zcN (zaG v kId).1.text).2.1 (zcN (zaG v kId).1.text).2.2 v,doZ)
 else (0,rdO (zcN (zaG v kId).1.text).2.1 (zcN (zaG v kId).1.text).2.2 v)
theorem rdF_eq (m i:List UInt8) (v:JV):rdF m i v=orE (rtE v kId) (orE (opD v zcs ltD).1 (orE (opD v zbI olD).1 (orE (opD v zb2 (elD (mtD m i))).1 (opD v zbz (elD (svD m i))).1))):=by
 unfold rdF;rw[(zgQ v zcs false).1,(zgQ v zbI true).1];rw[if_pos rfl,if_neg (show ¬(false=true) by decide)];rw[zaB _ (roD v zbz).1,(ro_el (rv_sv m i) v zbz).1,zaB _ (roD v zb2).1,(ro_el (rm_mt m i) v zb2).1];simp only[zaB]
theorem rd_dd (v:JV):rdE v=ddE v:=by
 unfold rdE
 by_cases h7:v.kind=7
 rotate_left
 ·have hs:sbD v=(160,[],[]):=by unfold sbD;rw[if_pos (zhq h7 kId)]
  rw[if_pos h7];unfold ddE;rw[hs]
  rfl
 rw[if_neg (show ¬v.kind≠7 from fun e=>e h7)];obtain⟨t1,t2⟩:=tm_rt v kId
 by_cases ht:rtE v kId=0
 ·have hs:sbD v=if (zcN (zaG v kId).1.text).1≠0 then (160,[],[]) else (0,(zcN (zaG v kId).1.text).2):=by
   unfold sbD;rw[if_neg (show ¬(tmD v kId).2=false by rw[t1.2 ht];decide),t2 ht]
  by_cases hd:(zcN (zaG v kId).1.text).1=0
  rotate_left
  ·rw[if_pos hd] at hs ⊢;unfold ddE;rw[hs];rfl
  rw[if_neg (fun e=>e hd)] at hs;rw[if_neg (show ¬(zcN (zaG v kId).1.text).1≠0 from fun e=>e hd)];generalize (zcN (zaG v kId).1.text).2=mi at hs;obtain⟨m,i⟩:=mi;dsimp only;have hF:=rdF_eq m i v;have a2:=(zgQ v zcs false).2;have c2:=(zgQ v zbI true).2;have a1:=(zgQ v zcs false).1;have c1:=(zgQ v zbI true).1;rw[if_pos rfl] at c2 c1;rw[if_neg (show ¬(false=true) by decide)] at a2 a1;rw[a1] at a2;rw[c1] at c2;have m2:=(ro_el (rm_mt m i) v zb2).2;have s2:=(ro_el (rv_sv m i) v zbz).2;rw[ht,zdW] at hF;unfold ddE rdO;rw[hs];dsimp only;rw[if_neg (show ¬((0:Int)≠0) by decide)];generalize rdF m i v=F at hF
  by_cases ha:(opD v zcs ltD).1=0
  rotate_left
  ·rw[zet ha] at hF;rw[if_pos ha,hF,if_pos ha]
  rw[if_neg (show ¬(opD v zcs ltD).1≠0 from fun e=>e ha)];rw[ha,zdW] at hF
  by_cases hc:(opD v zbI olD).1=0
  rotate_left
  ·rw[zet hc] at hF;rw[if_pos hc,hF,if_pos hc]
  rw[if_neg (show ¬(opD v zbI olD).1≠0 from fun e=>e hc)];rw[hc,zdW] at hF
  by_cases hm:(opD v zb2 (elD (mtD m i))).1=0
  rotate_left
  ·rw[zet hm] at hF;rw[if_pos hm,hF,if_pos hm]
  rw[if_neg (show ¬(opD v zb2 (elD (mtD m i))).1≠0 from fun e=>e hm)];rw[hm,zdW] at hF
  by_cases hv:(opD v zbz (elD (svD m i))).1=0
  rotate_left
  ·rw[if_pos hv,hF,if_pos hv]
  rw[if_neg (show ¬(opD v zbz (elD (svD m i))).1≠0 from fun e=>e hv),hF,if_neg (fun e=>e hv)];rw[a2 ha,c2 hc,m2 hm,s2 hv]
 ·have hf:(tmD v kId).2=false:=by
   cases e:(tmD v kId).2 with
   | true=>exact absurd (t1.1 e) ht
   | false=>rfl
  have hs:sbD v=(160,[],[]):=by unfold sbD;rw[if_pos hf]
  have h160:=(zfD v kId).resolve_left ht;have hd:ddE v=(160,doZ):=by unfold ddE;rw[hs];rfl
  rw[hd]
  by_cases h:(zcN (zaG v kId).1.text).1=0
  ·rw[if_neg (fun e=>e h),rdF_eq,zet ht,if_pos ht,h160]
  ·rw[if_pos h]
end
section
attribute [local irreducible] run
def zmG (E n:Nat) (cs:List AV) (o:List OB) (X:AV):Prop:=(n=0/\cs=[]/\X=.nil)\/∃r g,X=.orow r g/\3<=r/\o[r]? = some (.orow E 3 g n cs)
theorem zmG.call {E n:Nat} {cs:List AV} {o o':List OB} {X:AV} {b:Nat} {Y:OB} (h:zmG E n cs o X) (hx:Ext o o' b Y) (hb:b=2):zmG E n cs o' X:=by
 rcases h with h|⟨r,g,h1,h2,h3⟩
 ·exact .inl h
 ·exact .inr ⟨r,g,h1,h2,hx.2.2 r _ (by omega) h3 trivial⟩
theorem zmG.mono {E n:Nat} {cs:List AV} {o:List OB} {X:AV} (h:zmG E n cs o X) (z:OB):zmG E n cs (o++[z]) X:=by
 rcases h with h|⟨r,g,h1,h2,h3⟩
 ·exact .inl h
 ·exact .inr ⟨r,g,h1,h2,zaD h3 z⟩
theorem zmG.set {E n:Nat} {cs:List AV} {o:List OB} {X:AV} (h:zmG E n cs o X) {j:Nat} {Z:OB} (hz:o[j]? = some Z) (hne:∀g n cs,Z≠.orow E 3 g n cs) (W:OB):zmG E n cs (o.set j W) X:=by
 rcases h with h|⟨r,g,h1,h2,h3⟩
 ·exact .inl h
 ·exact .inr ⟨r,g,h1,h2,zaT h3 (fun e=>by rw[e,h3] at hz;injection hz with hz;exact hne _ _ _ hz.symm) W⟩
theorem zmG.lt {E n:Nat} {cs:List AV} {o:List OB} {X:AV} (h:zmG E n cs o X):X.plain=true\/∃r g,X=.orow r g/\r<o.length:=by
 rcases h with ⟨_,_,rfl⟩|⟨r,g,h1,h2,h3⟩
 ·exact .inl rfl
 ·exact .inr ⟨r,g,h1,(zf.1 h3).1⟩
def DoB (F:List UInt8) (A Ct:List (List UInt8)) (M X:AV):OB:=.box 34 [.s F,.row A.length (A.map .s),.row Ct.length (Ct.map .s),M,X]
structure DSu (o1 o:List OB) (m i:List UInt8) (e:Int) (jb:Nat) (F:List UInt8) (A Ct:List (List UInt8)) (ms:List MtP) (vs:List SvP) (M X:AV):Prop where
 ex:Ext o1 o 2 (rqB m i e)
 ej:o[jb]? = some (DoB F A Ct M X)
 rm:zmG 48 ms.length (zdq ms) o M
 rv:zmG 46 vs.length (zdc vs) o X
theorem DSu.plm {o1 o:List OB} {m i:List UInt8} {e:Int} {jb:Nat} {F:List UInt8} {A Ct:List (List UInt8)} {ms:List MtP} {vs:List SvP} {M X:AV} (h:DSu o1 o m i e jb F A Ct ms vs M X):PlM o.length (DoB F A Ct M X):=by
 intro c hc;simp only[zt,xg,or_false] at hc;rcases hc with rfl|rfl|rfl|rfl|rfl
 ·exact .inl rfl
 ·exact .inl (za0 _)
 ·exact .inl (za0 _)
 ·exact h.rm.lt
 ·exact h.rv.lt
theorem DSu.app {o1 o:List OB} {m i:List UInt8} {e:Int} {jb:Nat} {F:List UInt8} {A Ct:List (List UInt8)} {ms:List MtP} {vs:List SvP} {M X:AV} (h:DSu o1 o m i e jb F A Ct ms vs M X) (z:OB):DSu o1 (o++[z]) m i e jb F A Ct ms vs M X :=
 ⟨h.ex.app z,zaD h.ej z,h.rm.mono z,h.rv.mono z⟩
theorem DSu.call {o1 o o':List OB} {m i:List UInt8} {e e':Int} {jb:Nat} {F:List UInt8} {A Ct:List (List UInt8)} {ms:List MtP} {vs:List SvP} {M X:AV} (h:DSu o1 o m i e jb F A Ct ms vs M X) (hx:Ext o o' 2 (rqB m i e')) (hj:jb≠2):DSu o1 o' m i e' jb F A Ct ms vs M X :=
 ⟨h.ex.trans hx,hx.2.2 jb _ hj h.ej h.plm,h.rm.call hx rfl,h.rv.call hx rfl⟩
theorem ro_len (v:JV) (key:List UInt8):(roD v key).2.length<=64:=by
 unfold roD
 split
 ·exact zd _
 split
 ·exact zd _
 split
 ·exact zd _
 ·dsimp only;omega
theorem ro_it (v:JV) (key:List UInt8):∀y∈(roD v key).2,y∈(zaG v key).1.items:=by
 unfold roD
 split
 ·intro y hy;cases hy
 split
 ·intro y hy;cases hy
 split
 ·intro y hy;cases hy
 ·exact fun y hy=>hy
theorem zjY {α:Type} (f:JV->Int×α) (y:JV):∀l:List JV,feD f (l++[y])=orE (feD f l) (f y).1
 | []=>by show orE (f y).1 0=orE 0 (f y).1;rw[zfv,zdW]
 | x::l=>by show orE (f x).1 (feD f (l++[y]))=orE (orE (f x).1 (feD f l)) (f y).1;rw[zjY f y l,zaB]
section
variable [Tabs Tryz.prog] {objs:List OB} {K:List OB->AV->Prop}
theorem rdd_k (v:JV) (hv:JOk v) (hj:JBd v) (hb:IdB v) (hk:K objs (zmK (rdE v))):zaf Tryz.prog 11 [.agg (zao v)] objs K:=by
 refine zgf (zmK (rdE v)) ?_;have kz:∀e:Int,rdE v=(e,doZ)->(∀G I y,Den G I (.tup [.agg [.s [],.nil,.nil,.nil,.nil],.i .i64 e]) y->Den G I (zmK (rdE v)) y)/\K objs (zmK (rdE v)):=fun e he=>⟨fun G I y h=>by rw[he];exact zha (fun z hz=>zav hz) (fun z hz=>zav hz) (fun z hz=>zav hz) (fun z hz=>zav hz) h,hk⟩;refine zaX is_ref17_Decode (by simp only[zan,AV.plain,zaL,Bool.and_self]) fun C _=>?_;have ejv:=zae v;have hm:maxLen=2 ^ 63 - 1:=rfl;have hpv:PlO (OB.box 25 [.i .i64 v.kind,.s v.text,.row v.keys.length (v.keys.map .s),.row v.items.length (zab v.items)]):=by
  show zan _=true;rw[<-ejv];exact zaL v
 rw[c_ref17_Decode,ejv];refine zaa fun Z hZ=>?_;simp only[sxZ,z6,z7,z8,j4,j5,j6,j7,j8,j9,x0,x6,x7,x8,x9,y4,reduceCtorEq,↓reduceIte];have q0:[OB.box 25 [.i .i64 v.kind,.s v.text,.row v.keys.length (v.keys.map .s),.row v.items.length (zab v.items)],OB.box 34 [.s [],.nil,.nil,.nil,.nil]][0]? = some (OB.box 25 [.i .i64 v.kind,.s v.text,.row v.keys.length (v.keys.map .s),.row v.items.length (zab v.items)]):=rfl;have q1:[OB.box 25 [.i .i64 v.kind,.s v.text,.row v.keys.length (v.keys.map .s),.row v.items.length (zab v.items)],OB.box 34 [.s [],.nil,.nil,.nil,.nil]][1]? = some (OB.box 34 [.s [],.nil,.nil,.nil,.nil]):=rfl;have ql:[OB.box 25 [.i .i64 v.kind,.s v.text,.row v.keys.length (v.keys.map .s),.row v.items.length (zab v.items)],OB.box 34 [.s [],.nil,.nil,.nil,.nil]].length=2:=rfl;generalize [OB.box 25 [.i .i64 v.kind,.s v.text,.row v.keys.length (v.keys.map .s),.row v.items.length (zab v.items)],OB.box 34 [.s [],.nil,.nil,.nil,.nil]]=o0 at q0 q1 ql ⊢;subst hZ;refine zaa fun Z hZ=>?_;unfold rdE at kz hk ⊢;have hl0:=(zf.1 q1).1
 by_cases c7:v.kind=7
 rotate_left
 ·rw[if_pos c7] at kz hk ⊢;have:=kz 160 rfl;simp only[sxZ,z6,z7,z8,j4,j5,j6,j7,j8,j9,x0,x6,x7,x8,x9,y4,reduceCtorEq,↓reduceIte,q0,q1,c7,hl0,za];exact this
 rw[if_neg (show ¬v.kind≠7 from fun e=>e c7)] at kz hk ⊢;simp only[sxZ,z6,z7,z8,j4,j5,j6,j7,j8,j9,x0,x6,x7,x8,x9,y4,reduceCtorEq,↓reduceIte,q0,c7];subst hZ;refine zaa fun Z hZ=>?_;simp only[sxZ,z6,z7,z8,j4,j5,j6,j7,j8,j9,x0,x6,x7,x8,x9,y4,reduceCtorEq,↓reduceIte];have e0:=zaD q0 (OB.box 76 [.s [],.s [],.i .i64 0]);have e1:=zaD q1 (OB.box 76 [.s [],.s [],.i .i64 0]);have e2:(o0++[OB.box 76 [.s [],.s [],.i .i64 0]])[2]? = some (rqB [] [] 0):=by rw[<-ql];exact gn1 _ _
 have el:(o0++[OB.box 76 [.s [],.s [],.i .i64 0]]).length=3:=by simp[ql]
 rw[ql];generalize o0++[OB.box 76 [.s [],.s [],.i .i64 0]]=o1 at e0 e1 e2 el ⊢;clear q0 q1 ql hl0;subst hZ;refine zaa fun Z hZ=>?_;simp only[sxZ,z6,z7,z8,j4,j5,j6,j7,j8,j9,x0,x6,x7,x8,x9,y4,reduceCtorEq,↓reduceIte,e0];rw[<-ejv];refine zad (zfE [] [] v 0 kId 2 hv e2 fun o2 x2=>?_);rw[zdW] at x2;have hbt:=hb.1;have f0:=x2.keep e0 (by decide) hpv;have f1:=x2.keep e1 (by decide) rfl;simp only[sxZ,z6,z7,z8,j4,j5,j6,j7,j8,j9,x0,x6,x7,x8,x9,y4,reduceCtorEq,↓reduceIte];refine zad (zfk (zaG v kId).1.text (by omega) ?_);have hdl:=zeA (zaG v kId).1.text;generalize zcN (zaG v kId).1.text=R at kz hk hdl ⊢;obtain⟨e,m,i⟩:=R;dsimp only at kz hk hdl ⊢;simp only[sxZ,z6,z7,z8,j4,j5,j6,j7,j8,j9,x0,x6,x7,x8,x9,y4,reduceCtorEq,↓reduceIte,gn1,sn1];have g0:=zaD f0 (OB.box 62 [.s m,.s i]);have g1:=zaD f1 (OB.box 62 [.s m,.s i]);have gD:(o2++[OB.box 62 [.s m,.s i]])[o2.length]? = some (OB.box 62 [.s m,.s i]):=gn1 _ _;have x3:=x2.app (OB.box 62 [.s m,.s i]);have hd3:=x2.2.1;generalize o2.length=db at gD hd3 ⊢;generalize o2++[OB.box 62 [.s m,.s i]]=o3 at g0 g1 gD x3 ⊢;clear f0 f1 x2;rw[el] at hd3;have hl3:=(zf.1 g1).1;subst hZ;refine zaa fun Z hZ=>?_
 by_cases c:e=0
 rotate_left
 ·rw[if_pos c] at kz hk ⊢;have:=kz 160 rfl;simp only[sxZ,z6,z7,z8,j4,j5,j6,j7,j8,j9,x0,x6,x7,x8,x9,y4,reduceCtorEq,↓reduceIte,c,g1,hl3,za];exact this
 subst c;rw[if_neg (show ¬((0:Int)≠0) by decide)] at kz hk ⊢;simp only[sxZ,z6,z7,z8,j4,j5,j6,j7,j8,j9,x0,x6,x7,x8,x9,y4,reduceCtorEq,↓reduceIte];subst hZ;refine zaa fun Z hZ=>?_;have g2:=x3.1;unfold rqB at g2;simp only[sxZ,z6,z7,z8,j4,j5,j6,j7,j8,j9,x0,x6,x7,x8,x9,y4,reduceCtorEq,↓reduceIte,gD,g2];have x4:=x3.set (rqB m i (rtE v kId));have h0:=zaT g0 (r:=2) (by decide) (rqB m i (rtE v kId));have h1:=zaT g1 (r:=2) (by decide) (rqB m i (rtE v kId));have hD:=zaT gD (r:=2) (by omega) (rqB m i (rtE v kId));unfold rqB at x4 h0 h1 hD;generalize o3.set 2 (OB.box 76 [.s m,.s i,.i .i64 (rtE v kId)])=o4 at x4 h0 h1 hD ⊢;have x4:Ext o1 o4 2 (rqB m i (rtE v kId)):=x4;clear g0 g1 gD g2 x3 hl3;subst hZ;refine zaa fun Z hZ=>?_;have hA:=x4.app (OB.box 34 [.s [],.nil,.nil,.nil,.nil]);have a0:=zaD h0 (OB.box 34 [.s [],.nil,.nil,.nil,.nil]);have aD:=zaD hD (OB.box 34 [.s [],.nil,.nil,.nil,.nil]);have aj:(o4++[OB.box 34 [.s [],.nil,.nil,.nil,.nil]])[o4.length]? = some (OB.box 34 [.s [],.nil,.nil,.nil,.nil]):=gn1 _ _;have hl4:=x4.2.1;have hdl4:=(zf.1 hD).1;refine zaJ (fun o t=>∃jb,Ext o1 o 2 (rqB m i (orE (rtE v kId) (rsD v zcs false).1))/\3<=jb/\o[jb]? = some (.box 34 [.s (zeh m i),.row (rsD v zcs false).2.length ((rsD v zcs false).2.map .s),.nil,.nil,.nil])/\t.length=87/\t[1]? = some (.p 0 0)/\t[2]? = some (.p 1 0)/\t[4]? = some (.p 2 0)/\t[7]? = some (.p jb 0)) ?_ ?_
 ·simp only[sxZ,z6,z7,z8,j4,j5,j6,j7,j8,j9,x0,x6,x7,x8,x9,y4,reduceCtorEq,↓reduceIte,h0,hD,a0,aD,gn1];refine⟨?_,?_⟩
  ·generalize o4++[OB.box 34 [.s [],.nil,.nil,.nil,.nil]]=oA at a0 aD aj hA ⊢;refine zad (zbS m i (by omega) (by omega) ?_);simp only[sxZ,z6,z7,z8,j4,j5,j6,j7,j8,j9,x0,x6,x7,x8,x9,y4,reduceCtorEq,↓reduceIte,a0,aD];rw[<-ejv];refine zad (zeY m i v _ zcs false 2 hv hA.1 fun o5 x5=>?_);have d0:=x5.keep a0 (by decide) hpv;have dD:=x5.keep aD (by omega) rfl;have dj:=x5.keep aj (by omega) rfl;rw[ejv];simp only[sxZ,z6,z7,z8,j4,j5,j6,j7,j8,j9,x0,x6,x7,x8,x9,y4,reduceCtorEq,↓reduceIte,d0,dD,dj];rw[zac];exact⟨o4.length,(hA.trans x5).own o4.length _ (by omega) (by omega),by omega,zk (zf.1 dj).1,rfl,rfl,rfl,rfl,rfl⟩
  ·refine zad (zbS m i (by omega) (by omega) ?_);simp only[sxZ,z6,z7,z8,j4,j5,j6,j7,j8,j9,x0,x6,x7,x8,x9,y4,reduceCtorEq,↓reduceIte,h0,hD,a0,aD,gn1];refine⟨?_,?_⟩
   ·generalize o4++[OB.box 34 [.s [],.nil,.nil,.nil,.nil]]=oA at a0 aD aj hA ⊢;rw[<-ejv];refine zad (zeY m i v _ zcs false 2 hv hA.1 fun o5 x5=>?_);have d0:=x5.keep a0 (by decide) hpv;have dD:=x5.keep aD (by omega) rfl;have dj:=x5.keep aj (by omega) rfl;rw[ejv];simp only[sxZ,z6,z7,z8,j4,j5,j6,j7,j8,j9,x0,x6,x7,x8,x9,y4,reduceCtorEq,↓reduceIte,d0,dD,dj];rw[zac];exact⟨o4.length,(hA.trans x5).own o4.length _ (by omega) (by omega),by omega,zk (zf.1 dj).1,rfl,rfl,rfl,rfl,rfl⟩
   ·rw[<-ejv];refine zad (zeY m i v _ zcs false 2 hv x4.1 fun o5 x5=>?_);have d0:=x5.keep h0 (by decide) hpv;have dD:=x5.keep hD (by omega) rfl;have b0:=zaD d0 (OB.box 34 [.s [],.nil,.nil,.nil,.nil]);have bD:=zaD dD (OB.box 34 [.s [],.nil,.nil,.nil,.nil]);rw[ejv];simp only[sxZ,z6,z7,z8,j4,j5,j6,j7,j8,j9,x0,x6,x7,x8,x9,y4,reduceCtorEq,↓reduceIte,d0,dD,b0,bD,gn1,sn1];rw[zac];have hl5:=x5.2.1;exact⟨o5.length,(x4.trans x5).app _,by omega,gn1 _ _,rfl,rfl,rfl,rfl,rfl⟩
 clear hA a0 aD aj hl4 hdl4 h0 h1 hD x4 hd3;rintro o tm ⟨jb,hE,hjb,ej,hlen,t1,t2,t4,t7⟩;have f0:=hE.keep e0 (by decide) hpv;subst hZ;refine zaa fun Z hZ=>?_;simp only[sxZ,z6,z7,z8,j4,j5,j6,j7,j8,j9,x0,x6,x7,x8,x9,y4,reduceCtorEq,↓reduceIte,za,hlen,t1,t4,f0];rw[<-ejv];refine zad (zeY m i v _ zbI true 2 hv hE.1 fun o3 x3=>?_);have hE3:=hE.trans x3;have ej3:=x3.keep ej (by omega) (by show zan _=true;simp only[zan,AV.plain,za0,Bool.and_self]);have hjl:=(zf.1 ej3).1;simp only[sxZ,z6,z7,z8,j4,j5,j6,j7,j8,j9,x0,x6,x7,x8,x9,y4,reduceCtorEq,↓reduceIte,za,hlen,t7,ej3,hjl];generalize hA:(rsD v zcs false).2=A at ej3 ⊢;generalize hC:(rsD v zbI true).2=Ct;have hE4:=hE3.own jb (.box 34 [.s (zeh m i),.row A.length (A.map .s),.row Ct.length (Ct.map .s),.nil,.nil]) (by omega) (by omega);have ej4:(o3.set jb (.box 34 [.s (zeh m i),.row A.length (A.map .s),.row Ct.length (Ct.map .s),.nil,.nil]))[jb]? = some (.box 34 [.s (zeh m i),.row A.length (A.map .s),.row Ct.length (Ct.map .s),.nil,.nil]):=zk hjl;generalize o3.set jb (.box 34 [.s (zeh m i),.row A.length (A.map .s),.row Ct.length (Ct.map .s),.nil,.nil])=o4 at hE4 ej4 ⊢;clear f0 x3 hE3 ej3 hE ej hjl o;have f0:=hE4.keep e0 (by decide) hpv;subst hZ;refine zbC (fun t3=>t3.length=87/\t3[1]? = some (.p 0 0)/\t3[2]? = some (.p 1 0)/\t3[4]? = some (.p 2 0)/\t3[7]? = some (.p jb 0)) ?_ ?_
 ·simp only[sxZ,z6,z7,z8,j4,j5,j6,j7,j8,j9,x0,x6,x7,x8,x9,y4,reduceCtorEq,↓reduceIte,zh,za,hlen,t1,t2,t4,t7,and_self]
 clear hlen t1 t2 t4 t7 tm;rintro tm ⟨hlen,t1,t2,t4,t7⟩;refine zaa fun Z hZ=>?_;have hD:DSu o1 o4 m i (orE (orE (rtE v kId) (rsD v zcs false).1) (rsD v zbI true).1) jb (zeh m i) A Ct [] [] .nil .nil:=⟨hE4,ej4,.inl ⟨rfl,rfl,rfl⟩,.inl ⟨rfl,rfl,rfl⟩⟩;refine zaa fun W hW=>?_;simp only[sxZ,z6,z7,z8,j4,j5,j6,j7,j8,j9,x0,x6,x7,x8,x9,y4,reduceCtorEq,↓reduceIte,za,hlen,t1,t4,f0];rw[<-ejv];refine zad (znd m i v _ zb2 2 hv hE4.1 fun o5 x5=>?_);have D5:=hD.call x5 (by omega);have hit:=ro_len v zb2;have hok:∀y∈(roD v zb2).2,JOk y/\JBd y/\(zaG y kId).1.text.length<=100000000:=fun y hy=>hb.it hv hj zb2 y (ro_it v zb2 y hy);simp only[sxZ,z6,z7,z8,j4,j5,j6,j7,j8,j9,x0,x6,x7,x8,x9,y4,reduceCtorEq,↓reduceIte,za,hlen];clear hD hE4 ej4 x5 f0;generalize hMM:(roD v zb2).2=its at hit hok ⊢;generalize hM4:orE (orE (orE (rtE v kId) (rsD v zcs false).1) (rsD v zbI true).1) (roD v zb2).1=e4 at D5;have hl4:=zaI its;subst hW;rw[zaZ];refine zaE (fun n o tm=>∃(j:Nat),j<=its.length/\n=its.length - j/\(∃M,DSu o1 o m i (orE e4 (feD (rmD m i) (its.take j))) jb (zeh m i) A Ct ((its.take j).map fun y=>(rmD m i y).2) [] M .nil)/\tm.length=87/\tm[1]? = some (.p 0 0)/\tm[2]? = some (.p 1 0)/\tm[4]? = some (.p 2 0)/\tm[7]? = some (.p jb 0)/\tm[44]? = some (.row its.length (zab its))/\tm[45]? = some (.i .i64 (its.length:Int))/\tm[46]? = some (.i .i64 (j:Int))) its.length ⟨0,zd _,rfl,⟨.nil,by rw[jn,feD,zfv];exact D5⟩,?_⟩ ?_
 ·simp only[sxZ,z6,z7,z8,j4,j5,j6,j7,j8,j9,x0,x6,x7,x8,x9,y4,reduceCtorEq,↓reduceIte,zh,za,hlen,t1,t2,t4,t7,yd,and_self]
 clear D5 hlen t1 t2 t4 t7 tm;rintro n o tm ⟨j,hjl,rfl,⟨M,D⟩,hlen,t1,t2,t4,t7,t44,t45,t46⟩;refine zaa fun W hW=>?_
 by_cases hlt:(j:Int)<(its.length:Int)
 ·have hi':j<its.length:=by omega
  have kv:=zd9 hi';obtain⟨y1,y2,y3⟩:=hok its[j] (qw hi');have htk:its.take (j+1)=its.take j++[its[j]]:=by rw[ye,zl hi'];rfl
  generalize its[j]=y at kv htk y1 y2 y3;have hfe:orE e4 (feD (rmD m i) (its.take (j+1)))=orE (orE e4 (feD (rmD m i) (its.take j))) (rmD m i y).1:=by rw[htk,zjY,zaB]
  have hmp:(its.take (j+1)).map (fun y=>(rmD m i y).2)=(its.take j).map (fun y=>(rmD m i y).2)++[(rmD m i y).2]:=by rw[htk,je];rfl
  have hfl:((its.take j).map fun y=>(rmD m i y).2).length=j:=by rw[qm,qd];omega
  generalize orE e4 (feD (rmD m i) (its.take j))=E at D hfe;generalize (its.take j).map (fun y=>(rmD m i y).2)=acc at D hmp hfl;have ey:=zae y;have hpy:PlO (OB.box 25 [.i .i64 y.kind,.s y.text,.row y.keys.length (y.keys.map .s),.row y.items.length (zab y.items)]):=by
   show zan _=true;rw[<-ey];exact zaL y
  rw[ey] at kv;simp only[sxZ,z6,z7,z8,j4,j5,j6,j7,j8,j9,x0,x6,x7,x8,x9,y4,reduceCtorEq,↓reduceIte,za,hlen,t45,t46,hlt];subst hW;refine zaa fun W hW=>?_;simp only[sxZ,z6,z7,z8,j4,j5,j6,j7,j8,j9,x0,x6,x7,x8,x9,y4,reduceCtorEq,↓reduceIte,za,hlen];subst hW;refine zaa fun V hV=>?_;rw[zaZ];refine zaa fun W hW=>?_;simp only[sxZ,z6,z7,z8,j4,j5,j6,j7,j8,j9,x0,x6,x7,x8,x9,y4,reduceCtorEq,↓reduceIte,za,hlen,t44,t46,kv];refine⟨⟨by omega,by omega,by omega⟩,by omega,?_⟩;simp only[sxZ,z6,z7,z8,j4,j5,j6,j7,j8,j9,x0,x6,x7,x8,x9,y4,reduceCtorEq,↓reduceIte,za,hlen,gn1,sn1];have Da:=D.app (OB.box 25 [.i .i64 y.kind,.s y.text,.row y.keys.length (y.keys.map .s),.row y.items.length (zab y.items)]);have eya:(o++[OB.box 25 [.i .i64 y.kind,.s y.text,.row y.keys.length (y.keys.map .s),.row y.items.length (zab y.items)]])[o.length]? = some (OB.box 25 [.i .i64 y.kind,.s y.text,.row y.keys.length (y.keys.map .s),.row y.items.length (zab y.items)]):=gn1 _ _;have hol:=D.ex.2.1;rw[el] at hol;generalize o.length=p at eya hol ⊢;generalize o++[OB.box 25 [.i .i64 y.kind,.s y.text,.row y.keys.length (y.keys.map .s),.row y.items.length (zab y.items)]]=oa at Da eya ⊢;clear D;subst hW;refine zbC (fun t3=>t3.length=87/\t3[1]? = some (.p 0 0)/\t3[2]? = some (.p 1 0)/\t3[4]? = some (.p 2 0)/\t3[7]? = some (.p jb 0)/\t3[9]? = some (.p p 0)/\t3[44]? = some (.row its.length (zab its))/\t3[45]? = some (.i .i64 (its.length:Int))/\t3[46]? = some (.i .i64 (j:Int))) ?_ ?_
  ·simp only[sxZ,z6,z7,z8,j4,j5,j6,j7,j8,j9,x0,x6,x7,x8,x9,y4,reduceCtorEq,↓reduceIte,zh,za,hlen,t1,t2,t4,t7,t44,t45,t46,and_self]
  clear hlen t1 t2 t4 t7 t44 t45 t46 tm;rintro tm ⟨hlen,t1,t2,t4,t7,t9,t44,t45,t46⟩;have eja:=Da.ej;unfold DoB at eja;simp only[sxZ,z6,z7,z8,j4,j5,j6,j7,j8,j9,x0,x6,x7,x8,x9,y4,reduceCtorEq,↓reduceIte,za,hlen,t4,t7,t9,eya,eja];rw[<-ey];refine zad (rqm_k m i y E 2 y1 (by omega) (by omega) y3 Da.ex.1 fun ob xb=>?_);have Db:=Da.call xb (by omega);have eyb:=xb.keep eya (by omega) hpy;clear Da eya eja xb;generalize rmD m i y=R at hfe hmp Db ⊢;obtain⟨er,xm⟩:=R;dsimp only at hfe hmp Db ⊢;rw[ey];unfold mtc;have ejb:=Db.ej;unfold DoB at ejb;have hjb2:=(zf.1 ejb).1;have hob:=Db.ex.2.1;rw[el] at hob;have hmc:zdq [xm]=[.s xm.id,.s xm.typ,.s xm.ctl]:=rfl;have hca:=zhS acc;rcases Db.rm with ⟨h0,h1,rfl⟩|⟨r,g,rfl,hr3,hr⟩
  ·have ejb':∀z,(ob++[z])[jb]? = some (OB.box 34 [.s (zeh m i),.row A.length (A.map .s),.row Ct.length (Ct.map .s),.nil,.nil]):=fun z=>zaD ejb z;simp only[sxZ,z6,z7,z8,j4,j5,j6,j7,j8,j9,x0,x6,x7,x8,x9,y4,reduceCtorEq,↓reduceIte,za,hlen,t4,t7,t9,eyb,ejb,ejb'];subst hV;simp only[sxZ,z6,z7,z8,j4,j5,j6,j7,j8,j9,x0,x6,x7,x8,x9,y4,reduceCtorEq,↓reduceIte,za,hlen,t1,t2,t4,t7,t44,t45,t46];refine⟨by omega,its.length - (j+1),by omega,j+1,by omega,rfl,⟨.orow ob.length 0,?_⟩,rfl⟩;rw[hfe,hmp];refine⟨(Db.ex.app _).own jb _ (by omega) (by omega),?_,.inr ⟨ob.length,0,rfl,by omega,?_⟩,(Db.rv.mono _).set (ejb' _) (by intro _ _ _ h;cases h) _⟩
   ·rw[zk (by rw[zm];omega)];rfl
   ·rw[zi (by omega),gn1,zhT,h1,hmc,zm,h0];rfl
  ·have hrl:=(zf.1 hr).1;have hrj:¬r=jb:=fun h=>by rw[h,ejb] at hr;cases hr
   simp only[sxZ,z6,z7,z8,j4,j5,j6,j7,j8,j9,x0,x6,x7,x8,x9,y4,reduceCtorEq,↓reduceIte,za,hlen,t4,t7,t9,eyb,ejb,hr,hrj];refine⟨⟨by omega,by omega⟩,?_⟩;subst hV;simp only[sxZ,z6,z7,z8,j4,j5,j6,j7,j8,j9,x0,x6,x7,x8,x9,y4,reduceCtorEq,↓reduceIte,za,hlen,t1,t2,t4,t7,t44,t45,t46];refine⟨by omega,its.length - (j+1),by omega,j+1,by omega,rfl,⟨.orow r (g+1),?_⟩,rfl⟩;rw[hfe,hmp];have hS:=zaT ejb (r:=r) hrj (OB.orow 48 3 (g+1) (acc.length+1) (zdq acc++[.s xm.id,.s xm.typ,.s xm.ctl]));refine⟨(Db.ex.own r _ (by omega) (by omega)).own jb _ (by omega) (by omega),?_,.inr ⟨r,g+1,rfl,by omega,?_⟩,(Db.rv.set hr (by intro _ _ _ h;injection h with h;cases h) _).set hS (by intro _ _ _ h;cases h) _⟩
   ·rw[zk (by rw[zh];omega)];rfl
   ·rw[zi (fun h=>hrj h.symm),zk hrl,zhT,hmc,zm];rfl
 have hn:j=its.length:=by omega
 rw[hn,jk (ze _)] at D;simp only[sxZ,z6,z7,z8,j4,j5,j6,j7,j8,j9,x0,x6,x7,x8,x9,y4,reduceCtorEq,↓reduceIte,za,hlen,t45,t46,hlt];subst hW;simp only[sxZ,z6,z7,z8,j4,j5,j6,j7,j8,j9,x0,x6,x7,x8,x9,y4,reduceCtorEq,↓reduceIte,za,hlen];subst hZ;refine zbC (fun t3=>t3.length=87/\t3[1]? = some (.p 0 0)/\t3[2]? = some (.p 1 0)/\t3[4]? = some (.p 2 0)/\t3[7]? = some (.p jb 0)) ?_ ?_
 ·simp only[sxZ,z6,z7,z8,j4,j5,j6,j7,j8,j9,x0,x6,x7,x8,x9,y4,reduceCtorEq,↓reduceIte,zh,za,hlen,t1,t2,t4,t7,and_self]
 clear hlen t1 t2 t4 t7 t44 t45 t46 tm;rintro tm ⟨hlen,t1,t2,t4,t7⟩;refine zaa fun Z hZ=>?_;have f0:=D.ex.keep e0 (by decide) hpv;have hFd:rdF m i v=orE (orE (orE e4 (feD (rmD m i) its)) (roD v zbz).1) (feD (rvD m i) (roD v zbz).2):=by unfold rdF;rw[hMM,<-hM4]
 have hOd:rdO m i v=⟨zeh m i,A,Ct,its.map (fun y=>(rmD m i y).2),(roD v zbz).2.map (fun y=>(rvD m i y).2)⟩:=by unfold rdO;rw[hA,hC,hMM]
 have hmsl:(its.map fun y=>(rmD m i y).2).length<=64:=by rw[qm];exact hit
 clear hok hit hl4 hlt hn hjl;generalize (its.map fun y=>(rmD m i y).2)=ms at D hOd hmsl;refine zaa fun W hW=>?_;simp only[sxZ,z6,z7,z8,j4,j5,j6,j7,j8,j9,x0,x6,x7,x8,x9,y4,reduceCtorEq,↓reduceIte,za,hlen,t1,t4,f0];rw[<-ejv];refine zad (znd m i v _ zbz 2 hv D.ex.1 fun o5 x5=>?_);have D5:=D.call x5 (by omega);have hit:=ro_len v zbz;have hok:∀y∈(roD v zbz).2,JOk y/\JBd y/\(zaG y kId).1.text.length<=100000000:=fun y hy=>hb.it hv hj zbz y (ro_it v zbz y hy);simp only[sxZ,z6,z7,z8,j4,j5,j6,j7,j8,j9,x0,x6,x7,x8,x9,y4,reduceCtorEq,↓reduceIte,za,hlen];clear D x5 f0;generalize (roD v zbz).2=itv at hit hok hFd hOd ⊢;generalize hV4:orE (orE e4 (feD (rmD m i) its)) (roD v zbz).1=e5 at D5 hFd;have hl4:=zaI itv;subst hW;rw[zaZ];refine zaE (fun n o tm=>∃(j:Nat),j<=itv.length/\n=itv.length - j/\(∃X,DSu o1 o m i (orE e5 (feD (rvD m i) (itv.take j))) jb (zeh m i) A Ct ms ((itv.take j).map fun y=>(rvD m i y).2) M X)/\tm.length=87/\tm[1]? = some (.p 0 0)/\tm[2]? = some (.p 1 0)/\tm[4]? = some (.p 2 0)/\tm[7]? = some (.p jb 0)/\tm[61]? = some (.row itv.length (zab itv))/\tm[62]? = some (.i .i64 (itv.length:Int))/\tm[63]? = some (.i .i64 (j:Int))) itv.length ⟨0,zd _,rfl,⟨.nil,by rw[jn,feD,zfv];exact D5⟩,?_⟩ ?_
 ·simp only[sxZ,z6,z7,z8,j4,j5,j6,j7,j8,j9,x0,x6,x7,x8,x9,y4,reduceCtorEq,↓reduceIte,zh,za,hlen,t1,t2,t4,t7,yd,and_self]
 clear D5 hlen t1 t2 t4 t7 tm;rintro n o tm ⟨j,hjl,rfl,⟨X,D⟩,hlen,t1,t2,t4,t7,t61,t62,t63⟩;refine zaa fun W hW=>?_
 by_cases hlt:(j:Int)<(itv.length:Int)
 ·have hi':j<itv.length:=by omega
  have kv:=zd9 hi';obtain⟨y1,y2,y3⟩:=hok itv[j] (qw hi');have htk:itv.take (j+1)=itv.take j++[itv[j]]:=by rw[ye,zl hi'];rfl
  generalize itv[j]=y at kv htk y1 y2 y3;have hfe:orE e5 (feD (rvD m i) (itv.take (j+1)))=orE (orE e5 (feD (rvD m i) (itv.take j))) (rvD m i y).1:=by rw[htk,zjY,zaB]
  have hmp:(itv.take (j+1)).map (fun y=>(rvD m i y).2)=(itv.take j).map (fun y=>(rvD m i y).2)++[(rvD m i y).2]:=by rw[htk,je];rfl
  have hfl:((itv.take j).map fun y=>(rvD m i y).2).length=j:=by rw[qm,qd];omega
  generalize orE e5 (feD (rvD m i) (itv.take j))=E at D hfe;generalize (itv.take j).map (fun y=>(rvD m i y).2)=acc at D hmp hfl;have ey:=zae y;have hpy:PlO (OB.box 25 [.i .i64 y.kind,.s y.text,.row y.keys.length (y.keys.map .s),.row y.items.length (zab y.items)]):=by
   show zan _=true;rw[<-ey];exact zaL y
  rw[ey] at kv;simp only[sxZ,z6,z7,z8,j4,j5,j6,j7,j8,j9,x0,x6,x7,x8,x9,y4,reduceCtorEq,↓reduceIte,za,hlen,t62,t63,hlt];subst hW;refine zaa fun W hW=>?_;simp only[sxZ,z6,z7,z8,j4,j5,j6,j7,j8,j9,x0,x6,x7,x8,x9,y4,reduceCtorEq,↓reduceIte,za,hlen];subst hW;refine zaa fun V hV=>?_;rw[zaZ];refine zaa fun W hW=>?_;simp only[sxZ,z6,z7,z8,j4,j5,j6,j7,j8,j9,x0,x6,x7,x8,x9,y4,reduceCtorEq,↓reduceIte,za,hlen,t61,t63,kv];refine⟨⟨by omega,by omega,by omega⟩,by omega,?_⟩;simp only[sxZ,z6,z7,z8,j4,j5,j6,j7,j8,j9,x0,x6,x7,x8,x9,y4,reduceCtorEq,↓reduceIte,za,hlen,gn1,sn1];have Da:=D.app (OB.box 25 [.i .i64 y.kind,.s y.text,.row y.keys.length (y.keys.map .s),.row y.items.length (zab y.items)]);have eya:(o++[OB.box 25 [.i .i64 y.kind,.s y.text,.row y.keys.length (y.keys.map .s),.row y.items.length (zab y.items)]])[o.length]? = some (OB.box 25 [.i .i64 y.kind,.s y.text,.row y.keys.length (y.keys.map .s),.row y.items.length (zab y.items)]):=gn1 _ _;have hol:=D.ex.2.1;rw[el] at hol;generalize o.length=p at eya hol ⊢;generalize o++[OB.box 25 [.i .i64 y.kind,.s y.text,.row y.keys.length (y.keys.map .s),.row y.items.length (zab y.items)]]=oa at Da eya ⊢;clear D;subst hW;refine zbC (fun t3=>t3.length=87/\t3[1]? = some (.p 0 0)/\t3[2]? = some (.p 1 0)/\t3[4]? = some (.p 2 0)/\t3[7]? = some (.p jb 0)/\t3[11]? = some (.p p 0)/\t3[61]? = some (.row itv.length (zab itv))/\t3[62]? = some (.i .i64 (itv.length:Int))/\t3[63]? = some (.i .i64 (j:Int))) ?_ ?_
  ·simp only[sxZ,z6,z7,z8,j4,j5,j6,j7,j8,j9,x0,x6,x7,x8,x9,y4,reduceCtorEq,↓reduceIte,zh,za,hlen,t1,t2,t4,t7,t61,t62,t63,and_self]
  clear hlen t1 t2 t4 t7 t61 t62 t63 tm;rintro tm ⟨hlen,t1,t2,t4,t7,t11,t61,t62,t63⟩;have eja:=Da.ej;unfold DoB at eja;simp only[sxZ,z6,z7,z8,j4,j5,j6,j7,j8,j9,x0,x6,x7,x8,x9,y4,reduceCtorEq,↓reduceIte,za,hlen,t4,t7,t11,eya,eja];rw[<-ey];refine zad (rqv_k m i y E 2 y1 (by omega) (by omega) y3 Da.ex.1 fun ob xb=>?_);have Db:=Da.call xb (by omega);have eyb:=xb.keep eya (by omega) hpy;clear Da eya eja xb;generalize rvD m i y=R at hfe hmp Db ⊢;obtain⟨er,xm⟩:=R;dsimp only at hfe hmp Db ⊢;rw[ey];unfold svc;have ejb:=Db.ej;unfold DoB at ejb;have hjb2:=(zf.1 ejb).1;have hob:=Db.ex.2.1;rw[el] at hob;have hmc:zdc [xm]=[.s xm.id,.row xm.typ.length (xm.typ.map .s),.row xm.eps.length (xm.eps.map .s)]:=rfl;have hca:=zhs acc;rcases Db.rv with ⟨h0,h1,rfl⟩|⟨r,g,rfl,hr3,hr⟩
  ·have ejb':∀z,(ob++[z])[jb]? = some (OB.box 34 [.s (zeh m i),.row A.length (A.map .s),.row Ct.length (Ct.map .s),M,.nil]):=fun z=>zaD ejb z;simp only[sxZ,z6,z7,z8,j4,j5,j6,j7,j8,j9,x0,x6,x7,x8,x9,y4,reduceCtorEq,↓reduceIte,za,hlen,t4,t7,t11,eyb,ejb,ejb'];subst hV;simp only[sxZ,z6,z7,z8,j4,j5,j6,j7,j8,j9,x0,x6,x7,x8,x9,y4,reduceCtorEq,↓reduceIte,za,hlen,t1,t2,t4,t7,t61,t62,t63];refine⟨by omega,itv.length - (j+1),by omega,j+1,by omega,rfl,⟨.orow ob.length 0,?_⟩,rfl⟩;rw[hfe,hmp];refine⟨(Db.ex.app _).own jb _ (by omega) (by omega),?_,(Db.rm.mono _).set (ejb' _) (by intro _ _ _ h;cases h) _,.inr ⟨ob.length,0,rfl,by omega,?_⟩⟩
   ·rw[zk (by rw[zm];omega)];rfl
   ·rw[zi (by omega),gn1,zht,h1,hmc,zm,h0];rfl
  ·have hrl:=(zf.1 hr).1;have hrj:¬r=jb:=fun h=>by rw[h,ejb] at hr;cases hr
   simp only[sxZ,z6,z7,z8,j4,j5,j6,j7,j8,j9,x0,x6,x7,x8,x9,y4,reduceCtorEq,↓reduceIte,za,hlen,t4,t7,t11,eyb,ejb,hr,hrj];refine⟨⟨by omega,by omega⟩,?_⟩;subst hV;simp only[sxZ,z6,z7,z8,j4,j5,j6,j7,j8,j9,x0,x6,x7,x8,x9,y4,reduceCtorEq,↓reduceIte,za,hlen,t1,t2,t4,t7,t61,t62,t63];refine⟨by omega,itv.length - (j+1),by omega,j+1,by omega,rfl,⟨.orow r (g+1),?_⟩,rfl⟩;rw[hfe,hmp];have hS:=zaT ejb (r:=r) hrj (OB.orow 46 3 (g+1) (acc.length+1) (zdc acc++[.s xm.id,.row xm.typ.length (xm.typ.map .s),.row xm.eps.length (xm.eps.map .s)]));refine⟨(Db.ex.own r _ (by omega) (by omega)).own jb _ (by omega) (by omega),?_,(Db.rm.set hr (by intro _ _ _ h;injection h with h;cases h) _).set hS (by intro _ _ _ h;cases h) _,.inr ⟨r,g+1,rfl,by omega,?_⟩⟩
   ·rw[zk (by rw[zh];omega)];rfl
   ·rw[zi (fun h=>hrj h.symm),zk hrl,zht,hmc,zm];rfl
 have hn:j=itv.length:=by omega
 rw[hn,jk (ze _)] at D;rw[<-hFd] at D;simp only[sxZ,z6,z7,z8,j4,j5,j6,j7,j8,j9,x0,x6,x7,x8,x9,y4,reduceCtorEq,↓reduceIte,za,hlen,t62,t63,hlt];subst hW;simp only[sxZ,z6,z7,z8,j4,j5,j6,j7,j8,j9,x0,x6,x7,x8,x9,y4,reduceCtorEq,↓reduceIte,za,hlen];subst hZ;have f1:=D.ex.keep e1 (by decide) rfl;have hf1l:=(zf.1 f1).1;have f2:=D.ex.1;unfold rqB at f2;have ej:=D.ej;unfold DoB at ej;have hjb1:jb≠1:=by omega
 refine zaa fun Z hZ=>?_
 by_cases c:rdF m i v=0
 rotate_left
 ·rw[if_pos c] at kz hk ⊢;have:=kz _ rfl;simp only[sxZ,z6,z7,z8,j4,j5,j6,j7,j8,j9,x0,x6,x7,x8,x9,y4,reduceCtorEq,↓reduceIte,za,hlen,t2,t4,f2,f1,hf1l,c];exact this
 rw[if_neg (fun e=>e c),hOd] at hk ⊢;rw[c] at f2;simp only[sxZ,z6,z7,z8,j4,j5,j6,j7,j8,j9,x0,x6,x7,x8,x9,y4,reduceCtorEq,↓reduceIte,za,hlen,t4,f2];subst hZ;generalize (itv.map fun y=>(rvD m i y).2)=vs at D hk ⊢;have s1:∀X,(o.set 1 X)[1]? = some X:=fun X=>zk hf1l;have pb1:∀O:List OB,zfl O 4 (zdq ms)=some (zdq ms):=fun O=>zdA (ze4 _);have pb2:∀O:List OB,zfl O 4 (zdc vs)=some (zdc vs):=fun O=>zdA (zeO _);rcases D.rm with ⟨a1,a2,rfl⟩|⟨r,g,rfl,hr3,hr⟩
 ·rcases D.rv with ⟨b1,b2,rfl⟩|⟨r',g',rfl,hr3',hr'⟩
  ·simp only[sxZ,z6,z7,z8,j4,j5,j6,j7,j8,j9,x0,x6,x7,x8,x9,y4,reduceCtorEq,↓reduceIte,za,hlen,t2,t7,ej,f1,hf1l,s1,za0];exact⟨fun G I y h=>zha (fun z hz=>hz) (fun z hz=>hz) (zfB.den (.inr ⟨rfl,a1,a2⟩)) (zfB.den (.inr ⟨rfl,b1,b2⟩)) h,hk⟩
  ·have hr1:¬1=r':=by omega
   simp only[sxZ,z6,z7,z8,j4,j5,j6,j7,j8,j9,x0,x6,x7,x8,x9,y4,reduceCtorEq,↓reduceIte,za,hlen,t2,t7,ej,f1,hf1l,s1,hr',hr1,za0,zeO,pb2];exact⟨fun G I y h=>zha (fun z hz=>hz) (fun z hz=>hz) (zfB.den (.inr ⟨rfl,a1,a2⟩)) (fun z hz=>hz) h,hk⟩
 ·have hr1:¬1=r:=by omega
  rcases D.rv with ⟨b1,b2,rfl⟩|⟨r',g',rfl,hr3',hr'⟩
  ·simp only[sxZ,z6,z7,z8,j4,j5,j6,j7,j8,j9,x0,x6,x7,x8,x9,y4,reduceCtorEq,↓reduceIte,za,hlen,t2,t7,ej,f1,hf1l,s1,hr,hr1,za0,ze4,pb1];exact⟨fun G I y h=>zha (fun z hz=>hz) (fun z hz=>hz) (fun z hz=>hz) (zfB.den (.inr ⟨rfl,b1,b2⟩)) h,hk⟩
  ·have hr1':¬1=r':=by omega
   simp only[sxZ,z6,z7,z8,j4,j5,j6,j7,j8,j9,x0,x6,x7,x8,x9,y4,reduceCtorEq,↓reduceIte,za,hlen,t2,t7,ej,f1,hf1l,s1,hr,hr1,hr',hr1',za0,ze4,zeO,pb1,pb2];exact⟨fun G I y h=>h,hk⟩
end
end
section
attribute [local irreducible] run
theorem mt_at:∀{l:List MtP} {i:Nat} (hi:i<l.length),((zdq l).drop (i*3)).take 3=mtc l[i]
 | x::l,0,hi=>by
  rw[Nat.zero_mul,List.drop_zero];unfold zdq;rw[xi];rfl
 | x::l,i+1,hi=>by
  have h:=mt_at (l:=l) (i:=i) (by simpa using hi);rw[yh,<-h];have e:(zdq (x::l)).drop ((i+1)*3)=(zdq l).drop (i*3):=by
   unfold zdq;rw[xi,List.drop_append,xr (by unfold mtc;simp only[zr,qj];omega)];have:(i+1)*3 - (mtc x).length=i*3:=by unfold mtc;simp only[zr,qj];omega
   rw[this,qp]
  rw[e]
theorem sv_at:∀{l:List SvP} {i:Nat} (hi:i<l.length),((zdc l).drop (i*3)).take 3=svc l[i]
 | x::l,0,hi=>by
  rw[Nat.zero_mul,List.drop_zero];unfold zdc;rw[xi];rfl
 | x::l,i+1,hi=>by
  have h:=sv_at (l:=l) (i:=i) (by simpa using hi);rw[yh,<-h];have e:(zdc (x::l)).drop ((i+1)*3)=(zdc l).drop (i*3):=by
   unfold zdc;rw[xi,List.drop_append,xr (by unfold svc;simp only[zr,qj];omega)];have:(i+1)*3 - (svc x).length=i*3:=by unfold svc;simp only[zr,qj];omega
   rw[this,qp]
  rw[e]
theorem zka {l c:List AV} {i k:Nat} (h:(l.drop (i*3)).take 3=c) (hk:k<3):l[i*3+k]? = c[k]?:=by
 rw[<-h,List.getElem?_take_of_lt hk,List.getElem?_drop]
section
variable [Tabs Tryz.prog] {objs:List OB} {K:List OB->AV->Prop}
theorem zfF (a b:List (List UInt8)) (ha:a.length<=1000000) (hk:K objs (.b (decide (a=b)))):zaf Tryz.prog 39 [.row a.length (a.map .s),.row b.length (b.map .s)] objs K:=by
 refine zaX is_ref01_Same (by simp[zan,AV.plain,za0]) fun C _=>?_
 by_cases c1:(a.length:Int)=b.length
 ·simp only[c1,c_ref01_Same,sxZ,z6,z7,z8,j4,j5,j6,j7,j8,j9,x0,x6,x7,x8,x9,y4,reduceCtorEq,↓reduceIte];have c1':a.length=b.length:=by omega
  refine zaE (fun n objs tm=>∃i:Nat,i<=a.length/\n=a.length - i/\tm.length=26/\tm[0]? = some (.row a.length (a.map .s))/\tm[1]? = some (.row b.length (b.map .s))/\tm[12]? = some (.i .i64 b.length)/\tm[13]? = some (.i .i64 i)/\a.take i=b.take i) a.length ⟨0,zd _,rfl,rfl,rfl,rfl,rfl,rfl,rfl⟩ ?_;rintro n objs tm ⟨i,hi,rfl,hlen,t0,t1,t12,t13,hall⟩
  by_cases hlt:(i:Int)<b.length
  ·have hlt':i<a.length:=by omega
   have hltb:i<b.length:=by omega
   have hat:(a.map AV.s)[i]? = some (.s a[i]):=by simp[hlt']
   have hbt:(b.map AV.s)[i]? = some (.s b[i]):=by simp[hltb]
   have hne:a[i]≠b[i]->a≠b:=by
    rintro h rfl;exact h rfl
   by_cases c2:a[i]=b[i]
   ·simp only[sxZ,z6,z7,z8,j4,j5,j6,j7,j8,j9,x0,x6,x7,x8,x9,y4,reduceCtorEq,↓reduceIte,za,hlen,t0,t1,t12,t13,hlt,jf,Nat.mul_one,hat,hbt,c2,qm];refine⟨⟨by omega,by omega⟩,⟨by omega,by omega⟩,⟨by omega,by omega⟩,a.length - (i+1),by omega,i+1,by omega,rfl,rfl,?_⟩;rw[xt hlt',xt hltb,hall,c2]
   ·rw[decide_eq_false (hne c2)] at hk;simp only[sxZ,z6,z7,z8,j4,j5,j6,j7,j8,j9,x0,x6,x7,x8,x9,y4,reduceCtorEq,↓reduceIte,za,hlen,t0,t1,t12,t13,hlt,jf,Nat.mul_one,hat,hbt,c2,qm];exact⟨⟨by omega,by omega⟩,⟨by omega,by omega⟩,hk⟩
  ·obtain rfl:i=a.length:=by omega
   rw[jk (ze _),jk (by omega)] at hall;rw[decide_eq_true hall] at hk;simp only[sxZ,z6,z7,z8,j4,j5,j6,j7,j8,j9,x0,x6,x7,x8,x9,y4,reduceCtorEq,↓reduceIte,za,hlen,t0,t1,t12,t13,hlt];exact hk
 ·rw[decide_eq_false (by rintro rfl;exact c1 rfl)] at hk;simp only[c1,c_ref01_Same,sxZ,z6,z7,z8,j4,j5,j6,j7,j8,j9,x0,x6,x7,x8,x9,y4,reduceCtorEq,↓reduceIte];exact hk
theorem same17_k (d:DoP) (h1:d.also.length<=1000000) (h2:d.ctl.length<=1000000) (h3:d.mts.length<=1000000) (h4:d.svs.length<=1000000) (h5:∀x∈d.svs,x.typ.length<=1000000/\x.eps.length<=1000000) (hk:K objs (.b true)):zaf Tryz.prog 12 [.agg (doc d),.agg (doc d)] objs K:=by
 obtain⟨id,al,ct,ms,vs⟩:=d;dsimp only at h1 h2 h3 h4 h5;have hl3:=zhS ms;have hl4:=zhs vs;refine zaX is_ref17_Same (by unfold doc;simp only[zan,AV.plain,za0,ze4,zeO,Bool.and_self]) fun C _=>?_;rw[c_ref17_Same];unfold doc;dsimp only;refine zaa fun Y hY=>?_;simp only[sxZ,z6,z7,z8,j4,j5,j6,j7,j8,j9,x0,x6,x7,x8,x9,y4,reduceCtorEq,↓reduceIte];subst hY;refine zaa fun Y hY=>?_;simp only[sxZ,z6,z7,z8,j4,j5,j6,j7,j8,j9,x0,x6,x7,x8,x9,y4,reduceCtorEq,↓reduceIte];refine zad (zfF al al h1 ?_);simp only[sxZ,z6,z7,z8,j4,j5,j6,j7,j8,j9,x0,x6,x7,x8,x9,y4,reduceCtorEq,↓reduceIte];refine zad (zfF ct ct h2 ?_);simp only[sxZ,z6,z7,z8,j4,j5,j6,j7,j8,j9,x0,x6,x7,x8,x9,y4,reduceCtorEq,↓reduceIte];subst hY;refine zaa fun Y hY=>?_;refine zaa fun Z hZ=>?_;simp only[sxZ,z6,z7,z8,j4,j5,j6,j7,j8,j9,x0,x6,x7,x8,x9,y4,reduceCtorEq,↓reduceIte];subst hZ;rw[zaZ];refine zaE (fun n o tm=>∃i:Nat,i<=ms.length/\n=ms.length - i/\o[0]? = some (OB.box 34 [.s id,.row al.length (al.map .s),.row ct.length (ct.map .s),.row ms.length (zdq ms),.row vs.length (zdc vs)])/\o[1]? = some (OB.box 34 [.s id,.row al.length (al.map .s),.row ct.length (ct.map .s),.row ms.length (zdq ms),.row vs.length (zdc vs)])/\tm.length=116/\tm[2]? = some (.p 0 0)/\tm[3]? = some (.p 1 0)/\tm[48]? = some (.i .i64 (ms.length:Int))/\tm[49]? = some (.i .i64 (i:Int))) ms.length ⟨0,zd _,rfl,rfl,rfl,rfl,rfl,rfl,rfl,rfl⟩ ?_;rintro n o tm ⟨i,hi,rfl,e0,e1,hlen,t2,t3,t48,t49⟩;refine zaa fun Z hZ=>?_
 by_cases hlt:(i:Int)<(ms.length:Int)
 ·have hi':i<ms.length:=by omega
  have kv:=mt_at hi';generalize ms[i]=y at kv;unfold mtc at kv;simp only[sxZ,z6,z7,z8,j4,j5,j6,j7,j8,j9,x0,x6,x7,x8,x9,y4,reduceCtorEq,↓reduceIte,za,hlen,t48,t49,hlt];subst hZ;refine zaa fun Z hZ=>?_;simp only[sxZ,z6,z7,z8,j4,j5,j6,j7,j8,j9,x0,x6,x7,x8,x9,y4,reduceCtorEq,↓reduceIte,za,hlen];subst hZ;refine zaa fun W hW=>?_;rw[zaZ];refine zaa fun Z hZ=>?_;simp only[sxZ,z6,z7,z8,j4,j5,j6,j7,j8,j9,x0,x6,x7,x8,x9,y4,reduceCtorEq,↓reduceIte,za,hlen,t49];subst hZ;simp only[sxZ,z6,z7,z8,j4,j5,j6,j7,j8,j9,x0,x6,x7,x8,x9,y4,reduceCtorEq,↓reduceIte,za,hlen,t2,t3,e0,e1,kv]
  (and_intros<;>try omega)
  subst hW;simp only[sxZ,z6,z7,z8,j4,j5,j6,j7,j8,j9,x0,x6,x7,x8,x9,y4,reduceCtorEq,↓reduceIte,za,hlen,t2,t3,t48,t49];exact⟨by omega,ms.length - (i+1),by omega,i+1,by omega,rfl,e0,e1,rfl⟩
 simp only[sxZ,z6,z7,z8,j4,j5,j6,j7,j8,j9,x0,x6,x7,x8,x9,y4,reduceCtorEq,↓reduceIte,za,hlen,t48,t49,hlt];subst hZ;simp only[sxZ,z6,z7,z8,j4,j5,j6,j7,j8,j9,x0,x6,x7,x8,x9,y4,reduceCtorEq,↓reduceIte,za,hlen];subst hY;refine zaa fun Y hY=>?_;refine zaa fun Z hZ=>?_;simp only[sxZ,z6,z7,z8,j4,j5,j6,j7,j8,j9,x0,x6,x7,x8,x9,y4,reduceCtorEq,↓reduceIte,za,hlen,t2,e0];subst hZ;rw[zaZ];refine zaE (fun n o tm=>∃i:Nat,i<=vs.length/\n=vs.length - i/\o[0]? = some (OB.box 34 [.s id,.row al.length (al.map .s),.row ct.length (ct.map .s),.row ms.length (zdq ms),.row vs.length (zdc vs)])/\o[1]? = some (OB.box 34 [.s id,.row al.length (al.map .s),.row ct.length (ct.map .s),.row ms.length (zdq ms),.row vs.length (zdc vs)])/\tm.length=116/\tm[2]? = some (.p 0 0)/\tm[3]? = some (.p 1 0)/\tm[66]? = some (.i .i64 (vs.length:Int))/\tm[67]? = some (.i .i64 (i:Int))) vs.length ⟨0,zd _,rfl,e0,e1,?_⟩ ?_
 ·simp only[sxZ,z6,z7,z8,j4,j5,j6,j7,j8,j9,x0,x6,x7,x8,x9,y4,reduceCtorEq,↓reduceIte,zh,za,hlen,t2,t3,yd,and_self]
 clear hlen t2 t3 t48 t49 e0 e1 hlt hi;rintro n o tm ⟨i,hi,rfl,e0,e1,hlen,t2,t3,t66,t67⟩;refine zaa fun Z hZ=>?_
 by_cases hlt:(i:Int)<(vs.length:Int)
 ·have hi':i<vs.length:=by omega
  have kv:=sv_at hi';have hm:=h5 vs[i] (qw hi');generalize vs[i]=y at kv hm;have k0:=zka kv (k:=0) (by decide);have k1:=zka kv (k:=1) (by decide);have k2:=zka kv (k:=2) (by decide);unfold svc at k0 k1 k2;simp only[List.getElem?_cons_zero,List.getElem?_cons_succ] at k0 k1 k2;simp only[sxZ,z6,z7,z8,j4,j5,j6,j7,j8,j9,x0,x6,x7,x8,x9,y4,reduceCtorEq,↓reduceIte,za,hlen,t66,t67,hlt];subst hZ;refine zaa fun Z hZ=>?_;simp only[sxZ,z6,z7,z8,j4,j5,j6,j7,j8,j9,x0,x6,x7,x8,x9,y4,reduceCtorEq,↓reduceIte,za,hlen];subst hZ;refine zaa fun W hW=>?_;rw[zaZ];refine zaa fun Z hZ=>?_;simp only[sxZ,z6,z7,z8,j4,j5,j6,j7,j8,j9,x0,x6,x7,x8,x9,y4,reduceCtorEq,↓reduceIte,za,hlen,t67];subst hZ;simp only[sxZ,z6,z7,z8,j4,j5,j6,j7,j8,j9,x0,x6,x7,x8,x9,y4,reduceCtorEq,↓reduceIte,za,hlen,t2,t3,e0,e1,k0,k1,k2]
  (and_intros<;>try omega)
  refine zgg (zfF y.typ y.typ hm.1 ⟨rfl,rfl⟩) ?_;simp only[sxZ,z6,z7,z8,j4,j5,j6,j7,j8,j9,x0,x6,x7,x8,x9,y4,reduceCtorEq,↓reduceIte,za,hlen,t2,t3,e0,e1,k0,k1,k2]
  (and_intros<;>try omega)
  refine zgg (zfF y.eps y.eps hm.2 ⟨rfl,rfl⟩) ?_;simp only[sxZ,z6,z7,z8,j4,j5,j6,j7,j8,j9,x0,x6,x7,x8,x9,y4,reduceCtorEq,↓reduceIte,za,hlen];subst hW;simp only[sxZ,z6,z7,z8,j4,j5,j6,j7,j8,j9,x0,x6,x7,x8,x9,y4,reduceCtorEq,↓reduceIte,za,hlen,t2,t3,t66,t67];exact⟨by omega,vs.length - (i+1),by omega,i+1,by omega,rfl,e0,e1,rfl⟩
 simp only[sxZ,z6,z7,z8,j4,j5,j6,j7,j8,j9,x0,x6,x7,x8,x9,y4,reduceCtorEq,↓reduceIte,za,hlen,t66,t67,hlt];subst hZ;subst hY;simp only[sxZ,z6,z7,z8,j4,j5,j6,j7,j8,j9,x0,x6,x7,x8,x9,y4,reduceCtorEq,↓reduceIte,za,hlen];exact hk
end
end
section
attribute [local irreducible] run
section
variable [Tabs Tryz.prog]
end
end
section
attribute [local irreducible] run
section
variable [Tabs Tryz.prog] {objs:List OB} {K:List OB->AV->Prop}
end
end
section
attribute [local irreducible] run
section
variable [Tabs Tryz.prog]
end
end
section
attribute [local irreducible] run
section
variable [Tabs Tryz.prog]
end
end
section
attribute [local irreducible] run
section
variable [Tabs Tryz.prog] {objs:List OB} {K:List OB->AV->Prop} {L:List (Nat×OB)}
end
end
section
attribute [local irreducible] run
section
variable [Tabs Tryz.prog]
end
end
section
attribute [local irreducible] run
section
variable [Tabs Tryz.prog]
end
end
section
attribute [local irreducible] run
section
variable [Tabs Tryz.prog] {objs:List OB} {K:List OB->AV->Prop}
theorem ziX (v:JV) (a:Int) (hv:JOk v) (ha:0<=a) (ha2:a<=1099511627776) (hk:∀b,(b=true->JKp v)->K objs (.b b)):zaf Tryz.prog 8 [.agg (zao v),.i .i64 a] objs K:=by
 refine zaX is_keep_Value (by simp only[zan,AV.plain,zaL,Bool.and_self]) fun C _=>?_;rw[c_keep_Value];refine zaa fun Y hY=>?_;obtain⟨q0,q1,q2,q3,hq⟩:∃q0 q1 q2 q3,zao v=[q0,q1,q2,q3]:=⟨_,_,_,_,zae v⟩;have hs:=fun {objs:List OB} {K:List OB->AV->Prop} (h:∀n:Int,-1<=n->n<=1099511627776->(0<=n->JKp v/\n+(v.size:Int)=a)->K objs (.i .i64 n))=>zjQ (v.size+1) v a 70 (Nat.lt_succ_self _) hv ha ha2 (by decide) (by decide) (objs:=objs) (K:=K) h;rw[hq] at hs ⊢;simp only[sxZ,z6,z7,z8,j4,j5,j6,j7,j8,j9,x0,x6,x7,x8,x9,y4,reduceCtorEq,↓reduceIte];subst hY;refine zaa fun Y hY=>?_;simp only[sxZ,z6,z7,z8,j4,j5,j6,j7,j8,j9,x0,x6,x7,x8,x9,y4,reduceCtorEq,↓reduceIte];refine zad (hs fun n h1 h2 h3=>?_);simp only[sxZ,z6,z7,z8,j4,j5,j6,j7,j8,j9,x0,x6,x7,x8,x9,y4,reduceCtorEq,↓reduceIte];subst hY;simp only[sxZ,z6,z7,z8,j4,j5,j6,j7,j8,j9,x0,x6,x7,x8,x9,y4,reduceCtorEq,↓reduceIte];exact hk _ fun h=>(h3 (of_decide_eq_true h)).1
end
section
variable [Tabs Tryz.prog] [Pow Tryz.prog] [Utf Tryz.prog]
end
end
section
attribute [local irreducible] run
section
variable [Tabs Tryz.prog] [Utf Tryz.prog]
theorem zgs [Shp Tryz.prog] (v:JV) (l1:List UInt8) (hv:JOk v) (w1:l1.length<=140737488351232):zaf Tryz.prog 3 [.agg (zao v),.s l1] [] (fun _ r=>r=.b true):=by
 refine zaX is_law17_DiddocDecodes (by simp only[zan,AV.plain,zaL,Bool.and_self]) fun C _=>?_;rw[c_law17_DiddocDecodes];have ev:zao v=[.i .i64 v.kind,.s v.text,.row v.keys.length (v.keys.map .s),.row v.items.length (zab v.items)]:=zae v;rw[ev];refine zaa fun Z hZ=>?_;simp only[sxZ,z6,z7,z8,j4,j5,j6,j7,j8,j9,x0,x6,x7,x8,x9,y4,reduceCtorEq,↓reduceIte];subst hZ;refine zaa fun Z hZ=>?_;simp only[sxZ,z6,z7,z8,j4,j5,j6,j7,j8,j9,x0,x6,x7,x8,x9,y4,reduceCtorEq,↓reduceIte];refine zad (sane17_k ?_);simp only[sxZ,z6,z7,z8,j4,j5,j6,j7,j8,j9,x0,x6,x7,x8,x9,y4,reduceCtorEq,↓reduceIte];subst hZ;refine zaa fun Z hZ=>?_;simp only[sxZ,z6,z7,z8,j4,j5,j6,j7,j8,j9,x0,x6,x7,x8,x9,y4,reduceCtorEq,↓reduceIte];rw[<-ev];refine zad (ziX v 90 hv (by decide) (by decide) fun b hb=>?_)
 cases b with
 | false=>simp only[sxZ,z6,z7,z8,j4,j5,j6,j7,j8,j9,x0,x6,x7,x8,x9,y4,reduceCtorEq,↓reduceIte]
 | true=>
 have hvb:=(hb rfl).bd;have hvi:=(hb rfl).idB;rw[ev]
 by_cases hlen:(3000:Int)<(l1.length:Int)
 ·simp only[sxZ,z6,z7,z8,j4,j5,j6,j7,j8,j9,x0,x6,x7,x8,x9,y4,reduceCtorEq,↓reduceIte,hlen,decide_true]
 simp only[sxZ,z6,z7,z8,j4,j5,j6,j7,j8,j9,x0,x6,x7,x8,x9,y4,reduceCtorEq,↓reduceIte,hlen,decide_false];subst hZ;refine zaa fun Z hZ=>?_;simp only[sxZ,z6,z7,z8,j4,j5,j6,j7,j8,j9,x0,x6,x7,x8,x9,y4,reduceCtorEq,↓reduceIte];refine zad (zkK l1 (by omega) ?_);have hok:=znf (s:=l1) (by omega);have hbd:=zng (s:=l1) (by omega);have hbi:=(zne (s:=l1) (by omega)).idB;obtain⟨⟨w,a,e⟩,hx⟩:∃R,zcC l1=R:=⟨_,rfl⟩;rw[hx] at hok hbd hbi ⊢;dsimp only at hok hbd hbi;unfold zhK;have ew:zao w=[.i .i64 w.kind,.s w.text,.row w.keys.length (w.keys.map .s),.row w.items.length (zab w.items)]:=zae w;rw[ew];simp only[sxZ,z6,z7,z8,j4,j5,j6,j7,j8,j9,x0,x6,x7,x8,x9,y4,reduceCtorEq,↓reduceIte,gn1,sn1];subst hZ;refine zaa fun Z hZ=>?_;refine zaa fun W hW=>?_;simp only[sxZ,z6,z7,z8,j4,j5,j6,j7,j8,j9,x0,x6,x7,x8,x9,y4,reduceCtorEq,↓reduceIte];subst hW;rw[zaZ];have hall:∀y∈[v,w],JOk y/\JBd y/\IdB y:=by
  intro y hy;rcases zt.1 hy with rfl|hy
  ·exact⟨hv,hvb,hvi⟩
  ·rw[List.mem_singleton] at hy;subst hy;exact⟨hok,hbd,hbi⟩
 have eR:zab [v,w]=[.i .i64 v.kind,.s v.text,.row v.keys.length (v.keys.map .s),.row v.items.length (zab v.items),.i .i64 w.kind,.s w.text,.row w.keys.length (w.keys.map .s),.row w.items.length (zab w.items)]:=by
  rw[zaK,zaK,zaA,ev,ew];rfl
 refine zaE (fun n o tm=>∃i:Nat,i<=2/\n=2 - i/\tm.length=58/\tm[32]? = some (.row 2 (zab [v,w]))/\tm[33]? = some (.i .i64 2)/\tm[34]? = some (.i .i64 (i:Int))) 2 ⟨0,zd _,rfl,rfl,by rw[eR];rfl,rfl,rfl⟩ ?_;generalize hll:[v,w]=ll at hall;have hl2:ll.length=2:=by rw[<-hll];rfl
 clear hll eR;rintro n o tm ⟨i,hi,rfl,hlen',t32,t33,t34⟩;refine zaa fun W hW=>?_;have hl4:=zaI ll
 by_cases hlt:(i:Int)<2
 ·have hi':i<ll.length:=by omega
  have kv:=zd9 hi';obtain⟨hy1,hy2,hy3⟩:=hall ll[i] (qw hi');generalize ll[i]=y at kv hy1 hy2 hy3;have ey:=zae y;rw[ey] at kv;simp only[sxZ,z6,z7,z8,j4,j5,j6,j7,j8,j9,x0,x6,x7,x8,x9,y4,reduceCtorEq,↓reduceIte,za,hlen',t33,t34,hlt];subst hW;refine zaa fun W hW=>?_;simp only[sxZ,z6,z7,z8,j4,j5,j6,j7,j8,j9,x0,x6,x7,x8,x9,y4,reduceCtorEq,↓reduceIte,za,hlen'];subst hW;refine zaa fun V hV=>?_;rw[zaZ];refine zaa fun W hW=>?_;simp only[sxZ,z6,z7,z8,j4,j5,j6,j7,j8,j9,x0,x6,x7,x8,x9,y4,reduceCtorEq,↓reduceIte,za,hlen',t32,t34,kv];refine⟨⟨by omega,by omega,by omega⟩,by omega,?_⟩;simp only[sxZ,z6,z7,z8,j4,j5,j6,j7,j8,j9,x0,x6,x7,x8,x9,y4,reduceCtorEq,↓reduceIte,za,hlen',gn1,sn1];have ey1:(o++[OB.box 25 [.i .i64 y.kind,.s y.text,.row y.keys.length (y.keys.map .s),.row y.items.length (zab y.items)]])[o.length]? = some (.box 25 [.i .i64 y.kind,.s y.text,.row y.keys.length (y.keys.map .s),.row y.items.length (zab y.items)]):=gn1 _ _;generalize o.length=p at ey1 ⊢;generalize o++[OB.box 25 [.i .i64 y.kind,.s y.text,.row y.keys.length (y.keys.map .s),.row y.items.length (zab y.items)]]=o1 at ey1 ⊢;subst hW;refine zaa fun W hW=>?_;simp only[sxZ,z6,z7,z8,j4,j5,j6,j7,j8,j9,x0,x6,x7,x8,x9,y4,reduceCtorEq,↓reduceIte,za,hlen',ey1];rw[<-ey];refine zad (dd_k y hy1 hy2 hy3 ?_);have hF:=ddE_sh y;obtain⟨⟨ec,S,A,C2,P,L⟩,hS⟩:∃R,ddE y=R:=⟨_,rfl⟩;have hR:rdE y=_:=(rd_dd y).trans hS;rw[hS] at hF ⊢;obtain⟨m1,m2,m3,m4,m5⟩:=hF;dsimp only at m1 m2 m3 m4 m5;rw[ey];unfold zmK doc;dsimp only;simp only[sxZ,z6,z7,z8,j4,j5,j6,j7,j8,j9,x0,x6,x7,x8,x9,y4,reduceCtorEq,↓reduceIte,za,hlen',gn1,sn1];have ey2:∀z,(o1++[z])[p]? = some (.box 25 [.i .i64 y.kind,.s y.text,.row y.keys.length (y.keys.map .s),.row y.items.length (zab y.items)]):=fun z=>by rw[qc (zf.1 ey1).1];exact ey1
  have ea:(o1++[OB.box 34 [.s S,.row A.length (A.map .s),.row C2.length (C2.map .s),.row P.length (zdq P),.row L.length (zdc L)]])[o1.length]? = some (OB.box 34 [.s S,.row A.length (A.map .s),.row C2.length (C2.map .s),.row P.length (zdq P),.row L.length (zdc L)]):=gn1 _ _;have ey2:=ey2 (OB.box 34 [.s S,.row A.length (A.map .s),.row C2.length (C2.map .s),.row P.length (zdq P),.row L.length (zdc L)]);generalize o1.length=q at ea ⊢;generalize o1++[OB.box 34 [.s S,.row A.length (A.map .s),.row C2.length (C2.map .s),.row P.length (zdq P),.row L.length (zdc L)]]=o2 at ey2 ea ⊢;subst hW;refine zaa fun W hW=>?_;simp only[sxZ,z6,z7,z8,j4,j5,j6,j7,j8,j9,x0,x6,x7,x8,x9,y4,reduceCtorEq,↓reduceIte,za,hlen',ey2];rw[<-ey];refine zad (rdd_k y hy1 hy2 hy3 ?_);rw[hR,ey];unfold zmK doc;dsimp only;simp only[sxZ,z6,z7,z8,j4,j5,j6,j7,j8,j9,x0,x6,x7,x8,x9,y4,reduceCtorEq,↓reduceIte,za,hlen',gn1,sn1];have ea2:(o2++[OB.box 34 [.s S,.row A.length (A.map .s),.row C2.length (C2.map .s),.row P.length (zdq P),.row L.length (zdc L)]])[q]? = some (OB.box 34 [.s S,.row A.length (A.map .s),.row C2.length (C2.map .s),.row P.length (zdq P),.row L.length (zdc L)]):=by rw[qc (zf.1 ea).1];exact ea
  have eb2:(o2++[OB.box 34 [.s S,.row A.length (A.map .s),.row C2.length (C2.map .s),.row P.length (zdq P),.row L.length (zdc L)]])[o2.length]? = some (OB.box 34 [.s S,.row A.length (A.map .s),.row C2.length (C2.map .s),.row P.length (zdq P),.row L.length (zdc L)]):=gn1 _ _;generalize o2.length=q2 at eb2 ⊢;generalize o2++[OB.box 34 [.s S,.row A.length (A.map .s),.row C2.length (C2.map .s),.row P.length (zdq P),.row L.length (zdc L)]]=o3 at ea2 eb2 ⊢;subst hW;refine zaa fun W hW=>?_;simp only[sxZ,z6,z7,z8,j4,j5,j6,j7,j8,j9,x0,x6,x7,x8,x9,y4,reduceCtorEq,↓reduceIte,za,hlen',ea2,eb2,decide_true,decide_false,not_true_eq_false];refine zad (same17_k ⟨S,A,C2,P,L⟩ (by show A.length<=_;omega) (by show C2.length<=_;omega) (by show P.length<=_;omega) (by show L.length<=_;omega) (fun x hx=>?_) ?_)
  ·have:=m5 x hx;obtain⟨u1,u2⟩:=this
   constructor<;>omega
  simp only[sxZ,z6,z7,z8,j4,j5,j6,j7,j8,j9,x0,x6,x7,x8,x9,y4,reduceCtorEq,↓reduceIte,za,hlen'];subst hW;simp only[sxZ,z6,z7,z8,j4,j5,j6,j7,j8,j9,x0,x6,x7,x8,x9,y4,reduceCtorEq,↓reduceIte,za,hlen'];subst hV;simp only[sxZ,z6,z7,z8,j4,j5,j6,j7,j8,j9,x0,x6,x7,x8,x9,y4,reduceCtorEq,↓reduceIte,za,hlen',t32,t33,t34];exact⟨by omega,2 - (i+1),by omega,i+1,by omega,rfl,rfl⟩
 simp only[sxZ,z6,z7,z8,j4,j5,j6,j7,j8,j9,x0,x6,x7,x8,x9,y4,reduceCtorEq,↓reduceIte,za,hlen',t33,t34,hlt];subst hW;simp only[sxZ,z6,z7,z8,j4,j5,j6,j7,j8,j9,x0,x6,x7,x8,x9,y4,reduceCtorEq,↓reduceIte,za,hlen'];subst hZ;simp only[sxZ,z6,z7,z8,j4,j5,j6,j7,j8,j9,x0,x6,x7,x8,x9,y4,reduceCtorEq,↓reduceIte,za,hlen']
theorem diddocDecodes_c [Shp Tryz.prog] (r0:RV) (w0:RVok r0) (l1:List UInt8) (w1:l1.length<=140737488351232):zaf Tryz.prog 3 [.agg (zep r0),.s l1] [] (fun _ r=>r=.b true):=by
 rw[zkH];exact zgs (rvJ r0) l1 (rv_ok r0 w0) w1
end
end
instance tabs_utf:Utf Tryz.prog:=⟨fun _ _=>⟨trivial⟩⟩
end Go.Proofs.YtceenajkieomoaaGreatDoor
