/- The texts that the proofs of these statements reach, in their order, as few files. -/
import Derived.Test.YthmdohgkmdkeeaaGreatDoorProg
import Derived.Test.YthmdohgkmdkeeaaGreatDoorTz6
set_option linter.unusedVariables false
set_option linter.unusedSimpArgs false
set_option maxRecDepth 100000
namespace Go.Proofs.YthmdohgkmdkeeaaGreatDoor
open Go.RowKit Sx
section
attribute [local irreducible] run
def zdU:JV:=.mk 1 [] [] []
def za0 (n:Nat):List JV:=List.replicate n zdU
def vN (ks:List (List UInt8)):JV:=.mk 7 [] ks (za0 ks.length)
theorem zdc:∀ n:Nat,JV.sizes (za0 n)=n
 | 0 => by unfold za0; rw [List.replicate_zero,JV.sizes]
 | n + 1 => by
  have h:=zdc n
  have e:zdU.size=1:=by unfold zdU; rw [JV.size,JV.sizes]
  unfold za0 at h ⊢
  rw [List.replicate_succ,JV.sizes,h,e]; omega
theorem zij (ks:List (List UInt8)):(vN ks).size=ks.length + 1:=by
 rw [size_eq]; show JV.sizes (za0 ks.length) + 1=_; rw [zdc]
theorem nuls_rd (n d:Nat):RdL (za0 n) d:=by
 rw [zgi]
 intro x hx
 rw [(List.mem_replicate.1 hx).2]
 unfold zdU
 rw [RdJ]
 exact .inl ⟨.inl rfl,rfl,rfl,rfl⟩
theorem zj3:JKp zdU:=by
 unfold zdU; rw [JKp,zd3]; exact ⟨by simp,by simp,by simp,by simp,trivial⟩
theorem jnull_ok:JOk zdU:=by
 unfold zdU; rw [JOk,zh9]; simp [Lit.wf,IntKind.min,IntKind.max,IntKind.signed,IntKind.bits]
theorem vN_kp {ks:List (List UInt8)} (h1:ks.length ≤ 1000) (h2:∀ k ∈ ks,k.length ≤ 300):JKp (vN ks):=by
 unfold vN; rw [JKp]
 refine ⟨by omega,by unfold za0; rw [List.length_replicate]; omega,by simp,h2,zdW.2 fun x hx => ?_⟩
 rw [(List.mem_replicate.1 hx).2]; exact zj3
theorem znv:∀ {l:List JV},(∀ x ∈ l,JOk x) → zh9 l
 | [],_ => by rw [zh9]; trivial
 | v :: l,h => by rw [zh9]; exact ⟨h v (by simp),znv fun x hx => h x (by simp [hx])⟩
theorem vN_ok {ks:List (List UInt8)} (h1:ks.length ≤ 1000) (h2:∀ k ∈ ks,k.length ≤ 300):JOk (vN ks):=by
 unfold vN; rw [JOk]
 have h3:zh9 (za0 ks.length):=znv fun x hx => by rw [(List.mem_replicate.1 hx).2]; exact jnull_ok
 have h4:(za0 ks.length).length ≤ 140737488351232:=by unfold za0; rw [List.length_replicate]; omega
 have h5:∀ k ∈ ks,k.length ≤ 140737488351232:=fun k hk => by have:=h2 k hk; omega
 simp only [List.length_nil]
 exact ⟨by simp [Lit.wf,IntKind.min,IntKind.max,IntKind.signed,IntKind.bits],by omega,by omega,h5,h4,h3⟩
theorem zid (o:Bool):∀ (l1:List JV) (ks1:List (List UInt8)) (f:Bool) (ks2:List (List UInt8)) (l2:List JV),ks1.length=l1.length → wrI o f (ks1 ++ ks2) (l1 ++ l2)=wrI o f ks1 l1 ++ wrI o (f && l1.isEmpty) ks2 l2
 | [],ks1,f,ks2,l2,h => by
  have:ks1=[]:=List.eq_nil_of_length_eq_zero h
  subst this
  show wrI o f ks2 l2=wrI o f [] [] ++ wrI o (f && true) ks2 l2
  rw [Bool.and_true,wrI]; rfl
 | v :: l1,[],f,ks2,l2,h => by cases h
 | v :: l1,k :: ks1,f,ks2,l2,h => by
  rw [List.cons_append,List.cons_append,wrI,wrI]
  simp only [List.tail_cons,List.head?_cons]
  rw [zid o l1 ks1 false ks2 l2 (by simpa using h)]
  have e:wrI o (f && (v :: l1).isEmpty) ks2 l2=wrI o (false && l1.isEmpty) ks2 l2:=by
   simp
  rw [e]
  simp only [List.append_assoc]
theorem dup_core {P Q:List (List UInt8)} {key:List UInt8} {n:Nat} (hP:P.Nodup) (hm:key ∈ P) (hv:∀ k ∈ P,zaQ k=true ∧ k.length ≤ 1048576) (hn:n=(P ++ key :: Q).length) (hn2:n ≤ 1000) (hl:(123 :: (wrI true true (P ++ key :: Q) (za0 n) ++ [125])).length ≤ 1048576) :
  ∃ p,za8 (123 :: (wrI true true (P ++ key :: Q) (za0 n) ++ [125]))=(jvZ,p,143):=by
 subst hn
 have hkey:=hv key hm
 have hne:P ≠ []:=fun h => by rw [h] at hm; cases hm
 have e1:za0 (P ++ key :: Q).length=za0 P.length ++ (zdU :: za0 Q.length):=by
  unfold za0
  rw [List.length_append,List.length_cons,← List.replicate_append_replicate,List.replicate_succ]
 have e2:wrI true true (P ++ key :: Q) (za0 (P ++ key :: Q).length)=wrI true true P (za0 P.length) ++ (44 :: (zcC key ++ (58 :: (wrJ zdU ++ wrI true false Q (za0 Q.length))))):=by
  rw [e1,zid true (za0 P.length) P true _ _ (by unfold za0; rw [List.length_replicate]),wrI]
  have:(true && (za0 P.length).isEmpty)=false:=by
   cases P with
   | nil => exact absurd rfl hne
   | cons a P => rfl
  rw [this]
  simp only [List.head?_cons,Option.getD_some,List.tail_cons,zfa hkey,Bool.false_eq_true,if_false,if_true]
  simp
 rw [e2] at hl ⊢
 generalize (58:UInt8) :: (wrJ zdU ++ wrI true false Q (za0 Q.length))=rest at hl ⊢
 have hnl:(za0 P.length).length=P.length:=by unfold za0; rw [List.length_replicate]
 have hr:=nuls_rd P.length 1
 have s1:=zc7.pu (c:=123) [] (wrI true true P (za0 P.length) ++ (44 :: (zcC key ++ (rest ++ [125])))) 0 rfl rfl (by decide) rfl
 have s2:=zeY [] (za0 P.length) 1 hr true true P (fun _ => ⟨hnl.symm,hv⟩) (44 :: (zcC key ++ (rest ++ [125]))) 1 (zdy rfl)
 have s3:=zc7.pu (c:=44) [] (zcC key ++ (rest ++ [125])) 0 rfl rfl (by decide) rfl
 simp only [zdI] at s1 s2 s3
 obtain ⟨w,hw,hs⟩:=(s1.app s2).app s3
 have et:(123:UInt8) :: ((wrI true true P (za0 P.length) ++ 44 :: (zcC key ++ rest)) ++ [125])=123 :: (wrI true true P (za0 P.length) ++ (44 :: (zcC key ++ (rest ++ [125])))):=by simp
 rw [et] at hl ⊢
 have m1:zar ms0 (2,[123],0)=(0,zbK ms0 true):=rfl
 have m2:=zir (za0 P.length) 1 hr true 3 [] 1 jvZ P [] [] [(2,[44])] rfl hnl.symm (by rw [List.nil_append]; exact hP) rfl (by rw [zdc]; rw [List.length_append] at hn2; omega)
 have hem:(za0 P.length).isEmpty=false:=by
  cases P with
  | nil => exact absurd rfl hne
  | cons a P => rfl
 rw [hem,if_neg Bool.false_ne_true,List.nil_append,List.nil_append] at m2
 have hm1:zb8 ms0 (([(2,[123])] ++ zdD true true P (za0 P.length)) ++ [(2,[44])])=some ⟨2,[⟨true,P,za0 P.length⟩],1 + JV.sizes (za0 P.length),jvZ⟩:=by
  rw [List.append_assoc]
  show zb8 ms0 ((2,[123]) :: (zdD true true P (za0 P.length) ++ [(2,[44])]))=_
  rw [zaT (by decide) m1]
  show zb8 ⟨3,[⟨true,[],[]⟩],1,jvZ⟩ _=_
  rw [m2,zaT (σ':=⟨2,[⟨true,P,za0 P.length⟩],1 + JV.sizes (za0 P.length),jvZ⟩) (by show ¬ (5:Int)=7; decide) (by simp [zar,onM,zdv,isP]),zb8]
 have hb:zar ⟨2,[⟨true,P,za0 P.length⟩],1 + JV.sizes (za0 P.length),jvZ⟩ (3,key,0)=(143,⟨2,[⟨true,P,za0 P.length⟩],1 + JV.sizes (za0 P.length),jvZ⟩):=by
  simp [zar,zhC,hm]
 have:=mres_bad hs hm1 (by show ¬ (2:Int)=7; decide) rfl hw (zil _ hkey.1) hb (by decide)
 exact ⟨_,(zdQ hl this).symm⟩
theorem zmS {l:List (List UInt8)} {i:Nat} {a:List UInt8} (h:l.Nodup) (ha:¬ a ∈ l):(l.set i a).Nodup:=by
 rw [List.nodup_iff_pairwise_ne] at *
 rw [List.pairwise_iff_getElem] at *
 intro p q hp hq hpq
 rw [List.length_set] at hp hq
 rw [List.getElem_set,List.getElem_set]
 by_cases c1:i=p
 ·rw [if_pos c1,if_neg (by omega)]
  intro e; exact ha (e ▸ List.getElem_mem hq)
 ·rw [if_neg c1]
  by_cases c2:i=q
  ·rw [if_pos c2]
   intro e; exact ha (e ▸ List.getElem_mem hp)
  ·rw [if_neg c2]
   exact h p q hp hq hpq
theorem znR {ks:List (List UInt8)} {x y:Nat} (hx:x < ks.length) (hy:y < ks.length) (hxy:x ≠ y) (hnd:ks.Nodup) (hv:∀ k ∈ ks,zaQ k=true ∧ k.length ≤ 1048576) (hn2:ks.length ≤ 1000) (hl:(wrJ (vN (ks.set y ks[x]))).length ≤ 1048576) :
  ∃ p,za8 (wrJ (vN (ks.set y ks[x])))=(jvZ,p,143):=by
 have ew:wrJ (vN (ks.set y ks[x]))=123 :: (wrI true true (ks.set y ks[x]) (za0 (ks.set y ks[x]).length) ++ [125]):=by unfold vN; rw [wrJ]; rfl
 rw [ew] at hl ⊢
 have hsv:∀ k ∈ ks.set y ks[x],zaQ k=true ∧ k.length ≤ 1048576:=fun k hk => by
  rcases List.mem_or_eq_of_mem_set hk with h | h
  ·exact hv k h
  ·rw [h]; exact hv _ (List.getElem_mem hx)
 have hsl:(ks.set y ks[x]).length=ks.length:=List.length_set
 have key:∀ m:Nat,(hm:m < ks.length) → ((ks.set y ks[x]).take m).Nodup → (ks.set y ks[x])[m]'(by omega) ∈ (ks.set y ks[x]).take m → ∃ p,za8 (123 :: (wrI true true (ks.set y ks[x]) (za0 (ks.set y ks[x]).length) ++ [125]))=(jvZ,p,143):=by
  intro m hm h1 h2
  have es:ks.set y ks[x]=(ks.set y ks[x]).take m ++ (ks.set y ks[x])[m]'(by omega) :: (ks.set y ks[x]).drop (m + 1):=by
   rw [← List.drop_eq_getElem_cons (by omega),List.take_append_drop]
  have:=dup_core (Q:=(ks.set y ks[x]).drop (m + 1)) (n:=(ks.set y ks[x]).length) h1 h2 (fun k hk => hsv k (List.mem_of_mem_take hk)) (by rw [← es]) (by omega) (by rw [← es]; exact hl)
  rw [← es] at this
  exact this
 rcases Nat.lt_or_ge x y with h | h
 ·refine key y hy ?_ ?_
  ·rw [List.take_set_of_le (Nat.le_refl _)]
   exact hnd.sublist (List.take_sublist _ _)
  ·rw [List.getElem_set_self]
   rw [List.mem_take_iff_getElem]
   refine ⟨x,by omega,?_⟩
   rw [List.getElem_set,if_neg (by omega)]
 ·have h:y < x:=by omega
  refine key x hx ?_ ?_
  ·rw [List.take_set]
   refine zmS (hnd.sublist (List.take_sublist _ _)) ?_
   intro hm
   rw [List.mem_take_iff_getElem] at hm
   obtain ⟨j,hj,he⟩:=hm
   rw [List.nodup_iff_pairwise_ne,List.pairwise_iff_getElem] at hnd
   exact hnd j x (by omega) hx (by omega) he
  ·rw [List.mem_take_iff_getElem]
   refine ⟨y,by omega,?_⟩
   rw [List.getElem_set_self,List.getElem_set,if_neg (by omega)]
theorem wrE_str {k:List UInt8} (h:zaQ k=true) (hl:k.length ≤ 1000):wrE (.mk 5 k [] [])=(zcC k,0):=by
 have h1:ze1 (.mk 5 k [] [])=true:=by rw [ze1,if_neg (by decide),if_neg (by decide),if_pos rfl,h]; rfl
 have h2:zbQ (.mk 5 k [] []) 0=1:=by rw [zbQ,zdt]; rfl
 have h3:zgM (.mk 5 k [] [])=true:=by unfold zgM; rw [h1,h2]; rfl
 unfold wrE
 rw [if_pos h3]
 have h4:zbv (.mk 5 k [] [])=.mk 5 k [] []:=by rw [zbv,if_neg (by decide)]; rfl
 rw [h4,wrJ]
 show ((zdM k).2,_)=_
 rw [zfa ⟨h,by omega⟩]
theorem jnull_wr:wrJ zdU=[110,117,108,108]:=by unfold zdU; rw [wrJ]; rfl
theorem wrN_step {ks:List (List UInt8)} {i:Nat} (hi:i < ks.length) (hv:zaQ ks[i]=true ∧ ks[i].length ≤ 1048576) :
  wrI true true (ks.take (i + 1)) (za0 (i + 1))=(if decide (i=0)=true then wrI true true (ks.take i) (za0 i) else wrI true true (ks.take i) (za0 i) ++ [44]) ++ (zcC ks[i] ++ [58,110,117,108,108]):=by
 have e1:za0 (i + 1)=za0 i ++ [zdU]:=by unfold za0; rw [List.replicate_succ']
 have e2:ks.take (i + 1)=ks.take i ++ [ks[i]]:=by rw [List.take_add_one,List.getElem?_eq_getElem hi]; rfl
 have hl:(ks.take i).length=(za0 i).length:=by unfold za0; rw [List.length_take,List.length_replicate]; omega
 rw [e1,e2,zid true (za0 i) (ks.take i) true _ _ hl,wrI,wrI,jnull_wr]
 simp only [List.head?_cons,Option.getD_some,zfa hv,if_true,List.append_nil]
 cases i with
 | zero => simp [za0]
 | succ i => simp [za0,List.replicate_succ]
end
end Go.Proofs.YthmdohgkmdkeeaaGreatDoor
namespace Go.Proofs.YthmdohgkmdkeeaaGreatDoor
open Go.RowKit Sx
theorem zce {G:Gh} {I:Imm} {y:Value} (h:Den G I .nil y):Den G I (.row 0 []) y:=by
 simp only [Den] at h ⊢
 exact ⟨none,0,[],h,⟨Nat.le_refl _,fun ad h => by cases h⟩,zae.nil,by simp,by simp⟩
theorem zhY {P:Program} [Tabs P] {f:FuncId} {args args':List AV} {objs:List OB} {K:List OB → AV → Prop} (h:∀ G I ys,zae G I args ys → zae G I args' ys) (hc:zad P f args' objs K):zad P f args objs K :=
 fun C _ G I w hin hm ys hd => hc C G I w hin hm ys (h G I ys hd)
def allI (w:World):Imm:=fun g o v => w.cell? ⟨g,o,none⟩=some v
theorem zkt {G:Gh} {I:Imm} {w:World} {objs:List OB} {E sz n:Nat} {xs xs':List AV} {X:AV} {y:Value} {R A B:List (Nat × OB)} (hw:∀ ys,zae Gh.none (allI w) xs ys → zae Gh.none (allI w) xs' ys) (hS:SlO E sz n xs X R) (hO:zaE (A ++ (R ++ B)) objs) (hp:zam xs=true) (hm:MemOk G I objs w) (h:Den G I X y):Den Gh.none (allI w) (.row n xs') y:=by
 rcases hS with ⟨rfl,rfl,rfl,rfl⟩ | ⟨b,gen,rfl,rfl⟩
 ·simp only [Den] at h ⊢
  exact ⟨none,0,[],h,⟨Nat.le_refl _,by intro _ e; cases e⟩,hw _ zae.nil,by simp,by simp⟩
 ·have hb:=hO.get (i:=b) (x:=.orow E sz gen n xs) (by simp)
  obtain ⟨v',vs,m1,m2,m3,m4,m5⟩:=hm.row b E sz gen n xs hb
  simp only [Den] at h ⊢
  obtain ⟨g0,v,k1,k2,k3,_⟩:=h
  rw [k1] at m1; injection m1 with m1; injection m1 with m1 m6
  have hv:=k3 m1.symm
  subst m1 m6 hv
  have q1:zae Gh.none (allI w) xs' vs:=hw _ (zae.plain (fun g o v hi => hm.imm g o v hi) _ _ hp m3)
  rcases m2.2 with ⟨rfl,rfl⟩ | ⟨g,cap,cur,rfl,hx1,hx2,hx3,hx4⟩
  ·have hvs:vs=[]:=List.eq_nil_of_length_eq_zero (by simpa using m2.1)
   subst hvs
   exact ⟨none,0,[],rfl,⟨Nat.le_refl _,by intro _ e; cases e⟩,q1,by simp,by simp⟩
  ·refine ⟨some ⟨g,0,none⟩,cap,vs,rfl,⟨hx3,by rintro _ ⟨⟩ _; rfl⟩,q1,m4,fun j u hj => ⟨g,0,rfl,?_⟩⟩
   have:=m2.cells (g:=g) rfl j u hj
   rw [zav] at this
   rw [Nat.zero_add]
   exact this
theorem ziX {P:Program} [Tabs P] {f:FuncId} {args args':List AV} {objs:List OB} {K:List OB → AV → Prop} (r:AV) {v:Value} (hr:val r=some v) (hk:K objs r)
  (hl:∀ (G:Gh) (I:Imm) (w:World) (ys:List Value),MemOk G I objs w → zae G I args ys → zae Gh.none (allI w) args' ys) (h:zad P f args' [] (fun _ r' => r'=r)):zad P f args objs K:=by
 refine zek r hk fun G I w ys hT hm hd => ?_
 have hd':=hl G I w ys hm hd
 haveI:On P ⟨w,fun _ => False,allI w,Gh.none⟩:=⟨hT,fun _ h => h⟩
 have hc:=h ⟨w,fun _ => False,allI w,Gh.none⟩ Gh.none (allI w) w
  ⟨rfl,rfl,rfl,Nat.le_refl _,fun _ _ _ => rfl,fun _ _ _ h => h,fun _ _ _ h => .inl h,fun b g hb => by simp [Gh.own,Gh.none] at hb,Gh.le.refl _⟩
  ⟨fun _ _ _ h => h,by simp,by simp,by simp,fun b b' g hb => by simp [Gh.own,Gh.none] at hb,fun b g hb => by simp [Gh.own,Gh.none] at hb,fun b g o v hb => by simp [Gh.own,Gh.none] at hb,fun b _ => ⟨rfl,rfl⟩⟩ ys hd'
 refine ⟨v,hc.mono ?_,(zd4 G I r v hr v).2 rfl⟩
 rintro e w' ⟨y,objs',r',G',I',rfl,rfl,_,_,hin,_,hy⟩
 rw [(zd4 _ _ r' v hr y).1 hy]
 exact ⟨rfl,⟨hin.os,hin.tape,hin.output,hin.size,fun k hk => hin.block k hk (fun h => h)⟩⟩
theorem zhZ {P:Program} [Tabs P] {f:FuncId} {k:Int} {t:List UInt8} {E1 s1 n1 E2 s2 n2:Nat} {xs1 xs2 xs2':List AV} {X Y:AV} {R1 R2 A B A' B':List (Nat × OB)} {objs:List OB} {K:List OB → AV → Prop} {r:AV} {v:Value}
  (h1:SlO E1 s1 n1 xs1 X R1) (o1:zaE (A ++ (R1 ++ B)) objs) (p1:zam xs1=true) (h2:SlO E2 s2 n2 xs2 Y R2) (o2:zaE (A' ++ (R2 ++ B')) objs) (p2:zam xs2=true) (q2':∀ (w:World) ys,zae Gh.none (allI w) xs2 ys → zae Gh.none (allI w) xs2' ys) (hr:val r=some v) (hk:K objs r)
  (h:zad P f [.agg [.i .i64 k,.s t,.row n1 xs1,.row n2 xs2']] [] (fun _ r' => r'=r)):zad P f [.agg [.i .i64 k,.s t,X,Y]] objs K:=by
 refine ziX r hr hk (fun G I w ys hm hd => ?_) h
 simp only [zae,Den] at hd
 obtain ⟨y0,ys0,rfl,⟨zs,rfl,⟨z0,m0,rfl,q0,z1,m1,rfl,q1,z2,m2,rfl,q2,z3,m3,rfl,q3,rfl⟩,hz⟩,rfl⟩:=hd
 refine zae.cons ?_ zae.nil
 rw [Den]
 exact ⟨_,rfl,zae.cons (by rw [Den]; exact q0) (zae.cons (by rw [Den]; exact q1) (zae.cons (zkt (fun ys h => h) h1 o1 p1 hm q2) (zae.cons (zkt (q2' w) h2 o2 p2 hm q3) zae.nil))),hz⟩
end Go.Proofs.YthmdohgkmdkeeaaGreatDoor
namespace Go.Proofs.YthmdohgkmdkeeaaGreatDoor
open Nat renaming reduceAdd → z6, reduceSub → z7, reduceLeDiff → z8, reduceLT → j5, reduceMul → j6, reduceEqDiff → j7
open Int renaming reduceToNat → j8, reduceAdd → j9, reduceSub → x3, reduceMul → x4, reduceNeg → x5, reduceLT → x6, reduceLE → x7, reduceEq → x8, reduceNe → x9
open Go.RowKit Sx
section
attribute [local irreducible] run
def oN (X Y:AV):OB:=.box 26 [.i .i64 7,.s [],X,Y]
theorem zgc:∀ l:List (List UInt8),zam (l.map AV.s)=true
 | [] => rfl
 | c :: l => zgc l
theorem znB:zaq jvZ=[.i .i64 0,.s [],.row 0 [],.row 0 []]:=by
 rw [zap]; rfl
def nulA:Nat → List AV
 | 0 => []
 | n + 1 => .i .i64 1 :: .s [] :: .nil :: .nil :: nulA n
theorem zhx:∀ n,nulA (n + 1)=nulA n ++ [.i .i64 1,.s [],.nil,.nil]
 | 0 => rfl
 | n + 1 => congrArg (fun l => AV.i .i64 1 :: AV.s [] :: AV.nil :: AV.nil :: l) (zhx n)
theorem zfP:∀ n,zam (nulA n)=true
 | 0 => rfl
 | n + 1 => zfP n
theorem zhw {G:Gh} {I:Imm}:∀ (n:Nat) (ys:List Value),zae G I (nulA n) ys → zae G I (zac (za0 n)) ys
 | 0,ys,h => by
  unfold za0; rw [List.replicate_zero,zau]; exact h
 | n + 1,ys,h => by
  rw [nulA] at h
  simp only [zae] at h
  obtain ⟨y1,z1,rfl,h1,y2,z2,rfl,h2,y3,z3,rfl,h3,y4,z4,rfl,h4,h5⟩:=h
  have e:zac (za0 (n + 1))=.i .i64 1 :: .s [] :: .row 0 [] :: .row 0 [] :: zac (za0 n):=by
   unfold za0
   rw [List.replicate_succ,zay,zap]; rfl
  rw [e]
  exact zae.cons h1 (zae.cons h2 (zae.cons (zce h3) (zae.cons (zce h4) (zhw n _ h5))))
section
variable [Tabs Tryz.prog] {objs:List OB} {K:List OB → AV → Prop}
theorem keepTw_k (l:List (List UInt8)) (n m:Int) (hl:l.length ≤ 140737488351232) (hw:∀ w ∈ l,w.length ≤ 140737488351232) (hk:K objs (.b (decide ((l.length:Int) ≤ n) && l.all fun w => decide ((w.length:Int) ≤ m)))):zad Tryz.prog 20 [.row l.length (l.map .s),.i .i64 n,.i .i64 m] objs K:=by
 refine zbb is_keep_Strings (by simp [zam,AV.plain,zgc]) fun C _ => ?_
 by_cases c1:n < l.length
 ·rw [decide_eq_false (by omega)] at hk
  simp only [c_keep_Strings,sxZ,z6,z7,z8,j5,j6,j7,j8,j9,x3,x4,x5,x6,x7,x8,x9,reduceCtorEq,↓reduceIte,c1]
  exact hk
 ·rw [decide_eq_true (by omega),Bool.true_and] at hk
  simp only [c_keep_Strings,sxZ,z6,z7,z8,j5,j6,j7,j8,j9,x3,x4,x5,x6,x7,x8,x9,reduceCtorEq,↓reduceIte,c1]
  refine zaO (fun k objs tm => ∃ i:Nat,i ≤ l.length ∧ k=l.length - i ∧ tm.length=24 ∧ tm[2]? = some (.i .i64 m) ∧ tm[13]? = some (.row l.length (l.map .s)) ∧ tm[14]? = some (.i .i64 l.length) ∧ tm[15]? = some (.i .i64 i) ∧ (l.all fun w => decide ((w.length:Int) ≤ m))=((l.drop i).all fun w => decide ((w.length:Int) ≤ m))) l.length ⟨0,by omega,rfl,rfl,rfl,rfl,rfl,rfl,rfl⟩ ?_
  rintro k o tm ⟨i,hi,rfl,hlen,t2,t13,t14,t15,hall⟩
  by_cases hlt:(i:Int) < l.length
  ·have hlt':i < l.length:=by omega
   have hat:(l.map AV.s)[i]? = some (.s l[i]):=by simp [hlt']
   rw [List.drop_eq_getElem_cons hlt',List.all_cons] at hall
   by_cases c2:m < l[i].length
   ·rw [decide_eq_false (by omega),Bool.false_and] at hall
    rw [hall] at hk
    simp only [sxZ,z6,z7,z8,j5,j6,j7,j8,j9,x3,x4,x5,x6,x7,x8,x9,reduceCtorEq,↓reduceIte,List.getElem?_set,hlen,t2,t13,t14,t15,hlt,Int.toNat_natCast,Nat.mul_one,hat,List.length_map,c2]
    exact ⟨by omega,hk⟩
   ·rw [decide_eq_true (by omega),Bool.true_and] at hall
    simp only [sxZ,z6,z7,z8,j5,j6,j7,j8,j9,x3,x4,x5,x6,x7,x8,x9,reduceCtorEq,↓reduceIte,List.getElem?_set,hlen,t2,t13,t14,t15,hlt,Int.toNat_natCast,Nat.mul_one,hat,List.length_map,c2]
    exact ⟨by omega,⟨by omega,by omega⟩,_,by omega,i + 1,by omega,rfl,rfl,hall⟩
  ·obtain rfl:i=l.length:=by omega
   rw [List.drop_length,List.all_nil] at hall
   rw [hall] at hk
   simp only [sxZ,z6,z7,z8,j5,j6,j7,j8,j9,x3,x4,x5,x6,x7,x8,x9,reduceCtorEq,↓reduceIte,List.getElem?_set,hlen,t2,t13,t14,t15,hlt]
   exact hk
end
section
variable [Tabs Tryz.prog] [Pow Tryz.prog] [Utf Tryz.prog]
theorem jsondocTwice_c (g0:List (List AV)) (w0:g0.length ≤ 140737488351232) (h0:∀ g ∈ g0,ShT .s g) (n1:Int) (w1:(Lit.int .u8 n1).wf=true) (n2:Int) (w2:(Lit.int .u8 n2).wf=true):zad Tryz.prog 6 [.row g0.length g0.flatten,.i .u8 n1,.i .u8 n2] [] (fun _ r => r=.b true):=by
 obtain ⟨ks,hg1,hg2,hks⟩:=sl_str h0
 rw [hg1,hg2]
 have hkl:ks.length ≤ 140737488351232:=by omega
 have hn1:0 ≤ n1 ∧ n1 ≤ 255:=by simpa [Lit.wf,IntKind.min,IntKind.max,IntKind.signed,IntKind.bits] using w1
 have hn2:0 ≤ n2 ∧ n2 ≤ 255:=by simpa [Lit.wf,IntKind.min,IntKind.max,IntKind.signed,IntKind.bits] using w2
 clear hg1 hg2 w0 h0 w1 w2
 obtain ⟨a1,rfl⟩:=Int.eq_ofNat_of_zero_le hn1.1
 obtain ⟨a2,rfl⟩:=Int.eq_ofNat_of_zero_le hn2.1
 refine zbb is_law14_JsondocTwice (by simp only [zam,AV.plain,zgc,Bool.and_self]) fun C _ => ?_
 rw [c_law14_JsondocTwice]
 refine zaa fun Y hY => ?_
 simp only [sxZ,z6,z7,z8,j5,j6,j7,j8,j9,x3,x4,x5,x6,x7,x8,x9,reduceCtorEq,↓reduceIte]
 subst hY
 refine zaa fun Y hY => ?_
 simp only [sxZ,z6,z7,z8,j5,j6,j7,j8,j9,x3,x4,x5,x6,x7,x8,x9,reduceCtorEq,↓reduceIte]
 refine zal (saneJs_k ?_)
 simp only [sxZ,z6,z7,z8,j5,j6,j7,j8,j9,x3,x4,x5,x6,x7,x8,x9,reduceCtorEq,↓reduceIte,Bool.not_true]
 subst hY
 refine zaa fun Y hY => ?_
 by_cases c0:(ks.length:Int)=0
 ·simp only [sxZ,z6,z7,z8,j5,j6,j7,j8,j9,x3,x4,x5,x6,x7,x8,x9,reduceCtorEq,↓reduceIte,c0]
 simp only [sxZ,z6,z7,z8,j5,j6,j7,j8,j9,x3,x4,x5,x6,x7,x8,x9,reduceCtorEq,↓reduceIte,c0]
 refine zal (keepTw_k ks 12 40 hkl hks ?_)
 by_cases c1:(decide ((ks.length:Int) ≤ 12) && ks.all fun w => decide ((w.length:Int) ≤ 40))=true
 case neg =>
  have c1:(decide ((ks.length:Int) ≤ 12) && ks.all fun w => decide ((w.length:Int) ≤ 40))=false:=by simpa using c1
  rw [c1]
  simp only [sxZ,z6,z7,z8,j5,j6,j7,j8,j9,x3,x4,x5,x6,x7,x8,x9,reduceCtorEq,↓reduceIte,Bool.not_false]
 rw [c1]
 rw [Bool.and_eq_true,decide_eq_true_eq,List.all_eq_true] at c1
 obtain ⟨hk12,hk40⟩:=c1
 have hk40:∀ k ∈ ks,k.length ≤ 40:=fun k hk => by have:=of_decide_eq_true (hk40 k hk); omega
 simp only [sxZ,z6,z7,z8,j5,j6,j7,j8,j9,x3,x4,x5,x6,x7,x8,x9,reduceCtorEq,↓reduceIte,Bool.not_true]
 subst hY
 refine zaa fun Y hY => ?_
 have tm1:Int.tmod (a1:Int) (ks.length:Int)=((a1 % ks.length:Nat):Int):=by rw [Int.tmod_eq_emod_of_nonneg (by omega)]; rfl
 have tm2:Int.tmod (a2:Int) (ks.length:Int)=((a2 % ks.length:Nat):Int):=by rw [Int.tmod_eq_emod_of_nonneg (by omega)]; rfl
 have hx:=Nat.mod_lt a1 (show 0 < ks.length by omega)
 have hy:=Nat.mod_lt a2 (show 0 < ks.length by omega)
 have wr1:IntKind.i64.wrap (a1:Int)=(a1:Int):=IntWalk.i64_in _ (by omega)
 have wr2:IntKind.i64.wrap (a2:Int)=(a2:Int):=IntWalk.i64_in _ (by omega)
 generalize a1 % ks.length=x at tm1 hx
 generalize a2 % ks.length=y at tm2 hy
 simp only [sxZ,z6,z7,z8,j5,j6,j7,j8,j9,x3,x4,x5,x6,x7,x8,x9,reduceCtorEq,↓reduceIte,tm1,tm2,wr1,wr2]
 refine ⟨c0,c0,?_⟩
 refine zbf (fun tm => tm.length=142 ∧ tm[0]? = some (.row ks.length (ks.map .s)) ∧ tm[7]? = some (.i .i64 (x:Int)) ∧ tm[8]? = some (.i .i64 (y:Int))) ?_ ?_
 ·exact ⟨rfl,rfl,rfl,rfl⟩
 rintro tm ⟨hlen,t0,t7,t8⟩
 subst hY
 refine zaa fun Y hY => ?_
 simp only [sxZ,z6,z7,z8,j5,j6,j7,j8,j9,x3,x4,x5,x6,x7,x8,x9,reduceCtorEq,↓reduceIte,List.getElem?_set,hlen]
 have hO:zaE ((0,oN .nil .nil) :: ([] ++ ([] ++ []))) [oN .nil .nil]:=⟨by simp,fun x hx => by
  simp only [List.mem_cons,List.not_mem_nil,or_false,List.nil_append] at hx
  rcases hx with rfl <;> rfl⟩
 have f0:[OB.box 26 [.i .i64 7,.s [],.nil,.nil]]=[oN .nil .nil]:=rfl
 rw [f0]
 generalize [oN .nil .nil]=o at hO ⊢
 refine zbf (fun tm => tm.length=142 ∧ tm[0]? = some (.row ks.length (ks.map .s)) ∧ tm[7]? = some (.i .i64 (x:Int)) ∧ tm[8]? = some (.i .i64 (y:Int)) ∧ tm[9]? = some (.p 0 0)) ?_ ?_
 ·simp only [sxZ,z6,z7,z8,j5,j6,j7,j8,j9,x3,x4,x5,x6,x7,x8,x9,reduceCtorEq,↓reduceIte,List.getElem?_set,hlen,List.length_set,t0,t7,t8,and_self]
 clear hlen t0 t7 t8
 rintro tm ⟨hlen,t0,t7,t8,t9⟩
 subst hY
 refine zaa fun Y hY => ?_
 refine zaa fun W hW => ?_
 simp only [sxZ,z6,z7,z8,j5,j6,j7,j8,j9,x3,x4,x5,x6,x7,x8,x9,reduceCtorEq,↓reduceIte,List.getElem?_set,hlen,t0]
 subst hW
 rw [zaX]
 refine zaO (fun n o tm => ∃ (i:Nat) (X:AV) (R1:List (Nat × OB)) (Z:AV) (R2:List (Nat × OB)),i ≤ ks.length ∧ n=ks.length - i ∧ SlO 9 1 i ((ks.take i).map .s) X R1 ∧ SlO 26 4 i (nulA i) Z R2 ∧ zaE ((0,oN X Z) :: (R1 ++ (R2 ++ []))) o ∧ tm.length=142 ∧ tm[0]? = some (.row ks.length (ks.map .s)) ∧ tm[7]? = some (.i .i64 (x:Int)) ∧ tm[8]? = some (.i .i64 (y:Int)) ∧ tm[9]? = some (.p 0 0) ∧ tm[46]? = some (.row ks.length (ks.map .s)) ∧ tm[47]? = some (.i .i64 (ks.length:Int)) ∧ tm[48]? = some (.i .i64 (i:Int))) ks.length ⟨0,.nil,[],.nil,[],Nat.zero_le _,rfl,.inl ⟨rfl,rfl,rfl,rfl⟩,.inl ⟨rfl,rfl,rfl,rfl⟩,hO,?_⟩ ?_
 ·simp only [sxZ,z6,z7,z8,j5,j6,j7,j8,j9,x3,x4,x5,x6,x7,x8,x9,reduceCtorEq,↓reduceIte,List.getElem?_set,hlen,List.length_set,t0,t7,t8,t9,Int.cast_ofNat_Int,and_self]
 clear hlen t0 t7 t8 t9 hO
 rintro n o tm ⟨i,X,R1,Z,R2,hi,rfl,hS1,hS2,hO,hlen,t0,t7,t8,t9,t46,t47,t48⟩
 refine zaa fun W hW => ?_
 by_cases hlt:(i:Int) < (ks.length:Int)
 ·have hi':i < ks.length:=by omega
  have kv:(ks.map AV.s)[i * 1]? = some (.s ks[i]):=by rw [Nat.mul_one,List.getElem?_map,List.getElem?_eq_getElem hi']; rfl
  have htk:ks.take (i + 1)=ks.take i ++ [ks[i]]:=by rw [List.take_add_one,List.getElem?_eq_getElem hi']; rfl
  generalize ks[i]=key at kv htk
  simp only [sxZ,z6,z7,z8,j5,j6,j7,j8,j9,x3,x4,x5,x6,x7,x8,x9,reduceCtorEq,↓reduceIte,List.getElem?_set,hlen,t46,t47,t48,hlt]
  subst hW
  refine zaa fun W hW => ?_
  simp only [sxZ,z6,z7,z8,j5,j6,j7,j8,j9,x3,x4,x5,x6,x7,x8,x9,reduceCtorEq,↓reduceIte,List.getElem?_set,hlen]
  subst hW
  refine zaa fun V hV => ?_
  rw [zaX]
  refine zaa fun W hW => ?_
  simp only [sxZ,z6,z7,z8,j5,j6,j7,j8,j9,x3,x4,x5,x6,x7,x8,x9,reduceCtorEq,↓reduceIte,List.getElem?_set,hlen,t46,t48,kv,List.length_map]
  refine ⟨⟨by omega,by omega,by omega⟩,?_⟩
  have e0:o[0]? = some (OB.box 26 [.i .i64 7,.s [],X,Z]):=hO.get (i:=0) (x:=oN X Z) (by simp)
  subst hW
  simp only [sxZ,z6,z7,z8,j5,j6,j7,j8,j9,x3,x4,x5,x6,x7,x8,x9,reduceCtorEq,↓reduceIte,List.getElem?_set,hlen,t9,e0]
  refine zeI (A:=[(0,oN X Z)]) (B:=R2 ++ []) hS1 hO ⟨rfl,by omega,by omega⟩ ?_
  intro X' R1' o1 hS1' hO1
  have e1:o1[0]? = some (OB.box 26 [.i .i64 7,.s [],X,Z]):=hO1.get (i:=0) (x:=oN X Z) (by simp)
  simp only [sxZ,z6,z7,z8,j5,j6,j7,j8,j9,x3,x4,x5,x6,x7,x8,x9,reduceCtorEq,↓reduceIte,List.getElem?_set,hlen,t9,e1]
  have hO1:zaE (((0,oN X Z) :: R1') ++ (R2 ++ [])) o1:=hO1
  refine zeI (A:=(0,oN X Z) :: R1') (B:=[]) hS2 hO1 ⟨rfl,by omega,by omega⟩ ?_
  intro Z' R2' o2 hS2' hO2
  have e2:o2[0]? = some (OB.box 26 [.i .i64 7,.s [],X,Z]):=hO2.get (i:=0) (x:=oN X Z) (by simp)
  have hlt2:=(List.getElem?_eq_some_iff.1 e2).1
  have s2:∀ x,(o2.set 0 x)[0]? = some x:=fun x => List.getElem?_set_self hlt2
  rcases hS1' with ⟨h,_⟩ | ⟨b1,g1,rfl,rfl⟩
  ·omega
  rcases hS2' with ⟨h,_⟩ | ⟨b2,g2,rfl,rfl⟩
  ·omega
  subst hV
  simp only [sxZ,z6,z7,z8,j5,j6,j7,j8,j9,x3,x4,x5,x6,x7,x8,x9,reduceCtorEq,↓reduceIte,List.getElem?_set,hlen,t9,e2,s2,List.length_set,List.set_set,t0,t7,t8,t9,t46,t47,t48]
  have hR:=zaE.set (A:=[]) (oN (.orow b1 g1) (.orow b2 g2)) hO2
  have hnd:=hO2.1
  simp only [List.map_cons,List.map_append,List.map_nil,List.nodup_cons,List.cons_append,List.nil_append,List.mem_cons,List.not_mem_nil,or_false,not_or] at hnd
  exact ⟨hnd.1.1,⟨by omega,by omega⟩,ks.length - (i + 1),by omega,i + 1,_,_,_,_,by omega,rfl,.inr ⟨b1,g1,rfl,by rw [htk,List.map_append]; rfl⟩,.inr ⟨b2,g2,rfl,by rw [zhx]; rfl⟩,hR,rfl⟩
 have hn:i=ks.length:=by omega
 rw [hn] at hS1 hS2
 rw [List.take_of_length_le (Nat.le_refl _)] at hS1
 clear hn
 simp only [sxZ,z6,z7,z8,j5,j6,j7,j8,j9,x3,x4,x5,x6,x7,x8,x9,reduceCtorEq,↓reduceIte,List.getElem?_set,hlen,t46,t47,t48,hlt]
 subst hW
 simp only [sxZ,z6,z7,z8,j5,j6,j7,j8,j9,x3,x4,x5,x6,x7,x8,x9,reduceCtorEq,↓reduceIte,List.getElem?_set,hlen]
 refine zbf (fun tm => tm.length=142 ∧ tm[0]? = some (.row ks.length (ks.map .s)) ∧ tm[7]? = some (.i .i64 (x:Int)) ∧ tm[8]? = some (.i .i64 (y:Int)) ∧ tm[9]? = some (.p 0 0)) ?_ ?_
 ·simp only [sxZ,z6,z7,z8,j5,j6,j7,j8,j9,x3,x4,x5,x6,x7,x8,x9,reduceCtorEq,↓reduceIte,List.getElem?_set,hlen,List.length_set,t0,t7,t8,t9,t46,t47,t48,and_self]
 clear hlen t0 t7 t8 t9 t46 t47 t48 hlt hi i
 rintro tm ⟨hlen,t0,t7,t8,t9⟩
 subst hY
 refine zaa fun Y hY => ?_
 have e0:o[0]? = some (OB.box 26 [.i .i64 7,.s [],X,Z]):=hO.get (i:=0) (x:=oN X Z) (by simp)
 simp only [sxZ,z6,z7,z8,j5,j6,j7,j8,j9,x3,x4,x5,x6,x7,x8,x9,reduceCtorEq,↓reduceIte,List.getElem?_set,hlen,t9,e0]
 rcases hS1 with ⟨h,_⟩ | ⟨b1,g1,rfl,rfl⟩
 ·omega
 rcases hS2 with ⟨h,_⟩ | ⟨b2,g2,rfl,rfl⟩
 ·omega
 have hkp:=vN_kp (ks:=ks) (by omega) (fun k hk => by have:=hk40 k hk; omega)
 have hok:=vN_ok (ks:=ks) (by omega) (fun k hk => by have:=hk40 k hk; omega)
 have hvs:=zij ks
 have hjN:zaq (vN ks)=[.i .i64 7,.s [],.row ks.length (ks.map .s),.row ks.length (zac (za0 ks.length))]:=by
  rw [zap]; unfold vN za0; simp only [JV.kind,JV.text,JV.keys,JV.items,List.length_replicate]
 have kW:zad Tryz.prog 18 [.agg [.i .i64 7,.s [],.row ks.length (ks.map .s),.row ks.length (zac (za0 ks.length))]] [] (fun _ r' => r'=.tup [.s (wrE (vN ks)).1,.i .i64 (wrE (vN ks)).2]):=by
  rw [← hjN]; exact zfg (vN ks) hkp hok (by omega) rfl
 have hO1:zaE ([(0,oN (.orow b1 g1) (.orow b2 g2))] ++ ([(b1,OB.orow 9 1 g1 ks.length (ks.map .s))] ++ [(b2,OB.orow 26 4 g2 ks.length (nulA ks.length))])) o:=hO
 have hO2:zaE ([(0,oN (.orow b1 g1) (.orow b2 g2)),(b1,OB.orow 9 1 g1 ks.length (ks.map .s))] ++ ([(b2,OB.orow 26 4 g2 ks.length (nulA ks.length))] ++ [])) o:=hO
 refine zal (zhZ (.inr ⟨b1,g1,rfl,rfl⟩) hO1 (zgc ks) (.inr ⟨b2,g2,rfl,rfl⟩) hO2 (zfP _) (fun w ys => zhw _ ys) (r:=.tup [.s (wrE (vN ks)).1,.i .i64 (wrE (vN ks)).2]) rfl ?_ kW)
 have hall:=fun (h:zgM (vN ks)=true) => zgl h hkp
 have hback:=fun (h:zgM (vN ks)=true) => back_one h hkp (by omega)
 have hlen0:=fun (h:zgM (vN ks)=true) => zib h hkp
 have hkl2:(zbv (vN ks)).keys.length=ks.length:=by
  rw [ziz,if_neg (by show ¬ (7:Int)=6; decide)]
  exact (za2 _ _).length_eq
 unfold wrE
 clear kW
 generalize zgM (vN ks)=bv at hall hback hlen0 ⊢
 generalize wrJ (zbv (vN ks))=T at hback hlen0 ⊢
 generalize zbv (vN ks)=ov at hall hback hkl2
 simp only [sxZ,z6,z7,z8,j5,j6,j7,j8,j9,x3,x4,x5,x6,x7,x8,x9,reduceCtorEq,↓reduceIte,List.getElem?_set,hlen]
 refine zbf (fun tm => tm.length=142 ∧ tm[0]? = some (.row ks.length (ks.map .s)) ∧ tm[7]? = some (.i .i64 (x:Int)) ∧ tm[8]? = some (.i .i64 (y:Int)) ∧ tm[9]? = some (.p 0 0) ∧ tm[12]? = some (.s (if bv=true then (T,(0:Int)) else ([],8)).1) ∧ tm[13]? = some (.i .i64 (if bv=true then (T,(0:Int)) else ([],8)).2)) ?_ ?_
 ·simp only [sxZ,z6,z7,z8,j5,j6,j7,j8,j9,x3,x4,x5,x6,x7,x8,x9,reduceCtorEq,↓reduceIte,List.getElem?_set,hlen,List.length_set,t0,t7,t8,t9,and_self]
 clear hlen t0 t7 t8 t9
 rintro tm ⟨hlen,t0,t7,t8,t9,t12,t13⟩
 subst hY
 refine zaa fun Y hY => ?_
 cases bv with
 | false =>
  simp only [if_neg Bool.false_ne_true] at t13
  simp only [sxZ,z6,z7,z8,j5,j6,j7,j8,j9,x3,x4,x5,x6,x7,x8,x9,reduceCtorEq,↓reduceIte,List.getElem?_set,hlen,t13]
 | true =>
 simp only [if_true] at t12 t13
 by_cases hxy:(x:Int)=(y:Int)
 ·simp only [sxZ,z6,z7,z8,j5,j6,j7,j8,j9,x3,x4,x5,x6,x7,x8,x9,reduceCtorEq,↓reduceIte,List.getElem?_set,hlen,t13,t7,t8,hxy]
 simp only [sxZ,z6,z7,z8,j5,j6,j7,j8,j9,x3,x4,x5,x6,x7,x8,x9,reduceCtorEq,↓reduceIte,List.getElem?_set,hlen,t13,t7,t8,hxy]
 obtain ⟨hrd,_,_,_,_,_,hsz,_⟩:=hall rfl
 have hback:=hback rfl
 have hlen0:=hlen0 rfl
 have hnv:ks.Nodup ∧ ∀ k ∈ ks,zaQ k=true ∧ k.length ≤ 1048576:=by
  unfold vN at hrd
  rw [RdJ] at hrd
  rcases hrd with ⟨h,_⟩ | ⟨h,_⟩ | ⟨h,_⟩ | ⟨h,_⟩ | ⟨_,_,_,h1,h2,_⟩
  ·omega
  ·omega
  ·omega
  ·omega
  ·exact ⟨h1,h2⟩
 clear hall hrd
 subst hY
 refine zaa fun Y hY => ?_
 have e0:o[0]? = some (OB.box 26 [.i .i64 7,.s [],.orow b1 g1,.orow b2 g2]):=hO.get (i:=0) (x:=oN (.orow b1 g1) (.orow b2 g2)) (by simp)
 have eb1:o[b1]? = some (OB.orow 9 1 g1 ks.length (ks.map .s)):=hO1.get (by simp)
 have kvx:(ks.map AV.s)[x * 1]? = some (.s ks[x]):=by rw [Nat.mul_one,List.getElem?_map,List.getElem?_eq_getElem hx]; rfl
 simp only [sxZ,z6,z7,z8,j5,j6,j7,j8,j9,x3,x4,x5,x6,x7,x8,x9,reduceCtorEq,↓reduceIte,List.getElem?_set,hlen,t7,t8,t9,e0,eb1,kvx]
 refine ⟨⟨by omega,by omega⟩,⟨by omega,by omega⟩,by rw [List.length_map]; omega,?_⟩
 have hset:List.take (y * 1) (ks.map AV.s) ++ [AV.s ks[x]] ++ List.drop (y * 1 + 1) (ks.map AV.s)=(ks.set y ks[x]).map AV.s:=by
  rw [Nat.mul_one,List.set_eq_take_append_cons_drop,if_pos hy,List.map_append,List.map_cons,List.map_take,List.map_drop,List.append_assoc]; rfl
 rw [hset]
 have hml:(ks.set y ks[x]).length=ks.length:=List.length_set
 have hmk:∀ k ∈ ks.set y ks[x],k.length ≤ 40 ∧ zaQ k=true:=fun k hk => by
  rcases List.mem_or_eq_of_mem_set hk with h | h
  ·exact ⟨hk40 k h,(hnv.2 k h).1⟩
  ·rw [h]; exact ⟨hk40 _ (List.getElem_mem hx),(hnv.2 _ (List.getElem_mem hx)).1⟩
 have hwl:=zf3 (vN (ks.set y ks[x])) (vN_kp (by omega) (fun k hk => by have:=(hmk k hk).1; omega))
 have hdup:=znR hx hy (fun h => hxy (by rw [h])) hnv.1 hnv.2 (by omega) (by rw [zij] at hwl; omega)
 generalize ks.set y ks[x]=ks' at hml hmk hwl hdup ⊢
 rw [zij] at hwl
 have hO3:zaE [(0,oN (.orow b1 g1) (.orow b2 g2)),(b1,OB.orow 9 1 g1 ks.length (ks'.map .s))] (o.set b1 (OB.orow 9 1 g1 ks.length (ks'.map .s))):=(zaE.set (A:=[(0,oN (.orow b1 g1) (.orow b2 g2))]) (OB.orow 9 1 g1 ks.length (ks'.map .s)) hO1).sub (List.Sublist.cons_cons _ (List.Sublist.cons_cons _ (List.nil_sublist _)))
 generalize o.set b1 (OB.orow 9 1 g1 ks.length (ks'.map .s))=o2 at hO3 ⊢
 clear hO hO1 hO2 e0 eb1 kvx hset
 have e0:o2[0]? = some (OB.box 26 [.i .i64 7,.s [],.orow b1 g1,.orow b2 g2]):=hO3.get (i:=0) (x:=oN (.orow b1 g1) (.orow b2 g2)) (by simp)
 have eb1:o2[b1]? = some (OB.orow 9 1 g1 ks.length (ks'.map .s)):=hO3.get (by simp)
 refine zbf (fun tm => tm.length=142 ∧ tm[0]? = some (.row ks.length (ks.map .s)) ∧ tm[7]? = some (.i .i64 (x:Int)) ∧ tm[8]? = some (.i .i64 (y:Int)) ∧ tm[9]? = some (.p 0 0) ∧ tm[12]? = some (.s T)) ?_ ?_
 ·simp only [sxZ,z6,z7,z8,j5,j6,j7,j8,j9,x3,x4,x5,x6,x7,x8,x9,reduceCtorEq,↓reduceIte,List.getElem?_set,hlen,List.length_set,t0,t7,t8,t9,t12,and_self]
 clear hlen t0 t7 t8 t9 t12 t13
 rintro tm ⟨hlen,t0,t7,t8,t9,t12⟩
 subst hY
 refine zaa fun Y hY => ?_
 simp only [sxZ,z6,z7,z8,j5,j6,j7,j8,j9,x3,x4,x5,x6,x7,x8,x9,reduceCtorEq,↓reduceIte,List.getElem?_set,hlen]
 subst hY
 refine zaa fun Y hY => ?_
 refine zaa fun W hW => ?_
 simp only [sxZ,z6,z7,z8,j5,j6,j7,j8,j9,x3,x4,x5,x6,x7,x8,x9,reduceCtorEq,↓reduceIte,List.getElem?_set,hlen,t9,e0,eb1]
 subst hW
 rw [zaX]
 refine zaO (fun n o tm => ∃ (i:Nat),i ≤ ks.length ∧ n=ks.length - i ∧ o=o2 ∧ tm.length=142 ∧ tm[0]? = some (.row ks.length (ks.map .s)) ∧ tm[7]? = some (.i .i64 (x:Int)) ∧ tm[8]? = some (.i .i64 (y:Int)) ∧ tm[9]? = some (.p 0 0) ∧ tm[12]? = some (.s T) ∧ tm[14]? = some (.s (wrI true true (ks'.take i) (za0 i))) ∧ tm[87]? = some (.orow b1 g1) ∧ tm[88]? = some (.i .i64 (ks.length:Int)) ∧ tm[89]? = some (.i .i64 (i:Int))) ks.length ⟨0,Nat.zero_le _,rfl,rfl,?_⟩ ?_
 ·have z:wrI true true (ks'.take 0) (za0 0)=[]:=by unfold za0; rw [List.replicate_zero,wrI]
  rw [z]
  simp only [sxZ,z6,z7,z8,j5,j6,j7,j8,j9,x3,x4,x5,x6,x7,x8,x9,reduceCtorEq,↓reduceIte,List.getElem?_set,hlen,List.length_set,t0,t7,t8,t9,t12,Int.cast_ofNat_Int,and_self]
 clear hlen t0 t7 t8 t9 t12
 rintro n o3 tm ⟨i,hi,rfl,rfl,hlen,t0,t7,t8,t9,t12,t14,t87,t88,t89⟩
 refine zaa fun W hW => ?_
 have htl:=zic (za0 i) (zdW.2 fun x hx => by unfold za0 at hx; rw [(List.mem_replicate.1 hx).2]; exact zj3) true true (ks'.take i) (fun k hk => by have:=(hmk k (List.mem_of_mem_take hk)).1; omega)
 rw [zdc] at htl
 by_cases hlt:(i:Int) < (ks.length:Int)
 ·have hi':i < ks'.length:=by omega
  have kv:(ks'.map AV.s)[i * 1]? = some (.s ks'[i]):=by rw [Nat.mul_one,List.getElem?_map,List.getElem?_eq_getElem hi']; rfl
  have hki:=hmk _ (List.getElem_mem hi')
  have hst:=wrN_step hi' ⟨hki.2,by omega⟩
  generalize ks'[i]=key at kv hki hst
  have hql:=zjx key
  have hql2:(zcC key).length ≤ 6 * key.length + 2:=by unfold zcC; simp only [List.length_cons,List.length_append,List.length_nil]; omega
  have hwk:=wrE_str hki.2 (by omega)
  have kS:=fun {objs:List OB} {K:List OB → AV → Prop} (h:K objs (.tup [.s (zcC key),.i .i64 0])) => zfg (.mk 5 key [] []) (by rw [JKp,zd3]; exact ⟨by simp,by simp,by omega,by simp,trivial⟩) (by rw [JOk,zh9]; exact ⟨by decide,by omega,by simp,by simp,by simp,trivial⟩) (by rw [JV.size,JV.sizes]; decide) (objs:=objs) (K:=K) (by rw [hwk]; exact h)
  have kS2:=fun {objs:List OB} {K:List OB → AV → Prop} (h:K objs (.tup [.s (zcC key),.i .i64 0])) => zhY (args:=[.agg [.i .i64 5,.s key,.nil,.nil]]) (fun G I ys hd => by
   rw [zap]
   simp only [zae,Den] at hd
   obtain ⟨y0,ys0,rfl,⟨zs,rfl,⟨z0,m0,rfl,q0,z1,m1,rfl,q1,z2,m2,rfl,q2,z3,m3,rfl,q3,rfl⟩,hz⟩,rfl⟩:=hd
   refine zae.cons ?_ zae.nil
   rw [Den]
   exact ⟨_,rfl,zae.cons (by rw [Den]; exact q0) (zae.cons (by rw [Den]; exact q1) (zae.cons (zce (by rw [Den]; exact q2)) (zae.cons (zce (by rw [Den]; exact q3)) zae.nil))),hz⟩) (kS h)
  simp only [sxZ,z6,z7,z8,j5,j6,j7,j8,j9,x3,x4,x5,x6,x7,x8,x9,reduceCtorEq,↓reduceIte,List.getElem?_set,hlen,t87,t88,t89,hlt]
  subst hW
  refine zaa fun W hW => ?_
  simp only [sxZ,z6,z7,z8,j5,j6,j7,j8,j9,x3,x4,x5,x6,x7,x8,x9,reduceCtorEq,↓reduceIte,List.getElem?_set,hlen]
  subst hW
  refine zaa fun V hV => ?_
  rw [zaX]
  refine zaa fun W hW => ?_
  simp only [sxZ,z6,z7,z8,j5,j6,j7,j8,j9,x3,x4,x5,x6,x7,x8,x9,reduceCtorEq,↓reduceIte,List.getElem?_set,hlen,t87,t89,eb1,kv,List.length_map]
  refine ⟨⟨by omega,by omega⟩,?_⟩
  subst hW
  refine zaa fun W hW => ?_
  simp only [sxZ,z6,z7,z8,j5,j6,j7,j8,j9,x3,x4,x5,x6,x7,x8,x9,reduceCtorEq,↓reduceIte,List.getElem?_set,hlen]
  refine zal (kS2 ?_)
  simp only [sxZ,z6,z7,z8,j5,j6,j7,j8,j9,x3,x4,x5,x6,x7,x8,x9,reduceCtorEq,↓reduceIte,List.getElem?_set,hlen]
  subst hW
  refine zaa fun W hW => ?_
  obtain ⟨T1,hT1⟩:∃ T1,T1=(if decide (i=0)=true then wrI true true (ks'.take i) (za0 i) else wrI true true (ks'.take i) (za0 i) ++ [44]):=⟨_,rfl⟩
  rw [← hT1] at hst
  have hTl:T1.length ≤ 4000 * i + 1:=by
   rw [hT1]; split
   ·omega
   ·rw [List.length_append,List.length_cons,List.length_nil]; omega
  refine zaM (fun o tm => o=o3 ∧ tm.length=142 ∧ tm[0]? = some (.row ks.length (ks.map .s)) ∧ tm[7]? = some (.i .i64 (x:Int)) ∧ tm[8]? = some (.i .i64 (y:Int)) ∧ tm[9]? = some (.p 0 0) ∧ tm[12]? = some (.s T) ∧ tm[14]? = some (.s T1) ∧ tm[17]? = some (.s (zcC key)) ∧ tm[87]? = some (.orow b1 g1) ∧ tm[88]? = some (.i .i64 (ks.length:Int)) ∧ tm[89]? = some (.i .i64 (i:Int))) ?_ ?_
  ·cases i with
   | zero =>
    have z:¬ (0:Int) < ((0:Nat):Int):=by decide
    have hT2:wrI true true (ks'.take 0) (za0 0)=T1:=by rw [hT1]; rfl
    rw [hT2] at t14
    simp only [sxZ,z6,z7,z8,j5,j6,j7,j8,j9,x3,x4,x5,x6,x7,x8,x9,reduceCtorEq,↓reduceIte,List.getElem?_set,hlen,z,zab,List.length_set,t0,t7,t8,t9,t12,t14,t87,t88,t89,and_self]
   | succ i =>
    have z:(0:Int) < ((i + 1:Nat):Int):=by omega
    have hT2:wrI true true (ks'.take (i + 1)) (za0 (i + 1)) ++ [44]=T1:=by rw [hT1]; rfl
    simp only [sxZ,z6,z7,z8,j5,j6,j7,j8,j9,x3,x4,x5,x6,x7,x8,x9,reduceCtorEq,↓reduceIte,List.getElem?_set,hlen,z,t14,hT2,zab,List.length_set,t0,t7,t8,t9,t12,t87,t88,t89,and_self,and_true]
    omega
  clear hlen t0 t7 t8 t9 t12 t14 t87 t88 t89
  rintro _ tm ⟨rfl,hlen,t0,t7,t8,t9,t12,t14,t17,t87,t88,t89⟩
  subst hW
  subst hV
  simp only [sxZ,z6,z7,z8,j5,j6,j7,j8,j9,x3,x4,x5,x6,x7,x8,x9,reduceCtorEq,↓reduceIte,List.getElem?_set,hlen,t14,t17,List.length_set,t0,t7,t8,t9,t12,t87,t88,t89]
  refine ⟨?_,?_,?_⟩
  ·omega
  ·omega
  refine ⟨by omega,ks.length - (i + 1),by omega,i + 1,by omega,rfl,by rw [hst],rfl⟩
 have hn:i=ks.length:=by omega
 rw [hn,List.take_of_length_le (by omega)] at t14
 have hfin:(123:UInt8) :: (wrI true true ks' (za0 ks.length) ++ [125])=wrJ (vN ks'):=by
  unfold vN; rw [wrJ,hml]; rfl
 rw [hn,List.take_of_length_le (by omega)] at htl
 simp only [sxZ,z6,z7,z8,j5,j6,j7,j8,j9,x3,x4,x5,x6,x7,x8,x9,reduceCtorEq,↓reduceIte,List.getElem?_set,hlen,t87,t88,t89,hlt]
 subst hW
 simp only [sxZ,z6,z7,z8,j5,j6,j7,j8,j9,x3,x4,x5,x6,x7,x8,x9,reduceCtorEq,↓reduceIte,List.getElem?_set,hlen]
 refine zbf (fun tm => tm.length=142 ∧ tm[0]? = some (.row ks.length (ks.map .s)) ∧ tm[12]? = some (.s T) ∧ tm[14]? = some (.s (wrI true true ks' (za0 ks.length)))) ?_ ?_
 ·simp only [sxZ,z6,z7,z8,j5,j6,j7,j8,j9,x3,x4,x5,x6,x7,x8,x9,reduceCtorEq,↓reduceIte,List.getElem?_set,hlen,List.length_set,t0,t12,t14,and_self]
 clear hlen t0 t7 t8 t9 t12 t14 t87 t88 t89
 rintro tm ⟨hlen,t0,t12,t14⟩
 obtain ⟨pp,hdup⟩:=hdup
 have P1:=fun {objs:List OB} {K:List OB → AV → Prop} (h:K objs (zdR (za8 T))) => zeJ T (by omega) (objs:=objs) (K:=K) h
 have P2:=fun {objs:List OB} {K:List OB → AV → Prop} (h:K objs (zdR (za8 (wrJ (vN ks'))))) => zeJ (wrJ (vN ks')) (by omega) (objs:=objs) (K:=K) h
 rw [hback] at P1
 rw [hdup] at P2
 unfold zdR at P1 P2
 simp only at P1 P2
 rw [znB] at P2
 rw [zap] at P1
 rw [← hfin] at P2
 generalize wrI true true ks' (za0 ks.length)=U at t14 P2 htl
 subst hY
 refine zaa fun Y hY => ?_
 simp only [sxZ,z6,z7,z8,j5,j6,j7,j8,j9,x3,x4,x5,x6,x7,x8,x9,reduceCtorEq,↓reduceIte,List.getElem?_set,hlen,t12]
 refine zal (P1 ?_)
 simp only [sxZ,z6,z7,z8,j5,j6,j7,j8,j9,x3,x4,x5,x6,x7,x8,x9,reduceCtorEq,↓reduceIte,List.getElem?_set,hlen,gn1,sn1]
 have e19:=gn1 o3 (OB.box 26 [.i .i64 ov.kind,.s ov.text,.row ov.keys.length (ov.keys.map .s),.row ov.items.length (zac ov.items)])
 generalize o3 ++ [OB.box 26 [.i .i64 ov.kind,.s ov.text,.row ov.keys.length (ov.keys.map .s),.row ov.items.length (zac ov.items)]]=o4 at e19 ⊢
 generalize o3.length=q at e19 ⊢
 have hql:=(List.getElem?_eq_some_iff.1 e19).1
 refine zbf (fun tm => tm.length=142 ∧ tm[0]? = some (.row ks.length (ks.map .s)) ∧ tm[14]? = some (.s U) ∧ tm[19]? = some (.p q 0) ∧ tm[21]? = some (.i .i64 0)) ?_ ?_
 ·simp only [sxZ,z6,z7,z8,j5,j6,j7,j8,j9,x3,x4,x5,x6,x7,x8,x9,reduceCtorEq,↓reduceIte,List.getElem?_set,hlen,List.length_set,t0,t14,and_self]
 clear hlen t0 t12 t14
 rintro tm ⟨hlen,t0,t14,t19,t21⟩
 subst hY
 refine zaa fun Y hY => ?_
 simp only [sxZ,z6,z7,z8,j5,j6,j7,j8,j9,x3,x4,x5,x6,x7,x8,x9,reduceCtorEq,↓reduceIte,List.getElem?_set,hlen,t14]
 refine ⟨by omega,by omega,?_⟩
 refine zal (P2 ?_)
 simp only [sxZ,z6,z7,z8,j5,j6,j7,j8,j9,x3,x4,x5,x6,x7,x8,x9,reduceCtorEq,↓reduceIte,List.getElem?_set,hlen,gn1,sn1]
 have e19:(o4 ++ [OB.box 26 [.i .i64 0,.s [],.row 0 [],.row 0 []]])[q]? = some (OB.box 26 [.i .i64 ov.kind,.s ov.text,.row ov.keys.length (ov.keys.map .s),.row ov.items.length (zac ov.items)]):=by rw [List.getElem?_append_left hql]; exact e19
 have e22:=gn1 o4 (OB.box 26 [.i .i64 0,.s [],.row 0 [],.row 0 []])
 generalize o4 ++ [OB.box 26 [.i .i64 0,.s [],.row 0 [],.row 0 []]]=o5 at e19 e22 ⊢
 generalize o4.length=q2 at e22 ⊢
 subst hY
 simp only [sxZ,z6,z7,z8,j5,j6,j7,j8,j9,x3,x4,x5,x6,x7,x8,x9,reduceCtorEq,↓reduceIte,List.getElem?_set,hlen,t0,t19,t21,e19,e22,hkl2]
end
end
end Go.Proofs.YthmdohgkmdkeeaaGreatDoor
namespace Go.Proofs.YthmdohgkmdkeeaaGreatDoor
open Go.RowKit Sx
theorem zc9 {P:Program} {w w':World} {name:String} {k:IntKind} {zs:List Int} (h:Lib.TabIs P w name k zs) (hk:∀ k,k < w.heap.size → w'.heap[k]? = w.heap[k]?):Lib.TabIs P w' name k zs:=by
 unfold Lib.TabIs World.var? at *
 cases hg:P.globalNamed name with
 | none => simp [hg] at h
 | some g =>
  simp only [hg,Option.bind_some] at h ⊢
  have hlt:g < w.heap.size:=by
   rcases Nat.lt_or_ge g w.heap.size with h' | h'
   ·exact h'
   ·rw [Array.getElem?_eq_none h'] at h; simp at h
  rw [hk g hlt]
  exact h
instance tabsN : Tabs Tryz.prog := ⟨fun w => w.ShapedOpen Tryz.prog ∧ Lib.TabIs Tryz.prog w "internal/strconv.uint64pow10" .u64 Lib.pow10Tab, fun _ _ h hk _ => ⟨ze2 h.1 hk, zc9 h.2 hk⟩⟩
instance tabsN_shp:Shp Tryz.prog:=⟨fun _ h => h.1⟩
instance tabsN_pow:Pow Tryz.prog:=⟨fun _ h => h.2⟩
end Go.Proofs.YthmdohgkmdkeeaaGreatDoor
namespace Go.Proofs.YthmdohgkmdkeeaaGreatDoor
open Go.RowKit Sx
theorem utabs_of {w : World} (h0 : Lib.TabIs Tryz.prog w "webfinger/utf8text.lengths" .i64 lensT) (h1 : Lib.TabIs Tryz.prog w "webfinger/utf8text.mosts" .i64 mostT) : UTabs w :=
 ⟨fun i hi => h0.cell (by kernel_rfl) i hi,fun i hi => h1.cell (by kernel_rfl) i hi⟩
instance (priority := high) tabsU : Tabs Tryz.prog := ⟨fun w => w.ShapedOpen Tryz.prog ∧ Lib.TabIs Tryz.prog w "internal/strconv.uint64pow10" .u64 Lib.pow10Tab ∧ Lib.TabIs Tryz.prog w "webfinger/utf8text.lengths" .i64 lensT ∧ Lib.TabIs Tryz.prog w "webfinger/utf8text.mosts" .i64 mostT, fun _ _ h hk _ => ⟨ze2 h.1 hk, zc9 h.2.1 hk, zc9 h.2.2.1 hk, zc9 h.2.2.2 hk⟩⟩
instance (priority:=high) tabsU_shp:Shp Tryz.prog:=⟨fun _ h => h.1⟩
instance (priority:=high) tabsU_pow:Pow Tryz.prog:=⟨fun _ h => h.2.1⟩
instance (priority:=high) tabsU_utf:Utf Tryz.prog:=⟨fun _ h => utabs_of h.2.2.1 h.2.2.2⟩
end Go.Proofs.YthmdohgkmdkeeaaGreatDoor
