/- The texts that the proofs of these statements reach, in their order, as few files. -/
import Derived.Lib.Split
import Derived.Lib.IndexMore
import Derived.Lib.Builder
import Derived.Lib.UnsafeStr
import Derived.Shelf.RegionOpenPlain
import Derived.Laws.Externs
import Derived.Lib.SplitLaws
import Derived.BigRegion
import Derived.Deep.RegionLaw
import Derived.Deep.RegionHeldLaw
import Derived.Deep.DrawnRows
import Derived.Lib.Join
import Derived.Test.YtbeoijfmfkifeaaGreatDoorProg
import Derived.Test.YtbeoijfmfkifeaaGreatDoorCk6
set_option linter.unusedVariables false
set_option linter.unusedSimpArgs false
set_option maxRecDepth 100000
namespace Go.Proofs.YtbeoijfmfkifeaaGreatDoor
open Go.RowKit Go.Shelf Sx
section
variable {P:Program}
theorem fn_inW [Tabs P] {f:FuncId} {n:Nat} {ss:List SRes} {fn:Func} {c:Code} (h1:P.funcs[f]? = some fn) (h2:fn.body=some c) (h3:fn.ntmps=n) (h4:fn.results.toList.mapM (zda P)=some ss) {args:List AV} {objs:List OB} {K:List OB → AV → Prop}
  (h:∀ (C:Cx) [On P C],WP P C c (endI ss K) objs (args ++ List.replicate (n - args.length) (.o undef))):zae P f args objs K:=by
 intro C hOn G I w hin hm ys hd
 let C':Cx:=⟨C.w,C.own,I,G⟩
 haveI hOn':On P C':=⟨hOn.tab,hOn.own⟩
 have hwp:=h C'
 have hlen:=hd.length
 have hrel:Rel C' objs (args ++ List.replicate (n - args.length) (.o undef)) { tmps:=ys.toArray ++ Array.replicate (fn.ntmps - ys.toArray.size) undef,defers:=[] } w:=by
  refine ⟨G,I,⟨hin.os,hin.tape,hin.output,hin.size,hin.block,fun _ _ _ h => h,fun _ _ _ h => .inl h,hin.blk,Gh.le.refl G⟩,hm,?_,rfl⟩
  simp only [Array.toList_append,Array.toList_replicate,h3,List.size_toArray]
  refine zac.append hd ?_
  rw [hlen]
  have:∀ k,zac G I (List.replicate k (.o undef)) (List.replicate k undef):=by
   intro k
   induction k with
   | zero => exact zac.nil
   | succ k ih => exact zac.cons (by simp [Den]) ih
  exact this _
 refine calls_of_wp h1 h2 (wp_mono (hwp _ _ hrel) ?_)
 rintro e a' w' ⟨objs',tm',hk,G',I',hin',hm',hd',hdef⟩
 have key:zg8 ss K objs' tm' →
   a'.defers=[] ∧ ∃ v,(results fn a'.tmps).run P w'=.ok v w' ∧ ∃ y objs'' r G'' I'',Ending.returned v=.returned y ∧ K objs'' r ∧ G.le G'' ∧ Imm.le I I'' ∧ In C G'' I'' w' ∧ MemOk G'' I'' objs'' w' ∧ Den G'' I'' r y:=by
  intro hk
  unfold zg8 at hk
  split at hk
  ·rename_i xs hxs
   obtain ⟨y,hy,hyd⟩:=zbT (P:=P) (fn:=fn) hm' hd' ss xs h4 hxs
   refine ⟨hdef,y,hy,y,objs',_,G',I',rfl,hk,hin'.gh,hin'.imm,⟨hin'.os,hin'.tape,hin'.output,hin'.size,hin'.block,fun g o v hi => hin'.imm g o v (hin.imm g o v hi),fun g o v hi => ?_,hin'.blk,hin.gh.trans hin'.gh⟩,hm',hyd⟩
   rcases hin'.news g o v hi with h | h
   ·exact hin.news g o v h
   ·exact .inr h
  ·exact hk.elim
 cases e with
 | normal => exact key hk
 | ret => exact key hk
 | _ => exact hk.elim
theorem zdA {cs:Array Value} (h:∀ v ∈ cs.toList,v.oneCell'=true) (n:Nat):∀ v ∈ (Builtin.zeroCells cs n).toList,v.oneCell'=true:=by
 intro v hv
 simp only [Builtin.zeroCells,Array.toList_map,Array.toList_range,List.mem_map,List.mem_range] at hv
 obtain ⟨i,hi,rfl⟩:=hv
 have h0:0 < cs.size:=by
  rcases Nat.eq_zero_or_pos cs.size with h | h
  ·rw [h,Nat.mul_zero] at hi; omega
  ·exact h
 have hlt:=Nat.mod_lt i h0
 rw [getElem!_pos cs _ hlt]
 exact h _ (Array.getElem_mem_toList hlt)
theorem dens_o (G:Gh) (I:Imm):∀ zs:List Value,zac G I (zs.map .o) zs
 | [] => zac.nil
 | z :: zs => zac.cons (by simp [Den]) (dens_o G I zs)
theorem clear_wp [Tabs P] {C:Cx} [On P C] {K:zas} {objs:List OB} {tm:List AV} {id:Nat} {o1 o2 o3 o4:Oper} {T E:TypeId} {i:TypeInfo} (hu:P.underlying T=some (.slice E)) (hi:P.info? E=some i)
  (z:Value) (hv:∀ w,(zeroValue E).run P w=.ok z w) (hzs:z.cells.size=i.size) (hz1:∀ v ∈ z.cells.toList,v.oneCell'=true) (his:0 < i.size)
  (a1:o1.op=.move (.tmp 0) ∧ o1.dst=some 36 ∧ o1.guard=none) (a2:o2.op=.move (.tmp 5) ∧ o2.dst=some 37 ∧ o2.guard=none)
  (a3:o3.op=.slice T (.tmp 36) (some (.tmp 37)) none none ∧ o3.dst=some 38 ∧ o3.guard=none) (a4:o4.op=.call { callee:=.builtin .clear,args:=#[.tmp 38],argTypes:=#[T] } ∧ o4.dst=none ∧ o4.guard=none)
  {b gen n j:Nat} {xs:List AV} (hx:tm[0]? = some (.orow b gen)) (hy:tm[5]? = some (.i .i64 j)) (hb:objs[b]? = some (.orow E i.size gen n xs)) (hj:j < n) (hlen:39 ≤ tm.length)
  (h:∀ vs:List AV,vs.length=(n - j) * i.size → K .normal (objs.set b (.orow E i.size gen n (xs.take (j * i.size) ++ vs))) (((tm.set 36 (.orow b gen)).set 37 (.i .i64 j)).set 38 .u)) :
  WP P C (.region id #[o1,o2,o3,o4] false) K objs tm:=by
 intro a w hr
 refine wp_region_list ?_
 obtain ⟨G,I,hin,hm,hd,hdef⟩:=hr
 have e1:=zab hd (.tmp 0)
 rw [show (zaf (.tmp 0)).ev tm=.orow b gen from by simp [zaf,SV.ev,hx]] at e1
 have hd1:=zaM hd e1 (some 36)
 have e2:=zab hd1 (.tmp 5)
 rw [show (zaf (.tmp 5)).ev (zaj tm (some 36) (.orow b gen))=.i .i64 j from by simp [zaf,SV.ev,zaj,List.getElem?_set,hy]] at e2
 have hd2:=zaM hd1 e2 (some 37)
 have t36:(zaf (.tmp 36)).ev (zaj (zaj tm (some 36) (.orow b gen)) (some 37) (.i .i64 j))=.orow b gen:=by
  simp [zaf,SV.ev,zaj,List.getElem?_set,show 36 < tm.length by omega]
 have t37:(zaf (.tmp 37)).ev (zaj (zaj tm (some 36) (.orow b gen)) (some 37) (.i .i64 j))=.i .i64 j:=by
  simp [zaf,SV.ev,zaj,List.getElem?_set,show 37 < tm.length by omega]
 have f36:=zab hd2 (.tmp 36)
 have f37:=zab hd2 (.tmp 37)
 rw [t36] at f36
 rw [t37] at f37
 simp only [Den] at f36 f37
 obtain ⟨g',v,k1,k2,k3,_⟩:=f36
 obtain ⟨v',ys,m1,m2,m3,m4,m5⟩:=hm.row b _ _ gen n xs hb
 have hcur:=m1
 rw [k1] at m1; injection m1 with m1; injection m1 with m1 m6
 have hv36:=k3 m1.symm
 have m1':=m1.symm
 subst m1' m6
 have hvl:=m2.1
 have hxl:=m3.length
 rcases m2.2 with ⟨rfl,hn0⟩ | ⟨g,cap,cur,rfl,q3,q4,q5,q6,q7,q8⟩
 ·omega
 have hjs:(j + 1) * i.size ≤ n * i.size:=Nat.mul_le_mul_right _ hj
 rw [Nat.succ_mul] at hjs
 have hnc:n * i.size ≤ cap * i.size:=Nat.mul_le_mul_right _ q5
 have q1:=run_sliceBound (P:=P) w .i64 j n .sliceB (by omega) (by omega)
 have hrun:(Instr.sliceAt T (.slice (some ⟨g,0,none⟩) n cap) (some (.int .i64 j)) none none).run P w=.ok (.slice (some ⟨g,j * i.size,none⟩) (n - j) (cap - j)) w:=by
  simp [Instr.sliceAt,Instr.slice,run_underlying hu,Instr.sliceBounds,q1,sizeOf,typeInfo,hi,show ¬ cap=j by omega,zam]
 have hd3:=zaM (v:=.o (.slice (some ⟨g,j * i.size,none⟩) (n - j) (cap - j))) hd2 (by simp [Den]; rfl) (some 38)
 have hd3':=zaM (v:=.u) (y:=.slice (some ⟨g,j * i.size,none⟩) (n - j) (cap - j)) hd2 (by simp [Den]) (some 38)
 have f38:=zab hd3 (.tmp 38)
 rw [show (zaf (.tmp 38)).ev (zaj (zaj (zaj tm (some 36) (.orow b gen)) (some 37) (.i .i64 j)) (some 38) (.o (.slice (some ⟨g,j * i.size,none⟩) (n - j) (cap - j))))=.o (.slice (some ⟨g,j * i.size,none⟩) (n - j) (cap - j)) from by
  simp [zaf,SV.ev,zaj,List.getElem?_set,show 38 < tm.length by omega]] at f38
 simp only [Den] at f38
 obtain ⟨zs,hzs'⟩:∃ zs,zs=(Builtin.zeroCells z.cells (n - j)).toList:=⟨_,rfl⟩
 have hzl:zs.length=(n - j) * i.size:=by rw [hzs',Array.length_toList,zbo,hzs]
 have hzo:∀ u ∈ zs,u.oneCell'=true:=by rw [hzs']; exact zdA hz1 _
 have hmul:(n - j) * i.size=n * i.size - j * i.size:=Nat.sub_mul _ _ _
 have hcs:cur.size=cap * i.size:=q7
 have hclear:=zdg (P:=P) w T E o4.type z hu hv zs (n - j) g (j * i.size) (cap - j) (by omega) hzs'.symm hzo (fun t ht => by
  have:j * i.size + t < cur.size:=by omega
  simp [World.cell?,q4,this]) (fun t ht => by simp [World.frozen?,q4])
 obtain ⟨hin',hm'⟩:=setrow hin hm b g (j * i.size) E i.size gen n cap xs (zs.map .o) zs hb hcur (dens_o G I zs) hzo (by rw [List.length_map,hzl,hxl,hvl]; omega)
 have hsp:zav xs (j * i.size) (zs.map .o)=xs.take (j * i.size) ++ zs.map .o:=by
  unfold zav
  rw [List.length_map,hzl,List.drop_eq_nil_of_le (by rw [hxl,hvl]; omega),List.append_nil]
 rw [hsp] at hm'
 have hK:=h (zs.map .o) (by rw [List.length_map,hzl])
 unfold wpList
 rw [if_pos (by simp [Region.wanted,a1.2.2])]
 refine .inl (zar (w':=w) (by unfold execOp; rw [a1.1]; rfl) ?_)
 rw [a1.2.1]
 unfold wpList
 rw [if_pos (by simp [Region.wanted,a2.2.2])]
 refine .inl (zar (w':=w) (by unfold execOp; rw [a2.1]; rfl) ?_)
 rw [a2.2.1]
 unfold wpList
 rw [if_pos (by simp [Region.wanted,a3.2.2])]
 refine .inl (zar (w':=w) (y:=.slice (some ⟨g,j * i.size,none⟩) (n - j) (cap - j)) (by unfold execOp; rw [a3.1]; simp [f37,hv36,hrun]) ?_)
 rw [a3.2.1]
 unfold wpList
 rw [if_pos (by simp [Region.wanted,a4.2.2])]
 refine .inl (zar (w':=w.setCells g (j * i.size) zs) (y:=.tuple #[]) ?_ ?_)
 ·unfold execOp; rw [a4.1]
  simp only [resolve,invoke,builtin,Sem.run_bind,Sem.run_pure,Result.andThen_ok,List.map_toArray,List.map_cons,List.map_nil,f38]
  rw [hclear]; rfl
 ·rw [a4.2.1]
  unfold wpList
  exact ⟨_,_,hK,G,I,hin',hm',hd3',hdef⟩
end
end Go.Proofs.YtbeoijfmfkifeaaGreatDoor
namespace Go.Proofs.YtbeoijfmfkifeaaGreatDoor
open Nat renaming reduceAdd → z6, reduceSub → z7, reduceLeDiff → z8, reduceLT → j4, reduceMul → j5, reduceEqDiff → j6
open Int renaming reduceToNat → j7, reduceAdd → j8, reduceSub → j9, reduceMul → x0, reduceNeg → x3, reduceLT → x4, reduceLE → x5, reduceEq → x6, reduceNe → x7
open Go.RowKit Sx
section
attribute [local irreducible] run
abbrev bxE (e:En):OB:=.box 43 [.i .i64 0,.i .i64 1,.s (idT e.k),.s zdc,.i .i64 0,.i .i64 0,.s [],.s [],.i .i64 0,.b true,.i .u64 e.s,.row 0 [],.i .u64 e.t,.i .u64 (e.t + e.s:Nat)]
theorem zcl {L:List En} {i:Nat} (h:i < L.length):((ecs L).drop (i * 14)).take 14=[.i .i64 0,.i .i64 1,.s (idT L[i].k),.s zdc,.i .i64 0,.i .i64 0,.s [],.s [],.i .i64 0,.b true,.i .u64 L[i].s,.row 0 [],.i .u64 L[i].t,.i .u64 (L[i].t + L[i].s:Nat)]:=zdv h
theorem zdT (L:List En) (e:En):ecs L ++ [.i .i64 0,.i .i64 1,.s (idT e.k),.s zdc,.i .i64 0,.i .i64 0,.s [],.s [],.i .i64 0,.b true,.i .u64 e.s,.row 0 [],.i .u64 e.t,.i .u64 (e.t + e.s:Nat)]=ecs (L ++ [e]):=by
 rw [zc4,zaA,zdU,List.append_nil]; rfl
theorem zck (e:En):[AV.i .i64 0,.i .i64 1,.s (idT e.k),.s zdc,.i .i64 0,.i .i64 0,.s [],.s [],.i .i64 0,.b true,.i .u64 e.s,.row 0 [],.i .u64 e.t,.i .u64 (e.t + e.s:Nat)]=ecs [e]:=by
 rw [zaA,zdU,List.append_nil]; rfl
def AccB (cap p:Nat) (o:List OB) (acc:List En):Prop :=
 (acc=[] ∧ o[p]? = some (.box 24 [.i .i64 cap,.nil])) ∨
 ∃ q g,p < q ∧ o[p]? = some (.box 24 [.i .i64 cap,.orow q g]) ∧ o[q]? = some (.orow 43 14 g acc.length (ecs acc))
theorem dagg {a:AV} {G:Gh} {I:Imm} {y:Value} (h:Den G I (.agg [a,.nil]) y):Den G I (.agg [a,.row 0 []]) y:=by
 simp only [Den,zac] at h ⊢
 obtain ⟨zs,rfl,⟨z0,s0,rfl,q0,z1,s1,rfl,q1,q2⟩,q3⟩:=h
 exact ⟨_,rfl,⟨_,_,rfl,q0,_,_,rfl,⟨none,0,[],q1,⟨Nat.le_refl _,fun ad h => by cases h⟩,rfl,by simp,by simp⟩,q2⟩,q3⟩
theorem zaw {N:List OB} {X Y:OB} {j:Nat} (h:N[j]? = some Y):(N ++ [X])[j]? = some Y:=by
 rw [List.getElem?_append_left (List.getElem?_eq_some_iff.1 h).1]; exact h
theorem zaE {N:List OB} {X Y:OB} {j q:Nat} (h:N[j]? = some Y) (hn:q ≠ j):(N.set q X)[j]? = some Y:=by
 rw [List.getElem?_set_ne hn]; exact h
theorem zbr {N:List OB} {X Y:OB} {q:Nat} (h:N[q]? = some Y):(N.set q X)[q]? = some X:=by
 rw [List.getElem?_set_self (List.getElem?_eq_some_iff.1 h).1]
theorem zbE {N:List OB} {Y:OB} {j:Nat} (h:N[j]? = some Y):j < N.length:=(List.getElem?_eq_some_iff.1 h).1
theorem AccB.app {cap p:Nat} {o:List OB} {acc:List En} (h:AccB cap p o acc) (X:OB):AccB cap p (o ++ [X]) acc:=by
 rcases h with ⟨h1,h2⟩ | ⟨q,g,h1,h2,h3⟩
 ·exact .inl ⟨h1,zaw h2⟩
 ·exact .inr ⟨q,g,h1,zaw h2,zaw h3⟩
theorem AccB.set {cap p j:Nat} {o:List OB} {acc:List En} (h:AccB cap p o acc) {X Y:OB} (hj:o[j]? = some Y) (hY:∀ E sz g n xs,Y ≠ .orow E sz g n xs) (hp:j ≠ p):AccB cap p (o.set j X) acc:=by
 rcases h with ⟨h1,h2⟩ | ⟨q,g,h1,h2,h3⟩
 ·exact .inl ⟨h1,zaE h2 hp⟩
 ·refine .inr ⟨q,g,h1,zaE h2 hp,zaE h3 ?_⟩
  rintro rfl
  rw [hj] at h3; injection h3 with h3; exact hY _ _ _ _ _ h3
section
variable [Tabs Tryz.prog] {objs:List OB} {K:List OB → AV → Prop}
theorem rexp_k (cap now:Nat) (L:List En) (hn:L.length ≤ 1000) (hk:K objs (zaW cap (L.filter fun e => decide (now < e.t + e.s)))):zae Tryz.prog 24 [zaW cap L,.i .u64 now] objs K:=by
 have hel:=zaJ L
 refine cres (zaW cap (L.filter fun e => decide (now < e.t + e.s))) ?_
 refine zaU is_ref31_Expire (by simp only [zaW,zak,AV.plain,zat,Bool.and_self]) fun C _ => ?_
 rw [c_ref31_Expire]
 refine zaa fun Y hY => ?_
 simp only [zaW,sxZ,z6,z7,z8,j4,j5,j6,j7,j8,j9,x0,x3,x4,x5,x6,x7,reduceCtorEq,↓reduceIte]
 subst hY
 refine zaa fun Y hY => ?_
 simp only [sxZ,z6,z7,z8,j4,j5,j6,j7,j8,j9,x0,x3,x4,x5,x6,x7,reduceCtorEq,↓reduceIte]
 subst hY
 refine zaa fun Y hY => ?_
 simp only [sxZ,z6,z7,z8,j4,j5,j6,j7,j8,j9,x0,x3,x4,x5,x6,x7,reduceCtorEq,↓reduceIte]
 refine zaF (fun m o tm => ∃ i:Nat,m=L.length - i ∧ i ≤ L.length ∧ AccB cap 2 o ((L.take i).filter fun e => decide (now < e.t + e.s)) ∧ o[1]? = some (.box 24 [.i .i64 0,.nil]) ∧ tm.length=30 ∧ tm[1]? = some (.i .u64 now) ∧ tm[4]? = some (.p 1 0) ∧ tm[5]? = some (.p 2 0) ∧ tm[12]? = some (.row L.length (ecs L)) ∧ tm[13]? = some (.i .i64 L.length) ∧ tm[14]? = some (.i .i64 i)) L.length ⟨0,rfl,Nat.zero_le _,.inl ⟨rfl,rfl⟩,rfl,rfl,rfl,rfl,rfl,rfl,rfl,rfl⟩ ?_
 rintro m N tm ⟨i,rfl,hi,hacc,hN1,hlen,t1,t4,t5,t12,t13,t14⟩
 refine zaa fun Z hZ => ?_
 by_cases hlt:i < L.length
 ·have hlt':(i:Int) < (L.length:Int):=by omega
  have a1:=zcl hlt
  have hnext:(L.take (i + 1)).filter (fun e => decide (now < e.t + e.s))=(L.take i).filter (fun e => decide (now < e.t + e.s)) ++ if now < L[i].t + L[i].s then [L[i]] else []:=by
   rw [List.take_succ_eq_append_getElem hlt,List.filter_append]
   congr 1
   by_cases c:now < L[i].t + L[i].s
   ·rw [if_pos c,List.filter_cons_of_pos (by simpa using c),List.filter_nil]
   ·rw [if_neg c,List.filter_cons_of_neg (by simpa using c),List.filter_nil]
  have hfl:((L.take i).filter fun e => decide (now < e.t + e.s)).length ≤ 1000:=Nat.le_trans (List.length_filter_le _ _) (by rw [List.length_take]; omega)
  generalize hE:L[i]=e at *
  generalize (L.take i).filter (fun e => decide (now < e.t + e.s))=acc at *
  simp only [sxZ,z6,z7,z8,j4,j5,j6,j7,j8,j9,x0,x3,x4,x5,x6,x7,reduceCtorEq,↓reduceIte,List.getElem?_set,hlen,t13,t14,hlt']
  subst hZ
  refine zaa fun Z hZ => ?_
  simp only [sxZ,z6,z7,z8,j4,j5,j6,j7,j8,j9,x0,x3,x4,x5,x6,x7,reduceCtorEq,↓reduceIte,List.getElem?_set,hlen,t13,t14,hlt']
  subst hZ
  refine zaa fun Z hZ => ?_
  rw [za2]
  refine zaa fun X hX => ?_
  simp only [sxZ,z6,z7,z8,j4,j5,j6,j7,j8,j9,x0,x3,x4,x5,x6,x7,reduceCtorEq,↓reduceIte,List.getElem?_set,hlen,t12,t14,Int.toNat_natCast,a1,gn1,sn1]
  refine ⟨by omega,by omega,?_⟩
  have hM:AccB cap 2 (N ++ [bxE e]) acc:=hacc.app _
  have hM1:(N ++ [bxE e])[1]? = some (.box 24 [.i .i64 0,.nil]):=zaw hN1
  have hMe:(N ++ [bxE e])[N.length]? = some (bxE e):=gn1 _ _
  have hNl:1 < N.length:=zbE hN1
  generalize N ++ [bxE e]=M at hM hM1 hMe ⊢
  subst hX
  refine zaa fun X hX => ?_
  by_cases c:now < e.t + e.s
  ·have c':(now:Int) < ((e.t + e.s:Nat):Int):=by omega
   rw [if_pos c] at hnext
   simp only [sxZ,z6,z7,z8,j4,j5,j6,j7,j8,j9,x0,x3,x4,x5,x6,x7,reduceCtorEq,↓reduceIte,List.getElem?_set,hlen,t1,hMe,c']
   subst hX
   rcases hM with ⟨rfl,h2⟩ | ⟨q,g,h1,h2,h3⟩
   ·have h2':=zaw (X:=.orow 43 14 0 1 [AV.i .i64 0,.i .i64 1,.s (idT e.k),.s zdc,.i .i64 0,.i .i64 0,.s [],.s [],.i .i64 0,.b true,.i .u64 e.s,.row 0 [],.i .u64 e.t,.i .u64 (e.t + e.s:Nat)]) h2
    have hM1':=zaw (X:=.orow 43 14 0 1 [AV.i .i64 0,.i .i64 1,.s (idT e.k),.s zdc,.i .i64 0,.i .i64 0,.s [],.s [],.i .i64 0,.b true,.i .u64 e.s,.row 0 [],.i .u64 e.t,.i .u64 (e.t + e.s:Nat)]) hM1
    have hMl:=zbE hMe
    simp only [sxZ,z6,z7,z8,j4,j5,j6,j7,j8,j9,x0,x3,x4,x5,x6,x7,reduceCtorEq,↓reduceIte,List.getElem?_set,hlen,t1,t5,hMe,c',h2,h2']
    subst hZ
    simp only [sxZ,z6,z7,z8,j4,j5,j6,j7,j8,j9,x0,x3,x4,x5,x6,x7,reduceCtorEq,↓reduceIte,List.getElem?_set,hlen,t1,t4,t5,t12,t13,t14]
    refine ⟨by omega,L.length - (i + 1),by omega,i + 1,rfl,by omega,?_,hM1',rfl⟩
    rw [hnext]
    refine .inr ⟨M.length,0,by omega,zbr h2',?_⟩
    rw [zaE (gn1 _ _) (by omega),zck]
    rfl
   ·have hq2:¬ q=2:=by omega
    simp only [sxZ,z6,z7,z8,j4,j5,j6,j7,j8,j9,x0,x3,x4,x5,x6,x7,reduceCtorEq,↓reduceIte,List.getElem?_set,hlen,t1,t5,hMe,c',h2,h3,hq2]
    refine ⟨by omega,?_⟩
    subst hZ
    simp only [sxZ,z6,z7,z8,j4,j5,j6,j7,j8,j9,x0,x3,x4,x5,x6,x7,reduceCtorEq,↓reduceIte,List.getElem?_set,hlen,t1,t4,t5,t12,t13,t14]
    refine ⟨by omega,L.length - (i + 1),by omega,i + 1,rfl,by omega,?_,by rw [if_neg (by omega)]; exact hM1,rfl⟩
    rw [hnext]
    refine .inr ⟨q,g + 1,h1,zbr (zaE h2 hq2),?_⟩
    rw [zaE (zbr h3) (by omega),zdT,List.length_append]
    rfl
  ·have c':¬ (now:Int) < ((e.t + e.s:Nat):Int):=by omega
   rw [if_neg c,List.append_nil] at hnext
   simp only [sxZ,z6,z7,z8,j4,j5,j6,j7,j8,j9,x0,x3,x4,x5,x6,x7,reduceCtorEq,↓reduceIte,List.getElem?_set,hlen,t1,hMe,c']
   subst hX
   simp only [sxZ,z6,z7,z8,j4,j5,j6,j7,j8,j9,x0,x3,x4,x5,x6,x7,reduceCtorEq,↓reduceIte,List.getElem?_set,hlen,t1,hMe,c']
   subst hZ
   simp only [sxZ,z6,z7,z8,j4,j5,j6,j7,j8,j9,x0,x3,x4,x5,x6,x7,reduceCtorEq,↓reduceIte,List.getElem?_set,hlen,t1,t4,t5,t12,t13,t14]
   exact ⟨by omega,L.length - (i + 1),by omega,i + 1,rfl,by omega,by rw [hnext]; exact hM,hM1,rfl⟩
 ·have hlt':¬ (i:Int) < (L.length:Int):=by omega
  obtain rfl:i=L.length:=by omega
  rw [List.take_length] at hacc
  simp only [sxZ,z6,z7,z8,j4,j5,j6,j7,j8,j9,x0,x3,x4,x5,x6,x7,reduceCtorEq,↓reduceIte,List.getElem?_set,hlen,t13,t14,hlt']
  subst hZ
  subst hY
  have hpp:∀ M:List En,∀ o,zcf o 4 (ecs M)=some (ecs M):=fun M o => zbC o 3 _
  rcases hacc with ⟨ha,h2⟩ | ⟨q,g,h1,h2,h3⟩
  ·rw [ha] at hk
   have hNl:=zbE hN1
   simp only [sxZ,z6,z7,z8,j4,j5,j6,j7,j8,j9,x0,x3,x4,x5,x6,x7,reduceCtorEq,↓reduceIte,List.getElem?_set,hlen,t4,t5,hlt',h2,hN1,hNl]
   exact ⟨fun G I y hy => by rw [ha]; exact dagg hy,by rw [ha]; exact hk⟩
  ·generalize L.filter (fun e => decide (now < e.t + e.s))=acc at *
   have hNl:=zbE hN1
   have hq1:¬ 1=q:=by omega
   simp only [hpp,sxZ,z6,z7,z8,j4,j5,j6,j7,j8,j9,x0,x3,x4,x5,x6,x7,reduceCtorEq,↓reduceIte,List.getElem?_set,hlen,t4,t5,hlt',h2,h3,hN1,hNl,hq1]
   exact ⟨fun G I y hy => hy,hk⟩
end
end
section
attribute [local irreducible] run
def AccS (lo:Nat) (o:List OB) (v:AV) (acc:List En):Prop :=
 (acc=[] ∧ v=.nil) ∨ ∃ q g,lo < q ∧ v=.orow q g ∧ o[q]? = some (.orow 43 14 g acc.length (ecs acc))
theorem AccS.app {lo:Nat} {o:List OB} {v:AV} {acc:List En} (h:AccS lo o v acc) (X:OB):AccS lo (o ++ [X]) v acc:=by
 rcases h with h | ⟨q,g,h1,h2,h3⟩
 ·exact .inl h
 ·exact .inr ⟨q,g,h1,h2,zaw h3⟩
structure PutO (cap k s:Nat) (L:List En) (o:List OB):Prop where
 a:o[0]? = some (.box 24 [.i .i64 cap,.row L.length (ecs L)])
 b:o[1]? = some (.box 41 [.i .i64 0,.i .i64 1,.s (idT k),.s zdc,.i .i64 0,.i .i64 0,.s [],.s [],.i .i64 0,.b true,.i .u64 s,.row 0 []])
 c:o[2]? = some (.box 24 [.i .i64 0,.nil])
theorem PutO.app {cap k s:Nat} {L:List En} {o:List OB} (h:PutO cap k s L o) (X:OB):PutO cap k s L (o ++ [X]):=⟨zaw h.a,zaw h.b,zaw h.c⟩
theorem PutO.set {cap k s:Nat} {L:List En} {o:List OB} (h:PutO cap k s L o) {q:Nat} (hq:2 < q) (X:OB):PutO cap k s L (o.set q X):=⟨zaE h.a (by omega),zaE h.b (by omega),zaE h.c (by omega)⟩
def KpR (p:Nat) (o:List OB) (v:AV) (kp:List En):Prop :=
 (kp=[] ∧ v=.nil) ∨ ∃ q g,2 < q ∧ q < p ∧ v=.orow q g ∧ o[q]? = some (.orow 43 14 g kp.length (ecs kp))
theorem AccS.kp {o:List OB} {v:AV} {kp:List En} (h:AccS 2 o v kp):KpR o.length o v kp:=by
 rcases h with h | ⟨q,g,h1,h2,h3⟩
 ·exact .inl h
 ·exact .inr ⟨q,g,h1,zbE h3,h2,h3⟩
theorem KpR.app {p:Nat} {o:List OB} {v:AV} {kp:List En} (h:KpR p o v kp) (X:OB):KpR p (o ++ [X]) v kp:=by
 rcases h with h | ⟨q,g,h1,h0,h2,h3⟩
 ·exact .inl h
 ·exact .inr ⟨q,g,h1,h0,h2,zaw h3⟩
theorem KpR.set {p j:Nat} {o:List OB} {v:AV} {kp:List En} (h:KpR p o v kp) (hj:p ≤ j) (X:OB):KpR p (o.set j X) v kp:=by
 rcases h with h | ⟨q,g,h1,h0,h2,h3⟩
 ·exact .inl h
 ·exact .inr ⟨q,g,h1,h0,h2,zaE h3 (by omega)⟩
structure OutO (cap k s t p q0:Nat) (L kp:List En) (v:AV) (o:List OB) (acc:List En):Prop where
 put:PutO cap k s L o
 kpr:KpR p o v kp
 acc:AccB cap p o acc
 new:o[q0]? = some (bxE ⟨k,s,t⟩)
 lo:2 < p
 hi:p < q0
abbrev clE (e:En):List AV:=[.i .i64 0,.i .i64 1,.s (idT e.k),.s zdc,.i .i64 0,.i .i64 0,.s [],.s [],.i .i64 0,.b true,.i .u64 e.s,.row 0 [],.i .u64 e.t,.i .u64 (e.t + e.s:Nat)]
theorem OutO.app {cap k s t p q0:Nat} {L kp:List En} {v:AV} {o:List OB} {acc:List En} (h:OutO cap k s t p q0 L kp v o acc) (X:OB):OutO cap k s t p q0 L kp v (o ++ [X]) acc :=
 ⟨h.put.app X,h.kpr.app X,h.acc.app X,zaw h.new,h.lo,h.hi⟩
theorem OutO.fst {cap k s t p q0:Nat} {L kp:List En} {v:AV} {o:List OB} (h:OutO cap k s t p q0 L kp v o []) (h2:o[p]? = some (.box 24 [.i .i64 cap,.nil])) (e:En):OutO cap k s t p q0 L kp v ((o ++ [OB.orow 43 14 0 1 (clE e)]).set p (.box 24 [.i .i64 cap,.orow o.length 0])) [e]:=by
 have hp:=zbE h2
 have ha:=h.app (OB.orow 43 14 0 1 (clE e))
 refine ⟨ha.put.set h.lo _,ha.kpr.set (Nat.le_refl _) _,.inr ⟨o.length,0,hp,zbr (zaw h2),?_⟩,zaE ha.new (by have:=h.hi; omega),h.lo,h.hi⟩
 rw [zaE (gn1 _ _) (by omega)]
 exact congrArg (fun x => some (OB.orow 43 14 0 1 x)) (zck e)
theorem OutO.nxt {cap k s t p q0 q g:Nat} {L kp:List En} {v:AV} {o:List OB} {acc:List En} (h:OutO cap k s t p q0 L kp v o acc) (hq:p < q) (h2:o[p]? = some (.box 24 [.i .i64 cap,.orow q g])) (h3:o[q]? = some (.orow 43 14 g acc.length (ecs acc))) (e:En):OutO cap k s t p q0 L kp v ((o.set q (.orow 43 14 (g + 1) (acc.length + 1) (ecs acc ++ clE e))).set p (.box 24 [.i .i64 cap,.orow q (g + 1)])) (acc ++ [e]):=by
 have hne:q ≠ q0:=by
  rintro rfl
  have:=h.new
  rw [h3] at this
  cases this
 have hlo:=h.lo
 have hhi:=h.hi
 refine ⟨(h.put.set (by omega) _).set hlo _,(h.kpr.set (by omega) _).set (Nat.le_refl _) _,.inr ⟨q,g + 1,hq,zbr (zaE h2 (by omega)),?_⟩,zaE (zaE h.new hne) (by omega),hlo,hhi⟩
 rw [zaE (zbr h3) (by omega),List.length_append]
 show some (OB.orow _ _ _ _ (ecs acc ++ clE e))=_
 rw [zdT]
 rfl
theorem put_srt {kp:List En} {n:En} (hs:zcy kp) (hn:n.k < 20):zcy ((kp.filter fun e => decide (e.k < n.k)) ++ [n] ++ kp.filter fun e => decide (n.k < e.k)):=by
 refine ⟨List.pairwise_append.2 ⟨List.pairwise_append.2 ⟨hs.1.filter _,List.pairwise_singleton _ _,fun a ha b hb => ?_⟩,hs.1.filter _,fun a ha b hb => ?_⟩,fun e he => ?_⟩
 ·rw [List.mem_singleton.1 hb]
  exact of_decide_eq_true (List.mem_filter.1 ha).2
 ·have h2:=of_decide_eq_true (List.mem_filter.1 hb).2
  rcases List.mem_append.1 ha with h | h
  ·have h1:=of_decide_eq_true (List.mem_filter.1 h).2
   omega
  ·rw [List.mem_singleton.1 h]; exact h2
 ·rcases List.mem_append.1 he with h | h
  ·rcases List.mem_append.1 h with h | h
   ·exact hs.2 e (List.mem_filter.1 h).1
   ·rw [List.mem_singleton.1 h]; exact hn
  ·exact hs.2 e (List.mem_filter.1 h).1
theorem zjl (k:Nat):∀ L:List En,(L.filter fun e => decide (e.k < k)).length + (L.filter fun e => decide (k < e.k)).length ≤ L.length
 | [] => Nat.le_refl _
 | e :: L => by
  have ih:=zjl k L
  rcases Nat.lt_trichotomy e.k k with h | h | h
  ·rw [List.filter_cons_of_pos (by simpa using h),List.filter_cons_of_neg (by simpa using Nat.le_of_lt h)]
   simp only [List.length_cons]; omega
  ·rw [List.filter_cons_of_neg (by simp [h]),List.filter_cons_of_neg (by simp [h])]
   simp only [List.length_cons]; omega
  ·rw [List.filter_cons_of_neg (by simpa using Nat.le_of_lt h),List.filter_cons_of_pos (by simpa using h)]
   simp only [List.length_cons]; omega
section
variable [Tabs Tryz.prog] {objs:List OB} {K:List OB → AV → Prop}
theorem radd_k {a b:Nat} (h:a + b ≤ 18446744073709551615) (hk:K objs (.i .u64 (a + b:Nat))):zae Tryz.prog 31 [.i .u64 a,.i .u64 b] objs K:=by
 refine zaU is_ref04_Add rfl fun C _ => ?_
 rw [c_ref04_Add]
 have e1:IntKind.u64.wrap (18446744073709551615 - (b:Int))=((18446744073709551615 - b:Nat):Int):=by rw [IntKind.wrap_u64]; omega
 have e2:¬ (((18446744073709551615 - b:Nat):Int) < (a:Int)):=by omega
 have e3:IntKind.u64.wrap ((a:Int) + b)=((a + b:Nat):Int):=by rw [IntKind.wrap_u64]; omega
 simp only [sxZ,z6,z7,z8,j4,j5,j6,j7,j8,j9,x0,x3,x4,x5,x6,x7,reduceCtorEq,↓reduceIte,e1,e2,e3]
 exact hk
theorem rnew_k (cap:Nat) (hc:cap ≤ 1024) (hk:K objs (.tup [zaW cap [],.i .i64 0])):zae Tryz.prog 11 [.i .i64 cap] objs K:=by
 refine cres (.tup [zaW cap [],.i .i64 0]) ?_
 refine zaU is_ref31_New rfl fun C _ => ?_
 rw [c_ref31_New]
 have e1:¬ (cap:Int) < 0:=by omega
 have e2:¬ (1024:Int) < (cap:Int):=by omega
 refine zaa fun Y hY => ?_
 simp only [sxZ,z6,z7,z8,j4,j5,j6,j7,j8,j9,x0,x3,x4,x5,x6,x7,reduceCtorEq,↓reduceIte]
 subst hY
 simp only [sxZ,z6,z7,z8,j4,j5,j6,j7,j8,j9,x0,x3,x4,x5,x6,x7,reduceCtorEq,↓reduceIte,e1,e2]
 exact ⟨fun G I y hy => dtup1 (fun y => dnil) hy,hk⟩
theorem rput_k (cap k s t:Nat) (L:List En) (hs:zcy L) (hk20:k < 20) (h1:1 ≤ s) (h2:s ≤ 86400) (ht:t + s ≤ 18446744073709551615) (hc:L.length ≤ cap) (hcap:cap ≤ 1000)
  (hk:∀ L',zcy L' → L'.length ≤ cap → (∀ e ∈ L',e ∈ L ∨ e=⟨k,s,t⟩) → K objs (zaW cap L')):zae Tryz.prog 19 [zaW cap L,.agg (vc k s (.row 0 [])),.i .u64 t] objs K:=by
 have hel:=zaJ L
 refine zaU is_ref31_Put (by simp only [zaW,vc,zak,AV.plain,zat,Bool.and_self]) fun C _ => ?_
 rw [c_ref31_Put]
 refine zaa fun Y hY => ?_
 simp only [zaW,vc,sxZ,z6,z7,z8,j4,j5,j6,j7,j8,j9,x0,x3,x4,x5,x6,x7,reduceCtorEq,↓reduceIte]
 subst hY
 refine zaa fun Y hY => ?_
 refine zaa fun X hX => ?_
 simp only [sxZ,z6,z7,z8,j4,j5,j6,j7,j8,j9,x0,x3,x4,x5,x6,x7,reduceCtorEq,↓reduceIte]
 refine zap (zfd hk20 h1 h2 ?_)
 by_cases hc0:cap=0
 ·have hL:L=[]:=List.eq_nil_of_length_eq_zero (by omega)
  have hc0':((cap:Nat):Int)=0:=by omega
  simp only [sxZ,z6,z7,z8,j4,j5,j6,j7,j8,j9,x0,x3,x4,x5,x6,x7,reduceCtorEq,↓reduceIte,hc0']
  subst hX
  have hpl:=zat L
  simp only [hpl,sxZ,z6,z7,z8,j4,j5,j6,j7,j8,j9,x0,x3,x4,x5,x6,x7,reduceCtorEq,↓reduceIte]
  have:=hk L hs hc (fun e he => .inl he)
  unfold zaW at this
  rw [hc0'] at this
  exact this
 have hc0':¬ ((cap:Nat):Int)=0:=by omega
 simp only [sxZ,z6,z7,z8,j4,j5,j6,j7,j8,j9,x0,x3,x4,x5,x6,x7,reduceCtorEq,↓reduceIte,hc0']
 subst hX
 simp only [sxZ,z6,z7,z8,j4,j5,j6,j7,j8,j9,x0,x3,x4,x5,x6,x7,reduceCtorEq,↓reduceIte]
 subst hY
 refine zaa fun Y hY => ?_
 simp only [sxZ,z6,z7,z8,j4,j5,j6,j7,j8,j9,x0,x3,x4,x5,x6,x7,reduceCtorEq,↓reduceIte]
 subst hY
 refine zaa fun Y hY => ?_
 simp only [sxZ,z6,z7,z8,j4,j5,j6,j7,j8,j9,x0,x3,x4,x5,x6,x7,reduceCtorEq,↓reduceIte]
 subst hY
 refine zaa fun Y hY => ?_
 refine zba (fun o tm => PutO cap k s L o ∧ tm.length=157 ∧ tm[2]? = some (.i .u64 t) ∧ tm[3]? = some (.p 0 0) ∧ tm[4]? = some (.p 1 0) ∧ tm[6]? = some (.p 2 0) ∧ tm[7]? = some .nil ∧ ∃ l:Int,tm[8]? = some (.i .i64 l) ∧ ((l=-2 ∧ ∃ e ∈ L,e.k=k) ∨ ((∀ e ∈ L,e.k ≠ k) ∧ (L=[] ∨ (0 ≤ l ∧ l < L.length))))) ?_ ?_
 ·refine zaa fun X hX => ?_
  simp only [sxZ,z6,z7,z8,j4,j5,j6,j7,j8,j9,x0,x3,x4,x5,x6,x7,reduceCtorEq,↓reduceIte]
  subst hX
  simp only [sxZ,z6,z7,z8,j4,j5,j6,j7,j8,j9,x0,x3,x4,x5,x6,x7,reduceCtorEq,↓reduceIte]
  refine zaF (fun m o tm => ∃ (i:Nat) (l:Int),m=L.length - i ∧ i ≤ L.length ∧ PutO cap k s L o ∧ (∀ e ∈ L.take i,e.k ≠ k) ∧ ((i=0 ∧ l=-1) ∨ (0 ≤ l ∧ l < i)) ∧ tm.length=157 ∧ tm[2]? = some (.i .u64 t) ∧ tm[3]? = some (.p 0 0) ∧ tm[4]? = some (.p 1 0) ∧ tm[6]? = some (.p 2 0) ∧ tm[7]? = some .nil ∧ tm[8]? = some (.i .i64 l) ∧ tm[29]? = some (.row L.length (ecs L)) ∧ tm[30]? = some (.i .i64 L.length) ∧ tm[31]? = some (.i .i64 i)) L.length ⟨0,-1,rfl,Nat.zero_le _,⟨rfl,rfl,rfl⟩,by simp,.inl ⟨rfl,rfl⟩,rfl,rfl,rfl,rfl,rfl,rfl,rfl,rfl,rfl,rfl⟩ ?_
  rintro m N tm ⟨i,l,rfl,hi,hN,hno,hl,hlen,t2,t3,t4,t6,t7,t8,t29,t30,t31⟩
  refine zaa fun Z hZ => ?_
  by_cases hlt:i < L.length
  ·have hlt':(i:Int) < (L.length:Int):=by omega
   have a1:=zcl hlt
   have hno2:∀ e ∈ L.take (i + 1),e.k ≠ k ∨ e=L[i]:=by
    intro e he
    rw [List.take_succ_eq_append_getElem hlt] at he
    rcases List.mem_append.1 he with h | h
    ·exact .inl (hno e h)
    ·exact .inr (by simpa using h)
   have hmem:=List.getElem_mem hlt
   have hid:=zf5 (hs.2 _ hmem) hk20
   generalize hE:L[i]=e at *
   simp only [sxZ,z6,z7,z8,j4,j5,j6,j7,j8,j9,x0,x3,x4,x5,x6,x7,reduceCtorEq,↓reduceIte,List.getElem?_set,hlen,t30,t31,hlt']
   subst hZ
   refine zaa fun Z hZ => ?_
   simp only [sxZ,z6,z7,z8,j4,j5,j6,j7,j8,j9,x0,x3,x4,x5,x6,x7,reduceCtorEq,↓reduceIte,List.getElem?_set,hlen,t30,t31,hlt']
   subst hZ
   refine zaa fun Z hZ => ?_
   rw [za2]
   refine zaa fun X hX => ?_
   simp only [sxZ,z6,z7,z8,j4,j5,j6,j7,j8,j9,x0,x3,x4,x5,x6,x7,reduceCtorEq,↓reduceIte,List.getElem?_set,hlen,t29,t31,Int.toNat_natCast,a1,gn1,sn1]
   refine ⟨by omega,by omega,?_⟩
   have hM:=hN.app (bxE e)
   have hMe:(N ++ [bxE e])[N.length]? = some (bxE e):=gn1 _ _
   generalize N ++ [bxE e]=M at hM hMe ⊢
   have hMa:=hM.a
   have hMb:=hM.b
   subst hX
   refine zaa fun X hX => ?_
   refine zba (fun o t' => o=M ∧ t'.length=157 ∧ t'[2]? = some (.i .u64 t) ∧ t'[3]? = some (.p 0 0) ∧ t'[4]? = some (.p 1 0) ∧ t'[6]? = some (.p 2 0) ∧ t'[7]? = some .nil ∧ t'[10]? = some (.p N.length 0) ∧ t'[29]? = some (.row L.length (ecs L)) ∧ t'[30]? = some (.i .i64 L.length) ∧ t'[31]? = some (.i .i64 i) ∧ ∃ l':Int,t'[8]? = some (.i .i64 l') ∧ 0 ≤ l' ∧ l' < (i:Int) + 1) ?_ ?_
   ·refine zaa fun W hW => ?_
    rcases hl with ⟨rfl,rfl⟩ | ⟨hl0,hl1⟩
    ·simp only [sxZ,z6,z7,z8,j4,j5,j6,j7,j8,j9,x0,x3,x4,x5,x6,x7,reduceCtorEq,↓reduceIte,List.getElem?_set,hlen,t2,t3,t4,t6,t7,t8,t29,t30,t31]
     subst hW
     simp only [sxZ,z6,z7,z8,j4,j5,j6,j7,j8,j9,x0,x3,x4,x5,x6,x7,reduceCtorEq,↓reduceIte,List.getElem?_set,hlen,t2,t3,t4,t6,t7,t8,t29,t30,t31,zai,List.length_set,and_self]
     exact ⟨0,rfl,by omega,by omega⟩
    ·obtain ⟨j,rfl⟩:∃ j:Nat,l=j:=⟨l.toNat,by omega⟩
     have hj:j < L.length:=by omega
     have a2:=ecs_xp hj
     have hneg:¬ ((j:Nat):Int) < 0:=by omega
     by_cases cx:((e.t + e.s:Nat):Int) < ((L[j].t + L[j].s:Nat):Int)
     ·simp only [sxZ,z6,z7,z8,j4,j5,j6,j7,j8,j9,x0,x3,x4,x5,x6,x7,reduceCtorEq,↓reduceIte,List.getElem?_set,hlen,t2,t3,t4,t6,t7,t8,t29,t30,t31,hneg,hMa,hMe,Int.toNat_natCast,a2,cx]
      refine ⟨by omega,?_⟩
      subst hW
      simp only [sxZ,z6,z7,z8,j4,j5,j6,j7,j8,j9,x0,x3,x4,x5,x6,x7,reduceCtorEq,↓reduceIte,List.getElem?_set,hlen,t2,t3,t4,t6,t7,t8,t29,t30,t31,zai,List.length_set,and_self]
      exact ⟨i,rfl,by omega,by omega⟩
     ·simp only [sxZ,z6,z7,z8,j4,j5,j6,j7,j8,j9,x0,x3,x4,x5,x6,x7,reduceCtorEq,↓reduceIte,List.getElem?_set,hlen,t2,t3,t4,t6,t7,t8,t29,t30,t31,hneg,hMa,hMe,Int.toNat_natCast,a2,cx]
      refine ⟨by omega,?_⟩
      subst hW
      simp only [sxZ,z6,z7,z8,j4,j5,j6,j7,j8,j9,x0,x3,x4,x5,x6,x7,reduceCtorEq,↓reduceIte,List.getElem?_set,hlen,t2,t3,t4,t6,t7,t8,t29,t30,t31,zai,List.length_set,and_self]
      exact ⟨j,rfl,by omega,by omega⟩
   clear hlen t2 t3 t4 t6 t7 t8 t29 t30 t31 hl
   rintro _ tm ⟨rfl,hlen,t2,t3,t4,t6,t7,t10,t29,t30,t31,l',t8,hl0,hl1⟩
   subst hX
   refine zaa fun X hX => ?_
   by_cases ck:e.k=k
   ·have h4:decide (idT e.k=idT k)=true:=decide_eq_true (hid.2 ck)
    simp only [sxZ,z6,z7,z8,j4,j5,j6,j7,j8,j9,x0,x3,x4,x5,x6,x7,reduceCtorEq,↓reduceIte,List.getElem?_set,hlen,t2,t3,t4,t6,t7,t8,t10,t29,t30,t31,hMa,hMb,hMe,h4]
    subst hX
    simp only [sxZ,z6,z7,z8,j4,j5,j6,j7,j8,j9,x0,x3,x4,x5,x6,x7,reduceCtorEq,↓reduceIte,List.getElem?_set,hlen,t2,t3,t4,t6,t7,t8,t10,t29,t30,t31]
    simp only [sxZ,z6,z7,z8,j4,j5,j6,j7,j8,j9,x0,x3,x4,x5,x6,x7,reduceCtorEq,↓reduceIte,zai,List.getElem?_set,List.length_set,hlen,t2,t3,t4,t6,t7,t8,t10,t29,t30,t31]
    exact ⟨hM,-2,rfl,.inl ⟨rfl,_,hmem,ck⟩⟩
   ·have h4:decide (idT e.k=idT k)=false:=decide_eq_false fun c => ck (hid.1 c)
    simp only [sxZ,z6,z7,z8,j4,j5,j6,j7,j8,j9,x0,x3,x4,x5,x6,x7,reduceCtorEq,↓reduceIte,List.getElem?_set,hlen,t2,t3,t4,t6,t7,t8,t10,t29,t30,t31,hMa,hMb,hMe,h4]
    subst hX
    simp only [sxZ,z6,z7,z8,j4,j5,j6,j7,j8,j9,x0,x3,x4,x5,x6,x7,reduceCtorEq,↓reduceIte,List.getElem?_set,hlen,t2,t3,t4,t6,t7,t8,t10,t29,t30,t31]
    subst hZ
    simp only [sxZ,z6,z7,z8,j4,j5,j6,j7,j8,j9,x0,x3,x4,x5,x6,x7,reduceCtorEq,↓reduceIte,List.getElem?_set,List.length_set,hlen,t2,t3,t4,t6,t7,t8,t10,t29,t30,t31]
    exact ⟨by omega,L.length - (i + 1),by omega,i + 1,l',rfl,by omega,hM,fun a ha => (hno2 a ha).elim id (fun h => h ▸ ck),.inr ⟨hl0,by omega⟩,rfl,rfl⟩
  ·have hlt':¬ (i:Int) < (L.length:Int):=by omega
   obtain rfl:i=L.length:=by omega
   rw [List.take_length] at hno
   simp only [sxZ,z6,z7,z8,j4,j5,j6,j7,j8,j9,x0,x3,x4,x5,x6,x7,reduceCtorEq,↓reduceIte,List.getElem?_set,hlen,t30,t31,hlt']
   subst hZ
   simp only [sxZ,z6,z7,z8,j4,j5,j6,j7,j8,j9,x0,x3,x4,x5,x6,x7,reduceCtorEq,↓reduceIte,List.getElem?_set,hlen,t2,t3,t4,t6,t7,t8,t30,t31,hlt']
   simp only [sxZ,z6,z7,z8,j4,j5,j6,j7,j8,j9,x0,x3,x4,x5,x6,x7,reduceCtorEq,↓reduceIte,zai,List.getElem?_set,List.length_set,hlen,t2,t3,t4,t6,t7,t8,t30,t31]
   refine ⟨hN,l,rfl,.inr ⟨hno,?_⟩⟩
   rcases hl with ⟨h0,_⟩ | ⟨h0,h1⟩
   ·exact .inl (List.eq_nil_of_length_eq_zero h0)
   ·exact .inr ⟨h0,h1⟩
 rintro N tm ⟨hN,hlen,t2,t3,t4,t6,t7,l,t8,hl⟩
 subst hY
 refine zaa fun Y hY => ?_
 refine zba (fun o tm => PutO cap k s L o ∧ tm.length=157 ∧ tm[2]? = some (.i .u64 t) ∧ tm[3]? = some (.p 0 0) ∧ tm[4]? = some (.p 1 0) ∧ tm[6]? = some (.p 2 0) ∧ ∃ (acc:List En) (v:AV),tm[7]? = some v ∧ AccS 2 o v acc ∧ acc.Sublist L ∧ (∀ e ∈ acc,e.k ≠ k) ∧ acc.length < cap) ?_ ?_
 ·refine zaa fun X hX => ?_
  have hNa:=hN.a
  simp only [sxZ,z6,z7,z8,j4,j5,j6,j7,j8,j9,x0,x3,x4,x5,x6,x7,reduceCtorEq,↓reduceIte,List.getElem?_set,hlen,t3,hNa]
  subst hX
  simp only [sxZ,z6,z7,z8,j4,j5,j6,j7,j8,j9,x0,x3,x4,x5,x6,x7,reduceCtorEq,↓reduceIte,List.getElem?_set,hlen]
  refine zaF (fun m o tm => ∃ (i:Nat) (acc:List En) (v:AV),m=L.length - i ∧ i ≤ L.length ∧ PutO cap k s L o ∧ AccS 2 o v acc ∧ acc.Sublist (L.take i) ∧ (∀ e ∈ acc,e.k ≠ k) ∧ (acc.length < i ∨ ((∀ e ∈ L.take i,e.k ≠ k) ∧ (l=-2 ∨ L.length < cap ∨ (i:Int) ≤ l))) ∧ tm.length=157 ∧ tm[2]? = some (.i .u64 t) ∧ tm[3]? = some (.p 0 0) ∧ tm[4]? = some (.p 1 0) ∧ tm[6]? = some (.p 2 0) ∧ tm[7]? = some v ∧ tm[8]? = some (.i .i64 l) ∧ tm[60]? = some (.row L.length (ecs L)) ∧ tm[61]? = some (.i .i64 L.length) ∧ tm[62]? = some (.i .i64 i)) L.length ?_ ?_
  ·simp only [sxZ,z6,z7,z8,j4,j5,j6,j7,j8,j9,x0,x3,x4,x5,x6,x7,reduceCtorEq,↓reduceIte,List.getElem?_set,List.length_set,hlen,t2,t3,t4,t6,t7,t8]
   refine ⟨0,[],.nil,rfl,Nat.zero_le _,hN,.inl ⟨rfl,rfl⟩,List.nil_sublist _,by simp,.inr ⟨by simp,?_⟩,rfl,rfl⟩
   rcases hl with ⟨h,_⟩ | ⟨_,h | ⟨h,_⟩⟩
   ·exact .inl h
   ·exact .inr (.inl (by rw [h]; simp; omega))
   ·exact .inr (.inr h)
  clear hN hlen t2 t3 t4 t6 t7 t8 hNa
  rintro m N tm ⟨i,acc,v,rfl,hi,hN,hacc,hsub,hne,hdr,hlen,t2,t3,t4,t6,t7,t8,t60,t61,t62⟩
  refine zaa fun Z hZ => ?_
  have hal:=hsub.length_le
  rw [List.length_take] at hal
  by_cases hlt:i < L.length
  ·have hlt':(i:Int) < (L.length:Int):=by omega
   have a1:=zcl hlt
   have hmem:=List.getElem_mem hlt
   have hid:=zf5 (hs.2 _ hmem) hk20
   have htk:=List.take_succ_eq_append_getElem hlt
   generalize hE:L[i]=e at *
   simp only [sxZ,z6,z7,z8,j4,j5,j6,j7,j8,j9,x0,x3,x4,x5,x6,x7,reduceCtorEq,↓reduceIte,List.getElem?_set,hlen,t61,t62,hlt']
   subst hZ
   refine zaa fun Z hZ => ?_
   simp only [sxZ,z6,z7,z8,j4,j5,j6,j7,j8,j9,x0,x3,x4,x5,x6,x7,reduceCtorEq,↓reduceIte,List.getElem?_set,hlen,t61,t62,hlt']
   subst hZ
   refine zaa fun Z hZ => ?_
   rw [za2]
   refine zaa fun X hX => ?_
   simp only [sxZ,z6,z7,z8,j4,j5,j6,j7,j8,j9,x0,x3,x4,x5,x6,x7,reduceCtorEq,↓reduceIte,List.getElem?_set,hlen,t60,t62,Int.toNat_natCast,a1,gn1,sn1]
   refine ⟨by omega,by omega,?_⟩
   have hM:=hN.app (bxE e)
   have hacM:=hacc.app (bxE e)
   have hMe:(N ++ [bxE e])[N.length]? = some (bxE e):=gn1 _ _
   generalize N ++ [bxE e]=M at hM hMe hacM ⊢
   have hMa:=hM.a
   have hMb:=hM.b
   have hMl:=zbE hM.c
   have hsub2:acc.Sublist (L.take (i + 1)):=by rw [htk]; exact hsub.trans (List.sublist_append_left _ _)
   have hsub3:(acc ++ [e]).Sublist (L.take (i + 1)):=by rw [htk]; exact hsub.append (List.Sublist.refl _)
   subst hX
   refine zaa fun X hX => ?_
   refine zba (fun o t' => o=M ∧ t'.length=157 ∧ t'[2]? = some (.i .u64 t) ∧ t'[3]? = some (.p 0 0) ∧ t'[4]? = some (.p 1 0) ∧ t'[6]? = some (.p 2 0) ∧ t'[7]? = some v ∧ t'[8]? = some (.i .i64 l) ∧ t'[12]? = some (.p N.length 0) ∧ t'[60]? = some (.row L.length (ecs L)) ∧ t'[61]? = some (.i .i64 L.length) ∧ t'[62]? = some (.i .i64 i) ∧ ∃ b:Bool,t'[91]? = some (.b b) ∧ (b=true → e.k ≠ k ∧ (l=-2 ∨ L.length < cap ∨ (i:Int) ≠ l)) ∧ (b=false → e.k=k ∨ (l ≠ -2 ∧ ¬ L.length < cap ∧ (i:Int)=l))) ?_ ?_
   ·by_cases ck:e.k=k
    ·have h5:idT e.k=idT k:=hid.2 ck
     simp only [sxZ,z6,z7,z8,j4,j5,j6,j7,j8,j9,x0,x3,x4,x5,x6,x7,reduceCtorEq,↓reduceIte,List.getElem?_set,hlen,t2,t3,t4,t6,t7,t8,t60,t61,t62,hMa,hMb,hMe,h5,ne_eq,not_true_eq_false,decide_false,Bool.not_true]
     simp only [sxZ,z6,z7,z8,j4,j5,j6,j7,j8,j9,x0,x3,x4,x5,x6,x7,reduceCtorEq,↓reduceIte,List.getElem?_set,hlen,t2,t3,t4,t6,t7,t8,t60,t61,t62,zai,List.length_set,and_self]
     exact ⟨false,rfl,fun h => (by cases h),fun _ => .inl ck⟩
    ·have h5:¬ idT e.k=idT k:=fun c => ck (hid.1 c)
     by_cases cl:l=-2
     ·subst cl
      simp only [sxZ,z6,z7,z8,j4,j5,j6,j7,j8,j9,x0,x3,x4,x5,x6,x7,reduceCtorEq,↓reduceIte,List.getElem?_set,hlen,t2,t3,t4,t6,t7,t8,t60,t61,t62,hMa,hMb,hMe,h5,ne_eq,not_false_eq_true,decide_true,Bool.not_false]
      simp only [sxZ,z6,z7,z8,j4,j5,j6,j7,j8,j9,x0,x3,x4,x5,x6,x7,reduceCtorEq,↓reduceIte,List.getElem?_set,hlen,t2,t3,t4,t6,t7,t8,t60,t61,t62,zai,List.length_set,and_self]
      exact ⟨true,rfl,fun _ => ⟨ck,.inl trivial⟩,fun h => (by cases h)⟩
     ·by_cases cc:((L.length:Nat):Int) < (cap:Int)
      ·skip
       simp only [sxZ,z6,z7,z8,j4,j5,j6,j7,j8,j9,x0,x3,x4,x5,x6,x7,reduceCtorEq,↓reduceIte,List.getElem?_set,hlen,t2,t3,t4,t6,t7,t8,t60,t61,t62,hMa,hMb,hMe,h5,cl,cc,ne_eq,not_false_eq_true,decide_true,Bool.not_false,decide_false]
       simp only [sxZ,z6,z7,z8,j4,j5,j6,j7,j8,j9,x0,x3,x4,x5,x6,x7,reduceCtorEq,↓reduceIte,List.getElem?_set,hlen,t2,t3,t4,t6,t7,t8,t60,t61,t62,zai,List.length_set,and_self]
       exact ⟨true,rfl,fun _ => ⟨ck,.inr (.inl (by omega))⟩,fun h => (by cases h)⟩
      ·by_cases ci:(i:Int)=l
       ·subst ci
        simp only [sxZ,z6,z7,z8,j4,j5,j6,j7,j8,j9,x0,x3,x4,x5,x6,x7,reduceCtorEq,↓reduceIte,List.getElem?_set,hlen,t2,t3,t4,t6,t7,t8,t60,t61,t62,hMa,hMb,hMe,h5,cl,cc,ne_eq,not_false_eq_true,decide_true,Bool.not_false,decide_false,not_true_eq_false,Bool.not_true]
        simp only [sxZ,z6,z7,z8,j4,j5,j6,j7,j8,j9,x0,x3,x4,x5,x6,x7,reduceCtorEq,↓reduceIte,List.getElem?_set,hlen,t2,t3,t4,t6,t7,t8,t60,t61,t62,zai,List.length_set,and_self]
        exact ⟨false,rfl,fun h => (by cases h),fun _ => .inr (by omega)⟩
       ·skip
        simp only [sxZ,z6,z7,z8,j4,j5,j6,j7,j8,j9,x0,x3,x4,x5,x6,x7,reduceCtorEq,↓reduceIte,List.getElem?_set,hlen,t2,t3,t4,t6,t7,t8,t60,t61,t62,hMa,hMb,hMe,h5,cl,cc,ci,ne_eq,not_false_eq_true,decide_true,Bool.not_false,decide_false]
        simp only [sxZ,z6,z7,z8,j4,j5,j6,j7,j8,j9,x0,x3,x4,x5,x6,x7,reduceCtorEq,↓reduceIte,List.getElem?_set,hlen,t2,t3,t4,t6,t7,t8,t60,t61,t62,zai,List.length_set,and_self]
        exact ⟨true,rfl,fun _ => ⟨ck,.inr (.inr trivial)⟩,fun h => (by cases h)⟩
   clear hlen t2 t3 t4 t6 t7 t8 t60 t61 t62
   rintro _ tm ⟨rfl,hlen,t2,t3,t4,t6,t7,t8,t12,t60,t61,t62,b,t91,hb1,hb2⟩
   subst hX
   cases b with
   | false =>
    simp only [sxZ,z6,z7,z8,j4,j5,j6,j7,j8,j9,x0,x3,x4,x5,x6,x7,reduceCtorEq,↓reduceIte,List.getElem?_set,hlen,t2,t3,t4,t6,t7,t8,t12,t60,t61,t62,t91]
    subst hZ
    simp only [sxZ,z6,z7,z8,j4,j5,j6,j7,j8,j9,x0,x3,x4,x5,x6,x7,reduceCtorEq,↓reduceIte,List.getElem?_set,List.length_set,hlen,t2,t3,t4,t6,t7,t8,t60,t61,t62]
    refine ⟨by omega,L.length - (i + 1),by omega,i + 1,acc,v,rfl,by omega,hM,hacM,hsub2,hne,?_,rfl,rfl⟩
    rcases hdr with h | ⟨h,hh⟩
    ·exact .inl (by omega)
    ·rcases hb2 rfl with h6 | ⟨h6,h7,h8⟩
     ·exact .inl (by omega)
     ·exact .inl (by omega)
   | true =>
    obtain ⟨ck,hb3⟩:=hb1 rfl
    have hne3:∀ a ∈ acc ++ [e],a.k ≠ k:=by
     intro a ha
     rcases List.mem_append.1 ha with h | h
     ·exact hne a h
     ·rw [List.mem_singleton.1 h]; exact ck
    have hdr3:(acc ++ [e]).length < i + 1 ∨ ((∀ e ∈ L.take (i + 1),e.k ≠ k) ∧ (l=-2 ∨ L.length < cap ∨ ((i + 1:Nat):Int) ≤ l)):=by
     rcases hdr with h | ⟨h,hh⟩
     ·exact .inl (by rw [List.length_append]; simpa using h)
     ·refine .inr ⟨?_,?_⟩
      ·rw [htk]
       intro a ha
       rcases List.mem_append.1 ha with h6 | h6
       ·exact h a h6
       ·rw [List.mem_singleton.1 h6]; exact ck
      ·rcases hb3 with h6 | h6 | h6
       ·exact .inl h6
       ·exact .inr (.inl h6)
       ·rcases hh with h7 | h7 | h7
        ·exact .inl h7
        ·exact .inr (.inl h7)
        ·exact .inr (.inr (by omega))
    rcases hacM with ⟨rfl,rfl⟩ | ⟨q,g,hq,rfl,hoq⟩
    ·simp only [sxZ,z6,z7,z8,j4,j5,j6,j7,j8,j9,x0,x3,x4,x5,x6,x7,reduceCtorEq,↓reduceIte,List.getElem?_set,hlen,t2,t3,t4,t6,t7,t8,t12,t60,t61,t62,t91,hMe]
     subst hZ
     simp only [sxZ,z6,z7,z8,j4,j5,j6,j7,j8,j9,x0,x3,x4,x5,x6,x7,reduceCtorEq,↓reduceIte,List.getElem?_set,List.length_set,hlen,t2,t3,t4,t6,t7,t8,t60,t61,t62]
     refine ⟨by omega,L.length - (i + 1),by omega,i + 1,_,_,rfl,by omega,hM.app _,.inr ⟨_,_,hMl,rfl,?_⟩,hsub3,hne3,hdr3,rfl,rfl⟩
     rw [gn1,zck]
     rfl
    ·simp only [sxZ,z6,z7,z8,j4,j5,j6,j7,j8,j9,x0,x3,x4,x5,x6,x7,reduceCtorEq,↓reduceIte,List.getElem?_set,hlen,t2,t3,t4,t6,t7,t8,t12,t60,t61,t62,t91,hMe,hoq]
     refine ⟨by omega,?_⟩
     subst hZ
     simp only [sxZ,z6,z7,z8,j4,j5,j6,j7,j8,j9,x0,x3,x4,x5,x6,x7,reduceCtorEq,↓reduceIte,List.getElem?_set,List.length_set,hlen,t2,t3,t4,t6,t7,t8,t60,t61,t62]
     refine ⟨by omega,L.length - (i + 1),by omega,i + 1,_,_,rfl,by omega,hM.set hq _,.inr ⟨_,_,hq,rfl,?_⟩,hsub3,hne3,hdr3,rfl,rfl⟩
     rw [zbr hoq,zdT,List.length_append]
     rfl
  ·have hlt':¬ (i:Int) < (L.length:Int):=by omega
   obtain rfl:i=L.length:=by omega
   rw [List.take_length] at hdr hsub
   simp only [sxZ,z6,z7,z8,j4,j5,j6,j7,j8,j9,x0,x3,x4,x5,x6,x7,reduceCtorEq,↓reduceIte,List.getElem?_set,hlen,t61,t62,hlt']
   subst hZ
   simp only [sxZ,z6,z7,z8,j4,j5,j6,j7,j8,j9,x0,x3,x4,x5,x6,x7,reduceCtorEq,↓reduceIte,List.getElem?_set,hlen,t2,t3,t4,t6,t7,t8,t61,t62,hlt']
   simp only [sxZ,z6,z7,z8,j4,j5,j6,j7,j8,j9,x0,x3,x4,x5,x6,x7,reduceCtorEq,↓reduceIte,zai,List.getElem?_set,List.length_set,hlen,t2,t3,t4,t6,t7,t8]
   refine ⟨hN,acc,v,rfl,hacc,hsub,hne,?_⟩
   have h9:=hsub.length_le
   clear hal hi
   rcases hdr with h | ⟨h,hh⟩
   ·exact Nat.lt_of_lt_of_le h hc
   ·rcases hl with ⟨hl,e,he,hek⟩ | ⟨hl,h0 | ⟨h0,h1⟩⟩
    ·exact absurd hek (h e he)
    ·rw [h0] at h9; have h8:acc.length ≤ 0:=h9; omega
    ·omega
 rintro N tm ⟨hN,hlen,t2,t3,t4,t6,kp,v,t7,hkp,hsub,hne,hltc⟩
 subst hY
 refine zaa fun Y hY => ?_
 have hNa:=hN.a
 simp only [sxZ,z6,z7,z8,j4,j5,j6,j7,j8,j9,x0,x3,x4,x5,x6,x7,reduceCtorEq,↓reduceIte,List.getElem?_set,List.length_set,hlen,t3,hNa,gn1,sn1]
 have h2p:=zbE hN.c
 have hkR:=hkp.kp.app (.box 24 [.i .i64 cap,.nil])
 have hN1:=hN.app (.box 24 [.i .i64 cap,.nil])
 have hNp:(N ++ [.box 24 [.i .i64 cap,.nil]])[N.length]? = some (.box 24 [.i .i64 cap,.nil]):=gn1 _ _
 have hNl:N.length < (N ++ [OB.box 24 [.i .i64 cap,.nil]]).length:=zbE hNp
 generalize N ++ [OB.box 24 [.i .i64 cap,.nil]]=M at hkR hN1 hNp hNl ⊢
 generalize N.length=p at *
 have hMb:=hN1.b
 subst hY
 refine zaa fun Y hY => ?_
 simp only [sxZ,z6,z7,z8,j4,j5,j6,j7,j8,j9,x0,x3,x4,x5,x6,x7,reduceCtorEq,↓reduceIte,List.getElem?_set,List.length_set,hlen,t2,t4,hMb]
 refine zbl (v:=.i .u64 (t + s:Nat)) (radd_k ht rfl) rfl rfl ?_
 simp only [sxZ,z6,z7,z8,j4,j5,j6,j7,j8,j9,x0,x3,x4,x5,x6,x7,reduceCtorEq,↓reduceIte,List.getElem?_set,List.length_set,hlen,t2,t4,hMb,gn1,sn1]
 have hO:OutO cap k s t p M.length L kp v (M ++ [bxE ⟨k,s,t⟩]) []:=⟨hN1.app _,hkR.app _,.inl ⟨rfl,zaw hNp⟩,gn1 _ _,h2p,hNl⟩
 have hlen1:=zbE hO.new
 generalize M.length=q0 at *
 generalize M ++ [bxE ⟨k,s,t⟩]=M at *
 have hhi:=hO.hi
 refine ⟨⟨by omega,by omega⟩,?_⟩
 subst hY
 refine zaa fun Y hY => ?_
 refine zba (fun o tm => OutO cap k s t p q0 L kp v o ((kp.filter fun e => decide (e.k < k))) ∧ tm.length=157 ∧ tm[4]? = some (.p 1 0) ∧ tm[6]? = some (.p 2 0) ∧ tm[7]? = some v ∧ tm[13]? = some (.p p 0) ∧ tm[14]? = some (.p q0 0)) ?_ ?_
 ·refine zaa fun X hX => ?_
  refine zba (fun o t' => o=M ∧ t'.length=157 ∧ t'[4]? = some (.p 1 0) ∧ t'[6]? = some (.p 2 0) ∧ t'[7]? = some v ∧ t'[13]? = some (.p p 0) ∧ t'[14]? = some (.p q0 0) ∧ t'[108]? = some v ∧ t'[109]? = some (.i .i64 kp.length) ∧ t'[110]? = some (.i .i64 0)) ?_ ?_
  ·rcases hO.kpr with ⟨h8,h9⟩ | ⟨q,g,h1,h2,h8,h3⟩
   ·rw [h9] at t7
    simp only [sxZ,z6,z7,z8,j4,j5,j6,j7,j8,j9,x0,x3,x4,x5,x6,x7,reduceCtorEq,↓reduceIte,zai,List.getElem?_set,List.length_set,hlen,t4,t6,t7,and_self,h8,h9,List.length_nil]
    rfl
   ·rw [h8] at t7
    simp only [sxZ,z6,z7,z8,j4,j5,j6,j7,j8,j9,x0,x3,x4,x5,x6,x7,reduceCtorEq,↓reduceIte,zai,List.getElem?_set,List.length_set,hlen,t4,t6,t7,h3,and_self,h8]
  clear hlen t4 t6 t7 t2 t3
  rintro _ tm ⟨rfl,hlen,t4,t6,t7,t13,t14,ta,tb,tc⟩
  subst hX
  rw [za2]
  refine zaF (fun m o tm => ∃ i:Nat,m=kp.length - i ∧ i ≤ kp.length ∧ OutO cap k s t p q0 L kp v o (((kp.take i).filter fun e => decide (e.k < k))) ∧ tm.length=157 ∧ tm[4]? = some (.p 1 0) ∧ tm[6]? = some (.p 2 0) ∧ tm[7]? = some v ∧ tm[13]? = some (.p p 0) ∧ tm[14]? = some (.p q0 0) ∧ tm[108]? = some v ∧ tm[109]? = some (.i .i64 kp.length) ∧ tm[110]? = some (.i .i64 i)) kp.length ⟨0,rfl,Nat.zero_le _,hO,hlen,t4,t6,t7,t13,t14,ta,tb,tc⟩ ?_
  clear hlen t4 t6 t7 t13 t14 ta tb tc hO
  rintro m N tm ⟨i,rfl,hi,hO,hlen,t4,t6,t7,t13,t14,ta,tb,tc⟩
  refine zaa fun Z hZ => ?_
  by_cases hlt:i < kp.length
  ·have hlt':(i:Int) < (kp.length:Int):=by omega
   have a1:=zcl hlt
   have hel2:=zaJ kp
   have hek:=hs.2 _ (hsub.subset (List.getElem_mem hlt))
   have hek0:=List.getElem_mem hlt
   have hnext:(kp.take (i + 1)).filter (fun e => decide (e.k < k))=(kp.take i).filter (fun e => decide (e.k < k)) ++ if kp[i].k < k then [kp[i]] else []:=by
    rw [List.take_succ_eq_append_getElem hlt,List.filter_append]
    congr 1
    by_cases c:kp[i].k < k
    ·rw [if_pos c,List.filter_cons_of_pos (by simpa using c),List.filter_nil]
    ·rw [if_neg c,List.filter_cons_of_neg (by simpa using c),List.filter_nil]
   have hfl:((kp.take i).filter fun e => decide (e.k < k)).length ≤ 1000:=Nat.le_trans (List.length_filter_le _ _) (by rw [List.length_take]; omega)
   generalize hE:kp[i]=e at *
   obtain ⟨qk,gk,hq1,hq2,hv,hqk⟩:=hO.kpr.resolve_left (by rintro ⟨h,_⟩; rw [h] at hlt; cases hlt)
   subst hv
   generalize hacc:(kp.take i).filter (fun e => decide (e.k < k))=acc at *
   simp only [sxZ,z6,z7,z8,j4,j5,j6,j7,j8,j9,x0,x3,x4,x5,x6,x7,reduceCtorEq,↓reduceIte,List.getElem?_set,hlen,ta,tb,tc,hlt']
   subst hZ
   refine zaa fun Z hZ => ?_
   simp only [sxZ,z6,z7,z8,j4,j5,j6,j7,j8,j9,x0,x3,x4,x5,x6,x7,reduceCtorEq,↓reduceIte,List.getElem?_set,hlen,ta,tb,tc,hlt']
   subst hZ
   refine zaa fun Z hZ => ?_
   rw [za2]
   refine zaa fun X hX => ?_
   simp only [sxZ,z6,z7,z8,j4,j5,j6,j7,j8,j9,x0,x3,x4,x5,x6,x7,reduceCtorEq,↓reduceIte,List.getElem?_set,hlen,ta,tb,tc,hqk,Int.toNat_natCast,a1,gn1,sn1]
   refine ⟨by omega,by omega,?_⟩
   have hM:=hO.app (bxE e)
   have hMe:(N ++ [bxE e])[N.length]? = some (bxE e):=gn1 _ _
   generalize N ++ [bxE e]=M at hM hMe ⊢
   have hMb:=hM.put.b
   have hMl:=zbE hMe
   subst hX
   refine zaa fun X hX => ?_
   have h5:=zen hek hk20
   by_cases ck:e.k < k
   ·rw [decide_eq_true ck] at h5
    rw [if_pos ck] at hnext
    rcases hM.acc with ⟨hx,h2⟩ | ⟨q,g,h1,h2,h3⟩
    ·simp only [sxZ,z6,z7,z8,j4,j5,j6,j7,j8,j9,x0,x3,x4,x5,x6,x7,reduceCtorEq,↓reduceIte,List.getElem?_set,hlen,t4,t6,t7,t13,t14,ta,tb,tc,hMb,hMe,h5]
     subst hX
     have h2':=zaw (X:=.orow 43 14 0 1 (clE e)) h2
     simp only [sxZ,z6,z7,z8,j4,j5,j6,j7,j8,j9,x0,x3,x4,x5,x6,x7,reduceCtorEq,↓reduceIte,List.getElem?_set,hlen,t4,t6,t7,t13,t14,ta,tb,tc,hMb,hMe,h2,h2']
     subst hZ
     simp only [sxZ,z6,z7,z8,j4,j5,j6,j7,j8,j9,x0,x3,x4,x5,x6,x7,reduceCtorEq,↓reduceIte,List.getElem?_set,List.length_set,hlen,t4,t6,t7,t13,t14,ta,tb,tc]
     refine ⟨by omega,kp.length - (i + 1),by omega,i + 1,rfl,by omega,?_,rfl⟩
     subst hx
     rw [hnext,List.nil_append]
     exact hM.fst h2 e
    ·simp only [sxZ,z6,z7,z8,j4,j5,j6,j7,j8,j9,x0,x3,x4,x5,x6,x7,reduceCtorEq,↓reduceIte,List.getElem?_set,hlen,t4,t6,t7,t13,t14,ta,tb,tc,hMb,hMe,h5]
     subst hX
     have hqp:¬ q=p:=by omega
     simp only [sxZ,z6,z7,z8,j4,j5,j6,j7,j8,j9,x0,x3,x4,x5,x6,x7,reduceCtorEq,↓reduceIte,List.getElem?_set,hlen,t4,t6,t7,t13,t14,ta,tb,tc,hMb,hMe,h2,h3,hqp]
     refine ⟨by omega,?_⟩
     subst hZ
     simp only [sxZ,z6,z7,z8,j4,j5,j6,j7,j8,j9,x0,x3,x4,x5,x6,x7,reduceCtorEq,↓reduceIte,List.getElem?_set,List.length_set,hlen,t4,t6,t7,t13,t14,ta,tb,tc]
     refine ⟨by omega,kp.length - (i + 1),by omega,i + 1,rfl,by omega,?_,rfl⟩
     rw [hnext]
     exact hM.nxt h1 h2 h3 e
   ·rw [decide_eq_false ck] at h5
    rw [if_neg ck,List.append_nil] at hnext
    simp only [sxZ,z6,z7,z8,j4,j5,j6,j7,j8,j9,x0,x3,x4,x5,x6,x7,reduceCtorEq,↓reduceIte,List.getElem?_set,hlen,t4,t6,t7,t13,t14,ta,tb,tc,hMb,hMe,h5]
    subst hX
    simp only [sxZ,z6,z7,z8,j4,j5,j6,j7,j8,j9,x0,x3,x4,x5,x6,x7,reduceCtorEq,↓reduceIte,List.getElem?_set,hlen,t4,t6,t7,t13,t14,ta,tb,tc,hMb,hMe,h5]
    subst hZ
    simp only [sxZ,z6,z7,z8,j4,j5,j6,j7,j8,j9,x0,x3,x4,x5,x6,x7,reduceCtorEq,↓reduceIte,List.getElem?_set,List.length_set,hlen,t4,t6,t7,t13,t14,ta,tb,tc]
    exact ⟨by omega,kp.length - (i + 1),by omega,i + 1,rfl,by omega,by rw [hnext]; exact hM,rfl⟩
  ·have hlt':¬ (i:Int) < (kp.length:Int):=by omega
   obtain rfl:i=kp.length:=by omega
   rw [List.take_length] at hO
   simp only [sxZ,z6,z7,z8,j4,j5,j6,j7,j8,j9,x0,x3,x4,x5,x6,x7,reduceCtorEq,↓reduceIte,List.getElem?_set,hlen,ta,tb,tc,hlt']
   subst hZ
   simp only [sxZ,z6,z7,z8,j4,j5,j6,j7,j8,j9,x0,x3,x4,x5,x6,x7,reduceCtorEq,↓reduceIte,zai,List.getElem?_set,List.length_set,hlen,t4,t6,t7,t13,t14,ta,tb,tc,hlt',and_self,and_true]
   exact hO
 clear hlen t4 t6 t7 hO
 rintro M tm ⟨hO,hlen,t4,t6,t7,t13,t14⟩
 subst hY
 refine zaa fun Y hY => ?_
 have hfA:(kp.filter fun e => decide (e.k < k)).length ≤ 1000:=Nat.le_trans (List.length_filter_le _ _) (by omega)
 generalize hA:(kp.filter fun e => decide (e.k < k))=A at *
 refine zba (fun o t' => OutO cap k s t p q0 L kp v o (A ++ [⟨k,s,t⟩]) ∧ t'.length=157 ∧ t'[4]? = some (.p 1 0) ∧ t'[6]? = some (.p 2 0) ∧ t'[7]? = some v ∧ t'[13]? = some (.p p 0) ∧ t'[14]? = some (.p q0 0)) ?_ ?_
 ·have hn:=hO.new
  have hp:=hO.lo
  have hhi:=hO.hi
  rcases hO.acc with ⟨hx,h2⟩ | ⟨q,g,h1,h2,h3⟩
  ·have h2':=zaw (X:=.orow 43 14 0 1 (clE ⟨k,s,t⟩)) h2
   have hpl:=zbE h2
   simp only [sxZ,z6,z7,z8,j4,j5,j6,j7,j8,j9,x0,x3,x4,x5,x6,x7,reduceCtorEq,↓reduceIte,zai,List.getElem?_set,List.length_set,hlen,t4,t6,t7,t13,t14,hn,h2,h2',and_self,and_true]
   subst hx
   rw [List.nil_append]
   exact hO.fst h2 ⟨k,s,t⟩
  ·have hqp:¬ q=p:=by omega
   simp only [sxZ,z6,z7,z8,j4,j5,j6,j7,j8,j9,x0,x3,x4,x5,x6,x7,reduceCtorEq,↓reduceIte,zai,List.getElem?_set,List.length_set,hlen,t4,t6,t7,t13,t14,hn,h2,h3,hqp,and_self,and_true]
   exact ⟨by omega,hO.nxt h1 h2 h3 ⟨k,s,t⟩⟩
 clear hlen t4 t6 t7 t13 t14 hO
 rintro M tm ⟨hO,hlen,t4,t6,t7,t13,t14⟩
 have hBl:(A ++ [(⟨k,s,t⟩:En)]).length ≤ 1001:=by rw [List.length_append]; simp only [List.length_cons,List.length_nil]; omega
 have hBne:A ++ [(⟨k,s,t⟩:En)] ≠ []:=by simp
 generalize hB:A ++ [(⟨k,s,t⟩:En)]=B at *
 subst hY
 refine zaa fun Y hY => ?_
 refine zba (fun o tm => OutO cap k s t p q0 L kp v o (B ++ (kp.filter fun e => decide (k < e.k))) ∧ tm.length=157 ∧ tm[4]? = some (.p 1 0) ∧ tm[6]? = some (.p 2 0) ∧ tm[7]? = some v ∧ tm[13]? = some (.p p 0) ∧ tm[14]? = some (.p q0 0)) ?_ ?_
 ·refine zaa fun X hX => ?_
  refine zba (fun o t' => o=M ∧ t'.length=157 ∧ t'[4]? = some (.p 1 0) ∧ t'[6]? = some (.p 2 0) ∧ t'[7]? = some v ∧ t'[13]? = some (.p p 0) ∧ t'[14]? = some (.p q0 0) ∧ t'[135]? = some v ∧ t'[136]? = some (.i .i64 kp.length) ∧ t'[137]? = some (.i .i64 0)) ?_ ?_
  ·rcases hO.kpr with ⟨h8,h9⟩ | ⟨q,g,h1,h2,h8,h3⟩
   ·rw [h9] at t7
    simp only [sxZ,z6,z7,z8,j4,j5,j6,j7,j8,j9,x0,x3,x4,x5,x6,x7,reduceCtorEq,↓reduceIte,zai,List.getElem?_set,List.length_set,hlen,t4,t6,t7,t13,t14,and_self,h8,h9,List.length_nil]
    rfl
   ·rw [h8] at t7
    simp only [sxZ,z6,z7,z8,j4,j5,j6,j7,j8,j9,x0,x3,x4,x5,x6,x7,reduceCtorEq,↓reduceIte,zai,List.getElem?_set,List.length_set,hlen,t4,t6,t7,t13,t14,h3,and_self,h8]
  clear hlen t4 t6 t7 t13 t14
  rintro _ tm ⟨rfl,hlen,t4,t6,t7,t13,t14,ta,tb,tc⟩
  subst hX
  rw [za2]
  refine zaF (fun m o tm => ∃ i:Nat,m=kp.length - i ∧ i ≤ kp.length ∧ OutO cap k s t p q0 L kp v o (B ++ ((kp.take i).filter fun e => decide (k < e.k))) ∧ tm.length=157 ∧ tm[4]? = some (.p 1 0) ∧ tm[6]? = some (.p 2 0) ∧ tm[7]? = some v ∧ tm[13]? = some (.p p 0) ∧ tm[14]? = some (.p q0 0) ∧ tm[135]? = some v ∧ tm[136]? = some (.i .i64 kp.length) ∧ tm[137]? = some (.i .i64 i)) kp.length ⟨0,rfl,Nat.zero_le _,by rw [List.take_zero,List.filter_nil,List.append_nil]; exact hO,hlen,t4,t6,t7,t13,t14,ta,tb,tc⟩ ?_
  clear hlen t4 t6 t7 t13 t14 ta tb tc hO
  rintro m N tm ⟨i,rfl,hi,hO,hlen,t4,t6,t7,t13,t14,ta,tb,tc⟩
  refine zaa fun Z hZ => ?_
  by_cases hlt:i < kp.length
  ·have hlt':(i:Int) < (kp.length:Int):=by omega
   have a1:=zcl hlt
   have hel2:=zaJ kp
   have hek:=hs.2 _ (hsub.subset (List.getElem_mem hlt))
   have hek0:=List.getElem_mem hlt
   have hnext:(kp.take (i + 1)).filter (fun e => decide (k < e.k))=(kp.take i).filter (fun e => decide (k < e.k)) ++ if k < kp[i].k then [kp[i]] else []:=by
    rw [List.take_succ_eq_append_getElem hlt,List.filter_append]
    congr 1
    by_cases c:k < kp[i].k
    ·rw [if_pos c,List.filter_cons_of_pos (by simpa using c),List.filter_nil]
    ·rw [if_neg c,List.filter_cons_of_neg (by simpa using c),List.filter_nil]
   have hfl:((kp.take i).filter fun e => decide (k < e.k)).length ≤ 1000:=Nat.le_trans (List.length_filter_le _ _) (by rw [List.length_take]; omega)
   generalize hE:kp[i]=e at *
   obtain ⟨qk,gk,hq1,hq2,hv,hqk⟩:=hO.kpr.resolve_left (by rintro ⟨h,_⟩; rw [h] at hlt; cases hlt)
   subst hv
   generalize hacc:(kp.take i).filter (fun e => decide (k < e.k))=acc at *
   have hla:(B ++ acc).length ≤ 2100:=by rw [List.length_append]; omega
   simp only [sxZ,z6,z7,z8,j4,j5,j6,j7,j8,j9,x0,x3,x4,x5,x6,x7,reduceCtorEq,↓reduceIte,List.getElem?_set,hlen,ta,tb,tc,hlt']
   subst hZ
   refine zaa fun Z hZ => ?_
   simp only [sxZ,z6,z7,z8,j4,j5,j6,j7,j8,j9,x0,x3,x4,x5,x6,x7,reduceCtorEq,↓reduceIte,List.getElem?_set,hlen,ta,tb,tc,hlt']
   subst hZ
   refine zaa fun Z hZ => ?_
   rw [za2]
   refine zaa fun X hX => ?_
   simp only [sxZ,z6,z7,z8,j4,j5,j6,j7,j8,j9,x0,x3,x4,x5,x6,x7,reduceCtorEq,↓reduceIte,List.getElem?_set,hlen,ta,tb,tc,hqk,Int.toNat_natCast,a1,gn1,sn1]
   refine ⟨by omega,by omega,?_⟩
   have hM:=hO.app (bxE e)
   have hMe:(N ++ [bxE e])[N.length]? = some (bxE e):=gn1 _ _
   generalize N ++ [bxE e]=M at hM hMe ⊢
   have hMb:=hM.put.b
   have hMl:=zbE hMe
   subst hX
   refine zaa fun X hX => ?_
   have h5:=zen hek hk20
   have hid:=zf5 hek hk20
   have hnek:e.k ≠ k:=hne _ hek0
   by_cases ck:k < e.k
   ·rw [decide_eq_false (by omega)] at h5
    have h6:(idT e.k == idT k)=false:=by rw [beq_eq_false_iff_ne]; exact fun c => hnek (hid.1 c)
    rw [if_pos ck] at hnext
    rcases hM.acc with ⟨hx,h2⟩ | ⟨q,g,h1,h2,h3⟩
    ·exact absurd (List.append_eq_nil_iff.1 hx).1 hBne
    ·simp only [sxZ,z6,z7,z8,j4,j5,j6,j7,j8,j9,x0,x3,x4,x5,x6,x7,reduceCtorEq,↓reduceIte,List.getElem?_set,hlen,t4,t6,t7,t13,t14,ta,tb,tc,hMb,hMe,h5,h6,Bool.not_false,Bool.not_true,Bool.and_self,Bool.false_and]
     subst hX
     have hqp:¬ q=p:=by omega
     simp only [sxZ,z6,z7,z8,j4,j5,j6,j7,j8,j9,x0,x3,x4,x5,x6,x7,reduceCtorEq,↓reduceIte,List.getElem?_set,hlen,t4,t6,t7,t13,t14,ta,tb,tc,hMb,hMe,h2,h3,hqp]
     refine ⟨by omega,?_⟩
     subst hZ
     simp only [sxZ,z6,z7,z8,j4,j5,j6,j7,j8,j9,x0,x3,x4,x5,x6,x7,reduceCtorEq,↓reduceIte,List.getElem?_set,List.length_set,hlen,t4,t6,t7,t13,t14,ta,tb,tc]
     refine ⟨by omega,kp.length - (i + 1),by omega,i + 1,rfl,by omega,?_,rfl⟩
     rw [hnext,← List.append_assoc]
     have hz:=hM.nxt h1 h2 h3 e
     rw [List.length_append] at hz
     exact hz
   ·rw [decide_eq_true (by omega)] at h5
    have h6:(idT e.k == idT k)=false:=by rw [beq_eq_false_iff_ne]; exact fun c => hnek (hid.1 c)
    rw [if_neg ck,List.append_nil] at hnext
    simp only [sxZ,z6,z7,z8,j4,j5,j6,j7,j8,j9,x0,x3,x4,x5,x6,x7,reduceCtorEq,↓reduceIte,List.getElem?_set,hlen,t4,t6,t7,t13,t14,ta,tb,tc,hMb,hMe,h5,h6,Bool.not_false,Bool.not_true,Bool.and_self,Bool.false_and]
    subst hX
    simp only [sxZ,z6,z7,z8,j4,j5,j6,j7,j8,j9,x0,x3,x4,x5,x6,x7,reduceCtorEq,↓reduceIte,List.getElem?_set,hlen,t4,t6,t7,t13,t14,ta,tb,tc,hMb,hMe,h5,h6,Bool.not_false,Bool.not_true,Bool.and_self,Bool.false_and]
    subst hZ
    simp only [sxZ,z6,z7,z8,j4,j5,j6,j7,j8,j9,x0,x3,x4,x5,x6,x7,reduceCtorEq,↓reduceIte,List.getElem?_set,List.length_set,hlen,t4,t6,t7,t13,t14,ta,tb,tc]
    exact ⟨by omega,kp.length - (i + 1),by omega,i + 1,rfl,by omega,by rw [hnext]; exact hM,rfl⟩
  ·have hlt':¬ (i:Int) < (kp.length:Int):=by omega
   obtain rfl:i=kp.length:=by omega
   rw [List.take_length] at hO
   simp only [sxZ,z6,z7,z8,j4,j5,j6,j7,j8,j9,x0,x3,x4,x5,x6,x7,reduceCtorEq,↓reduceIte,List.getElem?_set,hlen,ta,tb,tc,hlt']
   subst hZ
   simp only [sxZ,z6,z7,z8,j4,j5,j6,j7,j8,j9,x0,x3,x4,x5,x6,x7,reduceCtorEq,↓reduceIte,zai,List.getElem?_set,List.length_set,hlen,t4,t6,t7,t13,t14,ta,tb,tc,hlt',and_self,and_true]
   exact hO
 clear hlen t4 t6 t7 t13 t14 hO
 rintro M tm ⟨hO,hlen,t4,t6,t7,t13,t14⟩
 subst hY
 have hO2:=hO.put.c
 rcases hO.acc with ⟨hx,h2⟩ | ⟨q,g,h1,h2,h3⟩
 ·exact absurd (List.append_eq_nil_iff.1 hx).1 hBne
 ·have hpp:∀ M:List En,∀ o,zcf o 4 (ecs M)=some (ecs M):=fun M o => zbC o 3 _
  have hp:=hO.lo
  have hl2:=zbE hO2
  have hq2:¬ q=2:=by omega
  have hq2':¬ 2=q:=by omega
  have hsk:zcy kp:=⟨hs.1.sublist hsub,fun e he => hs.2 e (hsub.subset he)⟩
  have hr:=hk (B ++ kp.filter fun e => decide (k < e.k)) ?_ ?_ ?_
  ·unfold zaW at hr
   rw [List.length_append] at hr
   simp only [hpp,sxZ,z6,z7,z8,j4,j5,j6,j7,j8,j9,x0,x3,x4,x5,x6,x7,reduceCtorEq,↓reduceIte,List.getElem?_set,List.length_set,hlen,t4,t6,t7,t13,t14,h2,h3,hO2,hl2,hq2,hq2']
   exact hr
  ·rw [← hB,← hA]
   exact put_srt (n:=⟨k,s,t⟩) hsk hk20
  ·have:=zjl k kp
   rw [hA] at this
   rw [← hB,List.length_append,List.length_append,List.length_singleton]
   omega
  ·intro e he
   rw [← hB,← hA] at he
   rcases List.mem_append.1 he with h | h
   ·rcases List.mem_append.1 h with h | h
    ·exact .inl (hsub.subset (List.mem_filter.1 h).1)
    ·exact .inr (List.mem_singleton.1 h)
   ·exact .inl (hsub.subset (List.mem_filter.1 h).1)
end
end
end Go.Proofs.YtbeoijfmfkifeaaGreatDoor
namespace Go.Proofs.YtbeoijfmfkifeaaGreatDoor
open Go.RowKit Sx
section
variable [Tabs Tryz.prog] {objs:List OB} {K:List OB → AV → Prop}
end
end Go.Proofs.YtbeoijfmfkifeaaGreatDoor
namespace Go.Proofs.YtbeoijfmfkifeaaGreatDoor
open Go.RowKit Sx
section
variable [Tabs Tryz.prog] {objs:List OB} {K:List OB → AV → Prop}
end
end Go.Proofs.YtbeoijfmfkifeaaGreatDoor
namespace Go.Proofs.YtbeoijfmfkifeaaGreatDoor
open Go.RowKit Sx
end Go.Proofs.YtbeoijfmfkifeaaGreatDoor
namespace Go.Proofs.YtbeoijfmfkifeaaGreatDoor
open Go.RowKit Sx
section
variable [Tabs Tryz.prog] {objs:List OB} {K:List OB → AV → Prop}
end
end Go.Proofs.YtbeoijfmfkifeaaGreatDoor
namespace Go.Proofs.YtbeoijfmfkifeaaGreatDoor
open Go.RowKit Sx
section
variable [Tabs Tryz.prog] {objs:List OB} {K:List OB → AV → Prop}
end
end Go.Proofs.YtbeoijfmfkifeaaGreatDoor
namespace Go.Proofs.YtbeoijfmfkifeaaGreatDoor
open Go.RowKit Sx
theorem zds {α:Type} {l:List α} {b:Nat} {x:α} (h:l[b]? = some x):b < l.length:=by
 rcases Nat.lt_or_ge b l.length with h0 | h0
 ·exact h0
 ·rw [List.getElem?_eq_none h0] at h; cases h
section
variable [Tabs Tryz.prog] {objs:List OB} {K:List OB → AV → Prop}
end
def zg5 (objs:List OB) (b:Nat) (T:TypeId) (l:List UInt8):Prop :=
 (objs[b]? = some (.box T [.o (.pointer none),.nil]) ∧ l=[]) ∨ ∃ r gen,objs[b]? = some (.box T [.p b 0,.orow r gen]) ∧ objs[r]? = some (.orow 5 1 gen l.length (byA l))
def zec (objs:List OB) (b:Nat):Option Nat :=
 match objs[b]? with
 | some (.box _ [_,.orow r _]) => some r
 | _ => none
def Kept (objs:List OB) (b:Nat) (objs':List OB):Prop:=objs.length ≤ objs'.length ∧ (∀ (j:Nat) ob,objs[j]? = some ob → j ≠ b → zec objs b ≠ some j → objs'[j]? = some ob ∧ zec objs' b ≠ some j)
theorem Kept.refl (objs:List OB) (b:Nat):Kept objs b objs:=⟨Nat.le_refl _,fun j ob h _ h2 => ⟨h,h2⟩⟩
theorem Kept.trans {o1 o2 o3:List OB} {b:Nat} (h:Kept o1 b o2) (k:Kept o2 b o3):Kept o1 b o3 :=
 ⟨Nat.le_trans h.1 k.1,fun j ob h1 h2 h3 => by
  obtain ⟨a1,a2⟩:=h.2 j ob h1 h2 h3
  exact k.2 j ob a1 h2 a2⟩
theorem zg5.lt {objs:List OB} {b:Nat} {T:TypeId} {l:List UInt8} (h:zg5 objs b T l):b < objs.length ∧ ∀ r,zec objs b=some r → r < objs.length:=by
 rcases h with ⟨h,_⟩ | ⟨r,gen,h,h2⟩
 ·refine ⟨zds h,fun r hr => ?_⟩
  unfold zec at hr; rw [h] at hr; cases hr
 ·refine ⟨zds h,fun r' hr => ?_⟩
  unfold zec at hr; rw [h] at hr; injection hr with hr; subst hr; exact zds h2
theorem zg5.app {objs:List OB} {b:Nat} {T:TypeId} {l:List UInt8} (h:zg5 objs b T l) (more:List OB):zg5 (objs ++ more) b T l ∧ zec (objs ++ more) b=zec objs b:=by
 have hlt:=h.lt.1
 have e:(objs ++ more)[b]? = objs[b]?:=List.getElem?_append_left hlt
 refine ⟨?_,by unfold zec; rw [e]⟩
 rcases h with ⟨h,h2⟩ | ⟨r,gen,h,h2⟩
 ·exact .inl ⟨by rw [e]; exact h,h2⟩
 ·exact .inr ⟨r,gen,by rw [e]; exact h,by rw [List.getElem?_append_left (zds h2)]; exact h2⟩
theorem Kept.drop {objs more objs':List OB} {b:Nat} {T:TypeId} {l:List UInt8} (h:zg5 objs b T l) (k:Kept (objs ++ more) b objs'):Kept objs b objs':=by
 refine ⟨by have:=k.1; simp at this; omega,fun j ob h1 h2 h3 => k.2 j ob (by rw [List.getElem?_append_left (zds h1)]; exact h1) h2 (by rw [(h.app more).2]; exact h3)⟩
section
variable [Tabs Tryz.prog] {objs:List OB} {K:List OB → AV → Prop}
end
end Go.Proofs.YtbeoijfmfkifeaaGreatDoor
namespace Go.Proofs.YtbeoijfmfkifeaaGreatDoor
open Go.RowKit Sx
section
variable [Tabs Tryz.prog] {objs:List OB} {K:List OB → AV → Prop}
end
end Go.Proofs.YtbeoijfmfkifeaaGreatDoor
namespace Go.Proofs.YtbeoijfmfkifeaaGreatDoor
open Go.RowKit Sx
section
variable [Tabs Tryz.prog] {objs:List OB} {K:List OB → AV → Prop}
end
end Go.Proofs.YtbeoijfmfkifeaaGreatDoor
namespace Go.Proofs.YtbeoijfmfkifeaaGreatDoor
open Go.RowKit Sx
section
variable [Tabs Tryz.prog] {objs:List OB} {K:List OB → AV → Prop}
end
end Go.Proofs.YtbeoijfmfkifeaaGreatDoor
namespace Go.Proofs.YtbeoijfmfkifeaaGreatDoor
open Go.RowKit Sx
section
variable [Tabs Tryz.prog] {objs:List OB} {K:List OB → AV → Prop}
end
end Go.Proofs.YtbeoijfmfkifeaaGreatDoor
namespace Go.Proofs.YtbeoijfmfkifeaaGreatDoor
open Go.RowKit Sx
end Go.Proofs.YtbeoijfmfkifeaaGreatDoor
namespace Go.Proofs.YtbeoijfmfkifeaaGreatDoor
open Go.RowKit
end Go.Proofs.YtbeoijfmfkifeaaGreatDoor
namespace Go.Proofs.YtbeoijfmfkifeaaGreatDoor
open Go.RowKit
end Go.Proofs.YtbeoijfmfkifeaaGreatDoor
namespace Go.Proofs.YtbeoijfmfkifeaaGreatDoor
open Go.RowKit
theorem zcI.cap {w:World} {B g n cap:Nat} {l:List UInt8} (h:zcI w B (.slice (some ⟨g,0,none⟩) n cap) l):n=l.length ∧ n ≤ cap ∧ cap ≤ maxLen:=by
 rcases h.2 with ⟨e,_⟩ | ⟨g',cap',cur,e,hb,hg,hnc,hcm,_⟩
 ·simp at e
 ·simp only [Value.slice.injEq] at e
  obtain ⟨_,rfl,rfl⟩:=e
  exact ⟨rfl,hnc,hcm⟩
theorem zcI.pre {w:World} {B g n cap:Nat} {l:List UInt8} (h:zcI w B (.slice (some ⟨g,0,none⟩) n cap) l) (k:Nat) (hk:k ≤ l.length):zcI w B (.slice (some ⟨g,0,none⟩) k cap) (l.take k):=by
 rcases h.2 with ⟨e,_⟩ | ⟨g',cap',cur,e,hb,hg,hnc,hcm,hcs,ht⟩
 ·simp at e
 ·simp only [Value.slice.injEq] at e
  obtain ⟨hgg,rfl,rfl⟩:=e
  obtain rfl:g=g':=by simpa using hgg
  have hlen:(l.take k).length=k:=by rw [List.length_take]; omega
  refine ⟨by rw [zjT]; simp,.inr ⟨g,cap,cur,by rw [hlen],hb,hg,by rw [hlen]; omega,hcm,hcs,?_⟩⟩
  rw [hlen]
  have:=congrArg (List.take k) ht
  rw [Nat.mul_one] at this ⊢
  rw [List.take_take,Nat.min_eq_left hk] at this
  rw [this]
  simp [bv,List.map_take]
end Go.Proofs.YtbeoijfmfkifeaaGreatDoor
namespace Go.Proofs.YtbeoijfmfkifeaaGreatDoor
open Go.RowKit
end Go.Proofs.YtbeoijfmfkifeaaGreatDoor
namespace Go.Proofs.YtbeoijfmfkifeaaGreatDoor
open Go.RowKit
attribute [local go_sem ↓] Go.wp_at_zero Go.wp_at_succ
end Go.Proofs.YtbeoijfmfkifeaaGreatDoor
namespace Go.Proofs.YtbeoijfmfkifeaaGreatDoor
open Go.RowKit Sx
section
variable [Tabs Tryz.prog] {objs:List OB} {K:List OB → AV → Prop}
end
end Go.Proofs.YtbeoijfmfkifeaaGreatDoor
namespace Go.Proofs.YtbeoijfmfkifeaaGreatDoor
open Go.RowKit Sx
section
variable [Tabs Tryz.prog] {objs:List OB} {K:List OB → AV → Prop}
end
end Go.Proofs.YtbeoijfmfkifeaaGreatDoor
namespace Go.Proofs.YtbeoijfmfkifeaaGreatDoor
open Sx
theorem sl_wf8 {c:Int} (h:(Lit.int .u8 c).wf=true):∃ u:UInt8,c=(u.toNat:Int):=by
 have h':0 ≤ c ∧ c ≤ 255:=by simpa [Lit.wf,IntKind.min,IntKind.max,IntKind.signed,IntKind.bits] using h
 exact ⟨UInt8.ofNat c.toNat,by rw [UInt8.toNat_ofNat']; omega⟩
theorem sl_u8:∀ {gs:List (List AV)},(∀ g ∈ gs,ShT (.i .u8) g) → ∃ l:List UInt8,gs.flatten=byA l ∧ gs.length=l.length
 | [],_ => ⟨[],rfl,rfl⟩
 | g :: gs,h => by
  obtain ⟨l,h1,h2⟩:=sl_u8 (fun x hx => h x (List.mem_cons_of_mem _ hx))
  obtain ⟨n,rfl,hw⟩:=h g (List.mem_cons_self ..)
  obtain ⟨c,rfl⟩:=sl_wf8 hw
  exact ⟨c :: l,by rw [List.flatten_cons,h1]; rfl,by rw [List.length_cons,List.length_cons,h2]⟩
end Go.Proofs.YtbeoijfmfkifeaaGreatDoor
namespace Go.Proofs.YtbeoijfmfkifeaaGreatDoor
open Nat renaming reduceAdd → z6, reduceSub → z7, reduceLeDiff → z8, reduceLT → j4, reduceMul → j5, reduceEqDiff → j6
open Int renaming reduceToNat → j7, reduceAdd → j8, reduceSub → j9, reduceMul → x0, reduceNeg → x3, reduceLT → x4, reduceLE → x5, reduceEq → x6, reduceNe → x7
open Go.RowKit Sx
section
attribute [local irreducible] run
def dBox (l:List UInt8):OB:=.box 77 [.row l.length (byA l)]
theorem zeM {objs:List OB} {b:Nat} {x:OB} (h:objs[b]? = some x):objs.set b x=objs:=by
 obtain ⟨h1,h2⟩:=List.getElem?_eq_some_iff.1 h
 rw [← h2,List.set_getElem_self]
theorem zhe (n:Int) (h0:0 ≤ n) (h1:n < 9223372036854775808):IntKind.i64.wrap n=n:=by
 have e1:IntKind.signed .i64=true:=rfl
 simp only [IntKind.wrap,IntKind.bits,e1,if_true]
 have e2:(2:Int) ^ 64=18446744073709551616:=by decide
 have e3:(2:Int) ^ 63=9223372036854775808:=by decide
 first | (rw [Int.emod_eq_of_lt (by omega) (by omega)]; split <;> omega) | (simp; omega) | omega
section
variable [Tabs Tryz.prog] {objs:List OB} {K:List OB → AV → Prop}
theorem zcm (b:Nat) (l:List UInt8) (n:Int) (hl:l.length ≤ 200) (hb:objs[b]? = some (dBox l)) (hn:1 ≤ n) (hn2:n ≤ 1000000) (hk:∀ (l':List UInt8) (r:Int),l'.length ≤ 200 → 0 ≤ r → r < n → K (objs.set b (dBox l')) (.i .i64 r)) :
  zae Tryz.prog 26 [.p b 0,.i .i64 n] objs K:=by
 refine za3 is_made_Dice_Next fun C _ => ?_
 have hs:=zeM hb
 unfold dBox at hb
 by_cases c1:(l.length:Int)=0
 ·simp only [c_made_Dice_Next,sxZ,z6,z7,z8,j4,j5,j6,j7,j8,j9,x0,x3,x4,x5,x6,x7,reduceCtorEq,↓reduceIte,hb,c1]
  have:=hk l 0 hl (by omega) (by omega)
  rw [hs] at this
  exact this
 by_cases c2:n ≤ 1
 ·simp only [c_made_Dice_Next,sxZ,z6,z7,z8,j4,j5,j6,j7,j8,j9,x0,x3,x4,x5,x6,x7,reduceCtorEq,↓reduceIte,hb,c1,c2]
  have:=hk l 0 hl (by omega) (by omega)
  rw [hs] at this
  exact this
 obtain ⟨c,l',rfl⟩:∃ c l',l=c :: l':=by
  cases l with
  | nil => simp at c1
  | cons c l' => exact ⟨c,l',rfl⟩
 have c3:¬ ((l'.length + 1:Nat):Int)=0:=by omega
 have hc:=c.toNat_lt
 have hcons:byA (c :: l')=.i .u8 (c.toNat:Int) :: byA l':=rfl
 have hbl:=zjR l'
 rw [hcons] at hb
 simp only [c_made_Dice_Next,sxZ,z6,z7,z8,j4,j5,j6,j7,j8,j9,x0,x3,x4,x5,x6,x7,reduceCtorEq,↓reduceIte,hb,c1,c2,c3,hcons]
 have e1:IntKind.i64.wrap (c.toNat:Int)=c.toNat:=zhe _ (by omega) (by omega)
 have e2:(List.take ((l'.length + 1) * 1) (AV.i IntKind.u8 (c.toNat:Int) :: byA l')).drop 1=byA l':=by
  rw [List.take_of_length_le (by rw [List.length_cons,hbl]; omega),List.drop_one,List.tail_cons]
 have e3:(c.toNat:Int).tmod n=((c.toNat:Int) % n):=Int.tmod_eq_emod_of_nonneg (by omega)
 have h1:=Int.emod_nonneg (c.toNat:Int) (show n ≠ 0 by omega)
 have h2:=Int.emod_lt_of_pos (c.toNat:Int) (show 0 < n by omega)
 rw [e1,e2,e3,Nat.add_sub_cancel]
 exact ⟨⟨by omega,by omega⟩,by omega,by omega,hk l' _ (by rw [List.length_cons] at hl; omega) h1 h2⟩
theorem dNew_k (l:List UInt8) (hl:l.length ≤ 140737488351232) (hk:∀ l':List UInt8,l'.length ≤ 200 → K (objs ++ [dBox l']) (.p objs.length 0)):zae Tryz.prog 25 [.row l.length (byA l)] objs K:=by
 refine za3 is_made_New fun C _ => ?_
 have hbl:=zjR l
 simp only [c_made_New,sxZ,z6,z7,z8,j4,j5,j6,j7,j8,j9,x0,x3,x4,x5,x6,x7,reduceCtorEq,↓reduceIte]
 by_cases c1:(200:Int) < l.length
 ·rw [if_pos c1]
  refine ⟨⟨by omega,by omega⟩,?_⟩
  have h:=hk (l.take 200) (by rw [List.length_take]; omega)
  have e:byA (l.take 200)=(byA l).take 200:=by simp [byA,List.map_take]
  have e2:(l.take 200).length=200:=by rw [List.length_take]; omega
  unfold dBox at h
  rw [e,e2] at h
  exact h
 ·rw [if_neg c1]
  refine ⟨⟨by omega,by omega⟩,?_⟩
  have h:=hk l (by omega)
  unfold dBox at h
  rw [Int.toNat_natCast,Nat.mul_one,List.take_of_length_le (by omega)]
  exact h
end
end
section
attribute [local irreducible] run
theorem zeh (l:List UInt8):zak (byA l)=true:=by
 induction l with
 | nil => rfl
 | cons c l ih =>
  show zak (.i .u8 (c.toNat:Int) :: byA l)=true
  simp only [zak,AV.plain,ih,Bool.and_self]
section
variable [Tabs Tryz.prog] {objs:List OB} {K:List OB → AV → Prop}
theorem put0_k (cap k s t:Nat) (hc0:cap=0) (hk20:k < 20) (h1:1 ≤ s) (h2:s ≤ 86400) (hk:K objs (zaW cap [])):zae Tryz.prog 18 [zaW cap [],.agg (vc k s (.row 0 [])),.i .u64 t] objs K:=by
 have hc':(cap:Int) ≤ 0:=by omega
 refine cres (zaW cap []) ?_
 refine zaU is_cache_Put (by simp only [zaW,vc,zak,AV.plain,zat,Bool.and_self]) fun C _ => ?_
 rw [c_cache_Put]
 refine zaa fun Y hY => ?_
 simp only [zaW,vc,sxZ,z6,z7,z8,j4,j5,j6,j7,j8,j9,x0,x3,x4,x5,x6,x7,reduceCtorEq,↓reduceIte]
 subst hY
 refine zaa fun Y hY => ?_
 simp only [sxZ,z6,z7,z8,j4,j5,j6,j7,j8,j9,x0,x3,x4,x5,x6,x7,reduceCtorEq,↓reduceIte]
 refine zap (zdZ [] (by decide) (fun hL => ?_) ?_)
 ·simp only [sxZ,z6,z7,z8,j4,j5,j6,j7,j8,j9,x0,x3,x4,x5,x6,x7,reduceCtorEq,↓reduceIte]
  subst hY
  refine zaa fun Y hY => ?_
  refine zaa fun X hX => ?_
  simp only [sxZ,z6,z7,z8,j4,j5,j6,j7,j8,j9,x0,x3,x4,x5,x6,x7,reduceCtorEq,↓reduceIte]
  refine zap (zcW hk20 h1 h2 ?_)
  simp only [sxZ,z6,z7,z8,j4,j5,j6,j7,j8,j9,x0,x3,x4,x5,x6,x7,reduceCtorEq,↓reduceIte,hc']
  subst hX
  simp only [sxZ,z6,z7,z8,j4,j5,j6,j7,j8,j9,x0,x3,x4,x5,x6,x7,reduceCtorEq,↓reduceIte,hc']
  exact ⟨fun G I y hy => dagg hy,hk⟩
 ·simp only [sxZ,z6,z7,z8,j4,j5,j6,j7,j8,j9,x0,x3,x4,x5,x6,x7,reduceCtorEq,↓reduceIte]
  subst hY
  refine zaa fun Y hY => ?_
  refine zaa fun X hX => ?_
  simp only [sxZ,z6,z7,z8,j4,j5,j6,j7,j8,j9,x0,x3,x4,x5,x6,x7,reduceCtorEq,↓reduceIte]
  refine zap (zcW hk20 h1 h2 ?_)
  have hpp:∀ o,zcf o 4 (ecs [])=some (ecs []):=fun o => zbC o 3 _
  simp only [sxZ,z6,z7,z8,j4,j5,j6,j7,j8,j9,x0,x3,x4,x5,x6,x7,reduceCtorEq,↓reduceIte,hc']
  subst hX
  simp only [hpp,sxZ,z6,z7,z8,j4,j5,j6,j7,j8,j9,x0,x3,x4,x5,x6,x7,reduceCtorEq,↓reduceIte,hc']
  exact ⟨fun G I y hy => hy,hk⟩
structure OkM (cap now:Nat) (L:List En):Prop where
 top:cap ≤ 5
 len:L.length ≤ cap
 srt:zcy L
 ent:∀ e ∈ L,1 ≤ e.s ∧ e.s ≤ 60 ∧ e.t ≤ now
theorem made_k (l0:List UInt8) (hl0:l0.length ≤ 140737488351232) (hk:∀ cap now L,OkM cap now L → now ≤ 200 → K objs (.tup [zaW cap L,.i .u64 now])):zae Tryz.prog 12 [.row l0.length (byA l0)] objs K:=by
 refine zaU is_law31_made (by simp only [zak,AV.plain,zeh,Bool.and_self]) fun C _ => ?_
 rw [c_law31_made]
 refine zaa fun Y hY => ?_
 simp only [sxZ,z6,z7,z8,j4,j5,j6,j7,j8,j9,x0,x3,x4,x5,x6,x7,reduceCtorEq,↓reduceIte]
 subst hY
 refine zaa fun Y hY => ?_
 simp only [sxZ,z6,z7,z8,j4,j5,j6,j7,j8,j9,x0,x3,x4,x5,x6,x7,reduceCtorEq,↓reduceIte]
 refine zap (dNew_k l0 hl0 fun l1 hl1 => ?_)
 simp only [sxZ,z6,z7,z8,j4,j5,j6,j7,j8,j9,x0,x3,x4,x5,x6,x7,reduceCtorEq,↓reduceIte]
 subst hY
 refine zaa fun Y hY => ?_
 simp only [sxZ,z6,z7,z8,j4,j5,j6,j7,j8,j9,x0,x3,x4,x5,x6,x7,reduceCtorEq,↓reduceIte]
 refine zap (zcm 1 l1 6 hl1 rfl (by decide) (by decide) fun l2 r hl2 hr0 hr1 => ?_)
 obtain ⟨cap,rfl⟩:=Int.eq_ofNat_of_zero_le hr0
 simp only [sxZ,z6,z7,z8,j4,j5,j6,j7,j8,j9,x0,x3,x4,x5,x6,x7,reduceCtorEq,↓reduceIte]
 refine zap (rnew_k cap (by omega) ?_)
 simp only [zaW,sxZ,z6,z7,z8,j4,j5,j6,j7,j8,j9,x0,x3,x4,x5,x6,x7,reduceCtorEq,↓reduceIte]
 subst hY
 refine zaa fun Y hY => ?_
 simp only [sxZ,z6,z7,z8,j4,j5,j6,j7,j8,j9,x0,x3,x4,x5,x6,x7,reduceCtorEq,↓reduceIte]
 subst hY
 refine zaa fun Y hY => ?_
 refine zba (fun o t => ∃ (now:Nat) (L:List En) (l:List UInt8),o=[.box 24 [.i .i64 0,.nil],dBox l,.box 24 [.i .i64 cap,.row L.length (ecs L)]] ∧ OkM cap now L ∧ now ≤ 200 ∧ t.length=46 ∧ t[2]? = some (.p 0 0) ∧ t[5]? = some (.p 2 0) ∧ t[7]? = some (.i .u64 now)) ?_ ?_
 ·refine zaa fun X hX => ?_
  simp only [sxZ,z6,z7,z8,j4,j5,j6,j7,j8,j9,x0,x3,x4,x5,x6,x7,reduceCtorEq,↓reduceIte]
  refine zap (zcm 1 l2 20 hl2 rfl (by decide) (by decide) fun l3 r hl3 hr0' hr1' => ?_)
  obtain ⟨n,rfl⟩:=Int.eq_ofNat_of_zero_le hr0'
  simp only [sxZ,z6,z7,z8,j4,j5,j6,j7,j8,j9,x0,x3,x4,x5,x6,x7,reduceCtorEq,↓reduceIte]
  subst hX
  rw [za2]
  refine zaF (fun m o tm => ∃ (n now:Nat) (L:List En) (l:List UInt8),m=n ∧ n ≤ 20 ∧ now + 8 * n ≤ 160 ∧ o=[.box 24 [.i .i64 0,.nil],dBox l,.box 24 [.i .i64 cap,.row L.length (ecs L)]] ∧ l.length ≤ 200 ∧ OkM cap now L ∧ tm.length=46 ∧ tm[2]? = some (.p 0 0) ∧ tm[4]? = some (.p 1 0) ∧ tm[5]? = some (.p 2 0) ∧ tm[7]? = some (.i .u64 now) ∧ tm[8]? = some (.i .i64 n)) n ⟨n,0,[],l3,rfl,by omega,by omega,rfl,hl3,⟨by omega,Nat.zero_le _,⟨List.Pairwise.nil,by simp⟩,by simp⟩,rfl,rfl,rfl,rfl,rfl,rfl⟩ ?_
  clear hk
  rintro m _ tm ⟨n,now,L,l,rfl,hn,hnow,rfl,hl,hM,hlen,t2,t4,t5,t7,t8⟩
  have hcap:=hM.top
  have hlen0:=hM.len
  refine zaa fun Z hZ => ?_
  by_cases hlt:0 < m
  ·have hlt':(0:Int) < (m:Int):=by omega
   simp only [sxZ,z6,z7,z8,j4,j5,j6,j7,j8,j9,x0,x3,x4,x5,x6,x7,reduceCtorEq,↓reduceIte,List.getElem?_set,hlen,t8,hlt']
   subst hZ
   refine zaa fun Z hZ => ?_
   rw [za2]
   refine zaa fun X hX => ?_
   simp only [sxZ,z6,z7,z8,j4,j5,j6,j7,j8,j9,x0,x3,x4,x5,x6,x7,reduceCtorEq,↓reduceIte,List.getElem?_set,hlen,t4,t7]
   refine zap (zcm 1 l 9 hl rfl (by decide) (by decide) fun l4 r hl4 hr0 hr1 => ?_)
   obtain ⟨a,rfl⟩:=Int.eq_ofNat_of_zero_le hr0
   have w1:IntKind.u64.wrap (a:Int)=(a:Int):=by rw [IntKind.wrap_u64]; omega
   have w2:IntKind.u64.wrap ((now:Int) + a)=((now + a:Nat):Int):=by rw [IntKind.wrap_u64]; omega
   simp only [sxZ,z6,z7,z8,j4,j5,j6,j7,j8,j9,x0,x3,x4,x5,x6,x7,reduceCtorEq,↓reduceIte,List.getElem?_set,hlen,t4,t7,w1,w2]
   subst hX
   refine zaa fun X hX => ?_
   simp only [sxZ,z6,z7,z8,j4,j5,j6,j7,j8,j9,x0,x3,x4,x5,x6,x7,reduceCtorEq,↓reduceIte,List.getElem?_set,hlen,t4,t5,t7]
   refine zap (zcm 1 l4 9 hl4 rfl (by decide) (by decide) fun l5 r hl5 hr0 hr1 => ?_)
   obtain ⟨k,rfl⟩:=Int.eq_ofNat_of_zero_le hr0
   simp only [sxZ,z6,z7,z8,j4,j5,j6,j7,j8,j9,x0,x3,x4,x5,x6,x7,reduceCtorEq,↓reduceIte,List.getElem?_set,hlen,t4,t5,t7]
   refine zap (zcm 1 l5 60 hl5 rfl (by decide) (by decide) fun l6 r hl6 hr0 hr1 => ?_)
   obtain ⟨s,rfl⟩:=Int.eq_ofNat_of_zero_le hr0
   have w3:IntKind.u64.wrap (1 + (s:Int))=((1 + s:Nat):Int):=by rw [IntKind.wrap_u64]; omega
   simp only [sxZ,z6,z7,z8,j4,j5,j6,j7,j8,j9,x0,x3,x4,x5,x6,x7,reduceCtorEq,↓reduceIte,List.getElem?_set,hlen,t4,t5,t7,w3]
   refine ⟨by omega,?_⟩
   refine zap (zbg k (1 + s) (by omega) ?_)
   rw [Nat.mod_eq_of_lt (show k < 20 by omega)]
   simp only [vc,sxZ,z6,z7,z8,j4,j5,j6,j7,j8,j9,x0,x3,x4,x5,x6,x7,reduceCtorEq,↓reduceIte,List.getElem?_set,hlen,t4,t5,t7,w3]
   refine ⟨by omega,?_⟩
   refine zap (rput_k cap k (1 + s) (now + a) L hM.srt (by omega) (by omega) (by omega) (by omega) hM.len (by omega) fun L2 hs2 hl2 hm2 => ?_)
   simp only [zaW,sxZ,z6,z7,z8,j4,j5,j6,j7,j8,j9,x0,x3,x4,x5,x6,x7,reduceCtorEq,↓reduceIte,List.getElem?_set,hlen,t4,t5,t7,w3]
   refine ⟨by omega,?_⟩
   have hM2:OkM cap (now + a) L2:=⟨hcap,hl2,hs2,fun e he => by
    rcases hm2 e he with h | rfl
    ·have:=hM.ent e h
     exact ⟨this.1,this.2.1,by omega⟩
    ·exact ⟨by show 1 ≤ 1 + s; omega,by show 1 + s ≤ 60; omega,Nat.le_refl _⟩⟩
   subst hX
   refine zaa fun X hX => ?_
   simp only [sxZ,z6,z7,z8,j4,j5,j6,j7,j8,j9,x0,x3,x4,x5,x6,x7,reduceCtorEq,↓reduceIte,List.getElem?_set,hlen,t4,t5,t7]
   refine zap (zcm 1 l6 6 hl6 rfl (by decide) (by decide) fun l7 r hl7 hr0 hr1 => ?_)
   by_cases c0:r=0
   ·simp only [sxZ,z6,z7,z8,j4,j5,j6,j7,j8,j9,x0,x3,x4,x5,x6,x7,reduceCtorEq,↓reduceIte,List.getElem?_set,hlen,t4,t5,t7,c0]
    subst hX
    simp only [sxZ,z6,z7,z8,j4,j5,j6,j7,j8,j9,x0,x3,x4,x5,x6,x7,reduceCtorEq,↓reduceIte,List.getElem?_set,hlen,t4,t5,t7,c0]
    refine zap (rexp_k cap (now + a) L2 (by omega) ?_)
    simp only [zaW,sxZ,z6,z7,z8,j4,j5,j6,j7,j8,j9,x0,x3,x4,x5,x6,x7,reduceCtorEq,↓reduceIte,List.getElem?_set,hlen,t4,t5,t7]
    subst hZ
    simp only [sxZ,z6,z7,z8,j4,j5,j6,j7,j8,j9,x0,x3,x4,x5,x6,x7,reduceCtorEq,↓reduceIte,List.getElem?_set,List.length_set,hlen,t2,t4,t5,t7,t8]
    exact ⟨by omega,m - 1,by omega,m - 1,now + a,_,l7,rfl,by omega,by omega,rfl,hl7,⟨hcap,Nat.le_trans (List.length_filter_le _ _) hl2,⟨hs2.1.filter _,fun e he => hs2.2 e (List.mem_filter.1 he).1⟩,fun e he => hM2.ent e (List.mem_filter.1 he).1⟩,rfl,by rw [show ((m - 1:Nat):Int)=(m:Int) - 1 by omega]⟩
   ·simp only [sxZ,z6,z7,z8,j4,j5,j6,j7,j8,j9,x0,x3,x4,x5,x6,x7,reduceCtorEq,↓reduceIte,List.getElem?_set,hlen,t4,t5,t7,c0]
    subst hX
    simp only [sxZ,z6,z7,z8,j4,j5,j6,j7,j8,j9,x0,x3,x4,x5,x6,x7,reduceCtorEq,↓reduceIte,List.getElem?_set,hlen,t4,t5,t7,c0]
    subst hZ
    simp only [sxZ,z6,z7,z8,j4,j5,j6,j7,j8,j9,x0,x3,x4,x5,x6,x7,reduceCtorEq,↓reduceIte,List.getElem?_set,List.length_set,hlen,t2,t4,t5,t7,t8]
    exact ⟨by omega,m - 1,by omega,m - 1,now + a,L2,l7,rfl,by omega,by omega,rfl,hl7,hM2,rfl,by rw [show ((m - 1:Nat):Int)=(m:Int) - 1 by omega]⟩
  ·obtain rfl:m=0:=by omega
   have hlt':¬ (0:Int) < ((0:Nat):Int):=by omega
   simp only [sxZ,z6,z7,z8,j4,j5,j6,j7,j8,j9,x0,x3,x4,x5,x6,x7,reduceCtorEq,↓reduceIte,List.getElem?_set,hlen,t8,hlt']
   subst hZ
   simp only [sxZ,z6,z7,z8,j4,j5,j6,j7,j8,j9,x0,x3,x4,x5,x6,x7,reduceCtorEq,↓reduceIte,zai,List.getElem?_set,List.length_set,hlen,t2,t4,t5,t7,t8,hlt']
   exact ⟨now,L,l,rfl,hM,by omega,rfl⟩
 rintro _ tm ⟨now,L,l,rfl,hM,hnow,hlen,t2,t5,t7⟩
 subst hY
 have hpl:=zat L
 have hr:=hk cap now L hM hnow
 unfold zaW at hr
 simp only [hpl,sxZ,z6,z7,z8,j4,j5,j6,j7,j8,j9,x0,x3,x4,x5,x6,x7,reduceCtorEq,↓reduceIte,List.getElem?_set,List.length_set,hlen,t2,t5,t7]
 exact hr
end
end
end Go.Proofs.YtbeoijfmfkifeaaGreatDoor
namespace Go.Proofs.YtbeoijfmfkifeaaGreatDoor
open Nat renaming reduceAdd → z6, reduceSub → z7, reduceLeDiff → z8, reduceLT → j4, reduceMul → j5, reduceEqDiff → j6
open Int renaming reduceToNat → j7, reduceAdd → j8, reduceSub → j9, reduceMul → x0, reduceNeg → x3, reduceLT → x4, reduceLE → x5, reduceEq → x6, reduceNe → x7
open Go.RowKit Go.Shelf Sx
section
attribute [local irreducible] run
section
variable {P:Program} [Tabs P] {C:Cx} [On P C]
theorem zcp {x y:Code} {sx:SCode} (hx:trC P x=some sx) {K:zas} {objs:List OB} {tm:List AV} (J:List OB → List AV → Prop) (h:run P C [.code sx] objs tm (zbQ J K)) (hy:∀ o t,J o t → WP P C y K o t):WP P C (.seq x y) K objs tm :=
 WP.seq (WP.mono (fun e o t g => by
  cases e
  ·exact hy _ _ g
  all_goals first | exact g.elim | exact g) (ptc_run h x hx))
omit [Tabs P] [On P C] in
theorem tkn (J:List OB → List AV → Prop) (K:zas) (o:List OB) (t:List AV):zbQ J K .normal o t=J o t:=Eq.trans rfl rfl
omit [Tabs P] [On P C] in
theorem tkr (J:List OB → List AV → Prop) (K:zas) (o:List OB) (t:List AV):zbQ J K .ret o t=K .ret o t:=Eq.trans rfl rfl
end
def Kps (q:Nat) (objs o:List OB):Prop:=∀ b Y,b ≠ q → objs[b]? = some Y → o[b]? = some Y
theorem Kps.refl (q:Nat) (objs:List OB):Kps q objs objs:=fun _ _ _ h => h
theorem Kps.app {q:Nat} {objs o:List OB} (h:Kps q objs o) (X:OB):Kps q objs (o ++ [X]):=fun b Y hb hY => zaw (h b Y hb hY)
theorem Kps.set {q:Nat} {objs o:List OB} (h:Kps q objs o) (X:OB):Kps q objs (o.set q X):=fun b Y hb hY => zaE (h b Y hb hY) (fun e => hb e.symm)
abbrev nowB (now:Nat):OB:=.box 31 [.i .u64 now]
theorem zeq:IsFn Tryz.prog 43:=⟨_,Tryz.func43,by kernel_rfl,of_decide_eq_true (by kernel_rfl)⟩
def zaC (now:Nat) (e:En):Bool:=decide (now < e.t + e.s)
section
variable [Tabs Tryz.prog] {objs:List OB} {K:List OB → AV → Prop}
theorem exp1_k {now c:Nat} (e:En) (hc:objs[c]? = some (nowB now)) (hk:K (objs ++ [bxE e]) (.b (!zaC now e))):zae Tryz.prog 43 [.agg (ec e),.p c 0] objs K:=by
 refine za3 is_cache_Expire_1 fun C _ => ?_
 rw [c_cache_Expire_1]
 have hc2:(objs ++ [bxE e])[c]? = some (nowB now):=zaw hc
 have e1:AV.agg (ec e)=AV.agg [.i .i64 0,.i .i64 1,.s (idT e.k),.s zdc,.i .i64 0,.i .i64 0,.s [],.s [],.i .i64 0,.b true,.i .u64 e.s,.row 0 [],.i .u64 e.t,.i .u64 (e.t + e.s:Nat)]:=rfl
 rw [e1]
 simp only [sxZ,z6,z7,z8,j4,j5,j6,j7,j8,j9,x0,x3,x4,x5,x6,x7,reduceCtorEq,↓reduceIte,gn1,sn1,hc2]
 have e2:decide (((e.t + e.s:Nat):Int) ≤ (now:Int))=!zaC now e:=by
  unfold zaC
  by_cases h:now < e.t + e.s
  ·rw [decide_eq_true h,decide_eq_false (by omega)]; rfl
  ·rw [decide_eq_false h,decide_eq_true (by omega)]; rfl
 rw [e2]
 exact hk
theorem idxF_k {now c q gen:Nat} (L:List En) (hn:L.length ≤ 1000) (hqc:q ≠ c) (hc:objs[c]? = some (nowB now)) (hq:objs[q]? = some (.orow 43 14 gen L.length (ecs L)))
  (h1:∀ o,Kps q objs o → o[q]? = some (.orow 43 14 gen L.length (ecs L)) → (∀ e ∈ L,zaC now e=true) → K o (.i .i64 (-1)))
  (h2:∀ o i,Kps q objs o → o[q]? = some (.orow 43 14 gen L.length (ecs L)) → (∀ e ∈ L.take i,zaC now e=true) → (h:i < L.length) → zaC now L[i]=false → K o (.i .i64 i)) :
  zae Tryz.prog 64 [.orow q gen,.fn 43 [] [.p c 0]] objs K:=by
 have hel:=zaJ L
 refine za3 is_slices_IndexFunc__api_Entry_api_Entry fun C _ => ?_
 rw [c_slices_IndexFunc__api_Entry_api_Entry]
 refine zaa fun Y hY => ?_
 simp only [sxZ,z6,z7,z8,j4,j5,j6,j7,j8,j9,x0,x3,x4,x5,x6,x7,reduceCtorEq,↓reduceIte]
 subst hY
 refine zaa fun Y hY => ?_
 refine zaa fun X hX => ?_
 simp only [sxZ,z6,z7,z8,j4,j5,j6,j7,j8,j9,x0,x3,x4,x5,x6,x7,reduceCtorEq,↓reduceIte,hq]
 subst hX
 simp only [sxZ,z6,z7,z8,j4,j5,j6,j7,j8,j9,x0,x3,x4,x5,x6,x7,reduceCtorEq,↓reduceIte]
 refine zaF (fun m o tm => ∃ i:Nat,m=L.length - i ∧ i ≤ L.length ∧ Kps q objs o ∧ o[q]? = some (.orow 43 14 gen L.length (ecs L)) ∧ (∀ e ∈ L.take i,zaC now e=true) ∧ tm.length=19 ∧ tm[0]? = some (.orow q gen) ∧ tm[1]? = some (.fn 43 [] [.p c 0]) ∧ tm[7]? = some (.i .i64 L.length) ∧ tm[8]? = some (.i .i64 i)) L.length ⟨0,rfl,Nat.zero_le _,Kps.refl _ _,hq,by simp,rfl,rfl,rfl,rfl,rfl⟩ ?_
 rintro m N tm ⟨i,rfl,hi,hN,hNq,hno,hlen,t0,t1,t7,t8⟩
 have hNc:=hN c _ (fun e => hqc e.symm) hc
 refine zaa fun Z hZ => ?_
 by_cases hlt:i < L.length
 ·have hlt':(i:Int) < (L.length:Int):=by omega
  have a1:=zdv hlt
  have hnx:zaC now L[i]=true → ∀ e ∈ L.take (i + 1),zaC now e=true:=by
   intro h0 e he
   rw [List.take_succ_eq_append_getElem hlt] at he
   rcases List.mem_append.1 he with h | h
   ·exact hno e h
   ·rw [List.mem_singleton.1 h]; exact h0
  have h2i:=fun o a b => h2 o i a b hno hlt
  generalize hE:L[i]=e at *
  simp only [sxZ,z6,z7,z8,j4,j5,j6,j7,j8,j9,x0,x3,x4,x5,x6,x7,reduceCtorEq,↓reduceIte,List.getElem?_set,hlen,t7,t8,hlt']
  subst hZ
  refine zaa fun Z hZ => ?_
  simp only [sxZ,z6,z7,z8,j4,j5,j6,j7,j8,j9,x0,x3,x4,x5,x6,x7,reduceCtorEq,↓reduceIte,List.getElem?_set,hlen,t7,t8,hlt']
  subst hZ
  refine zaa fun Z hZ => ?_
  rw [za2]
  refine zaa fun X hX => ?_
  simp only [sxZ,z6,z7,z8,j4,j5,j6,j7,j8,j9,x0,x3,x4,x5,x6,x7,reduceCtorEq,↓reduceIte,List.getElem?_set,hlen,t7,t8]
  subst hX
  refine zaa fun X hX => ?_
  simp only [sxZ,z6,z7,z8,j4,j5,j6,j7,j8,j9,x0,x3,x4,x5,x6,x7,reduceCtorEq,↓reduceIte,List.getElem?_set,hlen,t0,t1,t7,t8,hNq,Int.toNat_natCast,a1]
  refine ⟨by omega,by omega,?_⟩
  refine zfO zeq (exp1_k e hNc ?_)
  have hM:=hN.app (bxE e)
  have hMq:=zaw (X:=bxE e) hNq
  generalize N ++ [bxE e]=M at hM hMq ⊢
  cases hk:zaC now e with
  | false =>
   simp only [sxZ,z6,z7,z8,j4,j5,j6,j7,j8,j9,x0,x3,x4,x5,x6,x7,reduceCtorEq,↓reduceIte,List.getElem?_set,hlen,t0,t1,t7,t8,Bool.not_false]
   subst hX
   simp only [sxZ,z6,z7,z8,j4,j5,j6,j7,j8,j9,x0,x3,x4,x5,x6,x7,reduceCtorEq,↓reduceIte,List.getElem?_set,hlen,t0,t1,t7,t8]
   exact h2i M hM hMq hk
  | true =>
   simp only [sxZ,z6,z7,z8,j4,j5,j6,j7,j8,j9,x0,x3,x4,x5,x6,x7,reduceCtorEq,↓reduceIte,List.getElem?_set,hlen,t0,t1,t7,t8,Bool.not_true]
   subst hX
   simp only [sxZ,z6,z7,z8,j4,j5,j6,j7,j8,j9,x0,x3,x4,x5,x6,x7,reduceCtorEq,↓reduceIte,List.getElem?_set,hlen,t0,t1,t7,t8]
   subst hZ
   simp only [sxZ,z6,z7,z8,j4,j5,j6,j7,j8,j9,x0,x3,x4,x5,x6,x7,reduceCtorEq,↓reduceIte,List.getElem?_set,List.length_set,hlen,t0,t1,t7,t8]
   exact ⟨by omega,L.length - (i + 1),by omega,i + 1,rfl,by omega,hM,hMq,hnx hk,rfl⟩
 ·have hlt':¬ (i:Int) < (L.length:Int):=by omega
  obtain rfl:i=L.length:=by omega
  rw [List.take_length] at hno
  simp only [sxZ,z6,z7,z8,j4,j5,j6,j7,j8,j9,x0,x3,x4,x5,x6,x7,reduceCtorEq,↓reduceIte,List.getElem?_set,hlen,t7,t8,hlt']
  subst hZ
  subst hY
  simp only [sxZ,z6,z7,z8,j4,j5,j6,j7,j8,j9,x0,x3,x4,x5,x6,x7,reduceCtorEq,↓reduceIte,List.getElem?_set,hlen,t7,t8,hlt']
  exact h1 N hN hNq hno
def df0:SCode:=.reg [⟨some 4,.mv (.c .nil),none⟩]
def df1:SCode:=.reg [⟨some 8,.mv (.t 0),none⟩,⟨some 9,.mv (.t 1),none⟩,⟨some 10,.call 64 [.t 8,.t 9],none⟩,⟨some 5,.mv (.t 10),none⟩]
def df2:SCode:=.seq (.reg [⟨some 11,.mv (.t 5),none⟩,⟨some 12,.bin .eql (.t 11) (.c (.i .i64 (-1))),none⟩]) (.cond (.t 12) (.seq (.reg [⟨some 13,.mv (.t 0),none⟩,⟨some 4,.mv (.t 13),none⟩]) .ret) .skip)
def df3:SCode:=.seq (.reg [⟨some 14,.mv (.t 5),none⟩,⟨some 15,.bin .add (.t 14) (.c (.i .i64 1)),none⟩,⟨some 6,.mv (.t 15),none⟩])
 (.blk 0
  (.loop
  (.seq (.seq (.reg [⟨some 16,.mv (.t 6),none⟩,⟨some 17,.mv (.t 0),none⟩,⟨some 18,.lenr (.t 17),none⟩,⟨some 19,.bin .lss (.t 16) (.t 18),none⟩]) (.cond (.t 19) .skip (.exit 0)))
  (.seq (.blk 1
   (.seq (.reg [⟨some 22,.mv (.t 0),none⟩,⟨some 23,.mv (.t 6),none⟩,⟨some 24,.iad 14 (.t 22) (.t 23),none⟩,⟨some 25,.loadn 14 (.t 24),none⟩,
    ⟨some 7,.alloc 43 [.i .i64 0,.i .i64 0,.s [],.s [],.i .i64 0,.i .i64 0,.s [],.s [],.i .i64 0,.b false,.i .u64 0,.nil,.i .u64 0,.i .u64 0],none⟩,⟨none,.store 14 (.t 7) (.t 25),none⟩])
   (.seq (.reg [⟨some 26,.mv (.t 1),none⟩,⟨some 27,.loadn 14 (.t 7),none⟩,⟨some 28,.callv (.t 26) [.t 27],none⟩,⟨some 29,.not (.t 28),none⟩])
   (.cond (.t 29)
   (.seq (.reg [⟨some 30,.mv (.t 0),none⟩,⟨some 31,.mv (.t 5),none⟩,⟨some 32,.loadn 14 (.t 7),none⟩,⟨some 33,.iad 14 (.t 30) (.t 31),none⟩,⟨none,.store 14 (.t 33) (.t 32),none⟩])
   (.reg [⟨some 34,.mv (.t 5),none⟩,⟨some 35,.bin .add (.t 34) (.c (.i .i64 1)),none⟩,⟨some 5,.mv (.t 35),none⟩]))
   .skip))))
  (.reg [⟨some 20,.mv (.t 6),none⟩,⟨some 21,.bin .add (.t 20) (.c (.i .i64 1)),none⟩,⟨some 6,.mv (.t 21),none⟩])))))
def df4:SCode:=.reg [⟨some 39,.mv (.t 0),none⟩,⟨some 40,.mv (.t 5),none⟩,⟨some 41,.trn 14 (.t 39) (.t 40),none⟩,⟨some 4,.mv (.t 41),none⟩]
omit [Tabs Tryz.prog] in
theorem df_is:∃ (fn:Func) (c0 c1 c2 c3 c4:Code) (o1 o2 o3 o4:Oper),Tryz.prog.funcs[42]? = some fn ∧ fn.body=some (.seq c0 (.seq c1 (.seq c2 (.seq c3 (.seq (.region 11 #[o1,o2,o3,o4] false) (.seq c4 .ret)))))) ∧ fn.ntmps=42 ∧ fn.results.toList.mapM (zda Tryz.prog)=some [.tmp 4] ∧
  trC Tryz.prog c0=some df0 ∧ trC Tryz.prog c1=some df1 ∧ trC Tryz.prog c2=some df2 ∧ trC Tryz.prog c3=some df3 ∧ trC Tryz.prog c4=some df4 ∧
  (o1.op=.move (.tmp 0) ∧ o1.dst=some 36 ∧ o1.guard=none) ∧ (o2.op=.move (.tmp 5) ∧ o2.dst=some 37 ∧ o2.guard=none) ∧ (o3.op=.slice 22 (.tmp 36) (some (.tmp 37)) none none ∧ o3.dst=some 38 ∧ o3.guard=none) ∧
  (o4.op=.call { callee:=.builtin .clear,args:=#[.tmp 38],argTypes:=#[22] } ∧ o4.dst=none ∧ o4.guard=none) :=
 ⟨_,_,_,_,_,_,_,_,_,_,Tryz.func42,rfl,rfl,by kernel_rfl,by kernel_rfl,by kernel_rfl,by kernel_rfl,by kernel_rfl,by kernel_rfl,⟨rfl,rfl,rfl⟩,⟨rfl,rfl,rfl⟩,⟨rfl,rfl,rfl⟩,⟨rfl,rfl,rfl⟩⟩
omit [Tabs Tryz.prog] in
theorem take_set {W:List En} {i:Nat} (h:i < W.length) (e:En):(W.set i e).take (i + 1)=W.take i ++ [e]:=by
 rw [List.take_succ_eq_append_getElem (by rw [List.length_set]; exact h),List.getElem_set_self,List.take_set_of_le (Nat.le_refl _)]
theorem zjN {now c q gen:Nat} (L:List En) (hn:L.length ≤ 1000) (hqc:q ≠ c) (hc:objs[c]? = some (nowB now)) (hq:objs[q]? = some (.orow 43 14 gen L.length (ecs L)))
  (hk:∀ o gen',Kps q objs o → o[q]? = some (.orow 43 14 gen' (L.filter (zaC now)).length (ecs (L.filter (zaC now)))) → K o (.orow q gen')) :
  zae Tryz.prog 42 [.orow q gen,.fn 43 [] [.p c 0]] objs K:=by
 obtain ⟨fn,c0,c1,c2,c3,c4,o1,o2,o3,o4,h1,h2,h3,h4,p0,p1,p2,p3,p4,a1,a2,a3,a4⟩:=df_is
 refine fn_inW h1 h2 h3 h4 fun C _ => ?_
 refine zcp p0 (fun o t => objs=o ∧ t.length=42 ∧ t[0]? = some (.orow q gen) ∧ t[1]? = some (.fn 43 [] [.p c 0])) ?_ ?_
 ·unfold df0
  simp only [sxZ,z6,z7,z8,j4,j5,j6,j7,j8,j9,x0,x3,x4,x5,x6,x7,reduceCtorEq,↓reduceIte,tkn]
  all_goals exact ⟨rfl,rfl,rfl,rfl⟩
 rintro _ tm ⟨rfl,hlen,t0,t1⟩
 refine zcp p1 (fun o t => Kps q objs o ∧ o[q]? = some (.orow 43 14 gen L.length (ecs L)) ∧ t.length=42 ∧ t[0]? = some (.orow q gen) ∧ t[1]? = some (.fn 43 [] [.p c 0]) ∧ ((t[5]? = some (.i .i64 (-1)) ∧ ∀ e ∈ L,zaC now e=true) ∨ ∃ i:Nat,t[5]? = some (.i .i64 i) ∧ ∃ h:i < L.length,(∀ e ∈ L.take i,zaC now e=true) ∧ zaC now L[i]=false)) ?_ ?_
 ·unfold df1
  simp only [sxZ,z6,z7,z8,j4,j5,j6,j7,j8,j9,x0,x3,x4,x5,x6,x7,reduceCtorEq,↓reduceIte,List.getElem?_set,hlen,t0,t1]
  refine zap (idxF_k L hn hqc hc hq (fun o k1 k2 k3 => ?_) fun o i k1 k2 k3 hi k4 => ?_)
  ·simp only [sxZ,z6,z7,z8,j4,j5,j6,j7,j8,j9,x0,x3,x4,x5,x6,x7,reduceCtorEq,↓reduceIte,tkn,List.getElem?_set,List.length_set,hlen,t0,t1]
   exact ⟨k1,k2,.inl k3⟩
  ·simp only [sxZ,z6,z7,z8,j4,j5,j6,j7,j8,j9,x0,x3,x4,x5,x6,x7,reduceCtorEq,↓reduceIte,tkn,List.getElem?_set,List.length_set,hlen,t0,t1]
   exact ⟨k1,k2,.inr ⟨i,rfl,hi,k3,k4⟩⟩
 clear hlen t0 t1
 rintro o tm ⟨hK,hoq,hlen,t0,t1,h5⟩
 refine zcp p2 (fun o t => Kps q objs o ∧ o[q]? = some (.orow 43 14 gen L.length (ecs L)) ∧ t.length=42 ∧ t[0]? = some (.orow q gen) ∧ t[1]? = some (.fn 43 [] [.p c 0]) ∧ ∃ i:Nat,t[5]? = some (.i .i64 i) ∧ ∃ h:i < L.length,(∀ e ∈ L.take i,zaC now e=true) ∧ zaC now L[i]=false) ?_ ?_
 ·unfold df2
  refine zaa fun X hX => ?_
  rcases h5 with ⟨t5,hall⟩ | ⟨i,t5,hi,k3,k4⟩
  ·simp only [sxZ,z6,z7,z8,j4,j5,j6,j7,j8,j9,x0,x3,x4,x5,x6,x7,reduceCtorEq,↓reduceIte,List.getElem?_set,hlen,t0,t1,t5]
   subst hX
   simp only [sxZ,z6,z7,z8,j4,j5,j6,j7,j8,j9,x0,x3,x4,x5,x6,x7,reduceCtorEq,↓reduceIte,tkr,List.getElem?_set,List.length_set,hlen,t0,t1,t5]
   have e:=List.filter_eq_self.2 hall
   have:=hk o gen hK (by rw [e]; exact hoq)
   exact this
  ·have hne:¬ (i:Int)=-1:=by omega
   simp only [sxZ,z6,z7,z8,j4,j5,j6,j7,j8,j9,x0,x3,x4,x5,x6,x7,reduceCtorEq,↓reduceIte,List.getElem?_set,hlen,t0,t1,t5,hne]
   subst hX
   simp only [sxZ,z6,z7,z8,j4,j5,j6,j7,j8,j9,x0,x3,x4,x5,x6,x7,reduceCtorEq,↓reduceIte,tkn,List.getElem?_set,List.length_set,hlen,t0,t1,t5]
   exact ⟨hK,hoq,i,rfl,hi,k3,k4⟩
 clear hK hoq hlen t0 t1 h5
 rintro o tm ⟨hK,hoq,hlen,t0,t1,i0,t5,hi0,k3,k4⟩
 refine zcp p3 (fun o t => Kps q objs o ∧ t.length=42 ∧ t[0]? = some (.orow q gen) ∧ ∃ (i:Nat) (W:List En),t[5]? = some (.i .i64 i) ∧ i < L.length ∧ W.length=L.length ∧ W.take i=L.filter (zaC now) ∧ o[q]? = some (.orow 43 14 gen L.length (ecs W))) ?_ ?_
 ·unfold df3
  refine zaa fun X hX => ?_
  simp only [sxZ,z6,z7,z8,j4,j5,j6,j7,j8,j9,x0,x3,x4,x5,x6,x7,reduceCtorEq,↓reduceIte,List.getElem?_set,hlen,t5]
  refine ⟨by omega,?_⟩
  subst hX
  rw [za2]
  refine zaF (fun m o t => ∃ (i j:Nat) (W:List En),m=L.length - j ∧ j ≤ L.length ∧ i < j ∧ Kps q objs o ∧ W.length=L.length ∧ W.take i=(L.take j).filter (zaC now) ∧ W.drop j=L.drop j ∧ o[q]? = some (.orow 43 14 gen L.length (ecs W)) ∧ t.length=42 ∧ t[0]? = some (.orow q gen) ∧ t[1]? = some (.fn 43 [] [.p c 0]) ∧ t[5]? = some (.i .i64 i) ∧ t[6]? = some (.i .i64 j)) (L.length - (i0 + 1)) ⟨i0,i0 + 1,L,rfl,by omega,by omega,hK,rfl,?_,rfl,hoq,?_⟩ ?_
  ·rw [List.take_succ_eq_append_getElem hi0,List.filter_append,List.filter_eq_self.2 k3,List.filter_cons_of_neg (by rw [k4]; decide),List.filter_nil,List.append_nil]
  ·simp only [sxZ,z6,z7,z8,j4,j5,j6,j7,j8,j9,x0,x3,x4,x5,x6,x7,reduceCtorEq,↓reduceIte,List.getElem?_set,List.length_set,hlen,t0,t1,t5]
   rfl
  clear hK hoq hlen t0 t1 t5 k3 k4 hi0 i0
  rintro m N tm ⟨i,j,W,rfl,hj,hij,hN,hWl,hWt,hWd,hNq,hlen,t0,t1,t5,t6⟩
  have hel:=zaJ W
  have hNc:=hN c _ (fun e => hqc e.symm) hc
  refine zaa fun Z hZ => ?_
  refine zaa fun X hX => ?_
  by_cases hlt:j < L.length
  ·have hlt':(j:Int) < (L.length:Int):=by omega
   have hjW:j < W.length:=by omega
   have hWj:W[j]=L[j]:=by
    have h:=hWd
    rw [List.drop_eq_getElem_cons hjW,List.drop_eq_getElem_cons hlt] at h
    injection h
   have hWd':W.drop (j + 1)=L.drop (j + 1):=by
    have h:=hWd
    rw [List.drop_eq_getElem_cons hjW,List.drop_eq_getElem_cons hlt] at h
    injection h
   have a1:=zcl hjW
   have hnx:(L.take (j + 1)).filter (zaC now)=(L.take j).filter (zaC now) ++ if zaC now L[j]=true then [L[j]] else []:=by
    rw [List.take_succ_eq_append_getElem hlt,List.filter_append]
    congr 1
    cases c:zaC now L[j]
    ·rw [if_neg Bool.false_ne_true,List.filter_cons_of_neg (by rw [c]; decide),List.filter_nil]
    ·rw [if_pos rfl,List.filter_cons_of_pos c,List.filter_nil]
   rw [hWj] at a1
   have hes:=fun e => zjq (L:=W) (i:=i) (by omega) e
   generalize hE:L[j]=e at *
   simp only [sxZ,z6,z7,z8,j4,j5,j6,j7,j8,j9,x0,x3,x4,x5,x6,x7,reduceCtorEq,↓reduceIte,List.getElem?_set,hlen,t0,t6,hNq,hlt']
   subst hX
   simp only [sxZ,z6,z7,z8,j4,j5,j6,j7,j8,j9,x0,x3,x4,x5,x6,x7,reduceCtorEq,↓reduceIte,List.getElem?_set,hlen,t0,t6,hNq,hlt']
   subst hZ
   refine zaa fun Z hZ => ?_
   rw [za2]
   refine zaa fun X hX => ?_
   simp only [sxZ,z6,z7,z8,j4,j5,j6,j7,j8,j9,x0,x3,x4,x5,x6,x7,reduceCtorEq,↓reduceIte,List.getElem?_set,hlen,t0,t6,hNq,Int.toNat_natCast,a1,gn1,sn1]
   refine ⟨by omega,by omega,?_⟩
   have hM:=hN.app (bxE e)
   have hMq:=zaw (X:=bxE e) hNq
   have hMc:=zaw (X:=bxE e) hNc
   have hMe:(N ++ [bxE e])[N.length]? = some (bxE e):=gn1 _ _
   generalize N ++ [bxE e]=M at hM hMq hMc hMe ⊢
   subst hX
   refine zaa fun X hX => ?_
   simp only [sxZ,z6,z7,z8,j4,j5,j6,j7,j8,j9,x0,x3,x4,x5,x6,x7,reduceCtorEq,↓reduceIte,List.getElem?_set,hlen,t0,t1,t5,t6,hMe]
   refine zfO zeq (exp1_k e hMc ?_)
   have hR:=hM.app (bxE e)
   have hRq:=zaw (X:=bxE e) hMq
   have hRe:=zaw (X:=bxE e) hMe
   generalize M ++ [bxE e]=R at hR hRq hRe ⊢
   cases hk2:zaC now e with
   | false =>
    rw [hk2,if_neg Bool.false_ne_true,List.append_nil] at hnx
    simp only [sxZ,z6,z7,z8,j4,j5,j6,j7,j8,j9,x0,x3,x4,x5,x6,x7,reduceCtorEq,↓reduceIte,List.getElem?_set,hlen,t0,t1,t5,t6,Bool.not_false,Bool.not_true]
    subst hX
    simp only [sxZ,z6,z7,z8,j4,j5,j6,j7,j8,j9,x0,x3,x4,x5,x6,x7,reduceCtorEq,↓reduceIte,List.getElem?_set,hlen,t0,t1,t5,t6]
    subst hZ
    simp only [sxZ,z6,z7,z8,j4,j5,j6,j7,j8,j9,x0,x3,x4,x5,x6,x7,reduceCtorEq,↓reduceIte,List.getElem?_set,List.length_set,hlen,t0,t1,t5,t6]
    exact ⟨by omega,L.length - (j + 1),by omega,i,j + 1,W,rfl,by omega,by omega,hR,hWl,by rw [hnx]; exact hWt,hWd',hRq,rfl,rfl⟩
   | true =>
    rw [hk2,if_pos rfl] at hnx
    simp only [sxZ,z6,z7,z8,j4,j5,j6,j7,j8,j9,x0,x3,x4,x5,x6,x7,reduceCtorEq,↓reduceIte,List.getElem?_set,hlen,t0,t1,t5,t6,Bool.not_false,Bool.not_true]
    subst hX
    have hil:(i:Int) < (L.length:Int):=by omega
    simp only [sxZ,z6,z7,z8,j4,j5,j6,j7,j8,j9,x0,x3,x4,x5,x6,x7,reduceCtorEq,↓reduceIte,List.getElem?_set,hlen,t0,t1,t5,t6,hRe,hRq,Int.toNat_natCast]
    refine ⟨by omega,by omega,by omega,?_⟩
    rw [show List.take (i * 14) (ecs W) ++ clE e ++ List.drop (i * 14 + 14) (ecs W)=ecs (W.set i e) from hes e]
    have hiW:i < W.length:=by omega
    subst hZ
    simp only [sxZ,z6,z7,z8,j4,j5,j6,j7,j8,j9,x0,x3,x4,x5,x6,x7,reduceCtorEq,↓reduceIte,List.getElem?_set,List.length_set,hlen,t0,t1,t5,t6]
    exact ⟨by omega,L.length - (j + 1),by omega,i + 1,j + 1,W.set i e,rfl,by omega,by omega,hR.set _,by rw [List.length_set,hWl],by rw [take_set hiW,hWt,hnx],by rw [List.drop_set_of_lt (by omega)]; exact hWd',by rw [if_pos (zbE hRq)],rfl,rfl⟩
  ·have hlt':¬ (j:Int) < (L.length:Int):=by omega
   obtain rfl:j=L.length:=by omega
   rw [List.take_length] at hWt
   simp only [sxZ,z6,z7,z8,j4,j5,j6,j7,j8,j9,x0,x3,x4,x5,x6,x7,reduceCtorEq,↓reduceIte,List.getElem?_set,hlen,t0,t6,hNq,hlt']
   subst hX
   simp only [sxZ,z6,z7,z8,j4,j5,j6,j7,j8,j9,x0,x3,x4,x5,x6,x7,reduceCtorEq,↓reduceIte,List.getElem?_set,hlen,t0,t6,hNq,hlt']
   simp only [sxZ,z6,z7,z8,j4,j5,j6,j7,j8,j9,x0,x3,x4,x5,x6,x7,reduceCtorEq,↓reduceIte,tkn,List.getElem?_set,List.length_set,hlen,t0,t1,t5,t6]
   exact ⟨hN,i,W,rfl,hij,hWl,hWt,hNq⟩
 clear hK hoq hlen t0 t1 t5 k3 k4
 rintro o tm ⟨hK,hlen,t0,i,W,t5,hi,hWl,hWt,hoq⟩
 obtain ⟨i00,z,hi00,hz0,hzs,hs0,_⟩:=Tryz.infoE2
 have t22:Tryz.prog.underlying 22=some (.slice 43):=by kernel_rfl
 refine WP.seq (clear_wp t22 hi00 z (fun w => by simp [zeroValue,typeInfo,hi00,hz0]) (by rw [hzs,hs0]) ?_ (by rw [hs0]; decide) a1 a2 a3 a4 t0 t5 (by rw [hs0]; exact hoq) hi (by omega) fun vs hvs => ?_)
 ·have h:(Tryz.prog.info? 43).bind (·.zero)=some z:=by rw [hi00]; exact hz0
  have h2:((Tryz.prog.info? 43).bind (·.zero)).map (fun z => z.cells.toList.all (·.oneCell'))=some true:=by kernel_rfl
  rw [h,Option.map_some,Option.some.injEq,List.all_eq_true] at h2
  exact h2
 rw [hs0] at hvs ⊢
 rw [tkn]
 have hel:=zaJ W
 have hi14:(i + 1) * 14 ≤ W.length * 14:=Nat.mul_le_mul_right _ (by omega)
 have htk:(List.take (i * 14) (ecs W) ++ vs).take (i * 14)=ecs (L.filter (zaC now)):=by
  rw [List.take_left' (by rw [List.length_take,hel]; omega),zcF,hWt]
 have hil:i=(L.filter (zaC now)).length:=by rw [← hWt,List.length_take]; omega
 have hset:=zbr (X:=.orow 43 14 gen L.length (List.take (i * 14) (ecs W) ++ vs)) hoq
 have hK2:=hK.set (.orow 43 14 gen L.length (List.take (i * 14) (ecs W) ++ vs))
 generalize o.set q (.orow 43 14 gen L.length (List.take (i * 14) (ecs W) ++ vs))=N at hset hK2 ⊢
 refine zcp p4 (fun o t => ∃ gen',Kps q objs o ∧ o[q]? = some (.orow 43 14 gen' (L.filter (zaC now)).length (ecs (L.filter (zaC now)))) ∧ t[4]? = some (.orow q gen')) ?_ ?_
 ·unfold df4
  have hi':(i:Int) ≤ (L.length:Int):=by omega
  simp only [sxZ,z6,z7,z8,j4,j5,j6,j7,j8,j9,x0,x3,x4,x5,x6,x7,reduceCtorEq,↓reduceIte,List.getElem?_set,List.length_set,hlen,t0,t5,hset,Int.toNat_natCast]
  refine ⟨by omega,?_⟩
  rw [tkn]
  refine ⟨gen + 1,hK2.set _,?_,?_⟩
  ·rw [zbr hset,htk,← hil]
  ·rw [List.getElem?_set_self (by simp only [List.length_set,hlen]; decide)]
 rintro o tm ⟨gen',k1,k2,t4⟩
 refine WP.ret ?_
 have:=hk o gen' k1 k2
 simp only [sxZ,z6,z7,z8,j4,j5,j6,j7,j8,j9,x0,x3,x4,x5,x6,x7,reduceCtorEq,↓reduceIte,t4]
 exact this
end
end
end Go.Proofs.YtbeoijfmfkifeaaGreatDoor
namespace Go.Proofs.YtbeoijfmfkifeaaGreatDoor
open Nat renaming reduceAdd → z6, reduceSub → z7, reduceLeDiff → z8, reduceLT → j4, reduceMul → j5, reduceEqDiff → j6
open Int renaming reduceToNat → j7, reduceAdd → j8, reduceSub → j9, reduceMul → x0, reduceNeg → x3, reduceLT → x4, reduceLE → x5, reduceEq → x6, reduceNe → x7
open Go.RowKit Sx
section
attribute [local irreducible] run
section
variable [Tabs Tryz.prog] {objs:List OB} {K:List OB → AV → Prop}
theorem idxN_k (f:AV) (hk:K objs (.i .i64 (-1))):zae Tryz.prog 64 [.nil,f] objs K:=by
 refine za3 is_slices_IndexFunc__api_Entry_api_Entry fun C _ => ?_
 rw [c_slices_IndexFunc__api_Entry_api_Entry]
 refine zaa fun Y hY => ?_
 simp only [sxZ,z6,z7,z8,j4,j5,j6,j7,j8,j9,x0,x3,x4,x5,x6,x7,reduceCtorEq,↓reduceIte]
 subst hY
 refine zaa fun Y hY => ?_
 refine zaa fun X hX => ?_
 simp only [sxZ,z6,z7,z8,j4,j5,j6,j7,j8,j9,x0,x3,x4,x5,x6,x7,reduceCtorEq,↓reduceIte]
 subst hX
 simp only [sxZ,z6,z7,z8,j4,j5,j6,j7,j8,j9,x0,x3,x4,x5,x6,x7,reduceCtorEq,↓reduceIte]
 refine zaF (fun m o tm => o=objs ∧ tm.length=19 ∧ tm[7]? = some (.i .i64 0) ∧ tm[8]? = some (.i .i64 0)) 0 ⟨rfl,rfl,rfl,rfl⟩ ?_
 rintro m _ tm ⟨rfl,hlen,t7,t8⟩
 refine zaa fun Z hZ => ?_
 simp only [sxZ,z6,z7,z8,j4,j5,j6,j7,j8,j9,x0,x3,x4,x5,x6,x7,reduceCtorEq,↓reduceIte,List.getElem?_set,hlen,t7,t8]
 subst hZ
 subst hY
 simp only [sxZ,z6,z7,z8,j4,j5,j6,j7,j8,j9,x0,x3,x4,x5,x6,x7,reduceCtorEq,↓reduceIte,List.getElem?_set,hlen,t7,t8]
 exact hk
theorem zjM (f:AV) (hk:K objs .nil):zae Tryz.prog 42 [.nil,f] objs K:=by
 obtain ⟨fn,c0,c1,c2,c3,c4,o1,o2,o3,o4,h1,h2,h3,h4,p0,p1,p2,p3,p4,a1,a2,a3,a4⟩:=df_is
 refine fn_inW h1 h2 h3 h4 fun C _ => ?_
 refine zcp p0 (fun o t => objs=o ∧ t.length=42 ∧ t[0]? = some .nil ∧ t[1]? = some f) ?_ ?_
 ·unfold df0
  simp only [sxZ,z6,z7,z8,j4,j5,j6,j7,j8,j9,x0,x3,x4,x5,x6,x7,reduceCtorEq,↓reduceIte,tkn]
 rintro _ tm ⟨rfl,hlen,t0,t1⟩
 refine zcp p1 (fun o t => objs=o ∧ t.length=42 ∧ t[0]? = some .nil ∧ t[5]? = some (.i .i64 (-1))) ?_ ?_
 ·unfold df1
  simp only [sxZ,z6,z7,z8,j4,j5,j6,j7,j8,j9,x0,x3,x4,x5,x6,x7,reduceCtorEq,↓reduceIte,List.getElem?_set,hlen,t0,t1]
  refine zap (idxN_k f ?_)
  simp only [sxZ,z6,z7,z8,j4,j5,j6,j7,j8,j9,x0,x3,x4,x5,x6,x7,reduceCtorEq,↓reduceIte,tkn,List.getElem?_set,List.length_set,hlen,t0,t1,and_self]
 clear hlen t0 t1
 rintro _ tm ⟨rfl,hlen,t0,t5⟩
 refine zcp p2 (fun o t => False) ?_ (fun o t h => h.elim)
 unfold df2
 refine zaa fun X hX => ?_
 simp only [sxZ,z6,z7,z8,j4,j5,j6,j7,j8,j9,x0,x3,x4,x5,x6,x7,reduceCtorEq,↓reduceIte,List.getElem?_set,hlen,t0,t5]
 subst hX
 simp only [sxZ,z6,z7,z8,j4,j5,j6,j7,j8,j9,x0,x3,x4,x5,x6,x7,reduceCtorEq,↓reduceIte,tkr,List.getElem?_set,List.length_set,hlen,t0,t5]
 exact hk
theorem zh1 (cap now:Nat) (L:List En) (hn:L.length ≤ 1000) (hk:K objs (zaW cap (L.filter (zaC now)))):zae Tryz.prog 23 [zaW cap L,.i .u64 now] objs K:=by
 have hel:=zaJ L
 have hpp:∀ M:List En,∀ o,zcf o 4 (ecs M)=some (ecs M):=fun M o => zbC o 3 _
 refine cres (zaW cap (L.filter (zaC now))) ?_
 refine zaU is_cache_Expire (by simp only [zaW,zak,AV.plain,zat,Bool.and_self]) fun C _ => ?_
 rw [c_cache_Expire]
 refine zaa fun Y hY => ?_
 simp only [zaW,sxZ,z6,z7,z8,j4,j5,j6,j7,j8,j9,x0,x3,x4,x5,x6,x7,reduceCtorEq,↓reduceIte]
 subst hY
 refine zaa fun Y hY => ?_
 simp only [sxZ,z6,z7,z8,j4,j5,j6,j7,j8,j9,x0,x3,x4,x5,x6,x7,reduceCtorEq,↓reduceIte]
 refine zap (zdZ L (by omega) (fun hL => ?_) ?_)
 ·subst hL
  simp only [sxZ,z6,z7,z8,j4,j5,j6,j7,j8,j9,x0,x3,x4,x5,x6,x7,reduceCtorEq,↓reduceIte]
  refine zap (zjM _ ?_)
  simp only [sxZ,z6,z7,z8,j4,j5,j6,j7,j8,j9,x0,x3,x4,x5,x6,x7,reduceCtorEq,↓reduceIte]
  subst hY
  simp only [sxZ,z6,z7,z8,j4,j5,j6,j7,j8,j9,x0,x3,x4,x5,x6,x7,reduceCtorEq,↓reduceIte]
  exact ⟨fun G I y hy => dagg hy,hk⟩
 ·simp only [sxZ,z6,z7,z8,j4,j5,j6,j7,j8,j9,x0,x3,x4,x5,x6,x7,reduceCtorEq,↓reduceIte]
  refine zap (zjN (now:=now) L hn (by decide) rfl rfl fun o gen' k1 k2 => ?_)
  have b0:=k1 0 _ (by decide) rfl
  have b2:=k1 2 _ (by decide) rfl
  have l0:=zbE b0
  have l2:=zbE b2
  generalize L.filter (zaC now)=F at *
  simp only [sxZ,z6,z7,z8,j4,j5,j6,j7,j8,j9,x0,x3,x4,x5,x6,x7,reduceCtorEq,↓reduceIte,b0]
  subst hY
  simp only [hpp,sxZ,z6,z7,z8,j4,j5,j6,j7,j8,j9,x0,x3,x4,x5,x6,x7,reduceCtorEq,↓reduceIte,List.getElem?_set,List.length_set,b0,b2,k2,l0,l2]
  exact ⟨fun G I y hy => hy,hk⟩
end
end
end Go.Proofs.YtbeoijfmfkifeaaGreatDoor
namespace Go.Proofs.YtbeoijfmfkifeaaGreatDoor
open Go.RowKit Sx
theorem zfB:∀ {L:List En} {w j:Nat} (h:j < L.length),j < plE w L → L[j].k < w
 | e :: L,w,j,h,hj => by
  by_cases c:e.k < w
  ·have hp:plE w (e :: L)=plE w L + 1:=by unfold plE; rw [List.takeWhile_cons_of_pos (by simpa using c)]; rfl
   cases j with
   | zero => exact c
   | succ j => exact zfB (L:=L) (Nat.lt_of_succ_lt_succ h) (by omega)
  ·have hp:plE w (e :: L)=0:=by unfold plE; rw [List.takeWhile_cons_of_neg (by simpa using c)]; rfl
   omega
theorem zfC:∀ {L:List En} {w j:Nat},L.Pairwise (fun a b => a.k < b.k) → (h:j < L.length) → plE w L ≤ j → w ≤ L[j].k
 | e :: L,w,j,hs,h,hj => by
  rw [List.pairwise_cons] at hs
  by_cases c:e.k < w
  ·have hp:plE w (e :: L)=plE w L + 1:=by unfold plE; rw [List.takeWhile_cons_of_pos (by simpa using c)]; rfl
   cases j with
   | zero => omega
   | succ j => exact zfC (L:=L) hs.2 (Nat.lt_of_succ_lt_succ h) (by omega)
  ·cases j with
   | zero => exact Nat.le_of_not_lt c
   | succ j =>
    have:=hs.1 _ (List.getElem_mem (Nat.lt_of_succ_lt_succ h))
    show w ≤ (L[j]'(Nat.lt_of_succ_lt_succ h)).k
    omega
theorem ziY {w:Nat} {L:List En} (h:¬ zdr w L=true) {j:Nat} (hj:j < L.length):L[j].k ≠ w:=fun e => h (List.any_eq_true.2 ⟨_,List.getElem_mem hj,decide_eq_true e⟩)
theorem ziR {M:List En} {e:En} {p:Nat} (hs:zcy M) (he:e.k < 20) (h1:∀ j (h:j < M.length),j < p → M[j].k < e.k) (h2:∀ j (h:j < M.length),p ≤ j → e.k < M[j].k):zcy (M.take p ++ [e] ++ M.drop p):=by
 have ha:∀ a ∈ M.take p,a.k < e.k:=by
  intro a ha
  obtain ⟨i,hi,rfl⟩:=List.getElem_of_mem ha
  rw [List.length_take] at hi
  rw [List.getElem_take]
  exact h1 i (by omega) (by omega)
 have hb:∀ b ∈ M.drop p,e.k < b.k:=by
  intro b hb
  obtain ⟨i,hi,rfl⟩:=List.getElem_of_mem hb
  rw [List.length_drop] at hi
  rw [List.getElem_drop]
  exact h2 _ (by omega) (by omega)
 refine ⟨List.pairwise_append.2 ⟨List.pairwise_append.2 ⟨hs.1.sublist (List.take_sublist _ _),List.pairwise_singleton _ _,fun a h b hb2 => ?_⟩,hs.1.sublist (List.drop_sublist _ _),fun a h b h3 => ?_⟩,fun x hx => ?_⟩
 ·rw [List.mem_singleton.1 hb2]; exact ha a h
 ·have:=hb b h3
  rcases List.mem_append.1 h with h | h
  ·have:=ha a h; omega
  ·rw [List.mem_singleton.1 h]; exact this
 ·rcases List.mem_append.1 hx with h | h
  ·rcases List.mem_append.1 h with h | h
   ·exact hs.2 x (List.mem_of_mem_take h)
   ·rw [List.mem_singleton.1 h]; exact he
  ·exact hs.2 x (List.mem_of_mem_drop h)
theorem putE_srt {cap:Nat} {e:En} {L:List En} (hs:zcy L) (he:e.k < 20):zcy (zeH cap e L):=by
 unfold zeH
 split
 ·rename_i h
  have hp:=zf6 h hs
  have hk:L[plE e.k L].k=e.k:=by
   obtain ⟨x,hx,hxk⟩:=List.any_eq_true.1 h
   have hxk:=of_decide_eq_true hxk
   obtain ⟨j,hj,rfl⟩:=List.getElem_of_mem hx
   have g:=zfC hs.1 hp (Nat.le_refl (plE e.k L))
   rcases Nat.lt_trichotomy j (plE e.k L) with c | c | c
   ·have:=zfB hj c; omega
   ·subst c; exact hxk
   ·have:=zbR hs hj c; omega
  refine ⟨?_,fun x hx => ?_⟩
  ·have hm:(L.set (plE e.k L) e).map En.k=L.map En.k:=by
    rw [List.map_set]
    have h3:e.k=(L.map En.k)[plE e.k L]'(by rw [List.length_map]; exact hp):=by rw [List.getElem_map]; exact hk.symm
    generalize plE e.k L=p at *
    rw [h3]
    exact List.set_getElem_self _
   have h2:((L.set (plE e.k L) e).map En.k).Pairwise (· < ·):=by rw [hm,List.pairwise_map]; exact hs.1
   rw [List.pairwise_map] at h2
   exact h2
  ·rcases List.mem_or_eq_of_mem_set hx with h | rfl
   ·exact hs.2 x h
   ·exact he
 rename_i h
 split
 ·have hm0:∀ j (hj:j < L.length),j < plE e.k L → L[j].k < e.k:=fun j hj hp => zfB hj hp
  have hm1:∀ j (hj:j < L.length),plE e.k L ≤ j → e.k < L[j].k:=fun j hj hp => by
   have:=zfC hs.1 hj hp
   have:=ziY h hj
   omega
  generalize zch L=m
  generalize plE e.k L=p at *
  have hsM:zcy (L.eraseIdx m):=⟨hs.1.sublist (List.eraseIdx_sublist L m),fun x hx => hs.2 x ((List.eraseIdx_sublist L m).subset hx)⟩
  refine ziR hsM he (fun j hj hjp => ?_) fun j hj hjp => ?_
  ·rw [List.getElem_eraseIdx]
   have hl:=List.length_eraseIdx_le L m
   split
   ·exact hm0 j _ (by split at hjp <;> omega)
   ·exact hm0 (j + 1) _ (by split at hjp <;> omega)
  ·rw [List.getElem_eraseIdx]
   split
   ·exact hm1 j _ (by split at hjp <;> omega)
   ·exact hm1 (j + 1) _ (by split at hjp <;> omega)
 ·exact ziR hs he (fun j hj hp => zfB hj hp) fun j hj hp => by
   have:=zfC hs.1 hj hp
   have:=ziY h hj
   omega
theorem putE_cap {cap:Nat} {e:En} {L:List En} (hl:L.length ≤ cap) (hc:0 < cap):(zeH cap e L).length ≤ cap:=by
 unfold zeH
 split
 ·rw [List.length_set]; exact hl
 split
 ·have h0:0 < L.length:=by omega
  have hm:=(zei h0).1
  have:=List.length_eraseIdx_of_lt hm
  simp only [List.length_append,List.length_take,List.length_drop,List.length_singleton]
  omega
 ·simp only [List.length_append,List.length_take,List.length_drop,List.length_singleton]
  omega
theorem zfz {cap:Nat} {e:En} {L:List En} (hs:zcy L):e ∈ zeH cap e L ∧ ∀ y ∈ zeH cap e L,y=e ∨ y ∈ L:=by
 unfold zeH
 split
 ·rename_i h
  refine ⟨List.mem_iff_getElem.2 ⟨plE e.k L,by rw [List.length_set]; exact zf6 h hs,List.getElem_set_self _⟩,fun y hy => ?_⟩
  rcases List.mem_or_eq_of_mem_set hy with h | h
  ·exact .inr h
  ·exact .inl h
 split
 ·refine ⟨by simp,fun y hy => ?_⟩
  rcases List.mem_append.1 hy with h | h
  ·rcases List.mem_append.1 h with h | h
   ·exact .inr ((List.eraseIdx_sublist L _).subset (List.mem_of_mem_take h))
   ·exact .inl (List.mem_singleton.1 h)
  ·exact .inr ((List.eraseIdx_sublist L _).subset (List.mem_of_mem_drop h))
 ·refine ⟨by simp,fun y hy => ?_⟩
  rcases List.mem_append.1 hy with h | h
  ·rcases List.mem_append.1 h with h | h
   ·exact .inr (List.mem_of_mem_take h)
   ·exact .inl (List.mem_singleton.1 h)
  ·exact .inr (List.mem_of_mem_drop h)
theorem mem_at {D:List En} {e:En} (hs:zcy D) (he:e ∈ D):zdr e.k D=true ∧ D[plE e.k D]? = some e:=by
 obtain ⟨j,hj,rfl⟩:=List.getElem_of_mem he
 have hp:plE D[j].k D=j:=zh0 (by omega) (fun i hi h => zbR hs hj h) fun i hi h => by
  rcases Nat.eq_or_lt_of_le h with rfl | h
  ·exact Nat.le_refl _
  ·exact Nat.le_of_lt (zbR hs hi h)
 exact ⟨List.any_eq_true.2 ⟨_,he,decide_eq_true rfl⟩,by rw [hp,List.getElem?_eq_getElem hj]⟩
theorem zf9 {D:List En} {e:En} {now:Nat} (hs:zcy D) (he:e ∈ D) (h1:e.t ≤ now) (h2:now < e.t + e.s):zg9 e.k now D=.tup [.agg (vc e.k e.s (.row 0 [])),.b true]:=by
 obtain ⟨a,b⟩:=mem_at hs he
 unfold zg9
 rw [if_pos a,b]
 dsimp only
 rw [if_neg (by omega)]
theorem getR_no {D:List En} {e:En} {now:Nat} (hs:zcy D) (he:e ∈ D) (h2:e.t + e.s ≤ now):zg9 e.k now D=.tup [.agg [.i .i64 0,.i .i64 0,.s [],.s [],.i .i64 0,.i .i64 0,.s [],.s [],.i .i64 0,.b false,.i .u64 0,.nil],.b false]:=by
 obtain ⟨a,b⟩:=mem_at hs he
 unfold zg9
 rw [if_pos a,b]
 dsimp only
 rw [if_pos (by omega)]
theorem okC_put {cap now k s:Nat} {L:List En} (hM:OkM cap now L) (hk:k < 20) (h1:1 ≤ s) (h2:s ≤ 86400) (hc:0 < cap) (hn:now ≤ 200):OkC cap (zeH cap ⟨k,s,now⟩ L):=by
 have ht:=hM.top
 refine ⟨by omega,putE_cap hM.len hc,putE_srt hM.srt hk,fun e he => ?_⟩
 rcases (zfz hM.srt).2 e he with rfl | h
 ·exact ⟨h1,h2,by show now + s ≤ _; omega⟩
 ·have:=hM.ent e h
  exact ⟨this.1,by omega,by omega⟩
theorem zdl {cap:Nat} {D:List En} (h:OkC cap D) (f:En → Bool):OkC cap (D.filter f) :=
 ⟨h.top,Nat.le_trans (List.length_filter_le _ _) h.len,⟨h.srt.1.filter _,fun e he => h.srt.2 e (List.mem_filter.1 he).1⟩,fun e he => h.ent e (List.mem_filter.1 he).1⟩
end Go.Proofs.YtbeoijfmfkifeaaGreatDoor
namespace Go.Proofs.YtbeoijfmfkifeaaGreatDoor
open Nat renaming reduceAdd → z6, reduceSub → z7, reduceLeDiff → z8, reduceLT → j4, reduceMul → j5, reduceEqDiff → j6
open Int renaming reduceToNat → j7, reduceAdd → j8, reduceSub → j9, reduceMul → x0, reduceNeg → x3, reduceLT → x4, reduceLE → x5, reduceEq → x6, reduceNe → x7
open Go.RowKit Sx
section
attribute [local irreducible] run
section
variable [Tabs Tryz.prog]
theorem zeC (l:List UInt8) (u:UInt8) (sec:Nat) (hl:l.length ≤ 140737488351232) (hsec:sec < 18446744073709551616):zae Tryz.prog 5 [.row l.length (byA l),.i .u8 (u.toNat:Int),.i .u64 (sec:Int)] [] (fun _ r => r=.b true):=by
 refine zaU is_law31_CacheKeeps (by simp only [zak,AV.plain,Bool.and_self,Bool.and_true]; exact zeh l) fun C _ => ?_
 rw [c_law31_CacheKeeps]
 refine zaa fun Y hY => ?_
 simp only [sxZ,z6,z7,z8,j4,j5,j6,j7,j8,j9,x0,x3,x4,x5,x6,x7,reduceCtorEq,↓reduceIte]
 subst hY
 refine zaa fun Y hY => ?_
 refine zaa fun X hX => ?_
 simp only [sxZ,z6,z7,z8,j4,j5,j6,j7,j8,j9,x0,x3,x4,x5,x6,x7,reduceCtorEq,↓reduceIte]
 refine zap (sane31_k ?_)
 simp only [sxZ,z6,z7,z8,j4,j5,j6,j7,j8,j9,x0,x3,x4,x5,x6,x7,reduceCtorEq,↓reduceIte]
 subst hX
 simp only [sxZ,z6,z7,z8,j4,j5,j6,j7,j8,j9,x0,x3,x4,x5,x6,x7,reduceCtorEq,↓reduceIte]
 subst hY
 refine zaa fun Y hY => ?_
 simp only [sxZ,z6,z7,z8,j4,j5,j6,j7,j8,j9,x0,x3,x4,x5,x6,x7,reduceCtorEq,↓reduceIte]
 refine zap (made_k l hl fun cap now L hM hnow => ?_)
 simp only [zaW,sxZ,z6,z7,z8,j4,j5,j6,j7,j8,j9,x0,x3,x4,x5,x6,x7,reduceCtorEq,↓reduceIte]
 subst hY
 refine zaa fun Y hY => ?_
 have hu:=u.toNat_lt
 have w0:IntKind.i64.wrap (u.toNat:Int)=(u.toNat:Int):=by rw [IntKind.wrap_i64]; omega
 obtain ⟨s,hs⟩:∃ s,s=1 + sec % 86400:=⟨_,rfl⟩
 have hs1:1 ≤ s:=by omega
 have hs2:s ≤ 86400:=by omega
 have w1:((sec:Int)).tmod 86400=((sec % 86400:Nat):Int):=by
  rw [Int.tmod_eq_emod_of_nonneg (by omega)]; omega
 have w2:IntKind.u64.wrap (1 + ((sec % 86400:Nat):Int))=(s:Int):=by rw [hs,IntKind.wrap_u64]; omega
 obtain ⟨k,hk⟩:∃ k,k=u.toNat % 20:=⟨_,rfl⟩
 have hk20:k < 20:=by omega
 simp only [sxZ,z6,z7,z8,j4,j5,j6,j7,j8,j9,x0,x3,x4,x5,x6,x7,reduceCtorEq,↓reduceIte,w1,w2]
 subst hY
 refine zaa fun Y hY => ?_
 simp only [sxZ,z6,z7,z8,j4,j5,j6,j7,j8,j9,x0,x3,x4,x5,x6,x7,reduceCtorEq,↓reduceIte,w0]
 refine zap (zbg u.toNat s (by omega) ?_)
 rw [← hk]
 simp only [vc,sxZ,z6,z7,z8,j4,j5,j6,j7,j8,j9,x0,x3,x4,x5,x6,x7,reduceCtorEq,↓reduceIte]
 subst hY
 refine zaa fun Y hY => ?_
 simp only [sxZ,z6,z7,z8,j4,j5,j6,j7,j8,j9,x0,x3,x4,x5,x6,x7,reduceCtorEq,↓reduceIte]
 have w3:IntKind.u64.wrap ((s:Int).tdiv 2)=((s / 2:Nat):Int):=by rw [Int.tdiv_eq_ediv_of_nonneg (by omega),IntKind.wrap_u64]; omega
 have w4:IntKind.u64.wrap ((now:Int) + ((s / 2:Nat):Int))=((now + s / 2:Nat):Int):=by rw [IntKind.wrap_u64]; omega
 have w5:IntKind.u64.wrap ((now:Int) + s)=((now + s:Nat):Int):=by rw [IntKind.wrap_u64]; omega
 have w6:IntKind.u64.wrap (((now + s:Nat):Int) - 1)=((now + s - 1:Nat):Int):=by rw [IntKind.wrap_u64]; omega
 have hcap:=hM.top
 have hlen:=hM.len
 by_cases h0:cap=0
 ·obtain rfl:L=[]:=List.eq_nil_of_length_eq_zero (by omega)
  refine zap (put0_k cap k s now h0 hk20 hs1 hs2 ?_)
  have hO:OkC cap []:=⟨by omega,by simp,zfi,by simp⟩
  have hcl:¬ (cap:Int) < ((0:Nat):Int):=by omega
  have hcz:(cap:Int)=0:=by omega
  simp only [zaW,sxZ,z6,z7,z8,j4,j5,j6,j7,j8,j9,x0,x3,x4,x5,x6,x7,reduceCtorEq,↓reduceIte]
  subst hY
  refine zaa fun Y hY => ?_
  refine zaa fun X hX => ?_
  simp only [sxZ,z6,z7,z8,j4,j5,j6,j7,j8,j9,x0,x3,x4,x5,x6,x7,reduceCtorEq,↓reduceIte]
  refine zap (zcO cap [] hO ?_)
  simp only [sxZ,z6,z7,z8,j4,j5,j6,j7,j8,j9,x0,x3,x4,x5,x6,x7,reduceCtorEq,↓reduceIte,hcl,w3,w4]
  refine zap (zh1 cap (now + s / 2) [] (by decide) ?_)
  simp only [zaW,List.filter_nil,sxZ,z6,z7,z8,j4,j5,j6,j7,j8,j9,x0,x3,x4,x5,x6,x7,reduceCtorEq,↓reduceIte]
  refine zap (zcO cap [] hO ?_)
  simp only [sxZ,z6,z7,z8,j4,j5,j6,j7,j8,j9,x0,x3,x4,x5,x6,x7,reduceCtorEq,↓reduceIte]
  subst hX
  simp only [sxZ,z6,z7,z8,j4,j5,j6,j7,j8,j9,x0,x3,x4,x5,x6,x7,reduceCtorEq,↓reduceIte]
  subst hY
  refine zaa fun Y hY => ?_
  refine zaa fun X hX => ?_
  simp only [sxZ,z6,z7,z8,j4,j5,j6,j7,j8,j9,x0,x3,x4,x5,x6,x7,reduceCtorEq,↓reduceIte,hcz]
  subst hX
  simp only [sxZ,z6,z7,z8,j4,j5,j6,j7,j8,j9,x0,x3,x4,x5,x6,x7,reduceCtorEq,↓reduceIte,hcz]
  rfl
 ·have hO:=okC_put (k:=k) (s:=s) hM hk20 hs1 hs2 (by omega) hnow
  have hmem:=(zfz (cap:=cap) (e:=⟨k,s,now⟩) hM.srt).1
  refine zap (put_k cap k s now L hM.srt hk20 hs1 hs2 (by omega) (by omega) (by omega) ?_)
  generalize zeH cap ⟨k,s,now⟩ L=D at hO hmem ⊢
  have hDl:=hO.len
  have hcl:¬ (cap:Int) < (D.length:Int):=by omega
  have hc0:¬ (cap:Int)=0:=by omega
  have g1:=zf9 (now:=now) hO.srt hmem (Nat.le_refl _) (by show now < now + s; omega)
  have g2:=getR_no (now:=now + s) hO.srt hmem (Nat.le_refl _)
  have hO2:=zdl hO (zaC (now + s - 1))
  have hmem2:(⟨k,s,now⟩:En) ∈ D.filter (zaC (now + s - 1)):=List.mem_filter.2 ⟨hmem,decide_eq_true (by show now + s - 1 < now + s; omega)⟩
  have g3:=zf9 (now:=now + s - 1) hO2.srt hmem2 (by show now ≤ now + s - 1; omega) (by show now + s - 1 < now + s; omega)
  have hO3:=zdl hO (zaC (now + s / 2))
  have hl2:=hO2.len
  simp only [zaW,sxZ,z6,z7,z8,j4,j5,j6,j7,j8,j9,x0,x3,x4,x5,x6,x7,reduceCtorEq,↓reduceIte]
  subst hY
  refine zaa fun Y hY => ?_
  refine zaa fun X hX => ?_
  simp only [sxZ,z6,z7,z8,j4,j5,j6,j7,j8,j9,x0,x3,x4,x5,x6,x7,reduceCtorEq,↓reduceIte]
  refine zap (zcO cap D hO ?_)
  simp only [sxZ,z6,z7,z8,j4,j5,j6,j7,j8,j9,x0,x3,x4,x5,x6,x7,reduceCtorEq,↓reduceIte,hcl,w3,w4]
  refine zap (zh1 cap (now + s / 2) D (by omega) ?_)
  simp only [zaW,sxZ,z6,z7,z8,j4,j5,j6,j7,j8,j9,x0,x3,x4,x5,x6,x7,reduceCtorEq,↓reduceIte]
  refine zap (zcO cap _ hO3 ?_)
  simp only [sxZ,z6,z7,z8,j4,j5,j6,j7,j8,j9,x0,x3,x4,x5,x6,x7,reduceCtorEq,↓reduceIte]
  subst hX
  simp only [sxZ,z6,z7,z8,j4,j5,j6,j7,j8,j9,x0,x3,x4,x5,x6,x7,reduceCtorEq,↓reduceIte]
  subst hY
  refine zaa fun Y hY => ?_
  refine zaa fun X hX => ?_
  simp only [sxZ,z6,z7,z8,j4,j5,j6,j7,j8,j9,x0,x3,x4,x5,x6,x7,reduceCtorEq,↓reduceIte,hc0]
  subst hX
  simp only [sxZ,z6,z7,z8,j4,j5,j6,j7,j8,j9,x0,x3,x4,x5,x6,x7,reduceCtorEq,↓reduceIte,hc0]
  subst hY
  refine zaa fun Y hY => ?_
  simp only [sxZ,z6,z7,z8,j4,j5,j6,j7,j8,j9,x0,x3,x4,x5,x6,x7,reduceCtorEq,↓reduceIte]
  refine zap (zjg cap k now D hO.srt hk20 (by omega) ?_)
  rw [show zg9 k now D=_ from g1]
  simp only [vc,sxZ,z6,z7,z8,j4,j5,j6,j7,j8,j9,x0,x3,x4,x5,x6,x7,reduceCtorEq,↓reduceIte]
  subst hY
  refine zaa fun Y hY => ?_
  simp only [sxZ,z6,z7,z8,j4,j5,j6,j7,j8,j9,x0,x3,x4,x5,x6,x7,reduceCtorEq,↓reduceIte,w5,w6]
  refine zbl (v:=zaW cap (D.filter (zaC (now + s - 1)))) (zh1 cap (now + s - 1) D (by omega) rfl) ?_ ?_ ?_
  ·simp only [zak,AV.plain,zat,Bool.and_self]
  ·simp only [zaW,zak,AV.plain,zat,Bool.and_self]
  simp only [zaW,sxZ,z6,z7,z8,j4,j5,j6,j7,j8,j9,x0,x3,x4,x5,x6,x7,reduceCtorEq,↓reduceIte,w5,w6]
  refine zbl (v:=.tup [.agg (vc k s (.row 0 [])),.b true]) (zjg cap k (now + s - 1) (D.filter (zaC (now + s - 1))) hO2.srt hk20 (by omega) g3) ?_ rfl ?_
  ·simp only [zak,AV.plain,zat,Bool.and_self]
  simp only [vc,sxZ,z6,z7,z8,j4,j5,j6,j7,j8,j9,x0,x3,x4,x5,x6,x7,reduceCtorEq,↓reduceIte,w5,w6]
  subst hY
  refine zaa fun Y hY => ?_
  simp only [sxZ,z6,z7,z8,j4,j5,j6,j7,j8,j9,x0,x3,x4,x5,x6,x7,reduceCtorEq,↓reduceIte,w5,w6]
  refine zap (zjg cap k (now + s) D hO.srt hk20 (by omega) ?_)
  rw [show zg9 k (now + s) D=_ from g2]
  simp only [sxZ,z6,z7,z8,j4,j5,j6,j7,j8,j9,x0,x3,x4,x5,x6,x7,reduceCtorEq,↓reduceIte]
  subst hY
  refine zaa fun Y hY => ?_
  simp only [sxZ,z6,z7,z8,j4,j5,j6,j7,j8,j9,x0,x3,x4,x5,x6,x7,reduceCtorEq,↓reduceIte]
  refine zap (zhs k s ?_)
  simp only [sxZ,z6,z7,z8,j4,j5,j6,j7,j8,j9,x0,x3,x4,x5,x6,x7,reduceCtorEq,↓reduceIte]
  refine zap (zhs k s ?_)
  simp only [sxZ,z6,z7,z8,j4,j5,j6,j7,j8,j9,x0,x3,x4,x5,x6,x7,reduceCtorEq,↓reduceIte]
  subst hY
  simp only [sxZ,z6,z7,z8,j4,j5,j6,j7,j8,j9,x0,x3,x4,x5,x6,x7,reduceCtorEq,↓reduceIte]
theorem cacheKeeps_c (g0:List (List AV)) (w0:g0.length ≤ 140737488351232) (h0:∀ g ∈ g0,ShT (.i .u8) g) (n1:Int) (w1:(Lit.int .u8 n1).wf=true) (n2:Int) (w2:(Lit.int .u64 n2).wf=true) :
  zae Tryz.prog 5 [.row g0.length g0.flatten,.i .u8 n1,.i .u64 n2] [] (fun _ r => r=.b true):=by
 obtain ⟨l,e1,e2⟩:=sl_u8 h0
 obtain ⟨u,rfl⟩:=sl_wf8 w1
 obtain ⟨m,hm,rfl⟩:∃ m:Nat,m < 18446744073709551616 ∧ n2=m:=by
  have h':0 ≤ n2 ∧ n2 ≤ 18446744073709551615:=by simpa [Lit.wf,IntKind.min,IntKind.max,IntKind.signed,IntKind.bits] using w2
  exact ⟨n2.toNat,by omega,by omega⟩
 rw [e1,e2]
 exact zeC l u m (e2 ▸ w0) hm
end
end
end Go.Proofs.YtbeoijfmfkifeaaGreatDoor
namespace Go.Proofs.YtbeoijfmfkifeaaGreatDoor
open Go.RowKit Sx
theorem zcb {P:Program} {w w':World} {name:String} {k:IntKind} {zs:List Int} (h:Lib.TabIs P w name k zs) (hk:∀ k,k < w.heap.size → w'.heap[k]? = w.heap[k]?):Lib.TabIs P w' name k zs:=by
 unfold Lib.TabIs World.var? at *
 cases hg:P.globalNamed name with
 | none => simp [hg] at h
 | some g =>
  simp only [hg,Option.bind_some] at h ⊢
  have hlt:g < w.heap.size:=by
   rcases Nat.lt_or_ge g w.heap.size with h' | h'
   ·exact h'
   ·rw [Array.getElem?_eq_none h'] at h; simp at h
  rw [hk g hlt]
  exact h
instance tabsN : Tabs Tryz.prog := ⟨fun w => w.ShapedOpen Tryz.prog ∧ Lib.TabIs Tryz.prog w "internal/strconv.uint64pow10" .u64 Lib.pow10Tab, fun _ _ h hk _ => ⟨zcQ h.1 hk, zcb h.2 hk⟩⟩
instance tabsN_shp:Shp Tryz.prog:=⟨fun _ h => h.1⟩
instance tabsN_pow:Pow Tryz.prog:=⟨fun _ h => h.2⟩
end Go.Proofs.YtbeoijfmfkifeaaGreatDoor
namespace Go.Proofs.YtbeoijfmfkifeaaGreatDoor
/-! ## A chunk -/
/-! ## Digits -/
/-! ## The form with chunks of one size -/
/-! ## What is cut off -/
end Go.Proofs.YtbeoijfmfkifeaaGreatDoor
namespace Go.Proofs.YtbeoijfmfkifeaaGreatDoor
end Go.Proofs.YtbeoijfmfkifeaaGreatDoor
namespace Go.Proofs.YtbeoijfmfkifeaaGreatDoor
open Go.RowKit Sx
class Brn (P:Program) [Tabs P]:Prop where
 br:∀ w:World,Tabs.T (P:=P) w → w.cell? ⟨5,15,none⟩=some (.int .u8 4)
section
variable [Tabs Tryz.prog] [Brn Tryz.prog] {objs:List OB} {K:List OB → AV → Prop}
end
end Go.Proofs.YtbeoijfmfkifeaaGreatDoor
namespace Go.Proofs.YtbeoijfmfkifeaaGreatDoor
open Go.RowKit Sx
def brnT:List Int:=[0,1,56,2,57,49,28,3,61,58,42,50,38,29,17,4,62,47,59,36,45,43,51,22,53,39,33,30,24,18,12,5,63,55,48,27,60,41,37,16,46,35,44,21,52,32,23,11,54,26,40,15,34,20,31,10,25,14,19,9,13,8,7,6]
theorem brn_of {w : World} (h : Lib.TabIs Tryz.prog w "math/bits.deBruijn64tab" .u8 brnT) : w.cell? ⟨5, 15, none⟩ = some (.int .u8 4) := h.cell (by kernel_rfl) 15 (by decide)
instance (priority := high) tabsB : Tabs Tryz.prog := ⟨fun w => w.ShapedOpen Tryz.prog ∧ Lib.TabIs Tryz.prog w "internal/strconv.uint64pow10" .u64 Lib.pow10Tab ∧ Lib.TabIs Tryz.prog w "math/bits.deBruijn64tab" .u8 brnT, fun _ _ h hk _ => ⟨zcQ h.1 hk, zcb h.2.1 hk, zcb h.2.2 hk⟩⟩
instance (priority:=high) tabsB_shp:Shp Tryz.prog:=⟨fun _ h => h.1⟩
instance (priority:=high) tabsB_pow:Pow Tryz.prog:=⟨fun _ h => h.2.1⟩
instance (priority:=high) tabsB_brn:Brn Tryz.prog:=⟨fun _ h => brn_of h.2.2⟩
end Go.Proofs.YtbeoijfmfkifeaaGreatDoor
