/- The texts that the proofs of these statements reach, in their order, as few files. -/
import Derived.Test.YtbeoijfmfkifeaaGreatDoorProg
import Derived.Test.YtbeoijfmfkifeaaGreatDoorCo6
set_option linter.unusedVariables false
set_option linter.unusedSimpArgs false
set_option maxRecDepth 100000
namespace Go.Proofs.YtbeoijfmfkifeaaGreatDoor
open Nat renaming reduceAdd → z6, reduceSub → z7, reduceLeDiff → z8, reduceLT → j4, reduceMul → j5, reduceEqDiff → j6
open Int renaming reduceToNat → j7, reduceAdd → j8, reduceSub → j9, reduceMul → x0, reduceNeg → x3, reduceLT → x4, reduceLE → x5, reduceEq → x6, reduceNe → x7
open Go.RowKit Sx
section
attribute [local irreducible] run
structure OkC (cap:Nat) (L:List En):Prop where
 top:cap ≤ 1024
 len:L.length ≤ cap
 srt:zjo L
 ent:∀ e ∈ L,1 ≤ e.s ∧ e.s ≤ 86400 ∧ e.t + e.s ≤ 18446744073709551615
theorem at0 {N:List OB} {B X:OB} (h:N[0]? = some B):(N ++ [X])[0]? = some B:=by
 cases N with
 | nil => simp at h
 | cons a N => simpa using h
section
variable [Tabs Tryz.prog] {objs:List OB} {K:List OB → AV → Prop}
theorem sound_k (cap:Nat) (L:List En) (hs:OkC cap L) (hk:K objs (.b true)):zag Tryz.prog 14 [zbX cap L] objs K:=by
 have hel:=zbh L
 have hcap:=hs.top
 have hlen0:=hs.len
 refine zbb is_cache_Sound (by simp only [zbX,zaj,AV.plain,zaJ,Bool.and_self]) fun C _ => ?_
 rw [c_cache_Sound]
 refine zaa fun Y hY => ?_
 simp only [zbX,sxZ,z6,z7,z8,j4,j5,j6,j7,j8,j9,x0,x3,x4,x5,x6,x7,reduceCtorEq,↓reduceIte]
 subst hY
 refine zaa fun Y hY => ?_
 have e1:¬ (cap:Int) < 0:=by omega
 have e2:¬ (1024:Int) < (cap:Int):=by omega
 have e3:¬ (cap:Int) < (L.length:Int):=by omega
 simp only [sxZ,z6,z7,z8,j4,j5,j6,j7,j8,j9,x0,x3,x4,x5,x6,x7,reduceCtorEq,↓reduceIte,e1,e2,e3]
 subst hY
 refine zaa fun Y hY => ?_
 simp only [sxZ,z6,z7,z8,j4,j5,j6,j7,j8,j9,x0,x3,x4,x5,x6,x7,reduceCtorEq,↓reduceIte]
 refine zaX (fun m o tm => ∃ i:Nat,m=L.length - i ∧ i ≤ L.length ∧ o[0]? = some (.box 24 [.i .i64 cap,.row L.length (ecs L)]) ∧ tm.length=60 ∧ tm[1]? = some (.p 0 0) ∧ tm[22]? = some (.row L.length (ecs L)) ∧ tm[23]? = some (.i .i64 L.length) ∧ tm[24]? = some (.i .i64 i)) L.length ⟨0,rfl,Nat.zero_le _,rfl,rfl,rfl,rfl,rfl,rfl⟩ ?_
 rintro m N tm ⟨i,rfl,hi,hN,hlen,t1,t22,t23,t24⟩
 refine zaa fun Z hZ => ?_
 by_cases hlt:i < L.length
 ·have hlt':(i:Int) < (L.length:Int):=by omega
  have a1:=zfJ hlt
  have hent:=hs.ent _ (List.getElem_mem hlt)
  have h20:=hs.srt.2 _ (List.getElem_mem hlt)
  simp only [sxZ,z6,z7,z8,j4,j5,j6,j7,j8,j9,x0,x3,x4,x5,x6,x7,reduceCtorEq,↓reduceIte,List.getElem?_set,hlen,t23,t24,hlt']
  subst hZ
  refine zaa fun Z hZ => ?_
  simp only [sxZ,z6,z7,z8,j4,j5,j6,j7,j8,j9,x0,x3,x4,x5,x6,x7,reduceCtorEq,↓reduceIte,List.getElem?_set,hlen,t23,t24,hlt']
  subst hZ
  refine zaa fun Z hZ => ?_
  refine zcc (fun o t => o[0]? = some (.box 24 [.i .i64 cap,.row L.length (ecs L)]) ∧ t.length=60 ∧ t[1]? = some (.p 0 0) ∧ t[22]? = some (.row L.length (ecs L)) ∧ t[23]? = some (.i .i64 L.length) ∧ t[24]? = some (.i .i64 i)) ?_ ?_
  ·rw [zcD]
   refine zaa fun X hX => ?_
   have a1':(List.drop (i * 14) (ecs L)).take 14=[.i .i64 0,.i .i64 1,.s (idT L[i].k),.s zgz,.i .i64 0,.i .i64 0,.s [],.s [],.i .i64 0,.b true,.i .u64 L[i].s,.row 0 [],.i .u64 L[i].t,.i .u64 (L[i].t + L[i].s:Nat)]:=a1
   simp only [sxZ,z6,z7,z8,j4,j5,j6,j7,j8,j9,x0,x3,x4,x5,x6,x7,reduceCtorEq,↓reduceIte,List.getElem?_set,hlen,t22,t24,Int.toNat_natCast,a1',gn1,sn1]
   refine ⟨by omega,by omega,?_⟩
   generalize hE:L[i]=e at *
   have hN1:(N ++ [OB.box 43 [.i .i64 0,.i .i64 1,.s (idT e.k),.s zgz,.i .i64 0,.i .i64 0,.s [],.s [],.i .i64 0,.b true,.i .u64 e.s,.row 0 [],.i .u64 e.t,.i .u64 (e.t + e.s:Nat)]])[0]? = some (.box 24 [.i .i64 cap,.row L.length (ecs L)]):=at0 hN
   have hN2:(N ++ [OB.box 43 [.i .i64 0,.i .i64 1,.s (idT e.k),.s zgz,.i .i64 0,.i .i64 0,.s [],.s [],.i .i64 0,.b true,.i .u64 e.s,.row 0 [],.i .u64 e.t,.i .u64 (e.t + e.s:Nat)]])[N.length]? = some (OB.box 43 [.i .i64 0,.i .i64 1,.s (idT e.k),.s zgz,.i .i64 0,.i .i64 0,.s [],.s [],.i .i64 0,.b true,.i .u64 e.s,.row 0 [],.i .u64 e.t,.i .u64 (e.t + e.s:Nat)]):=gn1 _ _
   generalize N ++ [OB.box 43 [.i .i64 0,.i .i64 1,.s (idT e.k),.s zgz,.i .i64 0,.i .i64 0,.s [],.s [],.i .i64 0,.b true,.i .u64 e.s,.row 0 [],.i .u64 e.t,.i .u64 (e.t + e.s:Nat)]]=M at hN1 hN2 ⊢
   subst hX
   refine zaa fun X hX => ?_
   refine zcc (fun o t => o=M ∧ t.length=60 ∧ t[1]? = some (.p 0 0) ∧ t[4]? = some (.p N.length 0) ∧ t[22]? = some (.row L.length (ecs L)) ∧ t[23]? = some (.i .i64 L.length) ∧ t[24]? = some (.i .i64 i)) ?_ ?_
   ·by_cases h0:i=0
    ·have h0':¬ (0:Int) < (i:Int):=by omega
     refine zaa fun W hW => ?_
     simp only [sxZ,z6,z7,z8,j4,j5,j6,j7,j8,j9,x0,x3,x4,x5,x6,x7,reduceCtorEq,↓reduceIte,List.getElem?_set,hlen,t1,t22,t23,t24,h0']
     subst hW
     simp only [sxZ,z6,z7,z8,j4,j5,j6,j7,j8,j9,x0,x3,x4,x5,x6,x7,reduceCtorEq,↓reduceIte,List.getElem?_set,hlen,t1,t22,t23,t24,zao,List.length_set,and_self]
    ·have h0':(0:Int) < (i:Int):=by omega
     have hp:i - 1 < L.length:=by omega
     have a2:=zfJ hp
     refine zaa fun W hW => ?_
     have ei:((i:Int) - 1).toNat=i - 1:=by omega
     have hlt2:=zin (hs.srt.2 _ (List.getElem_mem hp)) h20
     have hord:L[i - 1].k < e.k:=by rw [← hE]; exact zdk hs.srt hlt (by omega)
     rw [decide_eq_true hord] at hlt2
     simp only [sxZ,z6,z7,z8,j4,j5,j6,j7,j8,j9,x0,x3,x4,x5,x6,x7,reduceCtorEq,↓reduceIte,List.getElem?_set,hlen,t1,t22,t23,t24,h0',hN1,ei,a2]
     refine ⟨by omega,by omega,by omega,?_⟩
     refine zbr (v:=.s (idT L[i - 1].k)) (zgP _ ⟨rfl,rfl⟩) ?_
     simp only [sxZ,z6,z7,z8,j4,j5,j6,j7,j8,j9,x0,x3,x4,x5,x6,x7,reduceCtorEq,↓reduceIte,List.getElem?_set,hlen,t1,t22,t23,t24,h0',hN1,hN2]
     refine zbr (v:=.s (idT e.k)) (zgP e ⟨rfl,rfl⟩) ?_
     simp only [sxZ,z6,z7,z8,j4,j5,j6,j7,j8,j9,x0,x3,x4,x5,x6,x7,reduceCtorEq,↓reduceIte,List.getElem?_set,hlen,t1,t22,t23,t24,h0',hN1,hN2,hlt2]
     subst hW
     simp only [sxZ,z6,z7,z8,j4,j5,j6,j7,j8,j9,x0,x3,x4,x5,x6,x7,reduceCtorEq,↓reduceIte,List.getElem?_set,hlen,t1,t22,t23,t24,zao,List.length_set,and_self]
   clear hlen t1 t22 t23 t24
   rintro _ tm ⟨rfl,hlen,t1,t4,t22,t23,t24⟩
   subst hX
   have w1:IntKind.u64.wrap ((e.t:Int) + e.s)=((e.t + e.s:Nat):Int):=by rw [IntKind.wrap_u64]; omega
   refine zaa fun X hX => ?_
   simp only [sxZ,z6,z7,z8,j4,j5,j6,j7,j8,j9,x0,x3,x4,x5,x6,x7,reduceCtorEq,↓reduceIte,List.getElem?_set,hlen,t1,t4,t22,t23,t24,hN1,hN2]
   refine zbr (v:=.b true) (zet h20 hent.1 hent.2.1 ⟨rfl,rfl⟩) ?_
   simp only [sxZ,z6,z7,z8,j4,j5,j6,j7,j8,j9,x0,x3,x4,x5,x6,x7,reduceCtorEq,↓reduceIte,List.getElem?_set,hlen,t1,t4,t22,t23,t24,hN1,hN2]
   refine zbr (v:=.i .u64 (e.t + e.s:Nat)) (add_k hent.2.2 ⟨rfl,rfl⟩) ?_
   simp only [sxZ,z6,z7,z8,j4,j5,j6,j7,j8,j9,x0,x3,x4,x5,x6,x7,reduceCtorEq,↓reduceIte,List.getElem?_set,hlen,t1,t4,t22,t23,t24,hN1,hN2]
   subst hX
   simp only [sxZ,z6,z7,z8,j4,j5,j6,j7,j8,j9,x0,x3,x4,x5,x6,x7,reduceCtorEq,↓reduceIte,List.getElem?_set,hlen,t1,t4,t22,t23,t24,hN1,zao,List.length_set,and_self]
  clear hlen t1 t22 t23 t24 hN
  rintro N2 tm ⟨hN,hlen,t1,t22,t23,t24⟩
  subst hZ
  simp only [sxZ,z6,z7,z8,j4,j5,j6,j7,j8,j9,x0,x3,x4,x5,x6,x7,reduceCtorEq,↓reduceIte,List.getElem?_set,hlen,t1,t22,t23,t24]
  exact ⟨by omega,L.length - (i + 1),by omega,i + 1,rfl,by omega,hN,rfl⟩
 ·have hlt':¬ (i:Int) < (L.length:Int):=by omega
  simp only [sxZ,z6,z7,z8,j4,j5,j6,j7,j8,j9,x0,x3,x4,x5,x6,x7,reduceCtorEq,↓reduceIte,List.getElem?_set,hlen,t23,t24,hlt']
  subst hZ
  subst hY
  simp only [sxZ,z6,z7,z8,j4,j5,j6,j7,j8,j9,x0,x3,x4,x5,x6,x7,reduceCtorEq,↓reduceIte,List.getElem?_set,hlen,t23,t24,hlt']
  exact hk
omit [Tabs Tryz.prog] in
theorem srtE_nil:zjo []:=⟨List.Pairwise.nil,by simp⟩
omit [Tabs Tryz.prog] in
theorem zco (e:En) (h:e.k < 20):zjo [e]:=⟨List.pairwise_singleton _ _,by simpa using h⟩
omit [Tabs Tryz.prog] in
theorem minE_one (e:En):zcf [e]=0:=zhM ⟨by simp,fun a ha => by
 obtain rfl:a=0:=by simpa using ha
 unfold ltE; rw [if_pos rfl]; exact decide_eq_false (by omega)⟩
omit [Tabs Tryz.prog] in
theorem zhi (cap:Nat) (hc:0 < cap) (e:En):putE cap e []=[e]:=by
 unfold putE
 rw [show zda e.k []=false from rfl,show plE e.k []=0 from rfl,if_neg Bool.false_ne_true,if_neg (by simp; omega)]
 rfl
omit [Tabs Tryz.prog] in
theorem zhj (e d:En) (h:d.k < e.k):putE 1 e [d]=[e]:=by
 have h1:zda e.k [d]=false:=by simp [zda]; omega
 have h2:plE e.k [d]=1:=by simp [plE,h]
 unfold putE
 rw [h1,h2,minE_one,if_neg Bool.false_ne_true,if_pos (by simp)]
 rfl
theorem sane31_k (hk:K objs (.b true)):zag Tryz.prog 8 [] objs K:=by
 refine zbb is_law31_sane rfl fun C _ => ?_
 rw [c_law31_sane]
 refine zaa fun Y hY => ?_
 simp only [sxZ,z6,z7,z8,j4,j5,j6,j7,j8,j9,x0,x3,x4,x5,x6,x7,reduceCtorEq,↓reduceIte]
 subst hY
 refine zaa fun Y hY => ?_
 simp only [sxZ,z6,z7,z8,j4,j5,j6,j7,j8,j9,x0,x3,x4,x5,x6,x7,reduceCtorEq,↓reduceIte]
 refine zaC (new_k 1 (by decide) ?_)
 simp only [zbX,sxZ,z6,z7,z8,j4,j5,j6,j7,j8,j9,x0,x3,x4,x5,x6,x7,reduceCtorEq,↓reduceIte]
 subst hY
 refine zaa fun Y hY => ?_
 simp only [sxZ,z6,z7,z8,j4,j5,j6,j7,j8,j9,x0,x3,x4,x5,x6,x7,reduceCtorEq,↓reduceIte]
 refine zbr (v:=.agg (vc 0 100 (.row 0 []))) (za6 0 100 (by decide) ⟨rfl,rfl⟩) ?_
 simp only [sxZ,z6,z7,z8,j4,j5,j6,j7,j8,j9,x0,x3,x4,x5,x6,x7,reduceCtorEq,↓reduceIte]
 refine zbr (v:=zbX 1 [⟨0,100,0⟩]) (put_k 1 0 100 0 [] srtE_nil (by decide) (by decide) (by decide) (by decide) (by decide) (by decide) (by rw [zhi _ (by decide)]; exact ⟨rfl,rfl⟩)) ?_
 simp only [zbX,sxZ,z6,z7,z8,j4,j5,j6,j7,j8,j9,x0,x3,x4,x5,x6,x7,reduceCtorEq,↓reduceIte]
 subst hY
 refine zaa fun Y hY => ?_
 simp only [sxZ,z6,z7,z8,j4,j5,j6,j7,j8,j9,x0,x3,x4,x5,x6,x7,reduceCtorEq,↓reduceIte]
 refine zbG (v:=.agg (vc 1 5 (.row 0 []))) (za6 1 5 (by decide) rfl) rfl rfl ?_
 simp only [sxZ,z6,z7,z8,j4,j5,j6,j7,j8,j9,x0,x3,x4,x5,x6,x7,reduceCtorEq,↓reduceIte]
 refine zbG (v:=zbX 1 [⟨1,5,0⟩]) (put_k 1 1 5 0 [⟨0,100,0⟩] (zco _ (by decide)) (by decide) (by decide) (by decide) (by decide) (by decide) (by decide) (by rw [zhj _ _ (by decide)])) rfl rfl ?_
 simp only [zbX,sxZ,z6,z7,z8,j4,j5,j6,j7,j8,j9,x0,x3,x4,x5,x6,x7,reduceCtorEq,↓reduceIte]
 subst hY
 refine zaa fun Y hY => ?_
 simp only [sxZ,z6,z7,z8,j4,j5,j6,j7,j8,j9,x0,x3,x4,x5,x6,x7,reduceCtorEq,↓reduceIte]
 refine zbG (v:=.agg (vc 0 1 (.row 0 []))) (za6 0 1 (by decide) rfl) rfl rfl ?_
 simp only [vc,sxZ,z6,z7,z8,j4,j5,j6,j7,j8,j9,x0,x3,x4,x5,x6,x7,reduceCtorEq,↓reduceIte]
 refine zbG (v:=getR 0 0 [⟨1,5,0⟩]) (get_k 1 0 0 [⟨1,5,0⟩] (zco _ (by decide)) (by decide) (by decide) rfl) rfl rfl ?_
 rw [show getR 0 0 [⟨1,5,0⟩]=.tup [.agg [.i .i64 0,.i .i64 0,.s [],.s [],.i .i64 0,.i .i64 0,.s [],.s [],.i .i64 0,.b false,.i .u64 0,.nil],.b false] from rfl]
 simp only [sxZ,z6,z7,z8,j4,j5,j6,j7,j8,j9,x0,x3,x4,x5,x6,x7,reduceCtorEq,↓reduceIte]
 subst hY
 refine zaa fun Y hY => ?_
 simp only [sxZ,z6,z7,z8,j4,j5,j6,j7,j8,j9,x0,x3,x4,x5,x6,x7,reduceCtorEq,↓reduceIte]
 refine zbG (v:=.agg (vc 1 1 (.row 0 []))) (za6 1 1 (by decide) rfl) rfl rfl ?_
 simp only [vc,sxZ,z6,z7,z8,j4,j5,j6,j7,j8,j9,x0,x3,x4,x5,x6,x7,reduceCtorEq,↓reduceIte]
 refine zbG (v:=getR 1 4 [⟨1,5,0⟩]) (get_k 1 1 4 [⟨1,5,0⟩] (zco _ (by decide)) (by decide) (by decide) rfl) rfl rfl ?_
 rw [show getR 1 4 [⟨1,5,0⟩]=.tup [.agg (vc 1 5 (.row 0 [])),.b true] from rfl]
 simp only [vc,sxZ,z6,z7,z8,j4,j5,j6,j7,j8,j9,x0,x3,x4,x5,x6,x7,reduceCtorEq,↓reduceIte]
 subst hY
 have e1:(((1:Nat):Int)=1)=True:=eq_true rfl
 simp only [sxZ,z6,z7,z8,j4,j5,j6,j7,j8,j9,x0,x3,x4,x5,x6,x7,reduceCtorEq,↓reduceIte,e1,decide_true]
 refine zaC (sound_k 1 [⟨1,5,0⟩] ⟨by decide,by decide,zco _ (by decide),by simp⟩ ?_)
 simp only [sxZ,z6,z7,z8,j4,j5,j6,j7,j8,j9,x0,x3,x4,x5,x6,x7,reduceCtorEq,↓reduceIte]
 exact hk
end
end
end Go.Proofs.YtbeoijfmfkifeaaGreatDoor
namespace Go.Proofs.YtbeoijfmfkifeaaGreatDoor
open Sx
theorem sl_wf8 {c:Int} (h:(Lit.int .u8 c).wf=true):∃ u:UInt8,c=(u.toNat:Int):=by
 have h':0 ≤ c ∧ c ≤ 255:=by simpa [Lit.wf,IntKind.min,IntKind.max,IntKind.signed,IntKind.bits] using h
 exact ⟨UInt8.ofNat c.toNat,by rw [UInt8.toNat_ofNat']; omega⟩
theorem sl_u8:∀ {gs:List (List AV)},(∀ g ∈ gs,ShT (.i .u8) g) → ∃ l:List UInt8,gs.flatten=byA l ∧ gs.length=l.length
 | [],_ => ⟨[],rfl,rfl⟩
 | g :: gs,h => by
  obtain ⟨l,h1,h2⟩:=sl_u8 (fun x hx => h x (List.mem_cons_of_mem _ hx))
  obtain ⟨n,rfl,hw⟩:=h g (List.mem_cons_self ..)
  obtain ⟨c,rfl⟩:=sl_wf8 hw
  exact ⟨c :: l,by rw [List.flatten_cons,h1]; rfl,by rw [List.length_cons,List.length_cons,h2]⟩
end Go.Proofs.YtbeoijfmfkifeaaGreatDoor
namespace Go.Proofs.YtbeoijfmfkifeaaGreatDoor
open Nat renaming reduceAdd → z6, reduceSub → z7, reduceLeDiff → z8, reduceLT → j4, reduceMul → j5, reduceEqDiff → j6
open Int renaming reduceToNat → j7, reduceAdd → j8, reduceSub → j9, reduceMul → x0, reduceNeg → x3, reduceLT → x4, reduceLE → x5, reduceEq → x6, reduceNe → x7
open Go.RowKit Sx
section
attribute [local irreducible] run
def mkE (f:Nat → Nat) (k:Nat):En:=⟨k,f k,3⟩
def LP (f:Nat → Nat) (p:Nat → Bool):List En:=((List.range 20).filter p).map (mkE f)
theorem zcu {f:Nat → Nat} {p q:Nat → Bool} (h:∀ j,j < 20 → p j=q j):LP f p=LP f q:=by
 unfold LP
 rw [List.filter_congr fun j hj => h j (List.mem_range.1 hj)]
theorem LP_srt (f:Nat → Nat) (p:Nat → Bool):zjo (LP f p):=by
 constructor
 ·unfold LP
  rw [List.pairwise_map]
  exact List.Pairwise.imp (fun h => h) (List.pairwise_lt_range.sublist List.filter_sublist)
 ·intro e he
  obtain ⟨k,hk,rfl⟩:=List.mem_map.1 he
  exact List.mem_range.1 (List.mem_filter.1 hk).1
theorem zhs {w:Nat} {A B:List En} (hA:∀ e ∈ A,e.k < w) (hB:∀ e ∈ B,¬ e.k < w):plE w (A ++ B)=A.length:=by
 unfold plE
 rw [List.takeWhile_append_of_pos (fun e he => decide_eq_true (hA e he))]
 cases B with
 | nil => simp
 | cons b B => rw [List.takeWhile_cons_of_neg (by simpa using hB b (List.mem_cons_self ..)),List.append_nil]
theorem zcH {k:Nat} (hk:k < 20):List.range 20=List.range k ++ k :: List.range' (k + 1) (19 - k):=by
 rw [List.range_eq_range',List.range_eq_range',← List.range'_succ,show 19 - k + 1=20 - k by omega]
 have:=List.range'_append (s:=0) (m:=k) (n:=20 - k) (step:=1)
 rw [show k + (20 - k)=20 by omega,show 0 + 1 * k=k by omega] at this
 exact this.symm
theorem LP_put {f:Nat → Nat} {p:Nat → Bool} {k:Nat} (hk:k < 20) (hp:p k=false):(LP f p).length < 20 ∧ putE 20 (mkE f k) (LP f p)=LP f (fun j => p j || decide (j=k)):=by
 obtain ⟨A,hA⟩:∃ A,A=((List.range k).filter p).map (mkE f):=⟨_,rfl⟩
 obtain ⟨B,hB⟩:∃ B,B=((List.range' (k + 1) (19 - k)).filter p).map (mkE f):=⟨_,rfl⟩
 have e1:LP f p=A ++ B:=by
  unfold LP
  rw [zcH hk,List.filter_append,List.filter_cons_of_neg (by rw [hp]; decide),List.map_append,hA,hB]
 have a1:∀ e ∈ A,e.k < k:=by
  intro e he
  rw [hA] at he
  obtain ⟨j,hj,rfl⟩:=List.mem_map.1 he
  exact List.mem_range.1 (List.mem_filter.1 hj).1
 have b1:∀ e ∈ B,k < e.k:=by
  intro e he
  rw [hB] at he
  obtain ⟨j,hj,rfl⟩:=List.mem_map.1 he
  have:=List.mem_range'_1.1 (List.mem_filter.1 hj).1
  show k < j
  omega
 have la:A.length ≤ k:=by
  rw [hA,List.length_map]
  exact Nat.le_trans (List.length_filter_le _ _) (by simp)
 have lb:B.length ≤ 19 - k:=by
  rw [hB,List.length_map]
  exact Nat.le_trans (List.length_filter_le _ _) (by simp)
 have hl:(LP f p).length < 20:=by rw [e1,List.length_append]; omega
 refine ⟨hl,?_⟩
 have e2:LP f (fun j => p j || decide (j=k))=A ++ [mkE f k] ++ B:=by
  unfold LP
  rw [zcH hk,List.filter_append,List.filter_cons_of_pos (by simp),List.map_append,List.map_cons,hA,hB]
  rw [List.filter_congr (l:=List.range k) (q:=p) (fun j hj => by
   have:=List.mem_range.1 hj
   simp only [show ¬ j=k by omega,decide_false,Bool.or_false])]
  rw [List.filter_congr (l:=List.range' (k + 1) (19 - k)) (q:=p) (fun j hj => by
   have:=List.mem_range'_1.1 hj
   simp only [show ¬ j=k by omega,decide_false,Bool.or_false])]
  simp
 have h1:zda k (A ++ B)=false:=by
  unfold zda
  rw [List.any_eq_false]
  intro e he
  rw [decide_eq_true_eq]
  rcases List.mem_append.1 he with h | h
  ·have:=a1 e h; omega
  ·have:=b1 e h; omega
 have h2:plE k (A ++ B)=A.length:=zhs a1 fun e he => by have:=b1 e he; omega
 rw [e2]
 rw [e1] at hl ⊢
 show putE 20 ⟨k,f k,3⟩ (A ++ B)=_
 unfold putE
 dsimp only
 rw [h1,h2,if_neg Bool.false_ne_true,if_neg (by omega),List.take_left' rfl,List.drop_left' rfl]
 rfl
theorem zjr (f:Nat → Nat):LP f (fun _ => false)=[]:=by simp [LP]
theorem LP_len (f:Nat → Nat) {n:Nat} (hn:n ≤ 20):(LP f (fun j => decide (j < n))).length=n:=by
 unfold LP
 rw [List.length_map]
 have e:List.range 20=List.range n ++ List.range' n (20 - n):=by
  rw [List.range_eq_range',List.range_eq_range']
  have:=List.range'_append (s:=0) (m:=n) (n:=20 - n) (step:=1)
  rw [show n + (20 - n)=20 by omega,show 0 + 1 * n=n by omega] at this
  exact this.symm
 rw [e,List.filter_append,List.filter_eq_self.2 (fun j hj => decide_eq_true (List.mem_range.1 hj)),List.filter_eq_nil_iff.2 (fun j hj => by
  have:=List.mem_range'_1.1 hj
  rw [decide_eq_true_eq]; omega)]
 simp
def zbE (n t i j:Nat):Bool:=decide (∃ m,m < i ∧ (m + t) % n=j)
theorem zgb (n t i j:Nat):zbE n t (i + 1) j=(zbE n t i j || decide (j=(i + t) % n)):=by
 unfold zbE
 rw [Bool.eq_iff_iff,Bool.or_eq_true,decide_eq_true_eq,decide_eq_true_eq,decide_eq_true_eq]
 constructor
 ·rintro ⟨m,hm,h⟩
  rcases Nat.lt_or_ge m i with c | c
  ·exact .inl ⟨m,c,h⟩
  ·obtain rfl:m=i:=by omega
   exact .inr h.symm
 ·rintro (⟨m,hm,h⟩ | h)
  ·exact ⟨m,by omega,h⟩
  ·exact ⟨i,by omega,h.symm⟩
theorem mod_inj {n a b:Nat} (h:(a % n)=b % n) (hab:a ≤ b) (hlt:b < a + n):a=b:=by
 have h1:=Nat.div_add_mod a n
 have h2:=Nat.div_add_mod b n
 have h3:a / n ≤ b / n:=Nat.div_le_div_right hab
 rcases Nat.eq_or_lt_of_le h3 with c | c
 ·rw [c,h] at h1; omega
 ·have:n * (a / n + 1) ≤ n * (b / n):=Nat.mul_le_mul_left _ c
  rw [Nat.mul_add,Nat.mul_one] at this
  omega
theorem zgK {n t i:Nat} (hi:i < n):zbE n t i ((i + t) % n)=false:=by
 unfold zbE
 rw [decide_eq_false_iff_not]
 rintro ⟨m,hm,h⟩
 have:=mod_inj h (by omega) (by omega)
 omega
theorem zgL {n t j:Nat} (h0:0 < n):zbE n t n j=decide (j < n):=by
 unfold zbE
 rw [decide_eq_decide]
 constructor
 ·rintro ⟨m,hm,rfl⟩; exact Nat.mod_lt _ h0
 ·intro hj
  refine ⟨(j + (n - t % n)) % n,Nat.mod_lt _ h0,?_⟩
  have ht:=Nat.mod_lt t h0
  rw [Nat.mod_add_mod,Nat.add_mod,Nat.add_mod j]
  have h1:=Nat.div_add_mod t n
  rw [← Nat.add_mod j,← Nat.add_mod]
  rw [show j + (n - t % n) + t=j + n * (t / n + 1) by rw [Nat.mul_add,Nat.mul_one]; omega,Nat.add_mul_mod_self_left,Nat.mod_eq_of_lt hj]
theorem zgl (l:List UInt8):zaj (byA l)=true:=by
 induction l with
 | nil => rfl
 | cons c l ih =>
  show zaj (.i .u8 (c.toNat:Int) :: byA l)=true
  simp only [zaj,AV.plain,ih,Bool.and_self]
theorem byA_at {l:List UInt8} {i:Nat} (h:i < l.length):(byA l)[i]? = some (.i .u8 ((l[i]).toNat:Int)):=by
 unfold byA
 rw [List.getElem?_map,List.getElem?_eq_getElem h]; rfl
def zby (l:List UInt8) (k:Nat):Nat:=1 + (l.getD k 0).toNat
theorem zgT {l:List UInt8} {k:Nat} (h:k < l.length):zby l k=1 + (l[k]).toNat:=by
 unfold zby
 rw [List.getD_eq_getElem?_getD,List.getElem?_eq_getElem h]; rfl
section
variable [Tabs Tryz.prog]
theorem zeg (l:List UInt8) (u:UInt8) (hl:l.length ≤ 140737488351232):zag Tryz.prog 7 [.row l.length (byA l),.i .u8 (u.toNat:Int)] [] (fun _ r => r=.b true):=by
 refine zbb is_law31_CacheOrder (by simp only [zaj,AV.plain,Bool.and_self,Bool.and_true]; exact zgl l) fun C _ => ?_
 rw [c_law31_CacheOrder]
 refine zaa fun Y hY => ?_
 simp only [sxZ,z6,z7,z8,j4,j5,j6,j7,j8,j9,x0,x3,x4,x5,x6,x7,reduceCtorEq,↓reduceIte]
 subst hY
 refine zaa fun Y hY => ?_
 refine zaa fun X hX => ?_
 simp only [sxZ,z6,z7,z8,j4,j5,j6,j7,j8,j9,x0,x3,x4,x5,x6,x7,reduceCtorEq,↓reduceIte]
 refine zaC (sane31_k ?_)
 simp only [sxZ,z6,z7,z8,j4,j5,j6,j7,j8,j9,x0,x3,x4,x5,x6,x7,reduceCtorEq,↓reduceIte]
 subst hX
 simp only [sxZ,z6,z7,z8,j4,j5,j6,j7,j8,j9,x0,x3,x4,x5,x6,x7,reduceCtorEq,↓reduceIte]
 subst hY
 refine zaa fun Y hY => ?_
 refine zcc (fun o t => o=[] ∧ t.length=85 ∧ t[1]? = some (.i .u8 (u.toNat:Int)) ∧ ∃ m:List UInt8,m.length ≤ 12 ∧ t[0]? = some (.row m.length (byA m))) ?_ ?_
 ·refine zaa fun X hX => ?_
  by_cases h12:12 < l.length
  ·have h12':(12:Int) < (l.length:Int):=by omega
   have ht:(byA l).take (12 * 1)=byA (l.take 12):=by simp [byA]
   have hm:(l.take 12).length=12:=by rw [List.length_take]; omega
   simp only [sxZ,z6,z7,z8,j4,j5,j6,j7,j8,j9,x0,x3,x4,x5,x6,x7,reduceCtorEq,↓reduceIte,h12']
   subst hX
   simp only [sxZ,z6,z7,z8,j4,j5,j6,j7,j8,j9,x0,x3,x4,x5,x6,x7,reduceCtorEq,↓reduceIte,h12']
   refine ⟨by omega,?_⟩
   simp only [sxZ,z6,z7,z8,j4,j5,j6,j7,j8,j9,x0,x3,x4,x5,x6,x7,reduceCtorEq,↓reduceIte,zao]
   exact ⟨l.take 12,by omega,by rw [hm,← ht]⟩
  ·have h12':¬ (12:Int) < (l.length:Int):=by omega
   simp only [sxZ,z6,z7,z8,j4,j5,j6,j7,j8,j9,x0,x3,x4,x5,x6,x7,reduceCtorEq,↓reduceIte,h12']
   subst hX
   simp only [sxZ,z6,z7,z8,j4,j5,j6,j7,j8,j9,x0,x3,x4,x5,x6,x7,reduceCtorEq,↓reduceIte,h12',zao]
   exact ⟨l,by omega,rfl⟩
 rintro _ tm ⟨rfl,hlen,t1,m,hm,t0⟩
 generalize hn:m.length=n at *
 subst hY
 refine zaa fun Y hY => ?_
 simp only [sxZ,z6,z7,z8,j4,j5,j6,j7,j8,j9,x0,x3,x4,x5,x6,x7,reduceCtorEq,↓reduceIte,List.getElem?_set,hlen,t0,t1]
 refine zaC (new_k 20 (by decide) ?_)
 simp only [zbX,sxZ,z6,z7,z8,j4,j5,j6,j7,j8,j9,x0,x3,x4,x5,x6,x7,reduceCtorEq,↓reduceIte,List.getElem?_set,hlen,t0,t1]
 subst hY
 refine zaa fun Y hY => ?_
 simp only [sxZ,z6,z7,z8,j4,j5,j6,j7,j8,j9,x0,x3,x4,x5,x6,x7,reduceCtorEq,↓reduceIte,List.getElem?_set,hlen,t0,t1]
 refine zaC (new_k 20 (by decide) ?_)
 simp only [zbX,sxZ,z6,z7,z8,j4,j5,j6,j7,j8,j9,x0,x3,x4,x5,x6,x7,reduceCtorEq,↓reduceIte,List.getElem?_set,hlen,t0,t1]
 subst hY
 refine zaa fun Y hY => ?_
 refine zcc (fun o t => o=[.box 24 [.i .i64 (20:Nat),.row (LP (zby m) (fun j => decide (j < n))).length (ecs (LP (zby m) (fun j => decide (j < n))))],.box 24 [.i .i64 (20:Nat),.row 0 (ecs [])]] ∧ t.length=85 ∧ t[0]? = some (.row n (byA m)) ∧ t[1]? = some (.i .u8 (u.toNat:Int)) ∧ t[5]? = some (.p 0 0) ∧ t[6]? = some (.i .i64 0) ∧ t[7]? = some (.p 1 0) ∧ t[8]? = some (.i .i64 0)) ?_ ?_
 ·refine zaa fun X hX => ?_
  simp only [sxZ,z6,z7,z8,j4,j5,j6,j7,j8,j9,x0,x3,x4,x5,x6,x7,reduceCtorEq,↓reduceIte,List.getElem?_set,hlen,t0,t1]
  subst hX
  simp only [sxZ,z6,z7,z8,j4,j5,j6,j7,j8,j9,x0,x3,x4,x5,x6,x7,reduceCtorEq,↓reduceIte,List.getElem?_set,hlen,t0,t1]
  refine zaX (fun q o tm => ∃ i:Nat,q=n - i ∧ i ≤ n ∧ o=[.box 24 [.i .i64 (20:Nat),.row (LP (zby m) (fun j => decide (j < i))).length (ecs (LP (zby m) (fun j => decide (j < i))))],.box 24 [.i .i64 (20:Nat),.row 0 (ecs [])]] ∧ tm.length=85 ∧ tm[0]? = some (.row n (byA m)) ∧ tm[1]? = some (.i .u8 (u.toNat:Int)) ∧ tm[5]? = some (.p 0 0) ∧ tm[6]? = some (.i .i64 0) ∧ tm[7]? = some (.p 1 0) ∧ tm[8]? = some (.i .i64 0) ∧ tm[28]? = some (.i .i64 n) ∧ tm[29]? = some (.i .i64 i)) n ⟨0,rfl,Nat.zero_le _,by rw [show (fun j => decide (j < 0))=(fun _:Nat => false) from by funext j; exact decide_eq_false (Nat.not_lt_zero _),zjr]; rfl,?_⟩ ?_
  ·simp only [sxZ,z6,z7,z8,j4,j5,j6,j7,j8,j9,x0,x3,x4,x5,x6,x7,reduceCtorEq,↓reduceIte,List.getElem?_set,hlen,t0,t1,and_self,Int.cast_ofNat_Int]
  clear hlen t0 t1
  rintro q _ tm ⟨i,rfl,hi,rfl,hlen,t0,t1,t5,t6,t7,t8,t28,t29⟩
  refine zaa fun Z hZ => ?_
  by_cases hlt:i < n
  ·have hlt':(i:Int) < (n:Int):=by omega
   have hbi:=byA_at (l:=m) (i:=i) (by omega)
   have hsec:=zgT (l:=m) (k:=i) (by omega)
   have h256:=(m[i]'(by omega)).toNat_lt
   have w1:IntKind.u64.wrap (((m[i]'(by omega)).toNat:Nat):Int)=(((m[i]'(by omega)).toNat:Nat):Int):=by rw [IntKind.wrap_u64]; omega
   have w2:IntKind.u64.wrap (1 + (((m[i]'(by omega)).toNat:Nat):Int))=((zby m i:Nat):Int):=by rw [hsec,IntKind.wrap_u64]; omega
   obtain ⟨hl20,hput⟩:=LP_put (f:=zby m) (p:=fun j => decide (j < i)) (k:=i) (by omega) (decide_eq_false (Nat.lt_irrefl _))
   have hnext:LP (zby m) (fun j => decide (j < i) || decide (j=i))=LP (zby m) (fun j => decide (j < i + 1)):=zcu fun j hj => by
    rw [Bool.eq_iff_iff,Bool.or_eq_true,decide_eq_true_eq,decide_eq_true_eq,decide_eq_true_eq]; omega
   rw [hnext] at hput
   simp only [sxZ,z6,z7,z8,j4,j5,j6,j7,j8,j9,x0,x3,x4,x5,x6,x7,reduceCtorEq,↓reduceIte,List.getElem?_set,hlen,t28,t29,hlt']
   subst hZ
   refine zaa fun Z hZ => ?_
   simp only [sxZ,z6,z7,z8,j4,j5,j6,j7,j8,j9,x0,x3,x4,x5,x6,x7,reduceCtorEq,↓reduceIte,List.getElem?_set,hlen,t28,t29,hlt']
   subst hZ
   refine zaa fun Z hZ => ?_
   rw [zcD]
   refine zaa fun X hX => ?_
   simp only [sxZ,z6,z7,z8,j4,j5,j6,j7,j8,j9,x0,x3,x4,x5,x6,x7,reduceCtorEq,↓reduceIte,List.getElem?_set,hlen,t29]
   subst hX
   simp only [sxZ,z6,z7,z8,j4,j5,j6,j7,j8,j9,x0,x3,x4,x5,x6,x7,reduceCtorEq,↓reduceIte,List.getElem?_set,hlen,t0,t1,t5,t6,t7,t8,t28,t29,Int.toNat_natCast,Nat.mul_one,hbi,w1,w2,zjd]
   have hi20:i % 20=i:=Nat.mod_eq_of_lt (by omega)
   refine ⟨by omega,?_⟩
   refine zbr (v:=.agg (vc i (zby m i) (.row 0 []))) (za6 i (zby m i) (by omega) (by rw [hi20]; exact ⟨rfl,rfl⟩)) ?_
   simp only [sxZ,z6,z7,z8,j4,j5,j6,j7,j8,j9,x0,x3,x4,x5,x6,x7,reduceCtorEq,↓reduceIte,List.getElem?_set,hlen,t0,t1,t5,t6,t7,t8,t28,t29]
   refine zbr (v:=zbX 20 (LP (zby m) (fun j => decide (j < i + 1)))) (put_k 20 i (zby m i) 3 (LP (zby m) (fun j => decide (j < i))) (LP_srt _ _) (by omega) (by omega) (by omega) (by omega) (by decide) (by omega) (by rw [show (⟨i,zby m i,3⟩:En)=mkE (zby m) i from rfl,hput]; exact ⟨rfl,rfl⟩)) ?_
   simp only [zbX,sxZ,z6,z7,z8,j4,j5,j6,j7,j8,j9,x0,x3,x4,x5,x6,x7,reduceCtorEq,↓reduceIte,List.getElem?_set,hlen,t0,t1,t5,t6,t7,t8,t28,t29]
   subst hZ
   simp only [sxZ,z6,z7,z8,j4,j5,j6,j7,j8,j9,x0,x3,x4,x5,x6,x7,reduceCtorEq,↓reduceIte,List.getElem?_set,hlen,t0,t1,t5,t6,t7,t8,t28,t29]
   exact ⟨by omega,n - (i + 1),by omega,i + 1,rfl,by omega,rfl,rfl⟩
  ·have hlt':¬ (i:Int) < (n:Int):=by omega
   obtain rfl:i=n:=by omega
   simp only [sxZ,z6,z7,z8,j4,j5,j6,j7,j8,j9,x0,x3,x4,x5,x6,x7,reduceCtorEq,↓reduceIte,List.getElem?_set,hlen,t28,t29,hlt']
   subst hZ
   simp only [sxZ,z6,z7,z8,j4,j5,j6,j7,j8,j9,x0,x3,x4,x5,x6,x7,reduceCtorEq,↓reduceIte,List.getElem?_set,hlen,t0,t1,t5,t6,t7,t8,t28,t29,hlt',zao,List.length_set,and_self]
 clear hlen t0 t1
 rintro _ tm ⟨rfl,hlen,t0,t1,t5,t6,t7,t8⟩
 generalize hC:LP (zby m) (fun j => decide (j < n))=LC
 subst hY
 refine zaa fun Y hY => ?_
 refine zcc (fun o t => o=[.box 24 [.i .i64 (20:Nat),.row LC.length (ecs LC)],.box 24 [.i .i64 (20:Nat),.row LC.length (ecs LC)]] ∧ t.length=85 ∧ t[0]? = some (.row n (byA m)) ∧ t[5]? = some (.p 0 0) ∧ t[6]? = some (.i .i64 0) ∧ t[7]? = some (.p 1 0) ∧ t[8]? = some (.i .i64 0)) ?_ ?_
 ·refine zaa fun X hX => ?_
  simp only [sxZ,z6,z7,z8,j4,j5,j6,j7,j8,j9,x0,x3,x4,x5,x6,x7,reduceCtorEq,↓reduceIte,List.getElem?_set,hlen,t0,t1]
  subst hX
  simp only [sxZ,z6,z7,z8,j4,j5,j6,j7,j8,j9,x0,x3,x4,x5,x6,x7,reduceCtorEq,↓reduceIte,List.getElem?_set,hlen,t0,t1]
  refine zaX (fun q o tm => ∃ i:Nat,q=n - i ∧ i ≤ n ∧ o=[.box 24 [.i .i64 (20:Nat),.row LC.length (ecs LC)],.box 24 [.i .i64 (20:Nat),.row (LP (zby m) (zbE n u.toNat i)).length (ecs (LP (zby m) (zbE n u.toNat i)))]] ∧ tm.length=85 ∧ tm[0]? = some (.row n (byA m)) ∧ tm[1]? = some (.i .u8 (u.toNat:Int)) ∧ tm[5]? = some (.p 0 0) ∧ tm[6]? = some (.i .i64 0) ∧ tm[7]? = some (.p 1 0) ∧ tm[8]? = some (.i .i64 0) ∧ tm[44]? = some (.i .i64 n) ∧ tm[45]? = some (.i .i64 i)) n ⟨0,rfl,Nat.zero_le _,by rw [show LP (zby m) (zbE n u.toNat 0)=[] from by rw [← zjr (zby m)]; exact zcu fun j _ => decide_eq_false (fun ⟨_,h,_⟩ => Nat.not_lt_zero _ h)]; rfl,?_⟩ ?_
  ·simp only [sxZ,z6,z7,z8,j4,j5,j6,j7,j8,j9,x0,x3,x4,x5,x6,x7,reduceCtorEq,↓reduceIte,List.getElem?_set,hlen,t0,t1,t5,t6,t7,t8,and_self,Int.cast_ofNat_Int]
  clear hlen t0 t1 t5 t6 t7 t8
  rintro q _ tm ⟨i,rfl,hi,rfl,hlen,t0,t1,t5,t6,t7,t8,t28,t29⟩
  refine zaa fun Z hZ => ?_
  by_cases hlt:i < n
  ·have hlt':(i:Int) < (n:Int):=by omega
   have hu:=u.toNat_lt
   obtain ⟨k,hk⟩:∃ k,k=(i + u.toNat) % n:=⟨_,rfl⟩
   have hkn:k < n:=by rw [hk]; exact Nat.mod_lt _ (by omega)
   have hbi:=byA_at (l:=m) (i:=k) (by omega)
   have hsec:=zgT (l:=m) (k:=k) (by omega)
   have h256:=(m[k]'(by omega)).toNat_lt
   have w0:IntKind.i64.wrap (u.toNat:Int)=(u.toNat:Int):=by rw [IntKind.wrap_i64]; omega
   have w3:((i:Int) + (u.toNat:Int)).tmod (n:Int)=(k:Int):=by
    rw [hk,Int.tmod_eq_emod_of_nonneg (by omega),Int.natCast_emod,Int.natCast_add]
   have w1:IntKind.u64.wrap (((m[k]'(by omega)).toNat:Nat):Int)=(((m[k]'(by omega)).toNat:Nat):Int):=by rw [IntKind.wrap_u64]; omega
   have w2:IntKind.u64.wrap (1 + (((m[k]'(by omega)).toNat:Nat):Int))=((zby m k:Nat):Int):=by rw [hsec,IntKind.wrap_u64]; omega
   obtain ⟨hl20,hput⟩:=LP_put (f:=zby m) (p:=zbE n u.toNat i) (k:=k) (by omega) (by rw [hk]; exact zgK hlt)
   have hnext:LP (zby m) (fun j => zbE n u.toNat i j || decide (j=k))=LP (zby m) (zbE n u.toNat (i + 1)):=zcu fun j hj => by rw [zgb,hk]
   rw [hnext] at hput
   have hk20:k % 20=k:=Nat.mod_eq_of_lt (by omega)
   simp only [sxZ,z6,z7,z8,j4,j5,j6,j7,j8,j9,x0,x3,x4,x5,x6,x7,reduceCtorEq,↓reduceIte,List.getElem?_set,hlen,t28,t29,hlt']
   subst hZ
   refine zaa fun Z hZ => ?_
   simp only [sxZ,z6,z7,z8,j4,j5,j6,j7,j8,j9,x0,x3,x4,x5,x6,x7,reduceCtorEq,↓reduceIte,List.getElem?_set,hlen,t28,t29,hlt']
   subst hZ
   refine zaa fun Z hZ => ?_
   rw [zcD]
   refine zaa fun X hX => ?_
   simp only [sxZ,z6,z7,z8,j4,j5,j6,j7,j8,j9,x0,x3,x4,x5,x6,x7,reduceCtorEq,↓reduceIte,List.getElem?_set,hlen,t29]
   subst hX
   refine zaa fun X hX => ?_
   simp only [sxZ,z6,z7,z8,j4,j5,j6,j7,j8,j9,x0,x3,x4,x5,x6,x7,reduceCtorEq,↓reduceIte,List.getElem?_set,hlen,t0,t1,t29,w0,w3]
   refine ⟨by omega,by omega,?_⟩
   subst hX
   simp only [sxZ,z6,z7,z8,j4,j5,j6,j7,j8,j9,x0,x3,x4,x5,x6,x7,reduceCtorEq,↓reduceIte,List.getElem?_set,hlen,t0,t1,t5,t6,t7,t8,t28,t29,Int.toNat_natCast,Nat.mul_one,hbi,w1,w2,zjd]
   refine ⟨by omega,?_⟩
   refine zbr (v:=.agg (vc k (zby m k) (.row 0 []))) (za6 k (zby m k) (by omega) (by rw [hk20]; exact ⟨rfl,rfl⟩)) ?_
   simp only [sxZ,z6,z7,z8,j4,j5,j6,j7,j8,j9,x0,x3,x4,x5,x6,x7,reduceCtorEq,↓reduceIte,List.getElem?_set,hlen,t0,t1,t5,t6,t7,t8,t28,t29]
   refine zbr (v:=zbX 20 (LP (zby m) (zbE n u.toNat (i + 1)))) (put_k 20 k (zby m k) 3 (LP (zby m) (zbE n u.toNat i)) (LP_srt _ _) (by omega) (by omega) (by omega) (by omega) (by decide) (by omega) (by rw [show (⟨k,zby m k,3⟩:En)=mkE (zby m) k from rfl,hput]; exact ⟨rfl,rfl⟩)) ?_
   simp only [zbX,sxZ,z6,z7,z8,j4,j5,j6,j7,j8,j9,x0,x3,x4,x5,x6,x7,reduceCtorEq,↓reduceIte,List.getElem?_set,hlen,t0,t1,t5,t6,t7,t8,t28,t29]
   subst hZ
   simp only [sxZ,z6,z7,z8,j4,j5,j6,j7,j8,j9,x0,x3,x4,x5,x6,x7,reduceCtorEq,↓reduceIte,List.getElem?_set,hlen,t0,t1,t5,t6,t7,t8,t28,t29]
   exact ⟨by omega,n - (i + 1),by omega,i + 1,rfl,by omega,rfl,rfl⟩
  ·have hlt':¬ (i:Int) < (n:Int):=by omega
   obtain rfl:i=n:=by omega
   have e:LP (zby m) (zbE i u.toNat i)=LC:=by
    rw [← hC]
    refine zcu fun j hj => ?_
    rcases Nat.eq_zero_or_pos i with h0 | h0
    ·rw [h0]
     exact (decide_eq_false (fun ⟨_,h,_⟩ => Nat.not_lt_zero _ h)).trans (decide_eq_false (Nat.not_lt_zero _)).symm
    ·exact zgL h0
   rw [e]
   simp only [sxZ,z6,z7,z8,j4,j5,j6,j7,j8,j9,x0,x3,x4,x5,x6,x7,reduceCtorEq,↓reduceIte,List.getElem?_set,hlen,t28,t29,hlt']
   subst hZ
   simp only [sxZ,z6,z7,z8,j4,j5,j6,j7,j8,j9,x0,x3,x4,x5,x6,x7,reduceCtorEq,↓reduceIte,List.getElem?_set,hlen,t0,t1,t5,t6,t7,t8,t28,t29,hlt',zao,List.length_set,and_self]
 clear hlen t0 t1 t5 t6 t7 t8
 rintro _ tm ⟨rfl,hlen,t0,t5,t6,t7,t8⟩
 have hll:LC.length=n:=by rw [← hC]; exact LP_len _ (by omega)
 subst hY
 simp only [sxZ,z6,z7,z8,j4,j5,j6,j7,j8,j9,x0,x3,x4,x5,x6,x7,reduceCtorEq,↓reduceIte,List.getElem?_set,hlen,t0,t5,t6,t7,t8]
 refine zaC (sameC_k 20 LC (by omega) ?_)
 simp only [sxZ,z6,z7,z8,j4,j5,j6,j7,j8,j9,x0,x3,x4,x5,x6,x7,reduceCtorEq,↓reduceIte,List.getElem?_set,hlen,t0,t5,t6,t7,t8,hll]
theorem cacheOrder_c (g0:List (List AV)) (w0:g0.length ≤ 140737488351232) (h0:∀ g ∈ g0,ShT (.i .u8) g) (n1:Int) (w1:(Lit.int .u8 n1).wf=true) :
  zag Tryz.prog 7 [.row g0.length g0.flatten,.i .u8 n1] [] (fun _ r => r=.b true):=by
 obtain ⟨l,e1,e2⟩:=sl_u8 h0
 obtain ⟨u,rfl⟩:=sl_wf8 w1
 rw [e1,e2]
 exact zeg l u (e2 ▸ w0)
end
end
end Go.Proofs.YtbeoijfmfkifeaaGreatDoor
namespace Go.Proofs.YtbeoijfmfkifeaaGreatDoor
open Go.RowKit Sx
theorem zb0 {P:Program} {w w':World} {name:String} {k:IntKind} {zs:List Int} (h:Lib.TabIs P w name k zs) (hk:∀ k,k < w.heap.size → w'.heap[k]? = w.heap[k]?):Lib.TabIs P w' name k zs:=by
 unfold Lib.TabIs World.var? at *
 cases hg:P.globalNamed name with
 | none => simp [hg] at h
 | some g =>
  simp only [hg,Option.bind_some] at h ⊢
  have hlt:g < w.heap.size:=by
   rcases Nat.lt_or_ge g w.heap.size with h' | h'
   ·exact h'
   ·rw [Array.getElem?_eq_none h'] at h; simp at h
  rw [hk g hlt]
  exact h
instance tabsN : Tabs Tryz.prog := ⟨fun w => w.ShapedOpen Tryz.prog ∧ Lib.TabIs Tryz.prog w "internal/strconv.uint64pow10" .u64 Lib.pow10Tab, fun _ _ h hk _ => ⟨zcA h.1 hk, zb0 h.2 hk⟩⟩
instance tabsN_shp:Shp Tryz.prog:=⟨fun _ h => h.1⟩
instance tabsN_pow:Pow Tryz.prog:=⟨fun _ h => h.2⟩
end Go.Proofs.YtbeoijfmfkifeaaGreatDoor
namespace Go.Proofs.YtbeoijfmfkifeaaGreatDoor
/-! ## A chunk -/
/-! ## Digits -/
/-! ## The form with chunks of one size -/
/-! ## What is cut off -/
end Go.Proofs.YtbeoijfmfkifeaaGreatDoor
namespace Go.Proofs.YtbeoijfmfkifeaaGreatDoor
end Go.Proofs.YtbeoijfmfkifeaaGreatDoor
namespace Go.Proofs.YtbeoijfmfkifeaaGreatDoor
open Go.RowKit Sx
class Brn (P:Program) [Tabs P]:Prop where
 br:∀ w:World,Tabs.T (P:=P) w → w.cell? ⟨5,15,none⟩=some (.int .u8 4)
section
variable [Tabs Tryz.prog] [Brn Tryz.prog] {objs:List OB} {K:List OB → AV → Prop}
end
end Go.Proofs.YtbeoijfmfkifeaaGreatDoor
namespace Go.Proofs.YtbeoijfmfkifeaaGreatDoor
open Go.RowKit Sx
def brnT:List Int:=[0,1,56,2,57,49,28,3,61,58,42,50,38,29,17,4,62,47,59,36,45,43,51,22,53,39,33,30,24,18,12,5,63,55,48,27,60,41,37,16,46,35,44,21,52,32,23,11,54,26,40,15,34,20,31,10,25,14,19,9,13,8,7,6]
theorem brn_of {w : World} (h : Lib.TabIs Tryz.prog w "math/bits.deBruijn64tab" .u8 brnT) : w.cell? ⟨5, 15, none⟩ = some (.int .u8 4) := h.cell (by kernel_rfl) 15 (by decide)
instance (priority := high) tabsB : Tabs Tryz.prog := ⟨fun w => w.ShapedOpen Tryz.prog ∧ Lib.TabIs Tryz.prog w "internal/strconv.uint64pow10" .u64 Lib.pow10Tab ∧ Lib.TabIs Tryz.prog w "math/bits.deBruijn64tab" .u8 brnT, fun _ _ h hk _ => ⟨zcA h.1 hk, zb0 h.2.1 hk, zb0 h.2.2 hk⟩⟩
instance (priority:=high) tabsB_shp:Shp Tryz.prog:=⟨fun _ h => h.1⟩
instance (priority:=high) tabsB_pow:Pow Tryz.prog:=⟨fun _ h => h.2.1⟩
instance (priority:=high) tabsB_brn:Brn Tryz.prog:=⟨fun _ h => brn_of h.2.2⟩
end Go.Proofs.YtbeoijfmfkifeaaGreatDoor
