/- The texts that the proofs of these statements reach, in their order, as few files. -/
import Derived.Test.YtceenajkieomoaaGreatDoorProg
import Derived.Test.YtceenajkieomoaaGreatDoorDe6
set_option linter.unusedVariables false
set_option linter.unusedSimpArgs false
set_option maxRecDepth 100000
namespace Go.Proofs.YtceenajkieomoaaGreatDoor
open Go.RowKit Sx
open Lib renaming hasPrefix->jc
open List renaming all_eq_true->zv, append_nil->jt, flatMap_cons->xi, getElem?_append_left->qc, getElem?_eq_getElem->zl, getElem?_eq_some_iff->zf, getElem?_set->za, getElem?_set_ne->zi, getElem?_set_self->zk, getElem_mem->qw, length_append->zm, length_cons->zr, length_drop->zu, length_map->qm, length_take->qd, map_append->je, mem_append->zy, mem_cons_of_mem->qq, mem_iff_getElem->yc, mem_singleton->xy, take_add_one->ye, take_of_length_le->jk
open Nat renaming le_refl->ze, zero_le->zd
open Option renaming getD_some->qh, map_some->jm
section
attribute [local irreducible] run
def kId:List UInt8:=[105,100]
def zbe:List UInt8:=[116,121,112,101]
def zbI:List UInt8:=[99,111,110,116,114,111,108,108,101,114]
def zbH:List UInt8:=[115,101,114,118,105,99,101,69,110,100,112,111,105,110,116]
def zcs:List UInt8:=[97,108,115,111,75,110,111,119,110,65,115]
def zb2:List UInt8:=[118,101,114,105,102,105,99,97,116,105,111,110,77,101,116,104,111,100]
def zbz:List UInt8:=[115,101,114,118,105,99,101]
structure MtP where
 id:List UInt8
 typ:List UInt8
 ctl:List UInt8
structure SvP where
 id:List UInt8
 typ:List (List UInt8)
 eps:List (List UInt8)
structure DoP where
 id:List UInt8
 also:List (List UInt8)
 ctl:List (List UInt8)
 mts:List MtP
 svs:List SvP
def mtZ:MtP:=⟨[],[],[]⟩
def svZ:SvP:=⟨[],[],[]⟩
def doZ:DoP:=⟨[],[],[],[],[]⟩
def tmD (v:JV) (key:List UInt8):List UInt8×Bool:=if (zaG v key).2=true/\(zaG v key).1.kind=5 then ((zaG v key).1.text,true) else ([],false)
def txD (l:List JV):Int×List (List UInt8) :=
 if 64<l.length then (161,[]) else if l.all (fun x=>decide (x.kind=5))=true then (0,l.map JV.text) else (160,[])
def ltD (v:JV):Int×List (List UInt8):=if v.kind=6 then txD v.items else (160,[])
def olD (v:JV):Int×List (List UInt8):=if v.kind=6 then txD v.items else txD [v]
def zeI (m i:List UInt8) (v:JV):Int×List UInt8 :=
 if (tmD v kId).2=false then (160,[]) else if (ze0 m i (tmD v kId).1).1≠0 then (160,[]) else (0,zh1 (ze0 m i (tmD v kId).1).2)
def mtD (m i:List UInt8) (v:JV):Int×MtP :=
 if (zeI m i v).1≠0 then ((zeI m i v).1,mtZ)
 else if (tmD v zbe).2=true/\(tmD v zbI).2=true then (0,⟨(zeI m i v).2,(tmD v zbe).1,(tmD v zbI).1⟩) else (160,mtZ)
def svD (m i:List UInt8) (v:JV):Int×SvP :=
 if (zeI m i v).1≠0 then ((zeI m i v).1,svZ)
 else if (olD (zaG v zbe).1).1≠0 then ((olD (zaG v zbe).1).1,svZ)
 else if (zaG v zbH).1.kind=7 then (0,⟨(zeI m i v).2,(olD (zaG v zbe).1).2,[]⟩)
 else if (olD (zaG v zbH).1).1≠0 then ((olD (zaG v zbH).1).1,svZ)
 else (0,⟨(zeI m i v).2,(olD (zaG v zbe).1).2,(olD (zaG v zbH).1).2⟩)
def zg6 {α:Type} (f:JV->Int×α):List JV->Int×List α
 | []=>(0,[])
 | y::l=>if (f y).1≠0 then ((f y).1,[]) else if (zg6 f l).1≠0 then ((zg6 f l).1,[]) else (0,(f y).2::(zg6 f l).2)
def elD {α:Type} (f:JV->Int×α) (v:JV):Int×List α:=if v.kind=6 then (if 64<v.items.length then (161,[]) else zg6 f v.items) else (160,[])
def opD {α:Type} (v:JV) (key:List UInt8) (f:JV->Int×List α):Int×List α:=if (zaG v key).2=true then f (zaG v key).1 else (0,[])
def sbD (v:JV):Int×List UInt8×List UInt8 :=
 if (tmD v kId).2=false then (160,[],[]) else if (zcN (tmD v kId).1).1≠0 then (160,[],[]) else (0,(zcN (tmD v kId).1).2)
def ddE (v:JV):Int×DoP :=
 if (sbD v).1≠0 then ((sbD v).1,doZ)
 else if (opD v zcs ltD).1≠0 then ((opD v zcs ltD).1,doZ)
 else if (opD v zbI olD).1≠0 then ((opD v zbI olD).1,doZ)
 else if (opD v zb2 (elD (mtD (sbD v).2.1 (sbD v).2.2))).1≠0 then ((opD v zb2 (elD (mtD (sbD v).2.1 (sbD v).2.2))).1,doZ)
 else if (opD v zbz (elD (svD (sbD v).2.1 (sbD v).2.2))).1≠0 then ((opD v zbz (elD (svD (sbD v).2.1 (sbD v).2.2))).1,doZ)
 else (0,⟨zeh (sbD v).2.1 (sbD v).2.2,(opD v zcs ltD).2,(opD v zbI olD).2,(opD v zb2 (elD (mtD (sbD v).2.1 (sbD v).2.2))).2,(opD v zbz (elD (svD (sbD v).2.1 (sbD v).2.2))).2⟩)
def rsB (x:JV) (single:Bool):Int×List (List UInt8) :=
 if single=true/\x.kind=5 then (0,[x.text])
 else if x.kind≠6 then (160,[])
 else if 64<x.items.length then (161,[])
 else ((if x.items.all (fun y=>decide (y.kind=5))=true then 0 else 160),x.items.map JV.text)
def rsD (v:JV) (key:List UInt8) (single:Bool):Int×List (List UInt8):=if (zaG v key).2=true then rsB (zaG v key).1 single else (0,[])
def roD (v:JV) (key:List UInt8):Int×List JV :=
 if (zaG v key).2=false then (0,[]) else if (zaG v key).1.kind≠6 then (160,[]) else if 64<(zaG v key).1.items.length then (161,[]) else (0,(zaG v key).1.items)
def rtE (v:JV) (key:List UInt8):Int:=if (zaG v key).1.kind=5 then 0 else 160
def riD (m i:List UInt8) (v:JV):Int×List UInt8 :=
 if (ze0 m i (zaG v kId).1.text).1≠0 then (orE (rtE v kId) 160,[]) else (rtE v kId,zh1 (ze0 m i (zaG v kId).1.text).2)
def rmD (m i:List UInt8) (v:JV):Int×MtP :=
 if v.kind≠7 then (160,mtZ)
 else (orE (orE (riD m i v).1 (rtE v zbe)) (rtE v zbI),⟨(riD m i v).2,(zaG v zbe).1.text,(zaG v zbI).1.text⟩)
def thE (v:JV) (key:List UInt8):Int:=if (zaG v key).2=true then 0 else 160
def rvD (m i:List UInt8) (v:JV):Int×SvP :=
 if v.kind≠7 then (160,svZ)
 else if (zaG v zbH).1.kind=7 then (orE (orE (orE (riD m i v).1 (thE v zbe)) (rsD v zbe true).1) (thE v zbH),⟨(riD m i v).2,(rsD v zbe true).2,[]⟩)
 else (orE (orE (orE (orE (riD m i v).1 (thE v zbe)) (rsD v zbe true).1) (thE v zbH)) (rsD v zbH true).1,⟨(riD m i v).2,(rsD v zbe true).2,(rsD v zbH true).2⟩)
def feD {α:Type} (f:JV->Int×α):List JV->Int
 | []=>0
 | y::l=>orE (f y).1 (feD f l)
theorem zet {a b:Int} (h:a≠0):orE a b=a:=if_neg h
theorem zdW (b:Int):orE 0 b=b:=if_pos rfl
theorem zgn {v:JV} {key:List UInt8} (h:(zaG v key).2=false):(zaG v key).1=jvZ:=by
 unfold zaG at h ⊢
 split at h
 ·rename_i a;rw[if_pos a]
  split at h
  ·cases h
  ·rfl
 ·rename_i a;rw[if_neg a]
theorem rs_ol {v:JV} {key:List UInt8}:orE (thE v key) (rsD v key true).1=(olD (zaG v key).1).1/\((olD (zaG v key).1).1=0->(rsD v key true).2=(olD (zaG v key).1).2):=by
 unfold thE rsD
 by_cases h:(zaG v key).2=true
 ·rw[if_pos h,if_pos h,zdW];unfold rsB olD;generalize (zaG v key).1=x
  by_cases h5:x.kind=5
  ·rw[if_pos ⟨rfl,h5⟩,if_neg (by omega)];unfold txD;rw[if_neg (by simp),if_pos (by simp[h5])];exact⟨rfl,fun _=>rfl⟩
  ·rw[if_neg (fun e=>h5 e.2)]
   by_cases h6:x.kind=6
   ·rw[if_neg (fun e=>e h6),if_pos h6];unfold txD
    by_cases hl:64<x.items.length
    ·rw[if_pos hl,if_pos hl];exact⟨rfl,fun _=>rfl⟩
    ·rw[if_neg hl,if_neg hl]
     by_cases ha:x.items.all (fun y=>decide (y.kind=5))=true
     ·rw[if_pos ha,if_pos ha];exact⟨rfl,fun _=>rfl⟩
     ·rw[if_neg ha,if_neg ha];exact⟨rfl,fun e=>by cases e⟩
   ·rw[if_pos h6,if_neg h6];unfold txD;rw[if_neg (by simp),if_neg (by simp[h5])];exact⟨rfl,fun _=>rfl⟩
 ·rw[if_neg h,if_neg h,zet (by decide),zgn (by simpa using h)];refine⟨rfl,fun e=>?_⟩;have:(olD jvZ).1=160:=rfl;rw[this] at e;cases e
theorem zgQ (v:JV) (key:List UInt8) (s:Bool):(rsD v key s).1=(opD v key (if s=true then olD else ltD)).1/\((rsD v key s).1=0->(rsD v key s).2=(opD v key (if s=true then olD else ltD)).2):=by
 unfold rsD opD
 by_cases h:(zaG v key).2=true
 ·rw[if_pos h,if_pos h];unfold rsB;generalize (zaG v key).1=x
  cases s with
  | true=>
   rw[if_pos (show true=true from rfl)];unfold olD
   by_cases h5:x.kind=5
   ·rw[if_pos ⟨rfl,h5⟩,if_neg (by omega)];unfold txD;rw[if_neg (by simp),if_pos (by simp[h5])];exact⟨rfl,fun _=>rfl⟩
   rw[if_neg (fun e=>h5 e.2)]
   by_cases h6:x.kind=6
   ·rw[if_neg (fun e=>e h6),if_pos h6];unfold txD
    by_cases hl:64<x.items.length
    ·rw[if_pos hl,if_pos hl];exact⟨rfl,fun _=>rfl⟩
    ·rw[if_neg hl,if_neg hl]
     by_cases ha:x.items.all (fun y=>decide (y.kind=5))=true
     ·rw[if_pos ha,if_pos ha];exact⟨rfl,fun _=>rfl⟩
     ·rw[if_neg ha,if_neg ha];exact⟨rfl,fun e=>by cases e⟩
   ·rw[if_pos h6,if_neg h6];unfold txD;rw[if_neg (by simp),if_neg (by simp[h5])];exact⟨rfl,fun _=>rfl⟩
  | false=>
   rw[if_neg (show ¬(false=true/\x.kind=5) from fun e=>by cases e.1),if_neg (show ¬(false=true) by decide)];unfold ltD
   by_cases h6:x.kind=6
   ·rw[if_neg (fun e=>e h6),if_pos h6];unfold txD
    by_cases hl:64<x.items.length
    ·rw[if_pos hl,if_pos hl];exact⟨rfl,fun _=>rfl⟩
    ·rw[if_neg hl,if_neg hl]
     by_cases ha:x.items.all (fun y=>decide (y.kind=5))=true
     ·rw[if_pos ha,if_pos ha];exact⟨rfl,fun _=>rfl⟩
     ·rw[if_neg ha,if_neg ha];exact⟨rfl,fun e=>by cases e⟩
   ·rw[if_pos h6,if_neg h6];exact⟨rfl,fun _=>rfl⟩
 ·rw[if_neg h,if_neg h];exact⟨rfl,fun _=>rfl⟩
theorem tm_rt (v:JV) (key:List UInt8):((tmD v key).2=true↔rtE v key=0)/\(rtE v key=0->(zaG v key).1.text=(tmD v key).1):=by
 unfold tmD rtE
 by_cases h5:(zaG v key).1.kind=5
 ·have h2:(zaG v key).2=true:=by
   cases h:(zaG v key).2 with
   | true=>rfl
   | false=>rw[zgn h] at h5;cases h5
  rw[if_pos ⟨h2,h5⟩,if_pos h5];exact⟨⟨fun _=>rfl,fun _=>rfl⟩,fun _=>rfl⟩
 ·rw[if_neg (fun e=>h5 e.2),if_neg h5];exact⟨⟨(fun e=>by cases e),(fun e=>by cases e)⟩,(fun e=>by cases e)⟩
theorem zfD (v:JV) (key:List UInt8):rtE v key=0\/rtE v key=160:=by unfold rtE;split<;>simp
theorem ri_mid (m i:List UInt8) (v:JV):(riD m i v).1=(zeI m i v).1/\((zeI m i v).1=0->(riD m i v).2=(zeI m i v).2):=by
 unfold riD zeI;obtain⟨h1,h2⟩:=tm_rt v kId
 by_cases h:rtE v kId=0
 ·rw[h2 h,h,zdW,if_neg (show ¬(tmD v kId).2=false by rw[h1.2 h];decide)]
  by_cases hr:(ze0 m i (tmD v kId).1).1≠0
  ·rw[if_pos hr];exact⟨rfl,fun _=>rfl⟩
  ·rw[if_neg hr];exact⟨rfl,fun _=>rfl⟩
 ·have hf:(tmD v kId).2=false:=by
   cases e:(tmD v kId).2 with
   | true=>exact absurd (h1.1 e) h
   | false=>rfl
  rw[if_pos hf,zet h,(zfD v kId).resolve_left h];exact⟨by split<;>rfl,fun e=>by cases e⟩
theorem zhq {v:JV} (h:v.kind≠7) (key:List UInt8):(tmD v key).2=false:=by
 unfold tmD;rw[if_neg (fun e=>by rw[zgo h] at e;cases e.1)]
theorem rm_mt (m i:List UInt8) (v:JV):(rmD m i v).1=(mtD m i v).1/\((mtD m i v).1=0->(rmD m i v).2=(mtD m i v).2):=by
 unfold rmD mtD
 by_cases h7:v.kind=7
 ·rw[if_neg (fun e=>e h7)];obtain⟨a1,a2⟩:=ri_mid m i v;obtain⟨b1,b2⟩:=tm_rt v zbe;obtain⟨c1,c2⟩:=tm_rt v zbI;dsimp only
  by_cases h:(zeI m i v).1=0
  ·rw[if_neg (fun e=>e h),a1,h,zdW,a2 h]
   by_cases hc:(tmD v zbe).2=true/\(tmD v zbI).2=true
   ·rw[if_pos hc,b1.1 hc.1,c1.1 hc.2,b2 (b1.1 hc.1),c2 (c1.1 hc.2)];exact⟨rfl,fun _=>rfl⟩
   ·rw[if_neg hc];refine⟨?_,fun e=>by cases e⟩
    by_cases ht:rtE v zbe=0
    ·rw[ht,zdW];exact(zfD v zbI).resolve_left fun e=>hc ⟨b1.2 ht,c1.2 e⟩
    ·rw[zet (a:=rtE v zbe) ht];exact(zfD v zbe).resolve_left ht
  ·rw[if_pos h,a1,zet h,zet h];exact⟨rfl,fun e=>absurd e h⟩
 ·rw[if_pos h7];have:(zeI m i v).1=160:=by unfold zeI;rw[if_pos (zhq h7 kId)]
  rw[if_pos (by rw[this];decide),this];exact⟨rfl,fun e=>by cases e⟩
theorem zaB (a b c:Int):orE (orE a b) c=orE a (orE b c):=by
 unfold orE;by_cases h:a=0<;>simp[h]
theorem rv_sv (m i:List UInt8) (v:JV):(rvD m i v).1=(svD m i v).1/\((svD m i v).1=0->(rvD m i v).2=(svD m i v).2):=by
 unfold rvD svD
 by_cases h7:v.kind=7
 ·rw[if_neg (show ¬v.kind≠7 from fun e=>e h7)];obtain⟨a1,a2⟩:=ri_mid m i v;obtain⟨b1,b2⟩:=rs_ol (v:=v) (key:=zbe);obtain⟨c1,c2⟩:=rs_ol (v:=v) (key:=zbH);have hth:(zaG v zbH).1.kind=7->thE v zbH=0:=fun e=>by
   unfold thE
   cases h:(zaG v zbH).2 with
   | true=>rfl
   | false=>rw[zgn h] at e;cases e
  by_cases h:(zeI m i v).1=0
  ·rw[if_neg (show ¬(zeI m i v).1≠0 from fun e=>e h)]
   by_cases ho:(olD (zaG v zbe).1).1=0
   ·rw[if_neg (show ¬(olD (zaG v zbe).1).1≠0 from fun e=>e ho)];have e1:=b2 ho
    by_cases hk:(zaG v zbH).1.kind=7
    ·rw[if_pos hk,if_pos hk];dsimp only;rw[zaB (riD m i v).1,b1,ho,a1,h,hth hk,a2 h,e1];exact⟨rfl,fun _=>rfl⟩
    ·rw[if_neg hk,if_neg hk];dsimp only;rw[zaB _ (thE v zbH),c1,zaB (riD m i v).1,b1,ho,a1,h,a2 h,e1];show orE (orE 0 0) _=_/\_;rw[zdW,zdW]
     by_cases hp:(olD (zaG v zbH).1).1=0
     ·rw[if_neg (show ¬(olD (zaG v zbH).1).1≠0 from fun e=>e hp),hp,c2 hp];exact⟨rfl,fun _=>rfl⟩
     ·rw[if_pos hp];exact⟨rfl,fun e=>absurd e hp⟩
   ·rw[if_pos ho];refine⟨?_,fun e=>absurd e ho⟩
    by_cases hk:(zaG v zbH).1.kind=7
    ·rw[if_pos hk];dsimp only;rw[zaB (riD m i v).1,b1,a1,h,zdW,zet ho]
    ·rw[if_neg hk];dsimp only;rw[zaB _ (thE v zbH),zaB (riD m i v).1,b1,a1,h,zdW,zet ho]
  ·rw[if_pos h];refine⟨?_,fun e=>absurd e h⟩
   by_cases hk:(zaG v zbH).1.kind=7
   ·rw[if_pos hk];dsimp only;rw[zaB,zaB,a1,zet h]
   ·rw[if_neg hk];dsimp only;rw[zaB,zaB,zaB,a1,zet h]
 ·rw[if_pos h7];have:(zeI m i v).1=160:=by unfold zeI;rw[if_pos (zhq h7 kId)]
  rw[if_pos (by rw[this];decide),this];exact⟨rfl,fun e=>by cases e⟩
theorem fe_els {α:Type} {f g:JV->Int×α} (h:∀y,(g y).1=(f y).1/\((f y).1=0->(g y).2=(f y).2)):∀l:List JV,feD g l=(zg6 f l).1/\((zg6 f l).1=0->l.map (fun y=>(g y).2)=(zg6 f l).2)
 | []=>⟨rfl,fun _=>rfl⟩
 | y::l=>by
  obtain⟨h1,h2⟩:=h y;obtain⟨h3,h4⟩:=fe_els h l;rw[feD,zg6,h1,h3]
  by_cases a:(f y).1=0
  ·rw[if_neg (fun e=>e a),a,zdW]
   by_cases b:(zg6 f l).1=0
   ·rw[if_neg (fun e=>e b),b,List.map_cons,h2 a,h4 b];exact⟨rfl,fun _=>rfl⟩
   ·rw[if_pos b];exact⟨rfl,fun e=>absurd e b⟩
  ·rw[if_pos a,zet a];exact⟨rfl,fun e=>absurd e a⟩
theorem ro_el {α:Type} {f g:JV->Int×α} (h:∀y,(g y).1=(f y).1/\((f y).1=0->(g y).2=(f y).2)) (v:JV) (key:List UInt8) :
  orE (roD v key).1 (feD g (roD v key).2)=(opD v key (elD f)).1/\((opD v key (elD f)).1=0->(roD v key).2.map (fun y=>(g y).2)=(opD v key (elD f)).2):=by
 unfold roD opD
 by_cases h2:(zaG v key).2=true
 ·rw[if_neg (by rw[h2];decide),if_pos h2];unfold elD;generalize (zaG v key).1=x
  by_cases h6:x.kind=6
  ·rw[if_neg (fun e=>e h6),if_pos h6]
   by_cases hl:64<x.items.length
   ·rw[if_pos hl,if_pos hl];exact⟨rfl,fun e=>by cases e⟩
   ·rw[if_neg hl,if_neg hl,zdW];exact fe_els h x.items
  ·rw[if_pos h6,if_neg h6];exact⟨rfl,fun e=>by cases e⟩
 ·rw[if_pos (by simpa using h2),if_neg h2];exact⟨rfl,fun _=>rfl⟩
end
open Nat renaming reduceAdd -> z6, reduceSub -> z7, reduceLeDiff -> z8, reduceLT -> j4, reduceMul -> j5, reduceEqDiff -> j6
open Int renaming reduceToNat -> j7, reduceAdd -> j8, reduceSub -> j9, reduceMul -> x0, reduceNeg -> x6, reduceLT -> x7, reduceLE -> x8, reduceEq -> x9, reduceNe -> y4
theorem zof (c:UInt8) (hd:zap c=false):meB c=(decide (97<=c.toNat)&&decide (c.toNat<=122)):=by unfold meB;rw[hd];rfl
theorem ib256:∀n:Fin 256,ibB (UInt8.ofNat n.val)=(UInt8.ofNat n.val==37||(zbu (UInt8.ofNat n.val)||zap (UInt8.ofNat n.val)||zbL (UInt8.ofNat n.val) [46,45,95,58])):=by decide +kernel
theorem ib_form (c:UInt8):ibB c=(c==37||(zbu c||zap c||zbL c [46,45,95,58])):=by
 have:=ib256 ⟨c.toNat,UInt8.toNat_lt c⟩;simpa using this
theorem trim_did {s:List UInt8} (h:jc s zbM=true):Lib.trimPrefix s zbM=s.drop 4:=by unfold Lib.trimPrefix;rw[if_pos h];rfl
theorem idE_len (s:List UInt8):(idE s).2.length<=50000:=by
 have h1:=ze3 s za5;have h2:=zgJ (zaw s za5).2;unfold idE
 repeat' split
 all_goals first
  | exact zd _
  | (show (zcz (zaw s za5).2).length<=50000;omega)
theorem zew (m i:List UInt8):(zeh m i).length=m.length+i.length+5:=by simp[zeh,zbM];omega
section
variable [Tabs Tryz.prog] {objs:List OB} {K:List OB->AV->Prop}
theorem zjx [Shp Tryz.prog] (s new:List UInt8) (c:UInt8) (hs:s.length<=100000) (hn:new.length<=100) (hne:new≠[c]) (hk:K objs (.s (zjk c new s))):zaf Tryz.prog 113 [.s s,.s [c],.s new] objs K:=by
 have hc:Lib.countB (S s) (S [c])<=s.length+1:=zjf c s;have hl:(S s).size+Lib.countB (S s) (S [c])*(S new).size<=140737488355328:=by
  have h1:Lib.countB (S s) (S [c])*(S new).size<=100001*100:=Nat.mul_le_mul (by omega) (by rw[zb1];omega);rw[zb1];omega
 have e:Lib.replaceAll s [c] new=zjk c new s:=zgG c new s hne;rw[<-e] at hk;exact convT (vs:=[.string (S s),.string (S [c]),.string (S new)]) rfl rfl (fun w hT=>Tryz.strings_ReplaceAll_shaped (S s) (S [c]) (S new) w (Shp.sh w hT) (by rw[zb1];omega) (by rw[zb1];simp) hl) hk
theorem zpy (s:List UInt8) (hs:s.length<=1000000) (hk:K objs (.b (zdh s))):zaf Tryz.prog 94 [.s s] objs K:=by
 refine zaX is_did_isMethod rfl fun C _=>?_;unfold zdh at hk;simp only[c_did_isMethod,sxZ,z6,z7,z8,j4,j5,j6,j7,j8,j9,x0,x6,x7,x8,x9,y4,reduceCtorEq,↓reduceIte];refine zaE (fun n objs tm=>∃i:Nat,i<=s.length/\n=s.length - i/\objs=[]/\(∀j (h:j<s.length),j<i->meB s[j]=true)/\tm.length=29/\tm[0]? = some (.s s)/\tm[5]? = some (.i .i64 s.length)/\tm[6]? = some (.i .i64 i)) s.length ⟨0,zd _,rfl,rfl,fun j h h0=>absurd h0 (by omega),rfl,rfl,rfl,rfl⟩ ?_;rintro n _ tm ⟨i,hi,rfl,rfl,hall,hlen,t0,t5,t6⟩
 by_cases hlt:(i:Int)<s.length
 ·have hlt':i<s.length:=by omega
  have hg:=zaP hlt';have hfin:meB s[i]=false->K objs (.b false):=fun h=>by
   rw[zig hlt' h] at hk;exact hk
  have hnext:meB s[i]=true->∀j (h:j<s.length),j<i+1->meB s[j]=true:=by
   intro h j hj hji;rcases Nat.lt_or_ge j i with h1|h1
   ·exact hall j hj h1
   ·have:j=i:=by omega
    subst this;exact h
  simp only[sxZ,z6,z7,z8,j4,j5,j6,j7,j8,j9,x0,x6,x7,x8,x9,y4,reduceCtorEq,↓reduceIte,za,hlen,t0,t5,t6,hlt];refine⟨by omega,?_⟩;rw[hg];generalize s[i]=c at *;refine zad (zl1 c ?_)
  by_cases hd:zap c=true
  ·have hm:meB c=true:=by unfold meB;rw[hd];rfl
   simp only[hd,sxZ,z6,z7,z8,j4,j5,j6,j7,j8,j9,x0,x6,x7,x8,x9,y4,reduceCtorEq,↓reduceIte,za,hlen,t0,t5,t6];exact⟨⟨by omega,by omega⟩,s.length - (i+1),by omega,i+1,by omega,rfl,hnext hm,rfl⟩
  ·simp only[Bool.not_eq_true] at hd;have hm:=zof c hd
   by_cases h97:((c.toNat:Nat):Int)<97
   ·have hm2:meB c=false:=by rw[hm,decide_eq_false (by omega)];rfl
    simp only[hd,hg,h97,sxZ,z6,z7,z8,j4,j5,j6,j7,j8,j9,x0,x6,x7,x8,x9,y4,reduceCtorEq,↓reduceIte,za,hlen,t0,t5,t6];exact⟨⟨by omega,by omega⟩,hfin hm2⟩
   ·by_cases h122:(122:Int)<((c.toNat:Nat):Int)
    ·have hm2:meB c=false:=by rw[hm,decide_eq_false (p:=c.toNat<=122) (by omega),Bool.and_false]
     simp only[hd,hg,h97,h122,sxZ,z6,z7,z8,j4,j5,j6,j7,j8,j9,x0,x6,x7,x8,x9,y4,reduceCtorEq,↓reduceIte,za,hlen,t0,t5,t6];exact⟨⟨by omega,by omega⟩,⟨by omega,by omega⟩,hfin hm2⟩
    ·have hm2:meB c=true:=by rw[hm,decide_eq_true (by omega),decide_eq_true (by omega)];rfl
     simp only[hd,hg,h97,h122,sxZ,z6,z7,z8,j4,j5,j6,j7,j8,j9,x0,x6,x7,x8,x9,y4,reduceCtorEq,↓reduceIte,za,hlen,t0,t5,t6];exact⟨⟨by omega,by omega⟩,⟨by omega,by omega⟩,⟨by omega,by omega⟩,s.length - (i+1),by omega,i+1,by omega,rfl,hnext hm2,rfl⟩
 ·have hie:i=s.length:=by omega
  subst hie;have ha:s.all meB=true:=zlY fun j h=>hall j h h;rw[ha] at hk;simp only[sxZ,z6,z7,z8,j4,j5,j6,j7,j8,j9,x0,x6,x7,x8,x9,y4,reduceCtorEq,↓reduceIte,za,hlen,t0,t5,t6,hlt];have e:decide (¬s=[])=(true&&!s.isEmpty):=by cases s<;>simp
  rw[e];exact hk
theorem zpz (c:UInt8) (hk:K objs (.b (zbu c||zap c||zbL c [46,45,95,58]))):zaf Tryz.prog 111 [.i .u8 c.toNat] objs K:=by
 refine zaX is_did_isIDByte rfl fun C _=>?_;simp only[c_did_isIDByte,sxZ,z6,z7,z8,j4,j5,j6,j7,j8,j9,x0,x6,x7,x8,x9,y4,reduceCtorEq,↓reduceIte];refine zad (aAlpha_k c ?_)
 by_cases h1:zbu c=true
 ·simp only[h1,Bool.true_or] at hk;simp only[h1,sxZ,z6,z7,z8,j4,j5,j6,j7,j8,j9,x0,x6,x7,x8,x9,y4,reduceCtorEq,↓reduceIte];exact hk
 ·simp only[h1,sxZ,z6,z7,z8,j4,j5,j6,j7,j8,j9,x0,x6,x7,x8,x9,y4,reduceCtorEq,↓reduceIte];refine zad (zl1 c ?_)
  by_cases h2:zap c=true
  ·simp only[h1,h2,Bool.true_or,Bool.or_true,Bool.false_or] at hk;simp only[h2,sxZ,z6,z7,z8,j4,j5,j6,j7,j8,j9,x0,x6,x7,x8,x9,y4,reduceCtorEq,↓reduceIte];exact hk
  ·simp only[h1,h2,Bool.false_or] at hk;simp only[h2,sxZ,z6,z7,z8,j4,j5,j6,j7,j8,j9,x0,x6,x7,x8,x9,y4,reduceCtorEq,↓reduceIte];refine zad (zfj _ c ?_);simp only[sxZ,z6,z7,z8,j4,j5,j6,j7,j8,j9,x0,x6,x7,x8,x9,y4,reduceCtorEq,↓reduceIte];rw[zoS];exact hk
set_option maxHeartbeats 4000000 in
theorem zmy [Shp Tryz.prog] (s:List UInt8) (hs:s.length<=16384) (hk:K objs (.tup [.s (idE s).2,.i .i64 (idE s).1])):zaf Tryz.prog 95 [.s s] objs K:=by
 refine zaX is_did_parseID rfl fun C _=>?_;have hid:idE s=if (zcw s).1≠0 then ((zcw s).1,[]) else if s.all ibB=false then (1,[]) else if s=[]\/s.getLast? = some 58 then (3,[]) else if (zaw s za5).1≠0 then ((zaw s za5).1,[]) else (0,zcz (zaw s za5).2):=rfl
 simp only[c_did_parseID,sxZ,z6,z7,z8,j4,j5,j6,j7,j8,j9,x0,x6,x7,x8,x9,y4,reduceCtorEq,↓reduceIte];refine zad (znW s ?_)
 by_cases h1:(zcw s).1=0
 ·simp only[h1,sxZ,z6,z7,z8,j4,j5,j6,j7,j8,j9,x0,x6,x7,x8,x9,y4,reduceCtorEq,↓reduceIte] at hid ⊢;refine zaE (fun n objs tm=>∃i:Nat,i<=s.length/\n=s.length - i/\objs=[]/\(∀j (h:j<s.length),j<i->ibB s[j]=true)/\tm.length=54/\tm[0]? = some (.s s)/\tm[18]? = some (.i .i64 s.length)/\tm[19]? = some (.i .i64 i)) s.length ⟨0,zd _,rfl,rfl,fun j h h0=>absurd h0 (by omega),rfl,rfl,rfl,rfl⟩ ?_;rintro n _ tm ⟨i,hi,rfl,rfl,hall,hlen,t0,t5,t6⟩
  by_cases hlt:(i:Int)<s.length
  ·have hlt':i<s.length:=by omega
   have hg:=zaP hlt';have hfin:ibB s[i]=false->K objs (.tup [.s [],.i .i64 1]):=fun h=>by
    rw[zig hlt' h] at hid;simp only[sxZ,z6,z7,z8,j4,j5,j6,j7,j8,j9,x0,x6,x7,x8,x9,y4,reduceCtorEq,↓reduceIte] at hid;rw[hid] at hk;exact hk
   have hnext:ibB s[i]=true->∀j (h:j<s.length),j<i+1->ibB s[j]=true:=by
    intro h j hj hji;rcases Nat.lt_or_ge j i with h1|h1
    ·exact hall j hj h1
    ·have:j=i:=by omega
     subst this;exact h
   clear hk hid;generalize s[i]=c at *;have hib:=ib_form c
   by_cases h37:c=37
   ·have e37:((c.toNat:Nat):Int)=37:=by rw[h37];rfl
    have hb:ibB c=true:=by rw[hib,h37];rfl
    simp only[sxZ,z6,z7,z8,j4,j5,j6,j7,j8,j9,x0,x6,x7,x8,x9,y4,reduceCtorEq,↓reduceIte,za,hlen,t0,t5,t6,hlt,hg,e37];exact⟨by omega,⟨by omega,by omega⟩,s.length - (i+1),by omega,i+1,by omega,rfl,hnext hb,rfl⟩
   ·have e37:¬((c.toNat:Nat):Int)=37:=fun e=>h37 (UInt8.toNat_inj.1 (by have:(37:UInt8).toNat=37:=rfl;omega));have hne:(c==37)=false:=by simpa using h37
    simp only[sxZ,z6,z7,z8,j4,j5,j6,j7,j8,j9,x0,x6,x7,x8,x9,y4,reduceCtorEq,↓reduceIte,za,hlen,t0,t5,t6,hlt,hg,e37];refine⟨by omega,by omega,?_⟩;refine zad (zpz c ?_);rw[hne,Bool.false_or] at hib;rw[<-hib]
    by_cases hb:ibB c=true
    ·simp only[hb,sxZ,z6,z7,z8,j4,j5,j6,j7,j8,j9,x0,x6,x7,x8,x9,y4,reduceCtorEq,↓reduceIte,za,hlen,t0,t5,t6];exact⟨⟨by omega,by omega⟩,s.length - (i+1),by omega,i+1,by omega,rfl,hnext hb,rfl⟩
    ·simp only[Bool.not_eq_true] at hb;simp only[hb,sxZ,z6,z7,z8,j4,j5,j6,j7,j8,j9,x0,x6,x7,x8,x9,y4,reduceCtorEq,↓reduceIte,za,hlen,t0,t5,t6];exact hfin hb
  ·have hie:i=s.length:=by omega
   subst hie;have ha:s.all ibB=true:=zlY fun j h=>hall j h h;simp only[ha,sxZ,z6,z7,z8,j4,j5,j6,j7,j8,j9,x0,x6,x7,x8,x9,y4,reduceCtorEq,↓reduceIte] at hid;simp only[sxZ,z6,z7,z8,j4,j5,j6,j7,j8,j9,x0,x6,x7,x8,x9,y4,reduceCtorEq,↓reduceIte,za,hlen,t0,t5,t6,hlt]
   by_cases hs0:s=[]
   ·have ho:s=[]\/s.getLast? = some 58:=.inl hs0;rw[if_pos ho] at hid;rw[hid] at hk;simp only[sxZ,z6,z7,z8,j4,j5,j6,j7,j8,j9,x0,x6,x7,x8,x9,y4,reduceCtorEq,↓reduceIte,za,hlen,t0,t5,t6,hs0];exact hk
   ·have hpos:0<s.length:=by
     rcases Nat.eq_zero_or_pos s.length with h|h
     ·exact absurd (List.eq_nil_of_length_eq_zero h) hs0
     ·exact h
    have hgl:s.getLast? = some s[s.length - 1]:=by rw[List.getLast?_eq_getElem?,zl (by omega)]
    have hg2:s.getD ((s.length:Int) - 1).toNat 0=s[s.length - 1]:=by
     rw[show ((s.length:Int) - 1).toNat=s.length - 1 by omega];exact zaP (by omega)
    by_cases h58:s[s.length - 1]=58
    ·have ho:s=[]\/s.getLast? = some 58:=.inr (by rw[hgl,h58]);have e58:((s[s.length - 1].toNat:Nat):Int)=58:=by rw[h58];rfl
     rw[if_pos ho] at hid;rw[hid] at hk;simp only[sxZ,z6,z7,z8,j4,j5,j6,j7,j8,j9,x0,x6,x7,x8,x9,y4,reduceCtorEq,↓reduceIte,za,hlen,t0,t5,t6,hs0];refine⟨⟨by omega,by omega⟩,⟨by omega,by omega⟩,?_⟩;rw[hg2];simp only[sxZ,z6,z7,z8,j4,j5,j6,j7,j8,j9,x0,x6,x7,x8,x9,y4,reduceCtorEq,↓reduceIte,za,hlen,t0,t5,t6,e58];exact hk
    ·have ho:¬(s=[]\/s.getLast? = some 58):=by
      rw[hgl];rintro(h|h)
      ·exact hs0 h
      ·injection h with h;exact h58 h
     have e58:¬((s[s.length - 1].toNat:Nat):Int)=58:=fun e=>h58 (UInt8.toNat_inj.1 (by have:(58:UInt8).toNat=58:=rfl;omega));rw[if_neg ho] at hid;simp only[sxZ,z6,z7,z8,j4,j5,j6,j7,j8,j9,x0,x6,x7,x8,x9,y4,reduceCtorEq,↓reduceIte,za,hlen,t0,t5,t6,hs0];refine⟨⟨by omega,by omega⟩,⟨by omega,by omega⟩,?_⟩;rw[hg2];simp only[sxZ,z6,z7,z8,j4,j5,j6,j7,j8,j9,x0,x6,x7,x8,x9,y4,reduceCtorEq,↓reduceIte,za,hlen,t0,t5,t6,e58];refine zad (zhL s za5 ?_)
     by_cases h3:(zaw s za5).1=0
     ·have nl:=ze3 s za5;simp only[h3,sxZ,z6,z7,z8,j4,j5,j6,j7,j8,j9,x0,x6,x7,x8,x9,y4,reduceCtorEq,↓reduceIte] at hid;simp only[h3,sxZ,z6,z7,z8,j4,j5,j6,j7,j8,j9,x0,x6,x7,x8,x9,y4,reduceCtorEq,↓reduceIte,za,hlen];refine zad (zjx _ _ 126 (by omega) (by decide) (by decide) ?_);rw[hid] at hk;simp only[sxZ,z6,z7,z8,j4,j5,j6,j7,j8,j9,x0,x6,x7,x8,x9,y4,reduceCtorEq,↓reduceIte,za,hlen];exact hk
     ·simp only[h3,sxZ,z6,z7,z8,j4,j5,j6,j7,j8,j9,x0,x6,x7,x8,x9,y4,reduceCtorEq,↓reduceIte] at hid;simp only[h3,sxZ,z6,z7,z8,j4,j5,j6,j7,j8,j9,x0,x6,x7,x8,x9,y4,reduceCtorEq,↓reduceIte,za,hlen];rw[hid] at hk;exact hk
 ·simp only[h1,sxZ,z6,z7,z8,j4,j5,j6,j7,j8,j9,x0,x6,x7,x8,x9,y4,reduceCtorEq,↓reduceIte] at hid ⊢;rw[hid] at hk;exact hk
theorem zgv [Shp Tryz.prog] (s:List UInt8) (hs:s.length<=maxLen) (hk:K objs (.tup [.agg [.s (zcN s).2.1,.s (zcN s).2.2],.i .i64 (zcN s).1])):zaf Tryz.prog 66 [.s s] objs K:=by
 have hm:maxLen=2 ^ 63 - 1:=rfl;refine zaX is_did_ParseDID rfl fun C _=>?_;unfold zcN at hk
 by_cases c0:(4096:Int)<↑s.length
 ·have c0':4096<s.length:=by omega
  simp only[c0',if_true] at hk;simp only[c0,c_did_ParseDID,sxZ,z6,z7,z8,j4,j5,j6,j7,j8,j9,x0,x6,x7,x8,x9,y4,reduceCtorEq,↓reduceIte];exact hk
 ·have c0':¬4096<s.length:=by omega
  simp only[c0',if_false] at hk;simp only[c0,c_did_ParseDID,sxZ,z6,z7,z8,j4,j5,j6,j7,j8,j9,x0,x6,x7,x8,x9,y4,reduceCtorEq,↓reduceIte];refine zad (ziw s zbM ?_)
  by_cases c1:jc s zbM=true
  ·have ct:=zc8 58 (s.drop 4);have hdl:(s.drop 4).length<=s.length:=by rw[zu];omega
   rw[trim_did c1];simp only[c1,sxZ,z6,z7,z8,j4,j5,j6,j7,j8,j9,x0,x6,x7,x8,x9,y4,reduceCtorEq,↓reduceIte] at hk ⊢;generalize s.drop 4=r at *;refine zad (zkn r 58 (by omega) ?_)
   by_cases c2:(zaH 58 r).2.2=true
   ·simp only[c2,sxZ,z6,z7,z8,j4,j5,j6,j7,j8,j9,x0,x6,x7,x8,x9,y4,reduceCtorEq,↓reduceIte] at hk ⊢;refine zad (zpy _ (by omega) ?_)
    by_cases c3:zdh (zaH 58 r).1=true
    ·simp only[c3,sxZ,z6,z7,z8,j4,j5,j6,j7,j8,j9,x0,x6,x7,x8,x9,y4,reduceCtorEq,↓reduceIte] at hk ⊢;refine zad (zmy _ (by omega) ?_)
     by_cases c4:(idE (zaH 58 r).2.1).1=0
     ·simp only[c4,sxZ,z6,z7,z8,j4,j5,j6,j7,j8,j9,x0,x6,x7,x8,x9,y4,reduceCtorEq,↓reduceIte] at hk ⊢;exact hk
     ·simp only[c4,sxZ,z6,z7,z8,j4,j5,j6,j7,j8,j9,x0,x6,x7,x8,x9,y4,reduceCtorEq,↓reduceIte] at hk ⊢;exact hk
    ·simp only[c3,sxZ,z6,z7,z8,j4,j5,j6,j7,j8,j9,x0,x6,x7,x8,x9,y4,reduceCtorEq,↓reduceIte] at hk ⊢;exact hk
   ·simp only[c2,sxZ,z6,z7,z8,j4,j5,j6,j7,j8,j9,x0,x6,x7,x8,x9,y4,reduceCtorEq,↓reduceIte] at hk ⊢;exact hk
  ·simp only[c1,sxZ,z6,z7,z8,j4,j5,j6,j7,j8,j9,x0,x6,x7,x8,x9,y4,reduceCtorEq,↓reduceIte] at hk ⊢;exact hk
def zbi (u:DidU):AV:=.agg [.s u.meth,.s u.id,.s u.path,.s u.query,.s u.frag,.b u.hq,.b u.hf]
set_option maxHeartbeats 4000000 in
theorem zia [Shp Tryz.prog] (s:List UInt8) (hs:s.length<=maxLen) (hk:K objs (.tup [zbi (zfz s).2,.i .i64 (zfz s).1])):zaf Tryz.prog 101 [.s s] objs K:=by
 have hm:maxLen=2 ^ 63 - 1:=rfl;refine zaX is_did_Parse rfl fun C _=>?_;unfold zfz at hk
 by_cases c0:(4096:Int)<↑s.length
 ·have c0':4096<s.length:=by omega
  simp only[c0',if_true,zbi,zfa] at hk;simp only[c0,c_did_Parse,sxZ,z6,z7,z8,j4,j5,j6,j7,j8,j9,x0,x6,x7,x8,x9,y4,reduceCtorEq,↓reduceIte];exact hk
 ·have c0':¬4096<s.length:=by omega
  simp only[c0',if_false] at hk;simp only[c0,c_did_Parse,sxZ,z6,z7,z8,j4,j5,j6,j7,j8,j9,x0,x6,x7,x8,x9,y4,reduceCtorEq,↓reduceIte];refine zad (zkn s 35 (by omega) ?_);simp only[sxZ,z6,z7,z8,j4,j5,j6,j7,j8,j9,x0,x6,x7,x8,x9,y4,reduceCtorEq,↓reduceIte];have l1:=zc8 35 s;refine zad (zkn _ 63 (by omega) ?_);have l2:=zc8 63 (zaH 35 s).1;simp only[sxZ,z6,z7,z8,j4,j5,j6,j7,j8,j9,x0,x6,x7,x8,x9,y4,reduceCtorEq,↓reduceIte];refine zad (zkn _ 47 (by omega) ?_);have l3:=zc8 47 (zaH 63 (zaH 35 s).1).1;simp only[sxZ,z6,z7,z8,j4,j5,j6,j7,j8,j9,x0,x6,x7,x8,x9,y4,reduceCtorEq,↓reduceIte];have en:(zaH 47 (zaH 63 (zaH 35 s).1).1).1=zbA s:=rfl;have eb:(zaH 63 (zaH 35 s).1).1=zbn s:=rfl;rw[en,eb] at l3;rw[eb] at l2;rw[en,eb];generalize zbA s=nm at *;generalize zbn s=bd at *;generalize (zaH 63 (zaH 35 s).1).2.1=qu at *;generalize (zaH 63 (zaH 35 s).1).2.2=bq at *;generalize (zaH 35 s).2.1=fr at *;generalize (zaH 35 s).2.2=bf at *;refine zad (zgv nm (by omega) ?_)
  by_cases c1:(zcN nm).1=0
  ·simp only[c1,sxZ,z6,z7,z8,j4,j5,j6,j7,j8,j9,x0,x6,x7,x8,x9,y4,reduceCtorEq,↓reduceIte] at hk ⊢;refine⟨⟨by omega,by omega⟩,?_⟩;refine zad (zhL _ zaO ?_)
   by_cases c2:(zaw (bd.drop nm.length) zaO).1=0
   ·simp only[c2,sxZ,z6,z7,z8,j4,j5,j6,j7,j8,j9,x0,x6,x7,x8,x9,y4,reduceCtorEq,↓reduceIte] at hk ⊢;refine zad (zhL _ zaq ?_)
    by_cases c3:(zaw qu zaq).1=0
    ·simp only[c3,sxZ,z6,z7,z8,j4,j5,j6,j7,j8,j9,x0,x6,x7,x8,x9,y4,reduceCtorEq,↓reduceIte] at hk ⊢;refine zad (zhL _ zaq ?_)
     by_cases c4:(zaw fr zaq).1=0
     ·simp only[c4,zbi,sxZ,z6,z7,z8,j4,j5,j6,j7,j8,j9,x0,x6,x7,x8,x9,y4,reduceCtorEq,↓reduceIte] at hk ⊢;exact hk
     ·simp only[c4,zbi,zfa,sxZ,z6,z7,z8,j4,j5,j6,j7,j8,j9,x0,x6,x7,x8,x9,y4,reduceCtorEq,↓reduceIte] at hk ⊢;exact hk
    ·simp only[c3,zbi,zfa,sxZ,z6,z7,z8,j4,j5,j6,j7,j8,j9,x0,x6,x7,x8,x9,y4,reduceCtorEq,↓reduceIte] at hk ⊢;exact hk
   ·simp only[c2,zbi,zfa,sxZ,z6,z7,z8,j4,j5,j6,j7,j8,j9,x0,x6,x7,x8,x9,y4,reduceCtorEq,↓reduceIte] at hk ⊢;exact hk
  ·simp only[c1,zbi,zfa,sxZ,z6,z7,z8,j4,j5,j6,j7,j8,j9,x0,x6,x7,x8,x9,y4,reduceCtorEq,↓reduceIte] at hk ⊢;exact hk
theorem zcQ (m i:List UInt8) (h1:m.length<=200000000000000) (h2:i.length<=200000000000000) (hk:K objs (.s (zeh m i))):zaf Tryz.prog 25 [.agg [.s m,.s i]] objs K:=by
 refine zaX is_did_FormatDID rfl fun C _=>?_;simp only[c_did_FormatDID,sxZ,z6,z7,z8,j4,j5,j6,j7,j8,j9,x0,x6,x7,x8,x9,y4,reduceCtorEq,↓reduceIte];exact⟨by omega,by omega,by omega,by simpa[zeh,zbM] using hk⟩
theorem zbS (m i:List UInt8) (h1:m.length<=200000000000000) (h2:i.length<=200000000000000) (hk:K objs (.s (zeh m i))):zaf Tryz.prog 34 [.agg [.s m,.s i]] objs K:=by
 refine zaX is_ref10_FormatDID rfl fun C _=>?_;simp only[c_ref10_FormatDID,sxZ,z6,z7,z8,j4,j5,j6,j7,j8,j9,x0,x6,x7,x8,x9,y4,reduceCtorEq,↓reduceIte];exact⟨by omega,by omega,by omega,by simpa[zeh,zbM] using hk⟩
theorem zpA (u:DidU) (h1:u.meth.length<=200000000000000) (h2:u.id.length<=200000000000000) (h3:u.path.length<=200000000000000) (h4:u.query.length<=200000000000000) (h5:u.frag.length<=200000000000000) (hk:K objs (.s (zh1 u))):zaf Tryz.prog 80 [zbi u] objs K:=by
 refine zaX is_did_Format rfl fun C _=>?_;have hl:=zew u.meth u.id;unfold zh1 at hk;simp only[zbi,c_did_Format,sxZ,z6,z7,z8,j4,j5,j6,j7,j8,j9,x0,x6,x7,x8,x9,y4,reduceCtorEq,↓reduceIte];refine zgg (zcQ u.meth u.id h1 h2 ⟨rfl,rfl⟩) ?_;simp only[sxZ,z6,z7,z8,j4,j5,j6,j7,j8,j9,x0,x6,x7,x8,x9,y4,reduceCtorEq,↓reduceIte];refine⟨by omega,?_⟩
 by_cases c1:u.hq=true
 all_goals by_cases c2:u.hf=true
 all_goals simp only[c1,c2,if_true,if_false,Bool.false_eq_true,jt] at hk
 all_goals simp only[c1,c2,sxZ,z6,z7,z8,j4,j5,j6,j7,j8,j9,x0,x6,x7,x8,x9,y4,reduceCtorEq,↓reduceIte]
 ·exact⟨by omega,by omega,by omega,by omega,by simpa using hk⟩
 ·exact⟨by omega,by omega,by simpa using hk⟩
 ·exact⟨by omega,by omega,by simpa using hk⟩
 ·exact hk
theorem zmj (u:DidU) (h1:u.meth.length<=200000000000000) (h2:u.id.length<=200000000000000) (h3:u.path.length<=200000000000000) (h4:u.query.length<=200000000000000) (h5:u.frag.length<=200000000000000) (hk:K objs (.s (zh1 u))):zaf Tryz.prog 44 [zbi u] objs K:=by
 refine zaX is_ref10_Format rfl fun C _=>?_;have hl:=zew u.meth u.id;unfold zh1 at hk;simp only[zbi,c_ref10_Format,sxZ,z6,z7,z8,j4,j5,j6,j7,j8,j9,x0,x6,x7,x8,x9,y4,reduceCtorEq,↓reduceIte];refine zgg (zbS u.meth u.id h1 h2 ⟨rfl,rfl⟩) ?_;simp only[sxZ,z6,z7,z8,j4,j5,j6,j7,j8,j9,x0,x6,x7,x8,x9,y4,reduceCtorEq,↓reduceIte];refine⟨by omega,?_⟩
 by_cases c1:u.hq=true
 all_goals by_cases c2:u.hf=true
 all_goals simp only[c1,c2,if_true,if_false,Bool.false_eq_true,jt] at hk
 all_goals simp only[c1,c2,sxZ,z6,z7,z8,j4,j5,j6,j7,j8,j9,x0,x6,x7,x8,x9,y4,reduceCtorEq,↓reduceIte]
 ·exact⟨by omega,by omega,by omega,by omega,by simpa using hk⟩
 ·exact⟨by omega,by omega,by simpa using hk⟩
 ·exact⟨by omega,by omega,by simpa using hk⟩
 ·exact hk
theorem zmx [Shp Tryz.prog] (m i r:List UInt8) (h1:m.length<=200000000) (h2:i.length<=200000000) (hr:r.length<=200000000) (hk:K objs (.tup [zbi (ze0 m i r).2,.i .i64 (ze0 m i r).1])):zaf Tryz.prog 79 [.agg [.s m,.s i],.s r] objs K:=by
 have hm:maxLen=2 ^ 63 - 1:=rfl;have hl:=zew m i;refine zaX is_did_Resolve rfl fun C _=>?_;unfold ze0 at hk;simp only[c_did_Resolve,sxZ,z6,z7,z8,j4,j5,j6,j7,j8,j9,x0,x6,x7,x8,x9,y4,reduceCtorEq,↓reduceIte];refine zad (ziv r zbM ?_)
 by_cases c1:jc r zbM=true
 ·simp only[c1,sxZ,z6,z7,z8,j4,j5,j6,j7,j8,j9,x0,x6,x7,x8,x9,y4,reduceCtorEq,↓reduceIte] at hk ⊢;refine zad (zia r (by omega) ?_);simp only[zbi,sxZ,z6,z7,z8,j4,j5,j6,j7,j8,j9,x0,x6,x7,x8,x9,y4,reduceCtorEq,↓reduceIte] at hk ⊢;exact hk
 ·cases r with
  | nil=>
   simp only[c1,sxZ,z6,z7,z8,j4,j5,j6,j7,j8,j9,x0,x6,x7,x8,x9,y4,reduceCtorEq,↓reduceIte] at hk ⊢;refine zad (zcQ m i (by omega) (by omega) ?_);simp only[sxZ,z6,z7,z8,j4,j5,j6,j7,j8,j9,x0,x6,x7,x8,x9,y4,reduceCtorEq,↓reduceIte];refine⟨by omega,?_⟩;refine zad (zia _ (by omega) ?_);simp only[zbi,sxZ,z6,z7,z8,j4,j5,j6,j7,j8,j9,x0,x6,x7,x8,x9,y4,reduceCtorEq,↓reduceIte,true_or] at hk ⊢;exact hk
  | cons c t=>
   simp only[c1,sxZ,z6,z7,z8,j4,j5,j6,j7,j8,j9,x0,x6,x7,x8,x9,y4,reduceCtorEq,↓reduceIte,List.head?_cons,Option.some.injEq,false_or] at hk;simp only[c1,sxZ,z6,z7,z8,j4,j5,j6,j7,j8,j9,x0,x6,x7,x8,x9,y4,reduceCtorEq,↓reduceIte,List.getD_cons_zero];refine⟨by omega,?_⟩;refine zad (zfj _ c ?_);have hix:=zoS [47,63,35] c
   by_cases c2:zbL c [47,63,35]=true
   ·rw[c2] at hix;have h0:=of_decide_eq_true hix;simp only[c2,sxZ,z6,z7,z8,j4,j5,j6,j7,j8,j9,x0,x6,x7,x8,x9,y4,reduceCtorEq,↓reduceIte] at hk;simp only[h0,sxZ,z6,z7,z8,j4,j5,j6,j7,j8,j9,x0,x6,x7,x8,x9,y4,reduceCtorEq,↓reduceIte];refine zad (zcQ m i (by omega) (by omega) ?_);simp only[sxZ,z6,z7,z8,j4,j5,j6,j7,j8,j9,x0,x6,x7,x8,x9,y4,reduceCtorEq,↓reduceIte];simp only[zr] at hr;refine⟨by omega,?_⟩;refine zad (zia _ (by simp only[zm,zr];omega) ?_);simp only[zbi,sxZ,z6,z7,z8,j4,j5,j6,j7,j8,j9,x0,x6,x7,x8,x9,y4,reduceCtorEq,↓reduceIte] at hk ⊢;exact hk
   ·simp only[Bool.not_eq_true] at c2;rw[c2] at hix;have h0:=of_decide_eq_false hix;simp only[c2,sxZ,z6,z7,z8,j4,j5,j6,j7,j8,j9,x0,x6,x7,x8,x9,y4,reduceCtorEq,↓reduceIte] at hk;simp only[h0,sxZ,z6,z7,z8,j4,j5,j6,j7,j8,j9,x0,x6,x7,x8,x9,y4,reduceCtorEq,↓reduceIte];simp only[zbi,zfa,sxZ,z6,z7,z8,j4,j5,j6,j7,j8,j9,x0,x6,x7,x8,x9,y4,reduceCtorEq,↓reduceIte] at hk;exact hk
end
section
attribute [local irreducible] run
theorem zd7:IsFn Tryz.prog 64:=⟨_,Tryz.func64,by kernel_rfl,of_decide_eq_true (by kernel_rfl)⟩
theorem zm0 (v:JV) (key:List UInt8) (n:Nat) (h:(zaG v key).1.text.length<=n):(tmD v key).1.length<=n:=by
 unfold tmD;split
 ·exact h
 ·exact zd _
section
variable [Tabs Tryz.prog] {objs:List OB} {K:List OB->AV->Prop}
theorem zog (v:JV) (hk:K (objs++[.box 25 (zao v)]) (.fn 64 [] [.p objs.length 0])):zaf Tryz.prog 23 [.agg (zao v)] objs K:=by
 refine zcj is_diddoc_membersOf fun C _=>?_;rw[c_diddoc_membersOf];rw[zae v] at hk ⊢;simp only[sxZ,z6,z7,z8,j4,j5,j6,j7,j8,j9,x0,x6,x7,x8,x9,y4,reduceCtorEq,↓reduceIte];exact hk
theorem zjP (v:JV) (key:List UInt8) (b:Nat) (hb:objs[b]? = some (.box 25 (zao v))) (hv:JOk v) (hj:JBd v) (hk:∀z,K (objs++[z]) (zbv (zaG v key))):zaf Tryz.prog 64 [.s key,.p b 0] objs K:=by
 refine zcj is_diddoc_membersOf_1 fun C _=>?_;rw[c_diddoc_membersOf_1];have ejv:=zae v;have hbl:=(zf.1 hb).1;refine zaa fun Z hZ=>?_;simp only[sxZ,z6,z7,z8,j4,j5,j6,j7,j8,j9,x0,x6,x7,x8,x9,y4,reduceCtorEq,↓reduceIte];have eb:(objs++[OB.box 25 [.i .i64 0,.s [],.nil,.nil]])[b]? = some (.box 25 (zao v)):=by rw[qc hbl];exact hb
 have eX:(objs++[OB.box 25 [.i .i64 0,.s [],.nil,.nil]])[objs.length]? = some (.box 25 [.i .i64 0,.s [],.nil,.nil]):=gn1 _ _;have eS:∀Y,(objs++[OB.box 25 [.i .i64 0,.s [],.nil,.nil]]).set objs.length Y=objs++[Y]:=fun Y=>sn1 _ _ _;have eG:∀Y:OB,(objs++[Y])[objs.length]? = some Y:=fun Y=>gn1 _ _;rw[ejv] at eb;generalize objs++[OB.box 25 [.i .i64 0,.s [],.nil,.nil]]=o1 at eb eX eS ⊢;generalize objs.length=q at eX eS eG ⊢;subst hZ;refine zaa fun Z hZ=>?_;simp only[sxZ,z6,z7,z8,j4,j5,j6,j7,j8,j9,x0,x6,x7,x8,x9,y4,reduceCtorEq,↓reduceIte,eb];rw[<-ejv];refine zad (zli v key hv hj ?_);unfold zbv at hk ⊢;generalize zaG v key=R at hk ⊢;obtain⟨x,ok⟩:=R;dsimp only at hk ⊢;rw[zae x] at hk ⊢;simp only[sxZ,z6,z7,z8,j4,j5,j6,j7,j8,j9,x0,x6,x7,x8,x9,y4,reduceCtorEq,↓reduceIte,eX,eS];subst hZ;simp only[sxZ,z6,z7,z8,j4,j5,j6,j7,j8,j9,x0,x6,x7,x8,x9,y4,reduceCtorEq,↓reduceIte,eG];exact hk _
theorem tm_k (v:JV) (key:List UInt8) (hv:JOk v) (hj:JBd v) (hk:K objs (.tup [.s (tmD v key).1,.b (tmD v key).2])):zaf Tryz.prog 65 [.agg (zao v),.s key] objs K:=by
 refine zaX is_diddoc_textMember (by simp only[zan,AV.plain,zaL,Bool.and_self]) fun C _=>?_;rw[c_diddoc_textMember];have ejv:=zae v;rw[ejv];refine zaa fun Z hZ=>?_;simp only[sxZ,z6,z7,z8,j4,j5,j6,j7,j8,j9,x0,x6,x7,x8,x9,y4,reduceCtorEq,↓reduceIte];subst hZ;refine zaa fun Z hZ=>?_;simp only[sxZ,z6,z7,z8,j4,j5,j6,j7,j8,j9,x0,x6,x7,x8,x9,y4,reduceCtorEq,↓reduceIte];rw[<-ejv];refine zad (zog v ?_);simp only[sxZ,z6,z7,z8,j4,j5,j6,j7,j8,j9,x0,x6,x7,x8,x9,y4,reduceCtorEq,↓reduceIte];refine zev zd7 (zjP v key 1 rfl hv hj fun z=>?_);unfold tmD at hk;unfold zbv;generalize zaG v key=R at hk ⊢;obtain⟨x,ok⟩:=R;dsimp only at hk ⊢;rw[zae x];simp only[sxZ,z6,z7,z8,j4,j5,j6,j7,j8,j9,x0,x6,x7,x8,x9,y4,reduceCtorEq,↓reduceIte];subst hZ;refine zaa fun Z hZ=>?_
 cases ok with
 | false=>
  rw[if_neg (show ¬(false=true/\x.kind=5) from fun e=>by cases e.1)] at hk;simp only[sxZ,z6,z7,z8,j4,j5,j6,j7,j8,j9,x0,x6,x7,x8,x9,y4,reduceCtorEq,↓reduceIte];exact hk
 | true=>
  by_cases c:x.kind=5
  ·rw[if_pos ⟨rfl,c⟩] at hk;simp only[sxZ,z6,z7,z8,j4,j5,j6,j7,j8,j9,x0,x6,x7,x8,x9,y4,reduceCtorEq,↓reduceIte,c];subst hZ;simp only[sxZ,z6,z7,z8,j4,j5,j6,j7,j8,j9,x0,x6,x7,x8,x9,y4,reduceCtorEq,↓reduceIte];exact hk
  ·rw[if_neg (fun e=>c e.2)] at hk;simp only[sxZ,z6,z7,z8,j4,j5,j6,j7,j8,j9,x0,x6,x7,x8,x9,y4,reduceCtorEq,↓reduceIte,c];exact hk
theorem mid_k [Shp Tryz.prog] (m i:List UInt8) (v:JV) (hv:JOk v) (hj:JBd v) (h1:m.length<=100000) (h2:i.length<=100000) (ht:(zaG v kId).1.text.length<=100000000) (hl:∀r:List UInt8,r.length<=100000000->(ze0 m i r).1=0->(ze0 m i r).2.meth.length<=200000000000000/\(ze0 m i r).2.id.length<=200000000000000/\(ze0 m i r).2.path.length<=200000000000000/\(ze0 m i r).2.query.length<=200000000000000/\(ze0 m i r).2.frag.length<=200000000000000)
  (hk:K objs (.tup [.s (zeI m i v).2,.i .i64 (zeI m i v).1])):zaf Tryz.prog 41 [.agg (zao v),.agg [.s m,.s i]] objs K:=by
 refine zaX is_diddoc_memberID (by simp only[zan,AV.plain,zaL,Bool.and_self]) fun C _=>?_;rw[c_diddoc_memberID];have ejv:=zae v;have htl:=zm0 v kId _ ht;rw[ejv];refine zaa fun Z hZ=>?_;simp only[sxZ,z6,z7,z8,j4,j5,j6,j7,j8,j9,x0,x6,x7,x8,x9,y4,reduceCtorEq,↓reduceIte];subst hZ;refine zaa fun Z hZ=>?_;simp only[sxZ,z6,z7,z8,j4,j5,j6,j7,j8,j9,x0,x6,x7,x8,x9,y4,reduceCtorEq,↓reduceIte];rw[<-ejv];refine zad (tm_k v kId hv hj ?_);unfold zeI at hk;generalize tmD v kId=R at hk htl ⊢;obtain⟨x,ok⟩:=R;dsimp only at hk htl ⊢;rw[ejv];simp only[sxZ,z6,z7,z8,j4,j5,j6,j7,j8,j9,x0,x6,x7,x8,x9,y4,reduceCtorEq,↓reduceIte];subst hZ;refine zaa fun Z hZ=>?_
 cases ok with
 | false=>
  rw[if_pos rfl] at hk;simp only[sxZ,z6,z7,z8,j4,j5,j6,j7,j8,j9,x0,x6,x7,x8,x9,y4,reduceCtorEq,↓reduceIte];exact hk
 | true=>
  rw[if_neg (by decide)] at hk;simp only[sxZ,z6,z7,z8,j4,j5,j6,j7,j8,j9,x0,x6,x7,x8,x9,y4,reduceCtorEq,↓reduceIte];subst hZ;refine zaa fun Z hZ=>?_;simp only[sxZ,z6,z7,z8,j4,j5,j6,j7,j8,j9,x0,x6,x7,x8,x9,y4,reduceCtorEq,↓reduceIte];refine zad (zmx m i x (by omega) (by omega) (by omega) ?_);have hl:=hl x htl;generalize ze0 m i x=R at hk hl ⊢;obtain⟨e,u⟩:=R;dsimp only at hk hl ⊢;unfold zbi;simp only[sxZ,z6,z7,z8,j4,j5,j6,j7,j8,j9,x0,x6,x7,x8,x9,y4,reduceCtorEq,↓reduceIte];subst hZ;refine zaa fun Z hZ=>?_
  by_cases c:e=0
  ·subst c;rw[if_neg (by decide)] at hk;obtain⟨q1,q2,q3,q4,q5⟩:=hl rfl;simp only[sxZ,z6,z7,z8,j4,j5,j6,j7,j8,j9,x0,x6,x7,x8,x9,y4,reduceCtorEq,↓reduceIte];subst hZ;refine zaa fun Z hZ=>?_;simp only[sxZ,z6,z7,z8,j4,j5,j6,j7,j8,j9,x0,x6,x7,x8,x9,y4,reduceCtorEq,↓reduceIte];refine zad (zpA u q1 q2 q3 q4 q5 ?_);simp only[sxZ,z6,z7,z8,j4,j5,j6,j7,j8,j9,x0,x6,x7,x8,x9,y4,reduceCtorEq,↓reduceIte];subst hZ;simp only[sxZ,z6,z7,z8,j4,j5,j6,j7,j8,j9,x0,x6,x7,x8,x9,y4,reduceCtorEq,↓reduceIte];exact hk
  ·rw[if_pos c] at hk;simp only[sxZ,z6,z7,z8,j4,j5,j6,j7,j8,j9,x0,x6,x7,x8,x9,y4,reduceCtorEq,↓reduceIte,c];exact hk
end
end
section
attribute [local irreducible] run
theorem zcF {G:Gh} {I:Imm} {a a' b:AV} {y:Value} (h:∀z,Den G I a z->Den G I a' z) (hd:Den G I (.tup [a,b]) y):Den G I (.tup [a',b]) y:=by
 simp only[Den,zaj] at hd ⊢;obtain⟨ys,rfl,y1,ys1,rfl,h1,h2⟩:=hd;exact⟨_,rfl,y1,ys1,rfl,h _ h1,h2⟩
def zki (R:Int×List (List UInt8)):AV:=.tup [.row R.2.length (R.2.map .s),.i .i64 R.1]
section
variable [Tabs Tryz.prog] {objs:List OB} {K:List OB->AV->Prop}
theorem zm1 (l:List JV) (hk:K objs (zki (txD l))):zaf Tryz.prog 67 [.row l.length (zab l)] objs K:=by
 refine zgf (zki (txD l)) ?_;have knil:∀e:Int,txD l=(e,[])->(∀G I y,Den G I (.tup [.nil,.i .i64 e]) y->Den G I (zki (txD l)) y)/\K objs (zki (txD l)):=fun e he=>⟨fun G I y h=>by rw[he];exact zcF (fun z hz=>zav hz) h,hk⟩;refine zaX is_diddoc_texts (by simp only[zan,AV.plain,zch,Bool.and_self]) fun C _=>?_;rw[c_diddoc_texts];have hl4:=zaI l;refine zaa fun Z hZ=>?_;simp only[sxZ,z6,z7,z8,j4,j5,j6,j7,j8,j9,x0,x6,x7,x8,x9,y4,reduceCtorEq,↓reduceIte];subst hZ;refine zaa fun Z hZ=>?_
 by_cases hl:(64:Int)<(l.length:Int)
 ·have:=knil 161 (by unfold txD;rw[if_pos (by omega)]);simp only[sxZ,z6,z7,z8,j4,j5,j6,j7,j8,j9,x0,x6,x7,x8,x9,y4,reduceCtorEq,↓reduceIte,hl,decide_true];exact this
 simp only[sxZ,z6,z7,z8,j4,j5,j6,j7,j8,j9,x0,x6,x7,x8,x9,y4,reduceCtorEq,↓reduceIte,hl,decide_false];subst hZ;refine zaa fun Z hZ=>?_;simp only[sxZ,z6,z7,z8,j4,j5,j6,j7,j8,j9,x0,x6,x7,x8,x9,y4,reduceCtorEq,↓reduceIte];subst hZ;refine zaa fun Z hZ=>?_;refine zaa fun W hW=>?_;simp only[sxZ,z6,z7,z8,j4,j5,j6,j7,j8,j9,x0,x6,x7,x8,x9,y4,reduceCtorEq,↓reduceIte];subst hW;rw[zaZ];refine zaE (fun n o tm=>∃i:Nat,i<=l.length/\n=l.length - i/\zmL 0 ((l.take i).map JV.text) o (tm[4]?.getD .u)/\(∀y∈l.take i,y.kind=5)/\tm.length=26/\tm[10]? = some (.row l.length (zab l))/\tm[11]? = some (.i .i64 (l.length:Int))/\tm[12]? = some (.i .i64 (i:Int))) l.length ⟨0,zd _,rfl,.inl ⟨rfl,rfl⟩,(by simp),rfl,rfl,rfl,rfl⟩ ?_;rintro n o tm ⟨i,hi,rfl,hA,hall,hlen,t10,t11,t12⟩;obtain⟨a4,t4⟩:∃a,tm[4]? = some a:=⟨_,zl (by omega)⟩;rw[t4,qh] at hA;refine zaa fun W hW=>?_
 by_cases hlt:(i:Int)<(l.length:Int)
 ·have hi':i<l.length:=by omega
  have kv:=zd9 hi';have htk:l.take (i+1)=l.take i++[l[i]]:=by rw[ye,zl hi'];rfl
  have hfl:((l.take i).map JV.text).length=i:=by rw[qm,qd];omega
  have hmem:l[i]∈l:=qw hi';generalize l[i]=y at kv htk hmem;rw[zae y] at kv;simp only[sxZ,z6,z7,z8,j4,j5,j6,j7,j8,j9,x0,x6,x7,x8,x9,y4,reduceCtorEq,↓reduceIte,za,hlen,t11,t12,hlt];subst hW;refine zaa fun W hW=>?_;simp only[sxZ,z6,z7,z8,j4,j5,j6,j7,j8,j9,x0,x6,x7,x8,x9,y4,reduceCtorEq,↓reduceIte,za,hlen];subst hW;refine zaa fun V hV=>?_;rw[zaZ];refine zaa fun W hW=>?_;simp only[sxZ,z6,z7,z8,j4,j5,j6,j7,j8,j9,x0,x6,x7,x8,x9,y4,reduceCtorEq,↓reduceIte,za,hlen,t10,t12,kv];refine⟨⟨by omega,by omega,by omega⟩,by omega,?_⟩;simp only[sxZ,z6,z7,z8,j4,j5,j6,j7,j8,j9,x0,x6,x7,x8,x9,y4,reduceCtorEq,↓reduceIte,za,hlen,gn1,sn1];subst hW;have hA2:=hA.mono (.box 25 [.i .i64 y.kind,.s y.text,.row y.keys.length (y.keys.map .s),.row y.items.length (zab y.items)]);have eB:(o++[OB.box 25 [.i .i64 y.kind,.s y.text,.row y.keys.length (y.keys.map .s),.row y.items.length (zab y.items)]])[o.length]? = some (.box 25 [.i .i64 y.kind,.s y.text,.row y.keys.length (y.keys.map .s),.row y.items.length (zab y.items)]):=gn1 _ _;generalize hpp:o.length=p at eB ⊢;generalize o++[OB.box 25 [.i .i64 y.kind,.s y.text,.row y.keys.length (y.keys.map .s),.row y.items.length (zab y.items)]]=o1 at hA2 eB ⊢;refine zaa fun W hW=>?_
  by_cases c:y.kind=5
  ·simp only[sxZ,z6,z7,z8,j4,j5,j6,j7,j8,j9,x0,x6,x7,x8,x9,y4,reduceCtorEq,↓reduceIte,za,hlen,eB,c];subst hW;have hall2:∀z∈l.take (i+1),z.kind=5:=by
    intro z hz;rw[htk] at hz;rcases zy.1 hz with h|h
    ·exact hall z h
    ·rw[xy] at h;subst h;exact c
   generalize hacc:(l.take i).map JV.text=acc at hA2 hfl;rcases hA2 with ⟨rfl,rfl⟩|⟨r,g,rfl,hr0,hr⟩
   ·simp only[sxZ,z6,z7,z8,j4,j5,j6,j7,j8,j9,x0,x6,x7,x8,x9,y4,reduceCtorEq,↓reduceIte,za,hlen,t4,eB];subst hV;simp only[sxZ,z6,z7,z8,j4,j5,j6,j7,j8,j9,x0,x6,x7,x8,x9,y4,reduceCtorEq,↓reduceIte,za,hlen,t10,t11,t12];refine⟨by omega,l.length - (i+1),by omega,i+1,by omega,rfl,?_,hall2,rfl⟩;rw[htk,je,hacc];exact .inr ⟨o1.length,0,rfl,zd _,by rw[gn1];rfl⟩
   ·have hrl:=(zf.1 hr).1;simp only[sxZ,z6,z7,z8,j4,j5,j6,j7,j8,j9,x0,x6,x7,x8,x9,y4,reduceCtorEq,↓reduceIte,za,hlen,t4,eB,hr];refine⟨⟨by omega,by omega⟩,?_⟩;subst hV;simp only[sxZ,z6,z7,z8,j4,j5,j6,j7,j8,j9,x0,x6,x7,x8,x9,y4,reduceCtorEq,↓reduceIte,za,hlen,t10,t11,t12];refine⟨by omega,l.length - (i+1),by omega,i+1,by omega,rfl,?_,hall2,rfl⟩;rw[htk,je,hacc];exact .inr ⟨r,g+1,rfl,hr0,by rw[zk hrl,zm,je];rfl⟩
  ·have:=knil 160 (by
    unfold txD;rw[if_neg (by omega),if_neg];intro ha;rw[zv] at ha;exact c (by simpa using ha y hmem))
   simp only[sxZ,z6,z7,z8,j4,j5,j6,j7,j8,j9,x0,x6,x7,x8,x9,y4,reduceCtorEq,↓reduceIte,za,hlen,eB,c];exact this
 have hn:i=l.length:=by omega
 rw[hn,jk (ze _)] at hA hall;have e:txD l=(0,l.map JV.text):=by
  unfold txD;rw[if_neg (by omega),if_pos (by rw[zv];intro y hy;simpa using hall y hy)]
 simp only[sxZ,z6,z7,z8,j4,j5,j6,j7,j8,j9,x0,x6,x7,x8,x9,y4,reduceCtorEq,↓reduceIte,za,hlen,t11,t12,hlt];subst hW;simp only[sxZ,z6,z7,z8,j4,j5,j6,j7,j8,j9,x0,x6,x7,x8,x9,y4,reduceCtorEq,↓reduceIte,za,hlen];subst hZ;rcases hA with ⟨h0,rfl⟩|⟨r,g,rfl,hr0,hr⟩
 ·have:=knil 0 (by rw[e,h0]);simp only[sxZ,z6,z7,z8,j4,j5,j6,j7,j8,j9,x0,x6,x7,x8,x9,y4,reduceCtorEq,↓reduceIte,za,hlen,t4];exact this
 ·simp only[sxZ,z6,z7,z8,j4,j5,j6,j7,j8,j9,x0,x6,x7,x8,x9,y4,reduceCtorEq,↓reduceIte,za,hlen,t4,hr,zdA (za0 _),jm];rw[e] at hk ⊢;exact⟨fun G I y hy=>hy,hk⟩
theorem zkZ (v:JV) (hk:K objs (zki (ltD v))):zaf Tryz.prog 26 [.agg (zao v)] objs K:=by
 refine zgf (zki (ltD v)) ?_;refine zaX is_diddoc_listed (by simp only[zan,AV.plain,zaL,Bool.and_self]) fun C _=>?_;rw[c_diddoc_listed];unfold ltD at hk ⊢;rw[zae v];refine zaa fun Z hZ=>?_;simp only[sxZ,z6,z7,z8,j4,j5,j6,j7,j8,j9,x0,x6,x7,x8,x9,y4,reduceCtorEq,↓reduceIte];subst hZ;refine zaa fun Z hZ=>?_
 by_cases c:v.kind=6
 ·rw[if_pos c] at hk ⊢;simp only[sxZ,z6,z7,z8,j4,j5,j6,j7,j8,j9,x0,x6,x7,x8,x9,y4,reduceCtorEq,↓reduceIte,c];subst hZ;refine zaa fun Z hZ=>?_;simp only[sxZ,z6,z7,z8,j4,j5,j6,j7,j8,j9,x0,x6,x7,x8,x9,y4,reduceCtorEq,↓reduceIte];refine zad (zm1 v.items ?_);unfold zki at hk ⊢;simp only[sxZ,z6,z7,z8,j4,j5,j6,j7,j8,j9,x0,x6,x7,x8,x9,y4,reduceCtorEq,↓reduceIte];subst hZ;simp only[sxZ,z6,z7,z8,j4,j5,j6,j7,j8,j9,x0,x6,x7,x8,x9,y4,reduceCtorEq,↓reduceIte,za0];exact⟨fun G I y hy=>hy,hk⟩
 ·rw[if_neg c] at hk ⊢;simp only[sxZ,z6,z7,z8,j4,j5,j6,j7,j8,j9,x0,x6,x7,x8,x9,y4,reduceCtorEq,↓reduceIte,c];exact⟨fun G I y hy=>zcF (fun z hz=>zav hz) hy,hk⟩
theorem ol_k (v:JV) (hk:K objs (zki (olD v))):zaf Tryz.prog 27 [.agg (zao v)] objs K:=by
 refine zaX is_diddoc_oneOrListed (by simp only[zan,AV.plain,zaL,Bool.and_self]) fun C _=>?_;rw[c_diddoc_oneOrListed];unfold olD at hk;have ejv:=zae v;rw[ejv];refine zaa fun Z hZ=>?_;simp only[sxZ,z6,z7,z8,j4,j5,j6,j7,j8,j9,x0,x6,x7,x8,x9,y4,reduceCtorEq,↓reduceIte];subst hZ;refine zaa fun Z hZ=>?_
 by_cases c:v.kind=6
 ·rw[if_pos c] at hk;simp only[sxZ,z6,z7,z8,j4,j5,j6,j7,j8,j9,x0,x6,x7,x8,x9,y4,reduceCtorEq,↓reduceIte,c];rw[<-c,<-ejv];refine zad (zkZ v ?_);unfold ltD;rw[if_pos c];unfold zki at hk ⊢;simp only[sxZ,z6,z7,z8,j4,j5,j6,j7,j8,j9,x0,x6,x7,x8,x9,y4,reduceCtorEq,↓reduceIte,za0];exact hk
 ·rw[if_neg c] at hk;simp only[sxZ,z6,z7,z8,j4,j5,j6,j7,j8,j9,x0,x6,x7,x8,x9,y4,reduceCtorEq,↓reduceIte,c];subst hZ;refine zaa fun Z hZ=>?_;simp only[sxZ,z6,z7,z8,j4,j5,j6,j7,j8,j9,x0,x6,x7,x8,x9,y4,reduceCtorEq,↓reduceIte];have e1:zab [v]=[.i .i64 v.kind,.s v.text,.row v.keys.length (v.keys.map .s),.row v.items.length (zab v.items)]:=by rw[zaK,zaA,ejv];rfl
  rw[<-e1];refine zad (zm1 [v] ?_);unfold zki at hk ⊢;simp only[sxZ,z6,z7,z8,j4,j5,j6,j7,j8,j9,x0,x6,x7,x8,x9,y4,reduceCtorEq,↓reduceIte];subst hZ;simp only[sxZ,z6,z7,z8,j4,j5,j6,j7,j8,j9,x0,x6,x7,x8,x9,y4,reduceCtorEq,↓reduceIte,za0];exact hk
end
end
section
attribute [local irreducible] run
def ResL (m i:List UInt8):Prop:=∀r:List UInt8,r.length<=100000000->(ze0 m i r).1=0->(ze0 m i r).2.meth.length<=200000000000000/\(ze0 m i r).2.id.length<=200000000000000/\(ze0 m i r).2.path.length<=200000000000000/\(ze0 m i r).2.query.length<=200000000000000/\(ze0 m i r).2.frag.length<=200000000000000
def mtc (x:MtP):List AV:=[.s x.id,.s x.typ,.s x.ctl]
def svc (x:SvP):List AV:=[.s x.id,.row x.typ.length (x.typ.map .s),.row x.eps.length (x.eps.map .s)]
def zdq (l:List MtP):List AV:=l.flatMap mtc
def zdc (l:List SvP):List AV:=l.flatMap svc
theorem zhS (l:List MtP):(zdq l).length=l.length*3:=by
 unfold zdq
 induction l with
 | nil=>rfl
 | cons a l ih=>rw[xi,zm,ih,zr];show 3+_=_;omega
theorem zhs (l:List SvP):(zdc l).length=l.length*3:=by
 unfold zdc
 induction l with
 | nil=>rfl
 | cons a l ih=>rw[xi,zm,ih,zr];show 3+_=_;omega
theorem zhT (a b:List MtP):zdq (a++b)=zdq a++zdq b:=by unfold zdq;rw[List.flatMap_append]
theorem zht (a b:List SvP):zdc (a++b)=zdc a++zdc b:=by unfold zdc;rw[List.flatMap_append]
theorem ze4 (l:List MtP):zan (zdq l)=true:=by
 unfold zdq
 induction l with
 | nil=>rfl
 | cons a l ih=>rw[xi,zd8,ih];rfl
theorem zeO (l:List SvP):zan (zdc l)=true:=by
 unfold zdc
 induction l with
 | nil=>rfl
 | cons a l ih=>
  rw[xi,zd8,ih];unfold svc;simp only[zan,AV.plain,za0,Bool.and_self]
theorem den_sv {G:Gh} {I:Imm} {a a' b b' c:AV} {t:List UInt8} {y:Value} (h1:∀z,Den G I a z->Den G I a' z) (h2:∀z,Den G I b z->Den G I b' z) (hd:Den G I (.tup [.agg [.s t,a,b],c]) y):Den G I (.tup [.agg [.s t,a',b'],c]) y:=by
 refine zcF (fun z hz=>?_) hd;simp only[zaj,Den] at hz ⊢;obtain⟨zs,rfl,⟨z0,m0,rfl,q0,z1,m1,rfl,q1,z2,m2,rfl,q2,q3⟩,hz⟩:=hz;exact⟨_,rfl,⟨_,_,rfl,q0,_,_,rfl,h1 _ q1,_,_,rfl,h2 _ q2,q3⟩,hz⟩
def RowM (l:List MtP) (o:List OB) (X:AV):Prop:=(l=[]/\X=.nil)\/∃r g,X=.orow r g/\o[r]? = some (.orow 48 3 g l.length (zdq l))
def RowV (l:List SvP) (o:List OB) (X:AV):Prop:=(l=[]/\X=.nil)\/∃r g,X=.orow r g/\o[r]? = some (.orow 46 3 g l.length (zdc l))
theorem RowM.mono {l:List MtP} {o:List OB} {X:AV} (h:RowM l o X) (z:OB):RowM l (o++[z]) X:=by
 rcases h with h|⟨r,g,h1,h2⟩
 ·exact .inl h
 ·exact .inr ⟨r,g,h1,by rw[qc (zf.1 h2).1];exact h2⟩
theorem RowV.mono {l:List SvP} {o:List OB} {X:AV} (h:RowV l o X) (z:OB):RowV l (o++[z]) X:=by
 rcases h with h|⟨r,g,h1,h2⟩
 ·exact .inl h
 ·exact .inr ⟨r,g,h1,by rw[qc (zf.1 h2).1];exact h2⟩
theorem zi6 {α:Type} (f:JV->Int×α) {l:List JV} {i:Nat} (hi:i<l.length) (h:∀y∈l.take i,(f y).1=0) (h2:(f l[i]).1≠0):zg6 f l=((f l[i]).1,[]):=by
 induction l generalizing i with
 | nil=>simp at hi
 | cons a l ih=>
  cases i with
  | zero=>rw[zg6];exact if_pos h2
  | succ i=>
   have ih2:=ih (i:=i) (by simpa using hi) (fun y hy=>h y (by rw[List.take_succ_cons];exact qq _ hy)) h2;have h0:=h a (by simp);rw[zg6,if_neg (fun e=>e h0),ih2];exact if_pos h2
theorem zlw {α:Type} (f:JV->Int×α) {l:List JV} (h:∀y∈l,(f y).1=0):zg6 f l=(0,l.map fun y=>(f y).2):=by
 induction l with
 | nil=>rfl
 | cons a l ih=>
  have h0:=h a (by simp);rw[zg6,if_neg (fun e=>e h0),ih fun y hy=>h y (qq _ hy)]
  rfl
theorem dm_isFn:IsFn Tryz.prog 29:=⟨_,Tryz.func29,by kernel_rfl,of_decide_eq_true (by kernel_rfl)⟩
theorem ds_isFn:IsFn Tryz.prog 31:=⟨_,Tryz.func31,by kernel_rfl,of_decide_eq_true (by kernel_rfl)⟩
section
variable [Tabs Tryz.prog] {objs:List OB} {K:List OB->AV->Prop}
theorem dm_k [Shp Tryz.prog] (m i:List UInt8) (v:JV) (hv:JOk v) (hj:JBd v) (h1:m.length<=100000) (h2:i.length<=100000) (ht:(zaG v kId).1.text.length<=100000000) (hl:ResL m i)
  (hk:K objs (.tup [.agg (mtc (mtD m i v).2),.i .i64 (mtD m i v).1])):zaf Tryz.prog 29 [.agg (zao v),.agg [.s m,.s i]] objs K:=by
 refine zaX is_diddoc_decodeMethod (by simp only[zan,AV.plain,zaL,Bool.and_self]) fun C _=>?_;rw[c_diddoc_decodeMethod];have ejv:=zae v;rw[ejv];refine zaa fun Z hZ=>?_;simp only[sxZ,z6,z7,z8,j4,j5,j6,j7,j8,j9,x0,x6,x7,x8,x9,y4,reduceCtorEq,↓reduceIte];subst hZ;refine zaa fun Z hZ=>?_;simp only[sxZ,z6,z7,z8,j4,j5,j6,j7,j8,j9,x0,x6,x7,x8,x9,y4,reduceCtorEq,↓reduceIte];rw[<-ejv];refine zad (mid_k m i v hv hj h1 h2 ht hl ?_);unfold mtD at hk;generalize zeI m i v=R at hk ⊢;obtain⟨e,x⟩:=R;dsimp only at hk ⊢;rw[ejv];simp only[sxZ,z6,z7,z8,j4,j5,j6,j7,j8,j9,x0,x6,x7,x8,x9,y4,reduceCtorEq,↓reduceIte];subst hZ;refine zaa fun Z hZ=>?_
 by_cases c:e=0
 rotate_left
 ·rw[if_pos c] at hk;simp only[sxZ,z6,z7,z8,j4,j5,j6,j7,j8,j9,x0,x6,x7,x8,x9,y4,reduceCtorEq,↓reduceIte,c];exact hk
 subst c;rw[if_neg (by decide)] at hk;simp only[sxZ,z6,z7,z8,j4,j5,j6,j7,j8,j9,x0,x6,x7,x8,x9,y4,reduceCtorEq,↓reduceIte];subst hZ;refine zaa fun Z hZ=>?_;simp only[sxZ,z6,z7,z8,j4,j5,j6,j7,j8,j9,x0,x6,x7,x8,x9,y4,reduceCtorEq,↓reduceIte];rw[<-ejv];refine zad (tm_k v zbe hv hj ?_);generalize tmD v zbe=T at hk ⊢;obtain⟨t,okt⟩:=T;dsimp only at hk ⊢;rw[ejv];simp only[sxZ,z6,z7,z8,j4,j5,j6,j7,j8,j9,x0,x6,x7,x8,x9,y4,reduceCtorEq,↓reduceIte];subst hZ;refine zaa fun Z hZ=>?_;simp only[sxZ,z6,z7,z8,j4,j5,j6,j7,j8,j9,x0,x6,x7,x8,x9,y4,reduceCtorEq,↓reduceIte];rw[<-ejv];refine zad (tm_k v zbI hv hj ?_);generalize tmD v zbI=U at hk ⊢;obtain⟨u,oku⟩:=U;dsimp only at hk ⊢;rw[ejv];simp only[sxZ,z6,z7,z8,j4,j5,j6,j7,j8,j9,x0,x6,x7,x8,x9,y4,reduceCtorEq,↓reduceIte];subst hZ;refine zaa fun Z hZ=>?_
 cases okt with
 | false=>
  rw[if_neg (fun e=>by cases e.1)] at hk;simp only[sxZ,z6,z7,z8,j4,j5,j6,j7,j8,j9,x0,x6,x7,x8,x9,y4,reduceCtorEq,↓reduceIte];exact hk
 | true=>
  cases oku with
  | false=>
   rw[if_neg (fun e=>by cases e.2)] at hk;simp only[sxZ,z6,z7,z8,j4,j5,j6,j7,j8,j9,x0,x6,x7,x8,x9,y4,reduceCtorEq,↓reduceIte];exact hk
  | true=>
   rw[if_pos ⟨rfl,rfl⟩] at hk;simp only[sxZ,z6,z7,z8,j4,j5,j6,j7,j8,j9,x0,x6,x7,x8,x9,y4,reduceCtorEq,↓reduceIte];subst hZ;simp only[sxZ,z6,z7,z8,j4,j5,j6,j7,j8,j9,x0,x6,x7,x8,x9,y4,reduceCtorEq,↓reduceIte];exact hk
theorem ds_k [Shp Tryz.prog] (m i:List UInt8) (v:JV) (hv:JOk v) (hj:JBd v) (h1:m.length<=100000) (h2:i.length<=100000) (ht:(zaG v kId).1.text.length<=100000000) (hl:ResL m i)
  (hk:K objs (.tup [.agg (svc (svD m i v).2),.i .i64 (svD m i v).1])):zaf Tryz.prog 31 [.agg (zao v),.agg [.s m,.s i]] objs K:=by
 refine zgf (.tup [.agg (svc (svD m i v).2),.i .i64 (svD m i v).1]) ?_;have kz:∀e:Int,svD m i v=(e,svZ)->(∀G I y,Den G I (.tup [.agg [.s [],.nil,.nil],.i .i64 e]) y->Den G I (.tup [.agg (svc (svD m i v).2),.i .i64 (svD m i v).1]) y)/\K objs (.tup [.agg (svc (svD m i v).2),.i .i64 (svD m i v).1]):=fun e he=>⟨fun G I y h=>by rw[he];exact den_sv (fun z hz=>zav hz) (fun z hz=>zav hz) h,hk⟩;refine zaX is_diddoc_decodeService (by simp only[zan,AV.plain,zaL,Bool.and_self]) fun C _=>?_;rw[c_diddoc_decodeService];have ejv:=zae v;rw[ejv];refine zaa fun Z hZ=>?_;simp only[sxZ,z6,z7,z8,j4,j5,j6,j7,j8,j9,x0,x6,x7,x8,x9,y4,reduceCtorEq,↓reduceIte];subst hZ;refine zaa fun Z hZ=>?_;simp only[sxZ,z6,z7,z8,j4,j5,j6,j7,j8,j9,x0,x6,x7,x8,x9,y4,reduceCtorEq,↓reduceIte];rw[<-ejv];refine zad (zog v ?_);rw[ejv];simp only[sxZ,z6,z7,z8,j4,j5,j6,j7,j8,j9,x0,x6,x7,x8,x9,y4,reduceCtorEq,↓reduceIte];subst hZ;refine zaa fun Z hZ=>?_;simp only[sxZ,z6,z7,z8,j4,j5,j6,j7,j8,j9,x0,x6,x7,x8,x9,y4,reduceCtorEq,↓reduceIte];rw[<-ejv];refine zad (mid_k m i v hv hj h1 h2 ht hl ?_);unfold svD at kz hk ⊢;generalize zeI m i v=R at kz hk ⊢;obtain⟨e,x⟩:=R;dsimp only at kz hk ⊢;rw[ejv];simp only[sxZ,z6,z7,z8,j4,j5,j6,j7,j8,j9,x0,x6,x7,x8,x9,y4,reduceCtorEq,↓reduceIte];subst hZ;refine zaa fun Z hZ=>?_
 by_cases c:e=0
 rotate_left
 ·rw[if_pos c] at kz hk ⊢;have:=kz e rfl;simp only[sxZ,z6,z7,z8,j4,j5,j6,j7,j8,j9,x0,x6,x7,x8,x9,y4,reduceCtorEq,↓reduceIte,c];exact this
 subst c;rw[if_neg (show ¬((0:Int)≠0) by decide)] at kz hk ⊢;simp only[sxZ,z6,z7,z8,j4,j5,j6,j7,j8,j9,x0,x6,x7,x8,x9,y4,reduceCtorEq,↓reduceIte];subst hZ;refine zaa fun Z hZ=>?_;simp only[sxZ,z6,z7,z8,j4,j5,j6,j7,j8,j9,x0,x6,x7,x8,x9,y4,reduceCtorEq,↓reduceIte];subst hZ;refine zaa fun Z hZ=>?_;simp only[sxZ,z6,z7,z8,j4,j5,j6,j7,j8,j9,x0,x6,x7,x8,x9,y4,reduceCtorEq,↓reduceIte];refine zev zd7 (zjP v zbe 3 (by rw[ejv];rfl) hv hj fun z=>?_);unfold zbv;generalize zaG v zbe=T at kz hk ⊢;obtain⟨x1,ok1⟩:=T;dsimp only at kz hk ⊢;have ex1:=zae x1;rw[ex1];simp only[sxZ,z6,z7,z8,j4,j5,j6,j7,j8,j9,x0,x6,x7,x8,x9,y4,reduceCtorEq,↓reduceIte];subst hZ;refine zaa fun Z hZ=>?_;simp only[sxZ,z6,z7,z8,j4,j5,j6,j7,j8,j9,x0,x6,x7,x8,x9,y4,reduceCtorEq,↓reduceIte];rw[<-ex1];refine zad (ol_k x1 ?_);generalize olD x1=O at kz hk ⊢;obtain⟨e1,l1⟩:=O;dsimp only at kz hk ⊢;unfold zki;rw[ex1];simp only[sxZ,z6,z7,z8,j4,j5,j6,j7,j8,j9,x0,x6,x7,x8,x9,y4,reduceCtorEq,↓reduceIte]
 by_cases c1:e1=0
 rotate_left
 ·rw[if_pos c1] at kz hk ⊢;have:=kz e1 rfl;simp only[sxZ,z6,z7,z8,j4,j5,j6,j7,j8,j9,x0,x6,x7,x8,x9,y4,reduceCtorEq,↓reduceIte,c1];exact this
 subst c1;rw[if_neg (show ¬((0:Int)≠0) by decide)] at kz hk ⊢;simp only[sxZ,z6,z7,z8,j4,j5,j6,j7,j8,j9,x0,x6,x7,x8,x9,y4,reduceCtorEq,↓reduceIte];subst hZ;refine zaa fun Z hZ=>?_;simp only[sxZ,z6,z7,z8,j4,j5,j6,j7,j8,j9,x0,x6,x7,x8,x9,y4,reduceCtorEq,↓reduceIte];refine zev zd7 (zjP v zbH 3 (by rw[ejv];rfl) hv hj fun z2=>?_);unfold zbv;generalize zaG v zbH=T at kz hk ⊢;obtain⟨x2,ok2⟩:=T;dsimp only at kz hk ⊢;have ex2:=zae x2;rw[ex2];simp only[sxZ,z6,z7,z8,j4,j5,j6,j7,j8,j9,x0,x6,x7,x8,x9,y4,reduceCtorEq,↓reduceIte];subst hZ;refine zaa fun Z hZ=>?_
 by_cases c2:x2.kind=7
 ·rw[if_pos c2] at kz hk ⊢;simp only[sxZ,z6,z7,z8,j4,j5,j6,j7,j8,j9,x0,x6,x7,x8,x9,y4,reduceCtorEq,↓reduceIte,c2,za0];exact⟨fun G I y h=>den_sv (fun z hz=>hz) (fun z hz=>zav hz) h,hk⟩
 rw[if_neg c2] at kz hk ⊢;simp only[sxZ,z6,z7,z8,j4,j5,j6,j7,j8,j9,x0,x6,x7,x8,x9,y4,reduceCtorEq,↓reduceIte,c2];subst hZ;refine zaa fun Z hZ=>?_;simp only[sxZ,z6,z7,z8,j4,j5,j6,j7,j8,j9,x0,x6,x7,x8,x9,y4,reduceCtorEq,↓reduceIte];rw[<-ex2];refine zad (ol_k x2 ?_);generalize olD x2=O at kz hk ⊢;obtain⟨e2,l2⟩:=O;dsimp only at kz hk ⊢;unfold zki;rw[ex2];simp only[sxZ,z6,z7,z8,j4,j5,j6,j7,j8,j9,x0,x6,x7,x8,x9,y4,reduceCtorEq,↓reduceIte]
 by_cases c3:e2=0
 rotate_left
 ·rw[if_pos c3] at kz hk ⊢;have:=kz e2 rfl;simp only[sxZ,z6,z7,z8,j4,j5,j6,j7,j8,j9,x0,x6,x7,x8,x9,y4,reduceCtorEq,↓reduceIte,c3];exact this
 subst c3;rw[if_neg (show ¬((0:Int)≠0) by decide)] at kz hk ⊢;simp only[sxZ,z6,z7,z8,j4,j5,j6,j7,j8,j9,x0,x6,x7,x8,x9,y4,reduceCtorEq,↓reduceIte];subst hZ;simp only[sxZ,z6,z7,z8,j4,j5,j6,j7,j8,j9,x0,x6,x7,x8,x9,y4,reduceCtorEq,↓reduceIte,za0];exact⟨fun G I y h=>h,hk⟩
theorem elM_k [Shp Tryz.prog] (m i:List UInt8) (v:JV) (hv:∀y∈v.items,JOk y/\JBd y/\(zaG y kId).1.text.length<=100000000) (h1:m.length<=100000) (h2:i.length<=100000) (hl:ResL m i)
  (hk:K objs (.tup [.row (elD (mtD m i) v).2.length (zdq (elD (mtD m i) v).2),.i .i64 (elD (mtD m i) v).1])):zaf Tryz.prog 28 [.agg (zao v),.agg [.s m,.s i],.fn 29 [] []] objs K:=by
 refine zgf (.tup [.row (elD (mtD m i) v).2.length (zdq (elD (mtD m i) v).2),.i .i64 (elD (mtD m i) v).1]) ?_;have knil:∀e:Int,elD (mtD m i) v=(e,[])->(∀G I y,Den G I (.tup [.nil,.i .i64 e]) y->Den G I (.tup [.row (elD (mtD m i) v).2.length (zdq (elD (mtD m i) v).2),.i .i64 (elD (mtD m i) v).1]) y)/\K objs (.tup [.row (elD (mtD m i) v).2.length (zdq (elD (mtD m i) v).2),.i .i64 (elD (mtD m i) v).1]):=fun e he=>⟨fun G I y h=>by rw[he];exact zcF (fun z hz=>zav hz) h,hk⟩;refine zaX is_diddoc_elements__api_Method (by simp only[zan,AV.plain,zaL,Bool.and_self]) fun C _=>?_;rw[c_diddoc_elements__api_Method];unfold elD at knil hk ⊢;have ejv:=zae v;have hl4:=zaI v.items;rw[ejv];refine zaa fun Z hZ=>?_;simp only[sxZ,z6,z7,z8,j4,j5,j6,j7,j8,j9,x0,x6,x7,x8,x9,y4,reduceCtorEq,↓reduceIte];subst hZ;refine zaa fun Z hZ=>?_
 by_cases c6:v.kind=6
 rotate_left
 ·rw[if_neg c6] at knil hk ⊢;have:=knil 160 rfl;simp only[sxZ,z6,z7,z8,j4,j5,j6,j7,j8,j9,x0,x6,x7,x8,x9,y4,reduceCtorEq,↓reduceIte,c6];exact this
 rw[if_pos c6] at knil hk ⊢;simp only[sxZ,z6,z7,z8,j4,j5,j6,j7,j8,j9,x0,x6,x7,x8,x9,y4,reduceCtorEq,↓reduceIte,c6];subst hZ;refine zaa fun Z hZ=>?_
 by_cases c64:(64:Int)<(v.items.length:Int)
 ·rw[if_pos (show 64<v.items.length by omega)] at knil hk ⊢;have:=knil 161 rfl;simp only[sxZ,z6,z7,z8,j4,j5,j6,j7,j8,j9,x0,x6,x7,x8,x9,y4,reduceCtorEq,↓reduceIte,c64,decide_true];exact this
 rw[if_neg (show ¬64<v.items.length by omega)] at knil hk ⊢;simp only[sxZ,z6,z7,z8,j4,j5,j6,j7,j8,j9,x0,x6,x7,x8,x9,y4,reduceCtorEq,↓reduceIte,c64,decide_false];subst hZ;refine zaa fun Z hZ=>?_;simp only[sxZ,z6,z7,z8,j4,j5,j6,j7,j8,j9,x0,x6,x7,x8,x9,y4,reduceCtorEq,↓reduceIte];subst hZ;refine zaa fun Z hZ=>?_;refine zaa fun W hW=>?_;simp only[sxZ,z6,z7,z8,j4,j5,j6,j7,j8,j9,x0,x6,x7,x8,x9,y4,reduceCtorEq,↓reduceIte];subst hW;rw[zaZ];generalize v.items=l at hv knil hk hl4 c64 ⊢;refine zaE (fun n o tm=>∃j:Nat,j<=l.length/\n=l.length - j/\RowM ((l.take j).map fun y=>(mtD m i y).2) o (tm[8]?.getD .u)/\(∀y∈l.take j,(mtD m i y).1=0)/\o[1]? = some (.box 62 [.s m,.s i])/\tm.length=43/\tm[2]? = some (.fn 29 [] [])/\tm[4]? = some (.p 1 0)/\tm[21]? = some (.row l.length (zab l))/\tm[22]? = some (.i .i64 (l.length:Int))/\tm[23]? = some (.i .i64 (j:Int))) l.length ⟨0,zd _,rfl,.inl ⟨rfl,rfl⟩,(by simp),rfl,rfl,rfl,rfl,rfl,rfl,rfl⟩ ?_;rintro n o tm ⟨j,hj,rfl,hA,hall,e1,hlen,t2,t4,t21,t22,t23⟩;obtain⟨a8,t8⟩:∃a,tm[8]? = some a:=⟨_,zl (by omega)⟩;rw[t8,qh] at hA;refine zaa fun W hW=>?_
 by_cases hlt:(j:Int)<(l.length:Int)
 ·have hj':j<l.length:=by omega
  have kv:=zd9 hj';have htk:l.take (j+1)=l.take j++[l[j]]:=by rw[ye,zl hj'];rfl
  have hfl:((l.take j).map fun y=>(mtD m i y).2).length=j:=by rw[qm,qd];omega
  obtain⟨y1,y2,y3⟩:=hv l[j] (qw hj');have hbad:(mtD m i l[j]).1≠0->zg6 (mtD m i) l=((mtD m i l[j]).1,[]):=fun h=>zi6 (mtD m i) hj' hall h;generalize l[j]=y at kv htk y1 y2 y3 hbad;have ey:=zae y;rw[ey] at kv;simp only[sxZ,z6,z7,z8,j4,j5,j6,j7,j8,j9,x0,x6,x7,x8,x9,y4,reduceCtorEq,↓reduceIte,za,hlen,t22,t23,hlt];subst hW;refine zaa fun W hW=>?_;simp only[sxZ,z6,z7,z8,j4,j5,j6,j7,j8,j9,x0,x6,x7,x8,x9,y4,reduceCtorEq,↓reduceIte,za,hlen];subst hW;refine zaa fun V hV=>?_;rw[zaZ];refine zaa fun W hW=>?_;simp only[sxZ,z6,z7,z8,j4,j5,j6,j7,j8,j9,x0,x6,x7,x8,x9,y4,reduceCtorEq,↓reduceIte,za,hlen,t21,t23,kv];refine⟨⟨by omega,by omega,by omega⟩,by omega,?_⟩;simp only[sxZ,z6,z7,z8,j4,j5,j6,j7,j8,j9,x0,x6,x7,x8,x9,y4,reduceCtorEq,↓reduceIte,za,hlen,gn1,sn1];subst hW;have hol:1<o.length:=(zf.1 e1).1;have hA2:=hA.mono (.box 25 [.i .i64 y.kind,.s y.text,.row y.keys.length (y.keys.map .s),.row y.items.length (zab y.items)]);have eB:(o++[OB.box 25 [.i .i64 y.kind,.s y.text,.row y.keys.length (y.keys.map .s),.row y.items.length (zab y.items)]])[o.length]? = some (.box 25 [.i .i64 y.kind,.s y.text,.row y.keys.length (y.keys.map .s),.row y.items.length (zab y.items)]):=gn1 _ _;have e11:(o++[OB.box 25 [.i .i64 y.kind,.s y.text,.row y.keys.length (y.keys.map .s),.row y.items.length (zab y.items)]])[1]? = some (.box 62 [.s m,.s i]):=by rw[qc hol];exact e1
  generalize hpp:o.length=p at eB ⊢;generalize o++[OB.box 25 [.i .i64 y.kind,.s y.text,.row y.keys.length (y.keys.map .s),.row y.items.length (zab y.items)]]=o1 at hA2 eB e11 ⊢;refine zaa fun W hW=>?_;simp only[sxZ,z6,z7,z8,j4,j5,j6,j7,j8,j9,x0,x6,x7,x8,x9,y4,reduceCtorEq,↓reduceIte,za,hlen,t2,t4,eB,e11];rw[<-ey];refine zev dm_isFn (dm_k m i y y1 y2 h1 h2 y3 hl ?_);generalize hfd:mtD m i y=R at hbad ⊢;obtain⟨e,x⟩:=R;dsimp only at hbad ⊢;unfold mtc;simp only[sxZ,z6,z7,z8,j4,j5,j6,j7,j8,j9,x0,x6,x7,x8,x9,y4,reduceCtorEq,↓reduceIte,za,hlen,gn1,sn1];have hol1:1<o1.length:=(zf.1 e11).1;have hA3:=hA2.mono (.box 48 (mtc x));have eC:(o1++[OB.box 48 (mtc x)])[o1.length]? = some (.box 48 (mtc x)):=gn1 _ _;have e12:(o1++[OB.box 48 (mtc x)])[1]? = some (.box 62 [.s m,.s i]):=by rw[qc hol1];exact e11
  unfold mtc at hA3 eC e12;generalize o1.length=q at eC ⊢;generalize o1++[OB.box 48 _]=o2 at hA3 eC e12 ⊢;subst hW;refine zaa fun W hW=>?_
  by_cases c:e=0
  ·subst c;simp only[sxZ,z6,z7,z8,j4,j5,j6,j7,j8,j9,x0,x6,x7,x8,x9,y4,reduceCtorEq,↓reduceIte,za,hlen];subst hW;have hall2:∀z∈l.take (j+1),(mtD m i z).1=0:=by
    intro z hz;rw[htk] at hz;rcases zy.1 hz with h|h
    ·exact hall z h
    ·rw[xy] at h;subst h;rw[hfd]
   have hmp:(l.take (j+1)).map (fun y=>(mtD m i y).2)=(l.take j).map (fun y=>(mtD m i y).2)++[x]:=by rw[htk,je];simp[hfd]
   generalize hacc:(l.take j).map (fun y=>(mtD m i y).2)=acc at hA3 hfl hmp;rcases hA3 with ⟨rfl,rfl⟩|⟨r,g,rfl,hr⟩
   ·simp only[sxZ,z6,z7,z8,j4,j5,j6,j7,j8,j9,x0,x6,x7,x8,x9,y4,reduceCtorEq,↓reduceIte,za,hlen,t8,eC];subst hV;simp only[sxZ,z6,z7,z8,j4,j5,j6,j7,j8,j9,x0,x6,x7,x8,x9,y4,reduceCtorEq,↓reduceIte,za,hlen,t2,t4,t21,t22,t23];refine⟨by omega,l.length - (j+1),by omega,j+1,by omega,rfl,?_,hall2,?_,rfl⟩
    ·rw[hmp];exact .inr ⟨o2.length,0,rfl,by rw[gn1];rfl⟩
    ·rw[qc (zf.1 e12).1];exact e12
   ·have hrl:=(zf.1 hr).1;have hr1:r≠1:=fun e=>by rw[e,e12] at hr;injection hr with hr;cases hr
    simp only[sxZ,z6,z7,z8,j4,j5,j6,j7,j8,j9,x0,x6,x7,x8,x9,y4,reduceCtorEq,↓reduceIte,za,hlen,t8,eC,hr];have hcl:=zhS acc;refine⟨⟨by omega,by omega⟩,?_⟩;subst hV;simp only[sxZ,z6,z7,z8,j4,j5,j6,j7,j8,j9,x0,x6,x7,x8,x9,y4,reduceCtorEq,↓reduceIte,za,hlen,t2,t4,t21,t22,t23];refine⟨by omega,l.length - (j+1),by omega,j+1,by omega,rfl,?_,hall2,?_,rfl⟩
    ·rw[hmp];exact .inr ⟨r,g+1,rfl,by rw[zk hrl,zm,zhT];rfl⟩
    ·rw[if_neg hr1];exact e12
  ·have:=knil e (hbad c);simp only[sxZ,z6,z7,z8,j4,j5,j6,j7,j8,j9,x0,x6,x7,x8,x9,y4,reduceCtorEq,↓reduceIte,za,hlen,c];exact this
 have hn:j=l.length:=by omega
 rw[hn,jk (ze _)] at hA hall;have e:=zlw (mtD m i) hall;simp only[sxZ,z6,z7,z8,j4,j5,j6,j7,j8,j9,x0,x6,x7,x8,x9,y4,reduceCtorEq,↓reduceIte,za,hlen,t22,t23,hlt];subst hW;simp only[sxZ,z6,z7,z8,j4,j5,j6,j7,j8,j9,x0,x6,x7,x8,x9,y4,reduceCtorEq,↓reduceIte,za,hlen];subst hZ;rcases hA with ⟨h0,rfl⟩|⟨r,g,rfl,hr⟩
 ·have:=knil 0 (by rw[e,h0]);simp only[sxZ,z6,z7,z8,j4,j5,j6,j7,j8,j9,x0,x6,x7,x8,x9,y4,reduceCtorEq,↓reduceIte,za,hlen,t8];exact this
 ·simp only[sxZ,z6,z7,z8,j4,j5,j6,j7,j8,j9,x0,x6,x7,x8,x9,y4,reduceCtorEq,↓reduceIte,za,hlen,t8,hr,zdA (ze4 _),jm];rw[e] at hk ⊢;exact⟨fun G I y hy=>hy,hk⟩
theorem elV_k [Shp Tryz.prog] (m i:List UInt8) (v:JV) (hv:∀y∈v.items,JOk y/\JBd y/\(zaG y kId).1.text.length<=100000000) (h1:m.length<=100000) (h2:i.length<=100000) (hl:ResL m i)
  (hk:K objs (.tup [.row (elD (svD m i) v).2.length (zdc (elD (svD m i) v).2),.i .i64 (elD (svD m i) v).1])):zaf Tryz.prog 30 [.agg (zao v),.agg [.s m,.s i],.fn 31 [] []] objs K:=by
 refine zgf (.tup [.row (elD (svD m i) v).2.length (zdc (elD (svD m i) v).2),.i .i64 (elD (svD m i) v).1]) ?_;have knil:∀e:Int,elD (svD m i) v=(e,[])->(∀G I y,Den G I (.tup [.nil,.i .i64 e]) y->Den G I (.tup [.row (elD (svD m i) v).2.length (zdc (elD (svD m i) v).2),.i .i64 (elD (svD m i) v).1]) y)/\K objs (.tup [.row (elD (svD m i) v).2.length (zdc (elD (svD m i) v).2),.i .i64 (elD (svD m i) v).1]):=fun e he=>⟨fun G I y h=>by rw[he];exact zcF (fun z hz=>zav hz) h,hk⟩;refine zaX is_diddoc_elements__api_Service (by simp only[zan,AV.plain,zaL,Bool.and_self]) fun C _=>?_;rw[c_diddoc_elements__api_Service];unfold elD at knil hk ⊢;have ejv:=zae v;have hl4:=zaI v.items;rw[ejv];refine zaa fun Z hZ=>?_;simp only[sxZ,z6,z7,z8,j4,j5,j6,j7,j8,j9,x0,x6,x7,x8,x9,y4,reduceCtorEq,↓reduceIte];subst hZ;refine zaa fun Z hZ=>?_
 by_cases c6:v.kind=6
 rotate_left
 ·rw[if_neg c6] at knil hk ⊢;have:=knil 160 rfl;simp only[sxZ,z6,z7,z8,j4,j5,j6,j7,j8,j9,x0,x6,x7,x8,x9,y4,reduceCtorEq,↓reduceIte,c6];exact this
 rw[if_pos c6] at knil hk ⊢;simp only[sxZ,z6,z7,z8,j4,j5,j6,j7,j8,j9,x0,x6,x7,x8,x9,y4,reduceCtorEq,↓reduceIte,c6];subst hZ;refine zaa fun Z hZ=>?_
 by_cases c64:(64:Int)<(v.items.length:Int)
 ·rw[if_pos (show 64<v.items.length by omega)] at knil hk ⊢;have:=knil 161 rfl;simp only[sxZ,z6,z7,z8,j4,j5,j6,j7,j8,j9,x0,x6,x7,x8,x9,y4,reduceCtorEq,↓reduceIte,c64,decide_true];exact this
 rw[if_neg (show ¬64<v.items.length by omega)] at knil hk ⊢;simp only[sxZ,z6,z7,z8,j4,j5,j6,j7,j8,j9,x0,x6,x7,x8,x9,y4,reduceCtorEq,↓reduceIte,c64,decide_false];subst hZ;refine zaa fun Z hZ=>?_;simp only[sxZ,z6,z7,z8,j4,j5,j6,j7,j8,j9,x0,x6,x7,x8,x9,y4,reduceCtorEq,↓reduceIte];subst hZ;refine zaa fun Z hZ=>?_;refine zaa fun W hW=>?_;simp only[sxZ,z6,z7,z8,j4,j5,j6,j7,j8,j9,x0,x6,x7,x8,x9,y4,reduceCtorEq,↓reduceIte];subst hW;rw[zaZ];generalize v.items=l at hv knil hk hl4 c64 ⊢;refine zaE (fun n o tm=>∃j:Nat,j<=l.length/\n=l.length - j/\RowV ((l.take j).map fun y=>(svD m i y).2) o (tm[8]?.getD .u)/\(∀y∈l.take j,(svD m i y).1=0)/\o[1]? = some (.box 62 [.s m,.s i])/\tm.length=43/\tm[2]? = some (.fn 31 [] [])/\tm[4]? = some (.p 1 0)/\tm[21]? = some (.row l.length (zab l))/\tm[22]? = some (.i .i64 (l.length:Int))/\tm[23]? = some (.i .i64 (j:Int))) l.length ⟨0,zd _,rfl,.inl ⟨rfl,rfl⟩,(by simp),rfl,rfl,rfl,rfl,rfl,rfl,rfl⟩ ?_;rintro n o tm ⟨j,hj,rfl,hA,hall,e1,hlen,t2,t4,t21,t22,t23⟩;obtain⟨a8,t8⟩:∃a,tm[8]? = some a:=⟨_,zl (by omega)⟩;rw[t8,qh] at hA;refine zaa fun W hW=>?_
 by_cases hlt:(j:Int)<(l.length:Int)
 ·have hj':j<l.length:=by omega
  have kv:=zd9 hj';have htk:l.take (j+1)=l.take j++[l[j]]:=by rw[ye,zl hj'];rfl
  have hfl:((l.take j).map fun y=>(svD m i y).2).length=j:=by rw[qm,qd];omega
  obtain⟨y1,y2,y3⟩:=hv l[j] (qw hj');have hbad:(svD m i l[j]).1≠0->zg6 (svD m i) l=((svD m i l[j]).1,[]):=fun h=>zi6 (svD m i) hj' hall h;generalize l[j]=y at kv htk y1 y2 y3 hbad;have ey:=zae y;rw[ey] at kv;simp only[sxZ,z6,z7,z8,j4,j5,j6,j7,j8,j9,x0,x6,x7,x8,x9,y4,reduceCtorEq,↓reduceIte,za,hlen,t22,t23,hlt];subst hW;refine zaa fun W hW=>?_;simp only[sxZ,z6,z7,z8,j4,j5,j6,j7,j8,j9,x0,x6,x7,x8,x9,y4,reduceCtorEq,↓reduceIte,za,hlen];subst hW;refine zaa fun V hV=>?_;rw[zaZ];refine zaa fun W hW=>?_;simp only[sxZ,z6,z7,z8,j4,j5,j6,j7,j8,j9,x0,x6,x7,x8,x9,y4,reduceCtorEq,↓reduceIte,za,hlen,t21,t23,kv];refine⟨⟨by omega,by omega,by omega⟩,by omega,?_⟩;simp only[sxZ,z6,z7,z8,j4,j5,j6,j7,j8,j9,x0,x6,x7,x8,x9,y4,reduceCtorEq,↓reduceIte,za,hlen,gn1,sn1];subst hW;have hol:1<o.length:=(zf.1 e1).1;have hA2:=hA.mono (.box 25 [.i .i64 y.kind,.s y.text,.row y.keys.length (y.keys.map .s),.row y.items.length (zab y.items)]);have eB:(o++[OB.box 25 [.i .i64 y.kind,.s y.text,.row y.keys.length (y.keys.map .s),.row y.items.length (zab y.items)]])[o.length]? = some (.box 25 [.i .i64 y.kind,.s y.text,.row y.keys.length (y.keys.map .s),.row y.items.length (zab y.items)]):=gn1 _ _;have e11:(o++[OB.box 25 [.i .i64 y.kind,.s y.text,.row y.keys.length (y.keys.map .s),.row y.items.length (zab y.items)]])[1]? = some (.box 62 [.s m,.s i]):=by rw[qc hol];exact e1
  generalize hpp:o.length=p at eB ⊢;generalize o++[OB.box 25 [.i .i64 y.kind,.s y.text,.row y.keys.length (y.keys.map .s),.row y.items.length (zab y.items)]]=o1 at hA2 eB e11 ⊢;refine zaa fun W hW=>?_;simp only[sxZ,z6,z7,z8,j4,j5,j6,j7,j8,j9,x0,x6,x7,x8,x9,y4,reduceCtorEq,↓reduceIte,za,hlen,t2,t4,eB,e11];rw[<-ey];refine zev ds_isFn (ds_k m i y y1 y2 h1 h2 y3 hl ?_);generalize hfd:svD m i y=R at hbad ⊢;obtain⟨e,x⟩:=R;dsimp only at hbad ⊢;unfold svc;simp only[sxZ,z6,z7,z8,j4,j5,j6,j7,j8,j9,x0,x6,x7,x8,x9,y4,reduceCtorEq,↓reduceIte,za,hlen,gn1,sn1];have hol1:1<o1.length:=(zf.1 e11).1;have hA3:=hA2.mono (.box 46 (svc x));have eC:(o1++[OB.box 46 (svc x)])[o1.length]? = some (.box 46 (svc x)):=gn1 _ _;have e12:(o1++[OB.box 46 (svc x)])[1]? = some (.box 62 [.s m,.s i]):=by rw[qc hol1];exact e11
  unfold svc at hA3 eC e12;generalize o1.length=q at eC ⊢;generalize o1++[OB.box 46 _]=o2 at hA3 eC e12 ⊢;subst hW;refine zaa fun W hW=>?_
  by_cases c:e=0
  ·subst c;simp only[sxZ,z6,z7,z8,j4,j5,j6,j7,j8,j9,x0,x6,x7,x8,x9,y4,reduceCtorEq,↓reduceIte,za,hlen];subst hW;have hall2:∀z∈l.take (j+1),(svD m i z).1=0:=by
    intro z hz;rw[htk] at hz;rcases zy.1 hz with h|h
    ·exact hall z h
    ·rw[xy] at h;subst h;rw[hfd]
   have hmp:(l.take (j+1)).map (fun y=>(svD m i y).2)=(l.take j).map (fun y=>(svD m i y).2)++[x]:=by rw[htk,je];simp[hfd]
   generalize hacc:(l.take j).map (fun y=>(svD m i y).2)=acc at hA3 hfl hmp;rcases hA3 with ⟨rfl,rfl⟩|⟨r,g,rfl,hr⟩
   ·simp only[sxZ,z6,z7,z8,j4,j5,j6,j7,j8,j9,x0,x6,x7,x8,x9,y4,reduceCtorEq,↓reduceIte,za,hlen,t8,eC];subst hV;simp only[sxZ,z6,z7,z8,j4,j5,j6,j7,j8,j9,x0,x6,x7,x8,x9,y4,reduceCtorEq,↓reduceIte,za,hlen,t2,t4,t21,t22,t23];refine⟨by omega,l.length - (j+1),by omega,j+1,by omega,rfl,?_,hall2,?_,rfl⟩
    ·rw[hmp];exact .inr ⟨o2.length,0,rfl,by rw[gn1];rfl⟩
    ·rw[qc (zf.1 e12).1];exact e12
   ·have hrl:=(zf.1 hr).1;have hr1:r≠1:=fun e=>by rw[e,e12] at hr;injection hr with hr;cases hr
    simp only[sxZ,z6,z7,z8,j4,j5,j6,j7,j8,j9,x0,x6,x7,x8,x9,y4,reduceCtorEq,↓reduceIte,za,hlen,t8,eC,hr];have hcl:=zhs acc;refine⟨⟨by omega,by omega⟩,?_⟩;subst hV;simp only[sxZ,z6,z7,z8,j4,j5,j6,j7,j8,j9,x0,x6,x7,x8,x9,y4,reduceCtorEq,↓reduceIte,za,hlen,t2,t4,t21,t22,t23];refine⟨by omega,l.length - (j+1),by omega,j+1,by omega,rfl,?_,hall2,?_,rfl⟩
    ·rw[hmp];exact .inr ⟨r,g+1,rfl,by rw[zk hrl,zm,zht];rfl⟩
    ·rw[if_neg hr1];exact e12
  ·have:=knil e (hbad c);simp only[sxZ,z6,z7,z8,j4,j5,j6,j7,j8,j9,x0,x6,x7,x8,x9,y4,reduceCtorEq,↓reduceIte,za,hlen,c];exact this
 have hn:j=l.length:=by omega
 rw[hn,jk (ze _)] at hA hall;have e:=zlw (svD m i) hall;simp only[sxZ,z6,z7,z8,j4,j5,j6,j7,j8,j9,x0,x6,x7,x8,x9,y4,reduceCtorEq,↓reduceIte,za,hlen,t22,t23,hlt];subst hW;simp only[sxZ,z6,z7,z8,j4,j5,j6,j7,j8,j9,x0,x6,x7,x8,x9,y4,reduceCtorEq,↓reduceIte,za,hlen];subst hZ;rcases hA with ⟨h0,rfl⟩|⟨r,g,rfl,hr⟩
 ·have:=knil 0 (by rw[e,h0]);simp only[sxZ,z6,z7,z8,j4,j5,j6,j7,j8,j9,x0,x6,x7,x8,x9,y4,reduceCtorEq,↓reduceIte,za,hlen,t8];exact this
 ·simp only[sxZ,z6,z7,z8,j4,j5,j6,j7,j8,j9,x0,x6,x7,x8,x9,y4,reduceCtorEq,↓reduceIte,za,hlen,t8,hr,zdA (zeO _),jm];rw[e] at hk ⊢;exact⟨fun G I y hy=>hy,hk⟩
end
end
section
attribute [local irreducible] run
theorem zeA (s:List UInt8):(zcN s).2.1.length<=4096/\(zcN s).2.2.length<=50000:=by
 have h1:=(zib 58 (s.drop 4)).1;have h2:(s.drop 4).length=s.length - 4:=zu;have h3:=idE_len (zaH 58 (s.drop 4)).2.1;unfold zcN
 by_cases c0:4096<s.length
 ·rw[if_pos c0];exact⟨zd _,zd _⟩
 rw[if_neg c0]
 repeat' split
 all_goals first
  | exact⟨zd _,zd _⟩
  | (refine⟨?_,h3⟩;show (zaH 58 (s.drop 4)).1.length<=4096;omega)
def ShD (u:DidU):Prop:=u.meth.length<=4096/\u.id.length<=50000/\u.path.length<=16384/\u.query.length<=16384/\u.frag.length<=16384
theorem shZ:ShD zfa:=⟨zd _,zd _,zd _,zd _,zd _⟩
theorem zg8 (s:List UInt8):ShD (zfz s).2:=by
 unfold zfz
 repeat' split
 all_goals first
  | exact shZ
  | exact⟨(zeA _).1,(zeA _).2,(ze3 _ _).2,(ze3 _ _).2,(ze3 _ _).2⟩
theorem ziD (m i r:List UInt8):ShD (ze0 m i r).2:=by
 unfold ze0
 repeat' split
 ·exact zg8 _
 ·exact zg8 _
 ·exact shZ
theorem resL (m i:List UInt8):ResL m i:=fun r _ _=>by
 obtain⟨h1,h2,h3,h4,h5⟩:=ziD m i r;exact⟨by omega,by omega,by omega,by omega,by omega⟩
theorem zkm (v:JV):(sbD v).2.1.length<=4096/\(sbD v).2.2.length<=50000:=by
 unfold sbD
 repeat' split
 ·exact⟨zd _,zd _⟩
 ·exact⟨zd _,zd _⟩
 ·exact zeA _
def zfB (A:AV) (n:Nat) (cs:List AV):Prop:=A=.row n cs\/(A=.nil/\n=0/\cs=[])
theorem zfB.den {A:AV} {n:Nat} {cs:List AV} (h:zfB A n cs) {G:Gh} {I:Imm} (z:Value) (hz:Den G I A z):Den G I (.row n cs) z:=by
 rcases h with rfl|⟨rfl,rfl,rfl⟩
 ·exact hz
 ·exact zav hz
theorem zfB.pl {A:AV} {n:Nat} {cs:List AV} (h:zfB A n cs) (hp:zan cs=true):A.plain=true:=by
 rcases h with rfl|⟨rfl,_,_⟩
 ·exact hp
 ·rfl
theorem zha {G:Gh} {I:Imm} {a a' b b' c c' d d' x:AV} {t:List UInt8} {y:Value} (h1:∀z,Den G I a z->Den G I a' z) (h2:∀z,Den G I b z->Den G I b' z) (h3:∀z,Den G I c z->Den G I c' z) (h4:∀z,Den G I d z->Den G I d' z) (hd:Den G I (.tup [.agg [.s t,a,b,c,d],x]) y):Den G I (.tup [.agg [.s t,a',b',c',d'],x]) y:=by
 refine zcF (fun z hz=>?_) hd;simp only[zaj,Den] at hz ⊢;obtain⟨zs,rfl,⟨z0,m0,rfl,q0,z1,m1,rfl,q1,z2,m2,rfl,q2,z3,m3,rfl,q3,z4,m4,rfl,q4,q5⟩,hz⟩:=hz;exact⟨_,rfl,⟨_,_,rfl,q0,_,_,rfl,h1 _ q1,_,_,rfl,h2 _ q2,_,_,rfl,h3 _ q3,_,_,rfl,h4 _ q4,q5⟩,hz⟩
def doc (d:DoP):List AV:=[.s d.id,.row d.also.length (d.also.map .s),.row d.ctl.length (d.ctl.map .s),.row d.mts.length (zdq d.mts),.row d.svs.length (zdc d.svs)]
def zmK (R:Int×DoP):AV:=.tup [.agg (doc R.2),.i .i64 R.1]
def IdB (v:JV):Prop:=(zaG v kId).1.text.length<=100000000/\∀key,∀y∈(zaG v key).1.items,(zaG y kId).1.text.length<=100000000
theorem IdB.it {v:JV} (h:IdB v) (hv:JOk v) (hj:JBd v) (key:List UInt8):∀y∈(zaG v key).1.items,JOk y/\JBd y/\(zaG y kId).1.text.length<=100000000:=fun y hy=>by
 have h1:=jgetJ_ok hv key;have h2:=zlh hj key;refine⟨?_,?_,h.2 key y hy⟩
 ·obtain⟨i,hi,rfl⟩:=yc.1 hy;exact h1.its hi
 ·obtain⟨i,hi,rfl⟩:=yc.1 hy;exact h2.its hi
section
variable [Tabs Tryz.prog] {objs:List OB} {K:List OB->AV->Prop}
theorem sub_k [Shp Tryz.prog] (v:JV) (hv:JOk v) (hj:JBd v) (ht:(zaG v kId).1.text.length<=100000000) (hk:K objs (.tup [.agg [.s (sbD v).2.1,.s (sbD v).2.2],.i .i64 (sbD v).1])):zaf Tryz.prog 24 [.agg (zao v)] objs K:=by
 refine zaX is_diddoc_subject (by simp only[zan,AV.plain,zaL,Bool.and_self]) fun C _=>?_;rw[c_diddoc_subject];have ejv:=zae v;have htl:=zm0 v kId _ ht;have hm:maxLen=2 ^ 63 - 1:=rfl;rw[ejv];refine zaa fun Z hZ=>?_;simp only[sxZ,z6,z7,z8,j4,j5,j6,j7,j8,j9,x0,x6,x7,x8,x9,y4,reduceCtorEq,↓reduceIte];subst hZ;refine zaa fun Z hZ=>?_;simp only[sxZ,z6,z7,z8,j4,j5,j6,j7,j8,j9,x0,x6,x7,x8,x9,y4,reduceCtorEq,↓reduceIte];rw[<-ejv];refine zad (tm_k v kId hv hj ?_);unfold sbD at hk;generalize tmD v kId=R at hk htl ⊢;obtain⟨x,ok⟩:=R;dsimp only at hk htl ⊢;rw[ejv];simp only[sxZ,z6,z7,z8,j4,j5,j6,j7,j8,j9,x0,x6,x7,x8,x9,y4,reduceCtorEq,↓reduceIte];subst hZ;refine zaa fun Z hZ=>?_
 cases ok with
 | false=>
  rw[if_pos rfl] at hk;simp only[sxZ,z6,z7,z8,j4,j5,j6,j7,j8,j9,x0,x6,x7,x8,x9,y4,reduceCtorEq,↓reduceIte];exact hk
 | true=>
  rw[if_neg (show ¬(true=false) by decide)] at hk;simp only[sxZ,z6,z7,z8,j4,j5,j6,j7,j8,j9,x0,x6,x7,x8,x9,y4,reduceCtorEq,↓reduceIte];subst hZ;refine zaa fun Z hZ=>?_;simp only[sxZ,z6,z7,z8,j4,j5,j6,j7,j8,j9,x0,x6,x7,x8,x9,y4,reduceCtorEq,↓reduceIte];refine zad (zgv x (by omega) ?_);generalize zcN x=R at hk ⊢;obtain⟨e,m,i⟩:=R;dsimp only at hk ⊢;simp only[sxZ,z6,z7,z8,j4,j5,j6,j7,j8,j9,x0,x6,x7,x8,x9,y4,reduceCtorEq,↓reduceIte];subst hZ;refine zaa fun Z hZ=>?_
  by_cases c:e=0
  ·subst c;rw[if_neg (show ¬((0:Int)≠0) by decide)] at hk;simp only[sxZ,z6,z7,z8,j4,j5,j6,j7,j8,j9,x0,x6,x7,x8,x9,y4,reduceCtorEq,↓reduceIte];subst hZ;simp only[sxZ,z6,z7,z8,j4,j5,j6,j7,j8,j9,x0,x6,x7,x8,x9,y4,reduceCtorEq,↓reduceIte];exact hk
  ·rw[if_pos c] at hk;simp only[sxZ,z6,z7,z8,j4,j5,j6,j7,j8,j9,x0,x6,x7,x8,x9,y4,reduceCtorEq,↓reduceIte,c];exact hk
theorem dd_k [Shp Tryz.prog] (v:JV) (hv:JOk v) (hj:JBd v) (hb:IdB v) (hk:K objs (zmK (ddE v))):zaf Tryz.prog 10 [.agg (zao v)] objs K:=by
 refine zgf (zmK (ddE v)) ?_;have kz:∀e:Int,ddE v=(e,doZ)->(∀G I y,Den G I (.tup [.agg [.s [],.nil,.nil,.nil,.nil],.i .i64 e]) y->Den G I (zmK (ddE v)) y)/\K objs (zmK (ddE v)):=fun e he=>⟨fun G I y h=>by rw[he];exact zha (fun z hz=>zav hz) (fun z hz=>zav hz) (fun z hz=>zav hz) (fun z hz=>zav hz) h,hk⟩;refine zaX is_diddoc_Decode (by simp only[zan,AV.plain,zaL,Bool.and_self]) fun C _=>?_;rw[c_diddoc_Decode];have ejv:=zae v;have hsl:=zkm v;rw[ejv];refine zaa fun Z hZ=>?_;simp only[sxZ,z6,z7,z8,j4,j5,j6,j7,j8,j9,x0,x6,x7,x8,x9,y4,reduceCtorEq,↓reduceIte];subst hZ;refine zaa fun Z hZ=>?_;simp only[sxZ,z6,z7,z8,j4,j5,j6,j7,j8,j9,x0,x6,x7,x8,x9,y4,reduceCtorEq,↓reduceIte];rw[<-ejv];refine zad (zog v ?_);rw[ejv];simp only[sxZ,z6,z7,z8,j4,j5,j6,j7,j8,j9,x0,x6,x7,x8,x9,y4,reduceCtorEq,↓reduceIte];subst hZ;refine zaa fun Z hZ=>?_;simp only[sxZ,z6,z7,z8,j4,j5,j6,j7,j8,j9,x0,x6,x7,x8,x9,y4,reduceCtorEq,↓reduceIte];rw[<-ejv];refine zad (sub_k v hv hj hb.1 ?_);unfold ddE at kz hk ⊢;generalize sbD v=R at kz hk hsl ⊢;obtain⟨e,m,i⟩:=R;dsimp only at kz hk hsl ⊢;rw[ejv];simp only[sxZ,z6,z7,z8,j4,j5,j6,j7,j8,j9,x0,x6,x7,x8,x9,y4,reduceCtorEq,↓reduceIte];subst hZ;refine zaa fun Z hZ=>?_
 by_cases c:e=0
 rotate_left
 ·rw[if_pos c] at kz hk ⊢;have:=kz e rfl;simp only[sxZ,z6,z7,z8,j4,j5,j6,j7,j8,j9,x0,x6,x7,x8,x9,y4,reduceCtorEq,↓reduceIte,c];exact this
 subst c;rw[if_neg (show ¬((0:Int)≠0) by decide)] at kz hk ⊢;simp only[sxZ,z6,z7,z8,j4,j5,j6,j7,j8,j9,x0,x6,x7,x8,x9,y4,reduceCtorEq,↓reduceIte];subst hZ;refine zaa fun Z hZ=>?_;simp only[sxZ,z6,z7,z8,j4,j5,j6,j7,j8,j9,x0,x6,x7,x8,x9,y4,reduceCtorEq,↓reduceIte];refine zad (zcQ m i (by omega) (by omega) ?_);simp only[sxZ,z6,z7,z8,j4,j5,j6,j7,j8,j9,x0,x6,x7,x8,x9,y4,reduceCtorEq,↓reduceIte];subst hZ;refine zaa fun Z hZ=>?_;obtain⟨⟨e1,L1⟩,hO1⟩:∃R,opD v zcs ltD=R:=⟨_,rfl⟩;rw[hO1] at kz hk ⊢;dsimp only at kz hk ⊢;refine zaJ (fun o t=>∃A1 z1 b1,o=[OB.box 25 [.i .i64 v.kind,.s v.text,.row v.keys.length (v.keys.map .s),.row v.items.length (zab v.items)],OB.box 34 [.s [],.nil,.nil,.nil,.nil],OB.box 25 [.i .i64 v.kind,.s v.text,.row v.keys.length (v.keys.map .s),.row v.items.length (zab v.items)],OB.box 62 [.s m,.s i],OB.box 34 [.s (zeh m i),A1,.nil,.nil,.nil],z1,b1]/\e1=0/\zfB A1 L1.length (L1.map .s)/\t.length=97/\t[2]? = some (.p 1 0)/\t[4]? = some (.fn 64 [] [.p 2 0])/\t[5]? = some (.p 3 0)/\t[7]? = some (.p 4 0)) ?_ ?_
 ·simp only[sxZ,z6,z7,z8,j4,j5,j6,j7,j8,j9,x0,x6,x7,x8,x9,y4,reduceCtorEq,↓reduceIte];refine zev zd7 (zjP v zcs 2 (by rw[ejv];rfl) hv hj fun z=>?_);unfold zbv;unfold opD at hO1;obtain⟨⟨x,ok⟩,hg⟩:∃R,zaG v zcs=R:=⟨_,rfl⟩;have hgx:x=(zaG v zcs).1:=by rw[hg]
  rw[hg] at hO1 ⊢;dsimp only at hO1 ⊢;have ex:=zae x;rw[ex];simp only[sxZ,z6,z7,z8,j4,j5,j6,j7,j8,j9,x0,x6,x7,x8,x9,y4,reduceCtorEq,↓reduceIte]
  cases ok with
  | false=>
   rw[if_neg (show ¬(false=true) by decide)] at hO1;injection hO1 with h1 h2
   subst h1 h2;simp only[sxZ,z6,z7,z8,j4,j5,j6,j7,j8,j9,x0,x6,x7,x8,x9,y4,reduceCtorEq,↓reduceIte,zac];exact⟨_,_,_,rfl,.inr ⟨rfl,rfl,rfl⟩⟩
  | true=>
   rw[if_pos rfl] at hO1;simp only[sxZ,z6,z7,z8,j4,j5,j6,j7,j8,j9,x0,x6,x7,x8,x9,y4,reduceCtorEq,↓reduceIte];rw[<-ex];refine zad (zkZ x ?_);rw[hO1,ex];unfold zki;simp only[sxZ,z6,z7,z8,j4,j5,j6,j7,j8,j9,x0,x6,x7,x8,x9,y4,reduceCtorEq,↓reduceIte]
   by_cases c1:e1=0
   ·subst c1;simp only[sxZ,z6,z7,z8,j4,j5,j6,j7,j8,j9,x0,x6,x7,x8,x9,y4,reduceCtorEq,↓reduceIte,zac];exact⟨_,_,_,rfl,.inl rfl⟩
   ·rw[if_pos c1] at kz hk ⊢;have:=kz e1 rfl;simp only[sxZ,z6,z7,z8,j4,j5,j6,j7,j8,j9,x0,x6,x7,x8,x9,y4,reduceCtorEq,↓reduceIte,c1,zcR];exact this
 rintro o tm ⟨A1,z1,b1,rfl,rfl,hA1,hlen,t2,t4,t5,t7⟩;rw[if_neg (show ¬((0:Int)≠0) by decide)] at kz hk ⊢;subst hZ;refine zaa fun Z hZ=>?_;obtain⟨⟨e2,L2⟩,hO2⟩:∃R,opD v zbI olD=R:=⟨_,rfl⟩;rw[hO2] at kz hk ⊢;dsimp only at kz hk ⊢;refine zaJ (fun o t=>∃A2 z2 b2,o=[OB.box 25 [.i .i64 v.kind,.s v.text,.row v.keys.length (v.keys.map .s),.row v.items.length (zab v.items)],OB.box 34 [.s [],.nil,.nil,.nil,.nil],OB.box 25 [.i .i64 v.kind,.s v.text,.row v.keys.length (v.keys.map .s),.row v.items.length (zab v.items)],OB.box 62 [.s m,.s i],OB.box 34 [.s (zeh m i),A1,A2,.nil,.nil],z1,b1,z2,b2]/\e2=0/\zfB A2 L2.length (L2.map .s)/\t.length=97/\t[2]? = some (.p 1 0)/\t[4]? = some (.fn 64 [] [.p 2 0])/\t[5]? = some (.p 3 0)/\t[7]? = some (.p 4 0)) ?_ ?_
 ·simp only[sxZ,z6,z7,z8,j4,j5,j6,j7,j8,j9,x0,x6,x7,x8,x9,y4,reduceCtorEq,↓reduceIte,za,hlen,t2,t4,t5,t7];refine zev zd7 (zjP v zbI 2 (by rw[ejv];rfl) hv hj fun z=>?_);unfold zbv;unfold opD at hO2;obtain⟨⟨x,ok⟩,hg⟩:∃R,zaG v zbI=R:=⟨_,rfl⟩;have hgx:x=(zaG v zbI).1:=by rw[hg]
  rw[hg] at hO2 ⊢;dsimp only at hO2 ⊢;have ex:=zae x;rw[ex];simp only[sxZ,z6,z7,z8,j4,j5,j6,j7,j8,j9,x0,x6,x7,x8,x9,y4,reduceCtorEq,↓reduceIte,za,hlen,t2,t4,t5,t7]
  cases ok with
  | false=>
   rw[if_neg (show ¬(false=true) by decide)] at hO2;injection hO2 with h1 h2
   subst h1 h2;simp only[sxZ,z6,z7,z8,j4,j5,j6,j7,j8,j9,x0,x6,x7,x8,x9,y4,reduceCtorEq,↓reduceIte,za,hlen,t2,t4,t5,t7,zac];exact⟨_,_,_,rfl,.inr ⟨rfl,rfl,rfl⟩⟩
  | true=>
   rw[if_pos rfl] at hO2;simp only[sxZ,z6,z7,z8,j4,j5,j6,j7,j8,j9,x0,x6,x7,x8,x9,y4,reduceCtorEq,↓reduceIte,za,hlen,t2,t4,t5,t7];rw[<-ex];refine zad (ol_k x ?_);rw[hO2,ex];unfold zki;simp only[sxZ,z6,z7,z8,j4,j5,j6,j7,j8,j9,x0,x6,x7,x8,x9,y4,reduceCtorEq,↓reduceIte,za,hlen,t2,t4,t5,t7]
   by_cases c1:e2=0
   ·subst c1;simp only[sxZ,z6,z7,z8,j4,j5,j6,j7,j8,j9,x0,x6,x7,x8,x9,y4,reduceCtorEq,↓reduceIte,za,hlen,t2,t4,t5,t7,zac];exact⟨_,_,_,rfl,.inl rfl⟩
   ·rw[if_pos c1] at kz hk ⊢;have:=kz e2 rfl;simp only[sxZ,z6,z7,z8,j4,j5,j6,j7,j8,j9,x0,x6,x7,x8,x9,y4,reduceCtorEq,↓reduceIte,za,hlen,t2,t4,t5,t7,c1,zcR];exact this
 rintro o tm ⟨A2,z2,b2,rfl,rfl,hA2,hlen,t2,t4,t5,t7⟩;rw[if_neg (show ¬((0:Int)≠0) by decide)] at kz hk ⊢;subst hZ;refine zaa fun Z hZ=>?_;obtain⟨⟨e3,L3⟩,hO3⟩:∃R,opD v zb2 (elD (mtD m i))=R:=⟨_,rfl⟩;rw[hO3] at kz hk ⊢;dsimp only at kz hk ⊢;refine zaJ (fun o t=>∃A3 z3 b3,o=[OB.box 25 [.i .i64 v.kind,.s v.text,.row v.keys.length (v.keys.map .s),.row v.items.length (zab v.items)],OB.box 34 [.s [],.nil,.nil,.nil,.nil],OB.box 25 [.i .i64 v.kind,.s v.text,.row v.keys.length (v.keys.map .s),.row v.items.length (zab v.items)],OB.box 62 [.s m,.s i],OB.box 34 [.s (zeh m i),A1,A2,A3,.nil],z1,b1,z2,b2,z3,b3]/\e3=0/\zfB A3 L3.length (zdq L3)/\t.length=97/\t[2]? = some (.p 1 0)/\t[4]? = some (.fn 64 [] [.p 2 0])/\t[5]? = some (.p 3 0)/\t[7]? = some (.p 4 0)) ?_ ?_
 ·simp only[sxZ,z6,z7,z8,j4,j5,j6,j7,j8,j9,x0,x6,x7,x8,x9,y4,reduceCtorEq,↓reduceIte,za,hlen,t2,t4,t5,t7];refine zev zd7 (zjP v zb2 2 (by rw[ejv];rfl) hv hj fun z=>?_);unfold zbv;unfold opD at hO3;obtain⟨⟨x,ok⟩,hg⟩:∃R,zaG v zb2=R:=⟨_,rfl⟩;have hgx:x=(zaG v zb2).1:=by rw[hg]
  rw[hg] at hO3 ⊢;dsimp only at hO3 ⊢;have ex:=zae x;rw[ex];simp only[sxZ,z6,z7,z8,j4,j5,j6,j7,j8,j9,x0,x6,x7,x8,x9,y4,reduceCtorEq,↓reduceIte,za,hlen,t2,t4,t5,t7]
  cases ok with
  | false=>
   rw[if_neg (show ¬(false=true) by decide)] at hO3;injection hO3 with h1 h2
   subst h1 h2;simp only[sxZ,z6,z7,z8,j4,j5,j6,j7,j8,j9,x0,x6,x7,x8,x9,y4,reduceCtorEq,↓reduceIte,za,hlen,t2,t4,t5,t7,zac];exact⟨_,_,_,rfl,.inr ⟨rfl,rfl,rfl⟩⟩
  | true=>
   rw[if_pos rfl] at hO3;simp only[sxZ,z6,z7,z8,j4,j5,j6,j7,j8,j9,x0,x6,x7,x8,x9,y4,reduceCtorEq,↓reduceIte,za,hlen,t2,t4,t5,t7];rw[<-ex];refine zad (elM_k m i x (by rw[hgx];exact hb.it hv hj zb2) (by omega) (by omega) (resL m i) ?_);rw[hO3,ex];dsimp only;simp only[sxZ,z6,z7,z8,j4,j5,j6,j7,j8,j9,x0,x6,x7,x8,x9,y4,reduceCtorEq,↓reduceIte,za,hlen,t2,t4,t5,t7]
   by_cases c1:e3=0
   ·subst c1;simp only[sxZ,z6,z7,z8,j4,j5,j6,j7,j8,j9,x0,x6,x7,x8,x9,y4,reduceCtorEq,↓reduceIte,za,hlen,t2,t4,t5,t7,zac];exact⟨_,_,_,rfl,.inl rfl⟩
   ·rw[if_pos c1] at kz hk ⊢;have:=kz e3 rfl;simp only[sxZ,z6,z7,z8,j4,j5,j6,j7,j8,j9,x0,x6,x7,x8,x9,y4,reduceCtorEq,↓reduceIte,za,hlen,t2,t4,t5,t7,c1,zcR];exact this
 rintro o tm ⟨A3,z3,b3,rfl,rfl,hA3,hlen,t2,t4,t5,t7⟩;rw[if_neg (show ¬((0:Int)≠0) by decide)] at kz hk ⊢;subst hZ;refine zaa fun Z hZ=>?_;obtain⟨⟨e4,L4⟩,hO4⟩:∃R,opD v zbz (elD (svD m i))=R:=⟨_,rfl⟩;rw[hO4] at kz hk ⊢;dsimp only at kz hk ⊢;refine zaJ (fun o t=>∃A4 z4 b4,o=[OB.box 25 [.i .i64 v.kind,.s v.text,.row v.keys.length (v.keys.map .s),.row v.items.length (zab v.items)],OB.box 34 [.s [],.nil,.nil,.nil,.nil],OB.box 25 [.i .i64 v.kind,.s v.text,.row v.keys.length (v.keys.map .s),.row v.items.length (zab v.items)],OB.box 62 [.s m,.s i],OB.box 34 [.s (zeh m i),A1,A2,A3,A4],z1,b1,z2,b2,z3,b3,z4,b4]/\e4=0/\zfB A4 L4.length (zdc L4)/\t.length=97/\t[2]? = some (.p 1 0)/\t[4]? = some (.fn 64 [] [.p 2 0])/\t[5]? = some (.p 3 0)/\t[7]? = some (.p 4 0)) ?_ ?_
 ·simp only[sxZ,z6,z7,z8,j4,j5,j6,j7,j8,j9,x0,x6,x7,x8,x9,y4,reduceCtorEq,↓reduceIte,za,hlen,t2,t4,t5,t7];refine zev zd7 (zjP v zbz 2 (by rw[ejv];rfl) hv hj fun z=>?_);unfold zbv;unfold opD at hO4;obtain⟨⟨x,ok⟩,hg⟩:∃R,zaG v zbz=R:=⟨_,rfl⟩;have hgx:x=(zaG v zbz).1:=by rw[hg]
  rw[hg] at hO4 ⊢;dsimp only at hO4 ⊢;have ex:=zae x;rw[ex];simp only[sxZ,z6,z7,z8,j4,j5,j6,j7,j8,j9,x0,x6,x7,x8,x9,y4,reduceCtorEq,↓reduceIte,za,hlen,t2,t4,t5,t7]
  cases ok with
  | false=>
   rw[if_neg (show ¬(false=true) by decide)] at hO4;injection hO4 with h1 h2
   subst h1 h2;simp only[sxZ,z6,z7,z8,j4,j5,j6,j7,j8,j9,x0,x6,x7,x8,x9,y4,reduceCtorEq,↓reduceIte,za,hlen,t2,t4,t5,t7,zac];exact⟨_,_,_,rfl,.inr ⟨rfl,rfl,rfl⟩⟩
  | true=>
   rw[if_pos rfl] at hO4;simp only[sxZ,z6,z7,z8,j4,j5,j6,j7,j8,j9,x0,x6,x7,x8,x9,y4,reduceCtorEq,↓reduceIte,za,hlen,t2,t4,t5,t7];rw[<-ex];refine zad (elV_k m i x (by rw[hgx];exact hb.it hv hj zbz) (by omega) (by omega) (resL m i) ?_);rw[hO4,ex];dsimp only;simp only[sxZ,z6,z7,z8,j4,j5,j6,j7,j8,j9,x0,x6,x7,x8,x9,y4,reduceCtorEq,↓reduceIte,za,hlen,t2,t4,t5,t7]
   by_cases c1:e4=0
   ·subst c1;simp only[sxZ,z6,z7,z8,j4,j5,j6,j7,j8,j9,x0,x6,x7,x8,x9,y4,reduceCtorEq,↓reduceIte,za,hlen,t2,t4,t5,t7,zac];exact⟨_,_,_,rfl,.inl rfl⟩
   ·rw[if_pos c1] at kz hk ⊢;have:=kz e4 rfl;simp only[sxZ,z6,z7,z8,j4,j5,j6,j7,j8,j9,x0,x6,x7,x8,x9,y4,reduceCtorEq,↓reduceIte,za,hlen,t2,t4,t5,t7,c1,zcR];exact this
 rintro o tm ⟨A4,z4,b4,rfl,rfl,hA4,hlen,t2,t4,t5,t7⟩;rw[if_neg (show ¬((0:Int)≠0) by decide)] at kz hk ⊢;subst hZ;refine zaa fun Z hZ=>?_;have p1:=hA1.pl (za0 L1);have p2:=hA2.pl (za0 L2);have p3:=hA3.pl (ze4 L3);have p4:=hA4.pl (zeO L4);simp only[sxZ,z6,z7,z8,j4,j5,j6,j7,j8,j9,x0,x6,x7,x8,x9,y4,reduceCtorEq,↓reduceIte,za,hlen,t2,t4,t5,t7];subst hZ;simp only[sxZ,z6,z7,z8,j4,j5,j6,j7,j8,j9,x0,x6,x7,x8,x9,y4,reduceCtorEq,↓reduceIte,za,hlen,t2,t4,t5,t7,ziM p1,ziM p2,ziM p3,ziM p4,jm];exact⟨fun G I y h=>zha hA1.den hA2.den hA3.den hA4.den h,hk⟩
end
end
section
attribute [local irreducible] run
theorem jkp_z:JKp jvZ:=by rw[jvZ,JKp];exact⟨by simp,by simp,by simp,by simp,by rw[zke];trivial⟩
theorem zhX {v:JV} (hv:JKp v) (key:List UInt8):JKp (zaG v key).1:=by
 unfold zaG
 split
 ·split
  ·rename_i x hx;obtain⟨hi,rfl⟩:=zf.1 hx;exact hv.its hi
  ·exact jkp_z
 ·exact jkp_z
theorem JKp.idB {v:JV} (hv:JKp v):IdB v:=by
 refine⟨Nat.le_trans (zhX hv kId).lens.2.2.1 (by decide),fun key y hy=>?_⟩;obtain⟨i,hi,rfl⟩:=yc.1 hy;exact Nat.le_trans (zhX ((zhX hv key).its hi) kId).lens.2.2.1 (by decide)
def ShV (x:SvP):Prop:=x.typ.length<=64/\x.eps.length<=64
def ShO (d:DoP):Prop:=d.also.length<=64/\d.ctl.length<=64/\d.mts.length<=64/\d.svs.length<=64/\∀x∈d.svs,ShV x
theorem zmW (l:List JV):(txD l).2.length<=64:=by
 unfold txD
 split
 ·exact zd _
 split
 ·rw[qm];omega
 ·exact zd _
theorem ltD_len (v:JV):(ltD v).2.length<=64:=by
 unfold ltD;split
 ·exact zmW _
 ·exact zd _
theorem zhN (v:JV):(olD v).2.length<=64:=by
 unfold olD;split<;>exact zmW _
theorem zhM {α:Type} {v:JV} {key:List UInt8} {f:JV->Int×List α} (h:∀x,(f x).2.length<=64):(opD v key f).2.length<=64:=by
 unfold opD;split
 ·exact h _
 ·exact zd _
theorem zlv {α:Type} (f:JV->Int×α):∀l:List JV,(zg6 f l).2.length<=l.length
 | []=>ze _
 | y::l=>by
  have:=zlv f l;rw[zg6]
  split
  ·exact zd _
  split
  ·exact zd _
  ·simp only[zr];omega
theorem zlu {α:Type} (f:JV->Int×α):∀l:List JV,∀x∈(zg6 f l).2,∃y∈l,x=(f y).2
 | [],x,hx=>by cases hx
 | y::l,x,hx=>by
  rw[zg6] at hx
  split at hx
  ·cases hx
  split at hx
  ·cases hx
  ·rcases List.mem_cons.1 hx with rfl|hx
   ·exact⟨y,by simp,rfl⟩
   ·obtain⟨z,hz,e⟩:=zlu f l x hx;exact⟨z,qq _ hz,e⟩
theorem zo8 {α:Type} (f:JV->Int×α) (v:JV):(elD f v).2.length<=64:=by
 unfold elD
 split
 ·split
  ·exact zd _
  ·have:=zlv f v.items;omega
 ·exact zd _
theorem svD_sh (m i:List UInt8) (y:JV):ShV (svD m i y).2:=by
 unfold svD
 repeat' split
 all_goals first
  | exact⟨zd _,zd _⟩
  | exact⟨zhN _,zd _⟩
  | exact⟨zhN _,zhN _⟩
theorem ddE_sh (v:JV):ShO (ddE v).2:=by
 have hz:ShO doZ:=⟨zd _,zd _,zd _,zd _,fun x hx=>by cases hx⟩;unfold ddE
 repeat' split
 all_goals first
  | exact hz
  | skip
 refine⟨zhM ltD_len,zhM zhN,zhM (zo8 _),zhM (zo8 _),fun x hx=>?_⟩;dsimp only at hx;unfold opD elD at hx
 split at hx
 ·split at hx
  ·split at hx
   ·cases hx
   ·obtain⟨y,_,rfl⟩:=zlu _ _ x hx;exact svD_sh _ _ y
  ·cases hx
 ·cases hx
end
section
attribute [local irreducible] run
def RowJ (m:Nat) (l:List JV) (o:List OB) (X:AV):Prop:=(l=[]/\X=.nil)\/∃r g,X=.orow r g/\m<=r/\o[r]? = some (.orow 25 4 g l.length (zab l))
theorem RowJ.mono {m:Nat} {l:List JV} {o:List OB} {X:AV} (h:RowJ m l o X) (z:OB):RowJ m l (o++[z]) X:=by
 rcases h with h|⟨r,g,h1,h0,h2⟩
 ·exact .inl h
 ·exact .inr ⟨r,g,h1,h0,by rw[qc (zf.1 h2).1];exact h2⟩
theorem RowJ.set {m:Nat} {l:List JV} {o:List OB} {X:AV} (h:RowJ m l o X) {r:Nat} {Z:OB} (hz:o[r]? = some Z) (hne:∀g n cs,Z≠.orow 25 4 g n cs) (W:OB):RowJ m l (o.set r W) X:=by
 rcases h with h|⟨r',g,h1,h0,h2⟩
 ·exact .inl h
 ·refine .inr ⟨r',g,h1,h0,?_⟩;rw[zi (fun e=>by rw[e,h2] at hz;injection hz with hz;exact hne _ _ _ hz.symm)];exact h2
theorem zmL.set {m:Nat} {l:List (List UInt8)} {o:List OB} {X:AV} (h:zmL m l o X) {r:Nat} {Z:OB} (hz:o[r]? = some Z) (hne:∀g n cs,Z≠.orow 9 1 g n cs) (W:OB):zmL m l (o.set r W) X:=by
 rcases h with h|⟨r',g,h1,h0,h2⟩
 ·exact .inl h
 ·refine .inr ⟨r',g,h1,h0,?_⟩;rw[zi (fun e=>by rw[e,h2] at hz;injection hz with hz;exact hne _ _ _ hz.symm)];exact h2
theorem den_jv4 {k:Int} {t:List UInt8} {G:Gh} {I:Imm} {y:Value} (h:Den G I (.agg [.i .i64 k,.s t,.nil,.nil]) y):Den G I (.agg (zao (.mk k t [] []))) y:=by
 rw[zao,zaA];simp only[zaj,Den] at h ⊢;obtain⟨zs,rfl,⟨z0,m0,rfl,q0,z1,m1,rfl,q1,z2,m2,rfl,q2,z3,m3,rfl,q3,q4⟩,hz⟩:=h;refine⟨_,rfl,⟨_,_,rfl,q0,_,_,rfl,q1,_,_,rfl,?_,_,_,rfl,?_,q4⟩,hz⟩
 ·exact⟨none,0,[],q2,⟨ze _,fun ad h=>by cases h⟩,rfl,by simp,by simp⟩
 ·exact⟨none,0,[],q3,⟨ze _,fun ad h=>by cases h⟩,rfl,by simp,by simp⟩
section
variable [Tabs Tryz.prog] {objs:List OB} {K:List OB->AV->Prop}
end
end
instance tabs:Tabs Tryz.prog:=⟨fun w=>w.ShapedOpen Tryz.prog,fun _ _ h hk _=>zjw h hk⟩
instance tabs_shp:Shp Tryz.prog:=⟨fun _ h=>h⟩
end Go.Proofs.YtceenajkieomoaaGreatDoor
namespace Go.Proofs.YtceenajkieomoaaGreatDoor
open Int renaming cast_ofNat_Int->yd
open Lib renaming hasPrefix->jc
open List renaming all_cons->jo, all_eq_true->zv, append_assoc->qb, append_nil->jt, cons_append->qy, drop_eq_getElem_cons->jq, eq_nil_of_length_eq_zero->jh, flatMap_cons->xi, getElem?_eq_getElem->zl, getElem?_eq_some_iff->zf, getElem?_map->qz, getElem?_set->za, getElem?_set_ne->zi, getElem?_set_self->zk, getElem_mem->qw, length->jl, length_append->zm, length_cons->zr, length_drop->zu, length_map->qm, length_nil->qj, length_set->zh, length_take->qd, map_append->je, mem_append->zy, mem_cons->zt, mem_map->jr, mem_singleton->xy, sublist_cons_self->jj, take_add_one->ye, take_of_length_le->jk, take_succ_eq_append_getElem->xt
open Nat renaming le_refl->ze, lt_or_ge->zj, mul_one->xf, zero_le->zd
def ppB (c:UInt8):Bool:=c==37||idB c
theorem zm4 {a b:UInt8} (r:List UInt8) (ha:a≠58) (hb:b≠58) {p:List UInt8} {ps:List (List UInt8)} (h:zaM 58 r=p::ps):zaM 58 (37::a::b::r)=(37::a::b::p)::ps:=by
 rw[za3,if_neg (by decide),za3,if_neg ha,za3,if_neg hb,h]
theorem addN_out (c:UInt8) (out:List UInt8) (h:zbZ c za5=true):zcd za5 out c false=(0,out++[c]):=zbl rfl h
theorem zm7 {c:UInt8} (t out:List UInt8) (hc:c≠37) (h:zbZ c za5=true):rwS (zcd za5) 0 (c::t) out=rwS (zcd za5) 0 t (out++[c]):=by
 rw[rwS,if_neg hc,addN_out c out h,if_pos rfl]
theorem rwN_esc (a b:UInt8) (r out:List UInt8) (he:zbf (37::a::b::r)=true):rwS (zcd za5) 0 (37::a::b::r) out=rwS (zcd za5) 0 r (out++(if zaF (zcl (37::a::b::r))=true then [zcl (37::a::b::r)] else zdD (zcl (37::a::b::r)))):=by
 rw[rwS,if_pos rfl,if_pos he];rcases hu:zaF (zcl (37::a::b::r)) with _|_
 ·rw[zeH hu,if_pos rfl,zb7,if_neg Bool.false_ne_true];rfl
 ·rw[zbl (by rw[hu];rfl) (zcg hu),if_pos rfl,zb7,if_pos rfl];rfl
theorem zms (v:UInt8):zcz (if zaF v=true then [v] else zdD v)=if idB v=true then [v] else zdD v:=by
 have hf:=zdk v;rcases hu:zaF v with _|_
 ·rw[if_neg Bool.false_ne_true,hf.2.2.1 hu,if_neg Bool.false_ne_true,zl6]
 ·rw[if_pos rfl]
  by_cases h:v=126
  ·subst h;decide
  ·rw[hf.2.1 hu h,if_pos rfl,zeN h]
theorem zmm:∀(n:Nat) (l p:List UInt8) (ps:List (List UInt8)),l.length<=n->zaM 58 l=p::ps->((dcL l).1=0↔∀q∈p::ps,(dcL q).1=0) /\
  (l.all ibB=true->(dcL l).1=0->∀out,∃y,rwS (zcd za5) 0 l out=(0,out++y)/\zcz y=zdn (dcL p).2++ps.flatMap fun q=>58::zdn (dcL q).2):=by
 intro n
 induction n with
 | zero=>
  intro l p ps hl hs;obtain rfl:l=[]:=jh (by omega);obtain⟨rfl,rfl⟩:p=[]/\ps=[]:=by
   have:zaM 58 []=[[]]:=rfl;rw[this] at hs;injection hs with h1 h2;exact⟨h1.symm,h2.symm⟩
  exact⟨by simp,fun _ _ out=>⟨[],by rw[rwS,jt],rfl⟩⟩
 | succ n ih=>
  intro l p ps hl hs
  cases l with
  | nil=>
   obtain⟨rfl,rfl⟩:p=[]/\ps=[]:=by
    have:zaM 58 []=[[]]:=rfl;rw[this] at hs;injection hs with h1 h2;exact⟨h1.symm,h2.symm⟩
   exact⟨by simp,fun _ _ out=>⟨[],by rw[rwS,jt],rfl⟩⟩
  | cons c t=>
   simp only[zr] at hl
   by_cases hc:c=37
   ·subst hc;rcases he:zbf (37::t) with _|_
    ·obtain⟨p',ps',e'⟩:=zbb 58 t;rw[za3,if_neg (by decide),e'] at hs;injection hs with h1 h2
     have hb:=zgu he;have hp:zbf p=false:=by
      rw[<-h1];rcases hq:zbf (37::p') with _|_
      ·rfl
      ·obtain⟨a,b,r,rfl⟩:=zb3 hq;have hx:(za6 a&&za6 b)=true:=hq;have ht:t=a::b::t.drop 2:=by
        have h3:zaM 58 t=(a::b::r)::ps':=e';rw[zcY] at h3;rcases zct 58 t with ⟨_,h4,_⟩|⟨k,_,hk,h4,_⟩
        ·rw[h4] at h3;simp only[Bool.false_eq_true,if_false,List.cons.injEq] at h3;rw[h3.1];rfl
        ·rw[h4] at h3;simp only[if_true,List.cons.injEq] at h3;have h5:=h3.1
         match t,k,h5 with
         | [],k,h5=>simp at h5
         | [x],0,h5=>simp at h5
         | [x],k+1,h5=>simp at h5
         | x::y::t,0,h5=>simp at h5
         | x::y::t,1,h5=>simp at h5
         | x::y::t,k+2,h5=>simp at h5;rw[h5.1,h5.2.1];rfl
       rw[ht] at he;have:zbf (37::a::b::t.drop 2)=(za6 a&&za6 b):=rfl;rw[this,hx] at he;cases he
     have hpb:(dcL p).1=2:=by rw[<-h1] at hp ⊢;exact zgu hp
     exact⟨⟨(fun h=>by rw[hb] at h;cases h),(fun h=>by have:=h p (by simp);rw[hpb] at this;cases this)⟩,(fun _ h=>by rw[hb] at h;cases h)⟩
    ·obtain⟨a,b,r,rfl⟩:=zb3 he;have hx:za6 a=true/\za6 b=true:=by
      have:(za6 a&&za6 b)=true:=he;simpa using this
     have ha:=((zdk a).2.2.2.2 hx.1).1;have hb:=((zdk b).2.2.2.2 hx.2).1;obtain⟨p',ps',e'⟩:=zbb 58 r;rw[zm4 r ha hb e'] at hs;injection hs with h1 h2
     subst h1 h2;have hep:zbf (37::a::b::p')=true:=he;have hv:zcl (37::a::b::p')=zcl (37::a::b::r):=rfl;obtain⟨i1,i2⟩:=ih r p' ps' (by simp at hl;omega) e';have d1:=zfb he;have d2:=zfb hep;refine⟨?_,fun hall h0 out=>?_⟩
     ·rw[d1.1,i1];simp only[zt,forall_eq_or_imp,d2.1]
     ·rw[d1.1] at h0;have hall':r.all ibB=true:=by
       simp only[jo,Bool.and_eq_true] at hall;exact hall.2.2.2
      obtain⟨y,y1,y2⟩:=i2 hall' h0 (out++(if zaF (zcl (37::a::b::r))=true then [zcl (37::a::b::r)] else zdD (zcl (37::a::b::r))));have hp0:=(i1.1 h0) p' (by simp);refine⟨(if zaF (zcl (37::a::b::r))=true then [zcl (37::a::b::r)] else zdD (zcl (37::a::b::r)))++y,?_,?_⟩
      ·rw[rwN_esc a b r out he,y1,qb]
      ·rw[zdb,zms,y2,d2.2 hp0,hv,zc7,qb]
   ·by_cases h58:c=58
    ·subst h58;obtain⟨p',ps',e'⟩:=zbb 58 t;rw[za3,if_pos rfl,e'] at hs;injection hs with h1 h2
     subst h1 h2;obtain⟨i1,i2⟩:=ih t p' ps' (by omega) e';have d1:=zed (c:=58) (t:=t) (by decide);refine⟨?_,fun hall h0 out=>?_⟩
     ·rw[d1.1,i1];simp only[zt,forall_eq_or_imp];exact⟨fun h=>⟨rfl,h⟩,fun h=>h.2⟩
     ·rw[d1.1] at h0;have hall':t.all ibB=true:=by
       simp only[jo,Bool.and_eq_true] at hall;exact hall.2
      obtain⟨y,y1,y2⟩:=i2 hall' h0 (out++[58]);refine⟨58::y,?_,?_⟩
      ·rw[zm7 t out (by decide) (by decide),y1,qb];rfl
      ·show zcz ([58]++y)=_;rw[zdb,zeN (by decide),y2];simp[zdn,dcL,rwS]
    ·obtain⟨p',ps',e'⟩:=zbb 58 t;rw[za3,if_neg h58,e'] at hs;injection hs with h1 h2
     subst h1 h2;obtain⟨i1,i2⟩:=ih t p' ps' (by omega) e';have d1:=zed (c:=c) (t:=t) hc;have d2:=zed (c:=c) (t:=p') hc;refine⟨?_,fun hall h0 out=>?_⟩
     ·rw[d1.1,i1];simp only[zt,forall_eq_or_imp,d2.1]
     ·rw[d1.1] at h0;simp only[jo,Bool.and_eq_true] at hall;have hid:idB c=true:=by
       have:=hall.1;unfold ibB at this;simp only[Bool.or_eq_true,beq_iff_eq] at this;rcases this with (h|h)|h
       ·exact absurd h hc
       ·exact h
       ·exact absurd h h58
      have hf:=(zdk c).1 hid;obtain⟨y,y1,y2⟩:=i2 hall.2 h0 (out++[c]);have hp0:=(i1.1 h0) p' (by simp);refine⟨c::y,?_,?_⟩
      ·rw[zm7 t out hc hf.1,y1,qb];rfl
      ·show zcz ([c]++y)=_;rw[zdb,zeN hf.2.1,y2,d2.2 hp0,zc7,if_pos hid,qb]
theorem zeG:∀l:List UInt8,l.all ibB=(zaM 58 l).all fun q=>q.all ppB
 | []=>rfl
 | c::t=>by
  have ih:=zeG t;obtain⟨p',ps',e'⟩:=zbb 58 t;rw[za3]
  by_cases h:c=58
  ·subst h;rw[if_pos rfl,jo,ih,jo];rfl
  ·rw[if_neg h,e',jo,ih,e',jo,jo,jo,<-Bool.and_assoc]
   congr 2
   unfold ibB ppB;have:(c==58)=false:=by simpa using h
   rw[this,Bool.or_false]
theorem ziW:∀l:List UInt8,(zaM 58 l).getLastD []=[]↔(l=[]\/l.getLast? = some 58)
 | []=>by simp[zaM]
 | [c]=>by
  by_cases h:c=58
  ·subst h;simp[zaM]
  ·rw[za3,if_neg h];simp[zaM,h]
 | c::d::t=>by
  have ih:=ziW (d::t);obtain⟨p',ps',e'⟩:=zbb 58 (d::t);rw[za3];simp only[reduceCtorEq,false_or,List.getLast?_cons_cons] at ih ⊢;rw[<-ih]
  by_cases h:c=58
  ·subst h;rw[if_pos rfl,e'];simp
  ·rw[if_neg h,e']
   cases ps' with
   | nil=>
    simp only[List.getLastD_cons,List.getLastD_nil];rw[e'] at ih;simp only[List.getLastD_cons,List.getLastD_nil] at ih
    constructor
    ·intro h2;cases h2
    ·intro h2;subst h2;exfalso;have hsp:=zcY 58 (d::t);rw[e'] at hsp
     split at hsp
     ·rename_i h3;injection hsp with _ h4
      have:=zeP 58 (zaH 58 (d::t)).2.1;rw[<-h4] at this;simp at this
     ·injection hsp with h4 _;cases h4
   | cons q qs=>simp
theorem zgl (l p:List UInt8) (ps:List (List UInt8)) (hl:l.length<=16384) (hs:zaM 58 l=p::ps) :
  idE l=if ¬(∀q∈p::ps,(zcw q).1=0) then (2,[]) else if (p::ps).all (fun q=>q.all ppB)=false then (1,[]) else if (p::ps).getLastD []=[] then (3,[]) else (0,zbk p++jnc ps):=by
 obtain⟨m1,m2⟩:=zmm l.length l p ps (ze _) hs;have hq:∀q∈p::ps,zcw q=dcL q:=fun q hq=>zeC (by
  rw[<-hs] at hq;have:=zes 58 l q hq;omega)
 have e1:(∀q∈p::ps,(zcw q).1=0)↔(dcL l).1=0:=by
  rw[m1];exact forall_congr' fun q=>forall_congr' fun h=>by rw[hq q h]
 unfold idE;rw[zeC hl,<-hs,zeG,hs];have e2:=ziW l;rw[hs] at e2
 by_cases h0:(dcL l).1=0
 ·rw[if_neg (show ¬(dcL l).1≠0 from fun h=>h h0),if_neg (show ¬¬(∀q∈p::ps,(zcw q).1=0) from fun h=>h (e1.2 h0))]
  by_cases h1:((p::ps).all fun q=>q.all ppB)=false
  ·rw[if_pos h1,if_pos h1]
  ·rw[if_neg h1,if_neg h1]
   by_cases h2:(p::ps).getLastD []=[]
   ·rw[if_pos h2,if_pos (e2.1 h2)]
   ·rw[if_neg h2,if_neg (fun h=>h2 (e2.2 h))];obtain⟨y,y1,y2⟩:=m2 (by rw[zeG,hs];simpa using h1) h0 [];have hn:zaw l za5=(0,y):=by
     unfold zaw zg1;rw[if_neg (by omega),y1];rfl
    rw[hn,if_neg (by simp)];simp only;rw[y2];have e3:zbk p=zdn (dcL p).2:=by unfold zbk;rw[hq p (by simp)]
    have e4:jnc ps=ps.flatMap fun q=>58::zdn (dcL q).2:=by
     unfold jnc;have:∀qs:List (List UInt8),(∀q∈qs,zcw q=dcL q)->qs.flatMap (fun q=>58::zbk q)=qs.flatMap fun q=>58::zdn (dcL q).2:=by
      intro qs
      induction qs with
      | nil=>intro _;rfl
      | cons q qs ih=>
       intro h;rw[xi,xi,ih (fun q' h'=>h q' (by simp[h']))];unfold zbk;rw[h q (by simp)]
     exact this ps (fun q h=>hq q (by simp[h]))
    rw[e3,e4]
 ·have h2:(dcL l).1=2:=(dcL_err l.length l (ze _)).resolve_left h0;rw[if_pos h0,if_pos (by rw[e1];exact h0),h2]
theorem zlN:∀d:List UInt8,dcL (zdn d)=(0,d)
 | []=>rfl
 | c::d=>by
  have ih:=zlN d;rw[zc7]
  by_cases h:idB c=true
  ·rw[if_pos h];have h37:=((zdk c).1 h).2.2.2;have d1:=zed (c:=c) (t:=zdn d) h37;show dcL (c::zdn d)=_;rw[ih] at d1;have e2:=d1.2 rfl;have:dcL (c::zdn d)=((dcL (c::zdn d)).1,(dcL (c::zdn d)).2):=rfl;rw[this,d1.1,e2]
  ·rw[if_neg h];have he:=zo6 c (zdn d);have d1:=zfb (a:=zdX (c.toNat / 16)) (b:=zdX (c.toNat % 16)) (r:=zdn d) he.1;have e:zdD c++zdn d=37::zdX (c.toNat / 16)::zdX (c.toNat % 16)::zdn d:=rfl;rw[e];rw[ih] at d1;have e2:=d1.2 rfl;have hv:zcl (37::zdX (c.toNat / 16)::zdX (c.toNat % 16)::zdn d)=c:=he.2;rw[hv] at e2;have:dcL (37::zdX (c.toNat / 16)::zdX (c.toNat % 16)::zdn d)=((dcL (37::zdX (c.toNat / 16)::zdX (c.toNat % 16)::zdn d)).1,(dcL (37::zdX (c.toNat / 16)::zdX (c.toNat % 16)::zdn d)).2):=rfl;rw[this,d1.1,e2]
theorem zo3:∀n:Fin 256,(zdD (UInt8.ofNat n.val)).all (fun c=>ppB c&&c != 58)=true:=by decide +kernel
theorem zj3:∀d:List UInt8,(zdn d).all (fun c=>ppB c&&c != 58)=true
 | []=>rfl
 | c::d=>by
  rw[zc7,List.all_append,zj3 d,Bool.and_true]
  by_cases h:idB c=true
  ·rw[if_pos h];have hf:=(zdk c).1 h;simp[ppB,h,hf.2.2.1]
  ·rw[if_neg h];have:=zo3 ⟨c.toNat,UInt8.toNat_lt c⟩;simpa using this
theorem zi5 (d:List UInt8):(58:UInt8)∉zdn d:=by
 intro hm;have:=zv.1 (zj3 d) 58 hm;simp at this
theorem escL_ppB (d:List UInt8):(zdn d).all ppB=true:=by
 rw[zv];intro x hx;have:=zv.1 (zj3 d) x hx;simp only[Bool.and_eq_true] at this;exact this.1
theorem escL_nil (d:List UInt8):zdn d=[]↔d=[]:=by
 cases d with
 | nil=>exact⟨fun _=>rfl,fun _=>rfl⟩
 | cons c d=>
  rw[zc7]
  constructor
  ·intro h;exfalso;have:=congrArg jl h;rw[zm] at this
   split at this<;>simp[zdD] at this
  ·intro h;cases h
def js (ps:List (List UInt8)):List UInt8:=ps.flatMap fun q=>58::q
theorem zkl:∀(s:List UInt8) (l:List (List UInt8)),58∉s->(∀x∈l,(58:UInt8)∉x)->zaM 58 (s++js l)=s::l
 | s,[],hs,_=>by
  show zaM 58 (s++[])=_;rw[jt,zcY,zje 58 s hs];simp
 | s,x::l,hs,h=>by
  have:s++js (x::l)=s++58::(x++js l):=by simp[js]
  rw[this,zcY,zhc 58 s _ hs,if_pos rfl,zkl x l (h x (by simp)) (fun y hy=>h y (by simp[hy]))]
theorem zlg (ps:List (List UInt8)):jnc ps=js (ps.map zbk):=by
 unfold jnc js;rw[List.flatMap_map]
theorem zd6 {q:List UInt8} (h1:(zbk q).length<=16384):(zcw (zbk q)).1=0/\zbk (zbk q)=zbk q:=by
 have e:zcw (zbk q)=(0,(zcw q).2):=by
  unfold zbk at h1 ⊢;rw[zeC h1,zlN]
 refine⟨by rw[e],?_⟩;show zdn (zcw (zbk q)).2=zbk q;rw[e];rfl
theorem zg3:∀(ps:List (List UInt8)) (q:List UInt8),q∈ps->q.length<=(js ps).length
 | [],q,h=>by cases h
 | p::ps,q,h=>by
  have:js (p::ps)=58::(p++js ps):=by simp[js]
  rw[this,zr,zm];rcases zt.1 h with rfl|h
  ·omega
  ·have:=zg3 ps q h;omega
theorem zfn (f:List UInt8->List UInt8):∀(p:List UInt8) (ps:List (List UInt8)),((p::ps).map f).getLastD []=f ((p::ps).getLastD [])
 | p,[]=>by simp
 | p,q::ps=>by
  have:=zfn f q ps;simpa using this
theorem zoU {l i:List UInt8} (hl:l.length<=16384) (hi:i.length<=16384) (h:idE l=(0,i)):idE i=(0,i)/\i.all ibB=true:=by
 obtain⟨p,ps,hs⟩:=zbb 58 l;have hp:=zgl l p ps hl hs;rw[h] at hp
 split at hp
 ·cases hp
 ·rename_i g1
  split at hp
  ·cases hp
  ·rename_i g2
   split at hp
   ·cases hp
   ·rename_i g3;injection hp with _ hp
    simp only[Decidable.not_not] at g1;have hsi:zaM 58 i=zbk p::ps.map zbk:=by
     rw[hp,zlg];exact zkl _ _ (zi5 _) (fun x hx=>by
      obtain⟨q,_,rfl⟩:=jr.1 hx;exact zi5 _)
    have hlen:∀q∈p::ps,(zbk q).length<=16384:=by
     intro q hq;have hi2:=hi;rw[hp,zlg,zm] at hi2;rcases zt.1 hq with rfl|hq
     ·omega
     ·have:=zg3 (ps.map zbk) (zbk q) (List.mem_map_of_mem hq);omega
    have hq:=zgl i (zbk p) (ps.map zbk) hi hsi;have c1:∀q∈zbk p::ps.map zbk,(zcw q).1=0:=by
     intro q hq;have:q∈(p::ps).map zbk:=hq;obtain⟨q',h1,rfl⟩:=jr.1 this;exact(zd6 (hlen q' h1)).1
    have c2:(zbk p::ps.map zbk).all (fun q=>q.all ppB)=true:=by
     rw[zv];intro q hq;have:q∈(p::ps).map zbk:=hq;obtain⟨q',h1,rfl⟩:=jr.1 this;exact escL_ppB _
    have c3:¬(zbk p::ps.map zbk).getLastD []=[]:=by
     have e:=zfn zbk p ps;show ¬((p::ps).map zbk).getLastD []=[];rw[e];intro e2;unfold zbk at e2;rw[escL_nil] at e2
     apply g3
     have hm:(p::ps).getLastD []∈p::ps:=by
      rw[List.getLastD_eq_getLast?,List.getLast?_eq_some_getLast (by simp)];exact List.getLast_mem _
     generalize (p::ps).getLastD []=q at *;have hql:q.length<=l.length:=zes 58 l q (by rw[hs];exact hm);have h0:=g1 q hm
     cases q with
     | nil=>rfl
     | cons c t=>
      exfalso;rw[zeC (by omega)] at h0 e2
      by_cases hc:c=37
      ·subst hc;rcases he:zbf (37::t) with _|_
       ·rw[zgu he] at h0;cases h0
       ·obtain⟨a,b,r,rfl⟩:=zb3 he;have d1:=zfb he;rw[d1.1] at h0;rw[d1.2 h0] at e2;cases e2
      ·have d1:=zed (c:=c) (t:=t) hc;rw[d1.1] at h0;rw[d1.2 h0] at e2;cases e2
    rw[if_neg (fun h=>h c1),if_neg (by rw[c2];simp),if_neg c3] at hq;refine⟨?_,?_⟩
    ·rw[hq,(zd6 (hlen p (by simp))).2,hp]
     congr 2
     rw[zlg,zlg,List.map_map]
     congr 1
     refine List.map_congr_left fun q hq=>?_;exact(zd6 (hlen q (by simp[hq]))).2
    ·rw[zeG,hsi];exact c2
structure CanD (u:DidU):Prop where
 meth:zdh u.meth=true
 id:idE u.id=(0,u.id)
 idb:u.id.all ibB=true
 path:zaw u.path zaO=(0,u.path)
 slash:u.path=[]\/∃r,u.path=47::r
 query:zaw u.query zaq=(0,u.query)
 frag:zaw u.frag zaq=(0,u.frag)
 noq:u.hq=false->u.query=[]
 nof:u.hf=false->u.frag=[]
 len:(zh1 u).length<=4096
theorem did_ok {s m i:List UInt8} (h:zcN s=(0,m,i)):zdh m=true/\∃l,s=zeh m l/\idE l=(0,i)/\s.length<=4096:=by
 unfold zcN at h
 split at h
 ·cases h
 ·rename_i g0
  split at h
  ·cases h
  ·rename_i g1
   split at h
   ·cases h
   ·rename_i g2
    split at h
    ·cases h
    ·rename_i g3
     split at h
     ·rename_i g4;injection h with h1 _;exact absurd h1 g4
     ·rename_i g4;simp only[Decidable.not_not] at g4;injection h with _ h
      injection h with h1 h2
      subst h1 h2;simp only[Bool.not_eq_false] at g1 g2 g3;refine⟨g3,(zaH 58 (s.drop 4)).2.1,?_,by rw[<-g4],by omega⟩;obtain⟨t,ht⟩:=List.isPrefixOf_iff_prefix.1 (show List.isPrefixOf zbM s=true from g1);have hj:=zeD 58 (s.drop 4);rw[g2,if_pos rfl] at hj;unfold zeh;have hd:s.drop 4=t:=by rw[<-ht];simp[zbM]
      rw[qb,qb,<-qb _ [58],qb _ [58],<-hj,hd,ht]
theorem idE_le {l i:List UInt8} (h:idE l=(0,i)):i.length<=3*l.length:=by
 unfold idE at h
 split at h
 ·rename_i g;injection h with h1 _;exact absurd h1 g
 ·split at h
  ·cases h
  ·split at h
   ·cases h
   ·split at h
    ·rename_i g;injection h with h1 _;exact absurd h1 g
    ·injection h with _ h
     have h1:=ze3 l za5;have h2:=zgJ (zaw l za5).2;rw[<-h];omega
theorem CanD.of {s:List UInt8} {u:DidU} (hs:s.length<=1000) (h:zfz s=(0,u)):CanD u:=by
 unfold zfz at h
 split at h
 ·cases h
 ·split at h
  ·rename_i g;injection h with h1 _;exact absurd h1 g
  ·rename_i g1
   split at h
   ·rename_i g;injection h with h1 _;exact absurd h1 g
   ·rename_i g2
    split at h
    ·rename_i g;injection h with h1 _;exact absurd h1 g
    ·rename_i g3
     split at h
     ·rename_i g;injection h with h1 _;exact absurd h1 g
     ·rename_i g4;simp only[Decidable.not_not] at g1 g2 g3 g4;injection h with _ h
      have hd:zcN (zbA s)=(0,(zcN (zbA s)).2.1,(zcN (zbA s)).2.2):=by rw[<-g1]
      obtain⟨k1,l,k2,k3,k4⟩:=did_ok hd;have e2:zaw ((zbn s).drop (zbA s).length) zaO=(0,(zaw ((zbn s).drop (zbA s).length) zaO).2):=by rw[<-g2]
      have e3:zaw (zaH 63 (zaH 35 s).1).2.1 zaq=(0,(zaw (zaH 63 (zaH 35 s).1).2.1 zaq).2):=by rw[<-g3]
      have e4:zaw (zaH 35 s).2.1 zaq=(0,(zaw (zaH 35 s).2.1 zaq).2):=by rw[<-g4]
      have j1:=congrArg jl (zeD 35 s);have j2:=congrArg jl (zeD 63 (zaH 35 s).1);have c1:=zib 35 s;have c2:=zib 63 (zaH 35 s).1;have hnb:=(zmr (zbn s)).2;have hnl:(zbA s).length<=(zbn s).length:=hnb;have hbl:(zbn s).length<=(zaH 35 s).1.length:=zpC 63 _;have h35l:=zpC 35 s;have kl:(zbA s).length=(zcN (zbA s)).2.1.length+l.length+5:=by
       have hk2:=congrArg jl k2;simp only[zeh,zbM,zm,zr,qj] at hk2;omega
      have il:=idE_le k3;have pl:=(zcE _ _ _ e2).2.2;have ql:=(zcE _ _ _ e3).2.2;have fl:=(zcE _ _ _ e4).2.2;rw[zu] at pl;have ia:=zoU (l:=l) (by omega) (by omega) k3;have q0:(zaH 63 (zaH 35 s).1).2.1.length<=(zaH 35 s).1.length:=(zc8 63 _).2;have f0:(zaH 35 s).2.1.length<=s.length:=(zc8 35 _).2;have qs:(zbn s).length+(zaH 63 (zaH 35 s).1).2.1.length<=(zaH 35 s).1.length:=by
       show (zaH 63 (zaH 35 s).1).1.length+_<=_;rcases hb:(zaH 63 (zaH 35 s).1).2.2 with _|_
       ·rw[(c2.2.2 hb).1,(c2.2.2 hb).2];simp
       ·have:=c2.2.1 hb;omega
      have fs:(zaH 35 s).1.length+(zaH 35 s).2.1.length<=s.length:=by
       rcases hb:(zaH 35 s).2.2 with _|_
       ·rw[(c1.2.2 hb).1,(c1.2.2 hb).2];simp
       ·have:=c1.2.1 hb;omega
      have hslash:(zaw ((zbn s).drop (zbA s).length) zaO).2=[]\/∃r,(zaw ((zbn s).drop (zbA s).length) zaO).2=47::r:=by
       have hx:(zbn s).drop (zbA s).length=[]\/∃r,(zbn s).drop (zbA s).length=47::r:=by
        unfold zbA zb0;rcases zct 47 (zbn s) with ⟨_,h3,_⟩|⟨k,_,hk,h3,h4⟩
        ·rw[h3];left;simp
        ·rw[h3];right;have e:((zbn s).take k).length=k:=by rw[qd];omega
         simp only[e];rw[jq hk];rw[zl hk] at h4;injection h4 with h4
         exact⟨_,by rw[h4]⟩
       rcases hx with hx|⟨r,hx⟩
       ·left;rw[hx];decide
       ·right;rw[hx] at e2 ⊢;have hlen:=zfH e2;have hr:rwS (zcd zaO) 0 (47::r) []=(0,(zaw (47::r) zaO).2):=by
         have e5:=e2;unfold zaw zg1 at e5;rw[if_neg (by omega)] at e5;rw[e5];unfold zaw zg1;rw[if_neg (by omega)]
        have hp1:rwS (zcd zaO) 0 (47::r) []=rwS (zcd zaO) 0 r [47]:=by
         rw[rwS,if_neg (by decide),zbl rfl (by decide),if_pos rfl];rfl
        rw[hp1] at hr;obtain⟨y,a,k5,_⟩:=ziP zaO r.length r [47] _ (ze _) hr;exact⟨y,k5⟩
      rw[<-h];refine⟨k1,ia.1,ia.2,(zcE _ _ _ e2).1,hslash,(zcE _ _ _ e3).1,(zcE _ _ _ e4).1,?_,?_,?_⟩
      ·intro hq;show (zaw (zaH 63 (zaH 35 s).1).2.1 zaq).2=[];rw[(c2.2.2 hq).2];rfl
      ·intro hf;show (zaw (zaH 35 s).2.1 zaq).2=[];rw[(c1.2.2 hf).2];rfl
      ·unfold zh1;simp only[zm];have z1:((if (zaH 63 (zaH 35 s).1).2.2=true then [63]++(zaw (zaH 63 (zaH 35 s).1).2.1 zaq).2 else []):List UInt8).length<=(zaw (zaH 63 (zaH 35 s).1).2.1 zaq).2.length+1:=by
        split<;>simp
       have z2:((if (zaH 35 s).2.2=true then [35]++(zaw (zaH 35 s).2.1 zaq).2 else []):List UInt8).length<=(zaw (zaH 35 s).2.1 zaq).2.length+1:=by
        split<;>simp
       have z3:(zeh (zcN (zbA s)).2.1 (zcN (zbA s)).2.2).length=(zcN (zbA s)).2.1.length+(zcN (zbA s)).2.2.length+5:=by simp[zeh,zbM];omega
       omega
section
open Go.RowKit Sx
section
variable {objs:List OB} {K:List OB->AV->Prop}
end
theorem CanD.lens {u:DidU} (h:CanD u):u.meth.length<=4096/\u.id.length<=4096/\u.path.length<=4096/\u.query.length<=16384/\u.frag.length<=16384:=by
 have hl:=h.len;have h1:=zfH h.query;have h2:=zfH h.frag;have h3:=zew u.meth u.id;unfold zh1 at hl;simp only[zm] at hl;omega
end
open Nat renaming reduceAdd -> z6, reduceSub -> z7, reduceLeDiff -> z8, reduceLT -> j4, reduceMul -> j5, reduceEqDiff -> j6
open Int renaming reduceToNat -> j7, reduceAdd -> j8, reduceSub -> j9, reduceMul -> x0, reduceNeg -> x6, reduceLT -> x7, reduceLE -> x8, reduceEq -> x9, reduceNe -> y4
open Go.RowKit Sx
def jn2:List (List UInt8)->List UInt8
 | []=>[]
 | p::ps=>zbk p++jnc ps
theorem jn2_snoc (xs:List (List UInt8)) (q:List UInt8):jn2 (xs++[q])=(if xs=[] then [] else jn2 xs++[58])++zbk q:=by
 cases xs with
 | nil=>simp[jn2,jnc]
 | cons p ps=>simp[jn2,jnc]
theorem idE_list (d:List UInt8) (hl:d.length<=16384):idE d=if ¬(∀q∈zaM 58 d,(zcw q).1=0) then (2,[]) else if (zaM 58 d).all (fun q=>q.all ppB)=false then (1,[]) else if (zaM 58 d).getLastD []=[] then (3,[]) else (0,jn2 (zaM 58 d)):=by
 obtain⟨p,ps,h⟩:=zbb 58 d;rw[zgl d p ps hl h,h];rfl
theorem zlr (l:List UInt8):(zdn l).length<=3*l.length:=by
 induction l with
 | nil=>exact ze _
 | cons c l ih=>
  rw[zc7,zm,zr]
  split<;>simp only[zh5,zr,qj]<;>omega
theorem pp_iff (c:UInt8):ppB c=(c==37||idB c):=rfl
theorem zpS {xs:List (List UInt8)} {p:List UInt8->Prop} (h:∀j (hj:j<xs.length),p xs[j]):∀q∈xs,p q:=by
 intro x hx;obtain⟨j,hj,rfl⟩:=List.mem_iff_getElem.1 hx;exact h j hj
theorem zo5 (l:List UInt8) (c:UInt8):zdn (l++[c])=zdn l++(if idB c=true then [c] else zdD c):=by simp[zdn]
theorem dcL_len (l:List UInt8) (h:(dcL l).1=0):(dcL l).2.length<=l.length:=by
 have key:∀(n:Nat) (l:List UInt8),l.length<=n->(dcL l).1=0->(dcL l).2.length<=l.length:=by
  intro n
  induction n with
  | zero=>
   intro l hl h;obtain rfl:l=[]:=jh (by omega);exact ze _
  | succ n ih=>
   intro l hl h
   cases l with
   | nil=>exact ze _
   | cons c t=>
    by_cases hc:c=37
    ·subst hc;rcases he:zbf (37::t) with _|_
     ·rw[zgu he] at h;cases h
     ·obtain⟨a,b,r,rfl⟩:=zb3 he;have d:=zfb he;rw[d.1] at h;have:=ih r (by simp at hl ⊢;omega) h;rw[d.2 h];simp;omega
    ·have d:=zed (c:=c) (t:=t) hc;rw[d.1] at h;have:=ih t (by simp at hl;omega) h;rw[d.2 h];simp;omega
 exact key l.length l (ze _) h
section
variable [Tabs Tryz.prog] {objs:List OB} {K:List OB->AV->Prop}
theorem zkL (c:UInt8) (hk:K objs (.b (zap c))):zaf Tryz.prog 90 [.i .u8 c.toNat] objs K :=
 conv (vs:=[.int .u8 c.toNat]) rfl rfl (fun w=>(zdw c w).mono (by rintro e w' ⟨rfl,rfl⟩;exact⟨rfl,Qb.refl _⟩)) hk
theorem rAlpha_k (c:UInt8) (hk:K objs (.b (zbu c))):zaf Tryz.prog 91 [.i .u8 c.toNat] objs K :=
 conv (vs:=[.int .u8 c.toNat]) rfl rfl (fun w=>(zdx c w).mono (by rintro e w' ⟨rfl,rfl⟩;exact⟨rfl,Qb.refl _⟩)) hk
theorem rIn_k (c:UInt8) (s:List UInt8) (hs:s.length<=maxLen) (hk:K objs (.b (zbL c s))):zaf Tryz.prog 82 [.i .u8 c.toNat,.s s] objs K :=
 conv (vs:=[.int .u8 c.toNat,.string (S s)]) rfl rfl (fun w=>(zdy c (S s) w (by rw[zb1];exact hs)).mono (by rintro e w' ⟨rfl,rfl⟩;exact⟨rfl,Qb.refl _⟩)) hk
theorem znK (c:UInt8) (hk:K objs (.s (zdD c))):zaf Tryz.prog 97 [.i .u8 c.toNat] objs K :=
 conv (vs:=[.int .u8 c.toNat]) rfl rfl (fun w=>zgc c w) hk
theorem ziG (c:UInt8) (hk:K objs (.b (idB c))):zaf Tryz.prog 73 [.i .u8 c.toNat] objs K:=by
 refine zaX is_ref10_plain rfl fun C _=>?_;unfold idB at hk;simp only[c_ref10_plain,sxZ,z6,z7,z8,j4,j5,j6,j7,j8,j9,x0,x6,x7,x8,x9,y4,reduceCtorEq,↓reduceIte];refine zad (rAlpha_k c ?_)
 by_cases h1:zbu c=true
 ·simp only[h1,Bool.true_or] at hk;simp only[h1,sxZ,z6,z7,z8,j4,j5,j6,j7,j8,j9,x0,x6,x7,x8,x9,y4,reduceCtorEq,↓reduceIte];exact hk
 ·simp only[h1,sxZ,z6,z7,z8,j4,j5,j6,j7,j8,j9,x0,x6,x7,x8,x9,y4,reduceCtorEq,↓reduceIte];refine zad (zkL c ?_)
  by_cases h2:zap c=true
  ·simp only[h1,h2,Bool.true_or,Bool.or_true,Bool.false_or] at hk;simp only[h2,sxZ,z6,z7,z8,j4,j5,j6,j7,j8,j9,x0,x6,x7,x8,x9,y4,reduceCtorEq,↓reduceIte];exact hk
  ·simp only[h1,h2,Bool.false_or] at hk;simp only[h2,sxZ,z6,z7,z8,j4,j5,j6,j7,j8,j9,x0,x6,x7,x8,x9,y4,reduceCtorEq,↓reduceIte];refine zad (rIn_k c _ (by decide) ?_);simp only[sxZ,z6,z7,z8,j4,j5,j6,j7,j8,j9,x0,x6,x7,x8,x9,y4,reduceCtorEq,↓reduceIte];exact hk
set_option maxHeartbeats 4000000 in
theorem zmi (s:List UInt8) (hs:s.length<=1000000) (hk:K objs (.b (zdh s))):zaf Tryz.prog 70 [.s s] objs K:=by
 refine zaX is_ref10_method rfl fun C _=>?_;unfold zdh at hk;simp only[c_ref10_method,sxZ,z6,z7,z8,j4,j5,j6,j7,j8,j9,x0,x6,x7,x8,x9,y4,reduceCtorEq,↓reduceIte];refine zaE (fun n objs tm=>∃i:Nat,i<=s.length/\n=s.length - i/\objs=[]/\(∀j (h:j<s.length),j<i->meB s[j]=true)/\tm.length=29/\tm[0]? = some (.s s)/\tm[3]? = some (.i .i64 i)) s.length ⟨0,zd _,rfl,rfl,fun j h h0=>absurd h0 (by omega),rfl,rfl,rfl⟩ ?_;rintro n _ tm ⟨i,hi,rfl,rfl,hall,hlen,t0,t3⟩
 by_cases hlt:(i:Int)<s.length
 ·have hlt':i<s.length:=by omega
  have hg:=zaP hlt';have hfin:meB s[i]=false->K objs (.b false):=fun h=>by
   rw[zig hlt' h] at hk;exact hk
  have hnext:meB s[i]=true->∀j (h:j<s.length),j<i+1->meB s[j]=true:=by
   intro h j hj hji;rcases zj j i with h1|h1
   ·exact hall j hj h1
   ·have:j=i:=by omega
    subst this;exact h
  simp only[sxZ,z6,z7,z8,j4,j5,j6,j7,j8,j9,x0,x6,x7,x8,x9,y4,reduceCtorEq,↓reduceIte,za,hlen,t0,t3,hlt];refine⟨by omega,?_⟩;rw[hg];generalize s[i]=c at *;refine zad (zkL c ?_)
  by_cases hd:zap c=true
  ·have hm:meB c=true:=by unfold meB;rw[hd];rfl
   simp only[hd,sxZ,z6,z7,z8,j4,j5,j6,j7,j8,j9,x0,x6,x7,x8,x9,y4,reduceCtorEq,↓reduceIte,za,hlen,t0,t3];exact⟨⟨by omega,by omega⟩,s.length - (i+1),by omega,i+1,by omega,rfl,hnext hm,rfl⟩
  ·simp only[Bool.not_eq_true] at hd;have hm:=zof c hd
   by_cases h97:((c.toNat:Nat):Int)<97
   ·have hm2:meB c=false:=by rw[hm,decide_eq_false (by omega)];rfl
    simp only[hd,hg,h97,sxZ,z6,z7,z8,j4,j5,j6,j7,j8,j9,x0,x6,x7,x8,x9,y4,reduceCtorEq,↓reduceIte,za,hlen,t0,t3];exact⟨⟨by omega,by omega⟩,hfin hm2⟩
   ·by_cases h122:(122:Int)<((c.toNat:Nat):Int)
    ·have hm2:meB c=false:=by rw[hm,decide_eq_false (p:=c.toNat<=122) (by omega),Bool.and_false]
     simp only[hd,hg,h97,h122,sxZ,z6,z7,z8,j4,j5,j6,j7,j8,j9,x0,x6,x7,x8,x9,y4,reduceCtorEq,↓reduceIte,za,hlen,t0,t3];exact⟨⟨by omega,by omega⟩,⟨by omega,by omega⟩,hfin hm2⟩
    ·have hm2:meB c=true:=by rw[hm,decide_eq_true (by omega),decide_eq_true (by omega)];rfl
     simp only[hd,hg,h97,h122,sxZ,z6,z7,z8,j4,j5,j6,j7,j8,j9,x0,x6,x7,x8,x9,y4,reduceCtorEq,↓reduceIte,za,hlen,t0,t3];exact⟨⟨by omega,by omega⟩,⟨by omega,by omega⟩,⟨by omega,by omega⟩,s.length - (i+1),by omega,i+1,by omega,rfl,hnext hm2,rfl⟩
 ·have hie:i=s.length:=by omega
  subst hie;have ha:s.all meB=true:=zlY fun j h=>hall j h h;rw[ha] at hk;simp only[sxZ,z6,z7,z8,j4,j5,j6,j7,j8,j9,x0,x6,x7,x8,x9,y4,reduceCtorEq,↓reduceIte,za,hlen,t0,t3,hlt];have e:decide (¬s=[])=(true&&!s.isEmpty):=by cases s<;>simp
  rw[e];exact hk
set_option maxHeartbeats 4000000 in
theorem zga (s:List UInt8) (hs:s.length<=1000000) (hk:K objs (.s (zdn s))):zaf Tryz.prog 74 [.s s] objs K:=by
 refine zaX is_ref10_Escaped rfl fun C _=>?_;simp only[c_ref10_Escaped,sxZ,z6,z7,z8,j4,j5,j6,j7,j8,j9,x0,x6,x7,x8,x9,y4,reduceCtorEq,↓reduceIte];refine zaE (fun n objs tm=>∃i:Nat,i<=s.length/\n=s.length - i/\objs=[]/\tm.length=29/\tm[0]? = some (.s s)/\tm[3]? = some (.s (zdn (s.take i)))/\tm[4]? = some (.i .i64 i)) s.length ⟨0,zd _,rfl,rfl,rfl,rfl,rfl,rfl⟩ ?_;rintro n _ tm ⟨i,hi,rfl,rfl,hlen,t0,t3,t4⟩;have hacc:=zlr (s.take i);rw[qd] at hacc
 by_cases hlt:(i:Int)<s.length
 ·have hlt':i<s.length:=by omega
  have hg:=zaP hlt';have hsn:zdn (s.take (i+1))=zdn (s.take i)++(if idB s[i]=true then [s[i]] else zdD s[i]):=by
   rw[xt hlt',zo5]
  have hsl:(s.take (i+1)).drop i=[s[i]]:=by
   rw[xt hlt',List.drop_append_of_le_length (by rw[qd];omega)];simp
  generalize s[i]=c at *;simp only[sxZ,z6,z7,z8,j4,j5,j6,j7,j8,j9,x0,x6,x7,x8,x9,y4,reduceCtorEq,↓reduceIte,za,hlen,t0,t3,t4,hlt,hg];refine⟨by omega,?_⟩;refine zad (ziG c ?_)
  by_cases h:idB c=true
  ·rw[if_pos h] at hsn;simp only[sxZ,z6,z7,z8,j4,j5,j6,j7,j8,j9,x0,x6,x7,x8,x9,y4,reduceCtorEq,↓reduceIte,za,hlen,t0,t3,t4,h,hg,hsl];exact⟨⟨by omega,by omega⟩,⟨by omega,by omega,by omega⟩,by omega,⟨by omega,by omega⟩,s.length - (i+1),by omega,i+1,by omega,rfl,by rw[hsn],rfl⟩
  ·rw[if_neg h] at hsn;simp only[sxZ,z6,z7,z8,j4,j5,j6,j7,j8,j9,x0,x6,x7,x8,x9,y4,reduceCtorEq,↓reduceIte,za,hlen,t0,t3,t4,h,hg];refine⟨by omega,?_⟩;refine zad (znK c ?_);simp only[sxZ,z6,z7,z8,j4,j5,j6,j7,j8,j9,x0,x6,x7,x8,x9,y4,reduceCtorEq,↓reduceIte,za,hlen,t0,t3,t4,h,hg,zh5];exact⟨by omega,⟨by omega,by omega⟩,s.length - (i+1),by omega,i+1,by omega,rfl,by rw[hsn],rfl⟩
 ·have hie:i=s.length:=by omega
  subst hie;rw[List.take_length] at t3;simp only[sxZ,z6,z7,z8,j4,j5,j6,j7,j8,j9,x0,x6,x7,x8,x9,y4,reduceCtorEq,↓reduceIte,za,hlen,t0,t3,t4,hlt];exact hk
set_option maxHeartbeats 8000000 in
theorem zfk (s:List UInt8) (hs:s.length<=maxLen) (hk:K objs (.tup [.agg [.s (zcN s).2.1,.s (zcN s).2.2],.i .i64 (zcN s).1])):zaf Tryz.prog 32 [.s s] objs K:=by
 have hm:maxLen=2 ^ 63 - 1:=rfl;refine zaX is_ref10_ParseDID rfl fun C _=>?_;unfold zcN at hk
 by_cases c0:(4096:Int)<↑s.length
 ·have c0':4096<s.length:=by omega
  simp only[c0',if_true] at hk;simp only[c0,c_ref10_ParseDID,sxZ,z6,z7,z8,j4,j5,j6,j7,j8,j9,x0,x6,x7,x8,x9,y4,reduceCtorEq,↓reduceIte];exact hk
 ·have c0':¬4096<s.length:=by omega
  simp only[c0',if_false] at hk;simp only[c0,c_ref10_ParseDID,sxZ,z6,z7,z8,j4,j5,j6,j7,j8,j9,x0,x6,x7,x8,x9,y4,reduceCtorEq,↓reduceIte];refine zad (ziJ s zbM hs ?_)
  by_cases c1:jc s zbM=true
  ·have h4:4<=s.length:=pre_len c1;have hdl:(s.drop 4).length<=s.length:=by rw[zu];omega
   simp only[c1,sxZ,z6,z7,z8,j4,j5,j6,j7,j8,j9,x0,x6,x7,x8,x9,y4,reduceCtorEq,↓reduceIte] at hk ⊢;refine⟨by omega,?_⟩;generalize s.drop 4=r at *;refine zad (zdg r [58] (by omega) (by decide) ?_);have c58:=zgw 58 r;have hil:=zgj r [58]
   by_cases h58:zbW r [58]<r.length
   ·have e58:=c58.1 h58;rw[e58] at hk;have hne:¬((zbW r [58]:Nat):Int)=((r.length:Nat):Int):=by omega
    have htl:(r.take (zbW r [58])).length<=r.length:=by rw[qd];omega
    have hdl2:(r.drop (zbW r [58]+1)).length<=r.length:=by rw[zu];omega
    simp only[hne,sxZ,z6,z7,z8,j4,j5,j6,j7,j8,j9,x0,x6,x7,x8,x9,y4,reduceCtorEq,↓reduceIte] at hk ⊢;refine⟨⟨by omega,by omega⟩,?_⟩;refine zad (zmi _ (by omega) ?_)
    by_cases c2:zdh (r.take (zbW r [58]))=true
    ·simp only[c2,sxZ,z6,z7,z8,j4,j5,j6,j7,j8,j9,x0,x6,x7,x8,x9,y4,reduceCtorEq,↓reduceIte] at hk ⊢;refine⟨⟨by omega,by omega⟩,⟨by omega,by omega⟩,?_⟩;refine zad (rSplit_k _ 58 (by omega) ?_);have hid:=idE_list (r.drop (zbW r [58]+1)) (by omega);have hxl:=zgM 58 (r.drop (zbW r [58]+1));have hxp:=zeP 58 (r.drop (zbW r [58]+1));have hxs:∀q∈zaM 58 (r.drop (zbW r [58]+1)),q.length<=4096:=fun q hq=>by
      have:=zes 58 _ q hq;omega
     generalize idE (r.drop (zbW r [58]+1))=ie at hk hid;generalize zaM 58 (r.drop (zbW r [58]+1))=xs at hid hxl hxp hxs ⊢;have hb:zbW r [58]<=r.length:=hil;clear c58 e58 hil hne;generalize zbW r [58]=ix at *;simp only[sxZ,z6,z7,z8,j4,j5,j6,j7,j8,j9,x0,x6,x7,x8,x9,y4,reduceCtorEq,↓reduceIte];refine zaE (fun n objs tm=>∃i:Nat,i<=xs.length/\n=xs.length - i/\objs=[.box 62 [.s [],.s []]]/\(∀j (h:j<xs.length),j<i->(zcw xs[j]).1=0)/\tm.length=113/\tm[0]? = some (.s r)/\tm[2]? = some (.p 0 0)/\tm[4]? = some (.i .i64 ix)/\tm[5]? = some (.row xs.length (xs.map .s))/\tm[46]? = some (.row xs.length (xs.map .s))/\tm[47]? = some (.i .i64 xs.length)/\tm[48]? = some (.i .i64 i)) xs.length ⟨0,zd _,rfl,rfl,fun j h h0=>absurd h0 (by omega),rfl,rfl,rfl,rfl,rfl,rfl,rfl,rfl⟩ ?_;rintro n _ tm ⟨i,hi,rfl,rfl,hall,hlen,t0,t2,t4,t5,t46,t47,t48⟩
     by_cases hlt:(i:Int)<xs.length
     ·have hlt':i<xs.length:=by omega
      have hx:(xs.map AV.s)[i]? = some (.s xs[i]):=by simp
      have hni:(zcw xs[i]).1≠0->K objs (.tup [.agg [.s [],.s []],.i .i64 2]):=fun h=>by
       rw[if_pos (fun h2=>h (h2 _ (qw hlt')))] at hid;rw[hid] at hk;simp only[sxZ,z6,z7,z8,j4,j5,j6,j7,j8,j9,x0,x6,x7,x8,x9,y4,reduceCtorEq,↓reduceIte] at hk;exact hk
      have hnext:(zcw xs[i]).1=0->∀j (h:j<xs.length),j<i+1->(zcw xs[j]).1=0:=by
       intro h j hj hji;rcases zj j i with h1|h1
       ·exact hall j hj h1
       ·have:j=i:=by omega
        subst this;exact h
      clear hk;generalize xs[i]=q at *;simp only[sxZ,z6,z7,z8,j4,j5,j6,j7,j8,j9,x0,x6,x7,x8,x9,y4,reduceCtorEq,↓reduceIte,za,hlen,t0,t2,t4,t5,t46,t47,t48,hlt];refine⟨⟨by omega,by simp⟩,?_⟩;rw[xf,hx];simp only[sxZ,z6,z7,z8,j4,j5,j6,j7,j8,j9,x0,x6,x7,x8,x9,y4,reduceCtorEq,↓reduceIte,za,hlen,t0,t2,t4,t5,t46,t47,t48];refine zad (zgR q ?_)
      by_cases hd:(zcw q).1=0
      ·simp only[sxZ,z6,z7,z8,j4,j5,j6,j7,j8,j9,x0,x6,x7,x8,x9,y4,reduceCtorEq,↓reduceIte,za,hlen,t0,t2,t4,t5,t46,t47,t48,hd];exact⟨⟨by omega,by omega⟩,xs.length - (i+1),by omega,i+1,by omega,rfl,hnext hd,rfl⟩
      ·simp only[sxZ,z6,z7,z8,j4,j5,j6,j7,j8,j9,x0,x6,x7,x8,x9,y4,reduceCtorEq,↓reduceIte,za,hlen,t0,t2,t4,t5,t46,t47,t48,hd];exact hni hd
     ·have hie:i=xs.length:=by omega
      subst hie;have hdec:∀q∈xs,(zcw q).1=0:=zpS fun j h=>hall j h h;rw[if_neg (fun h=>h hdec)] at hid;simp only[sxZ,z6,z7,z8,j4,j5,j6,j7,j8,j9,x0,x6,x7,x8,x9,y4,reduceCtorEq,↓reduceIte,za,hlen,t0,t2,t4,t5,t46,t47,t48,hlt];refine zaE (fun n objs tm=>∃i:Nat,∃acc:List UInt8,i<=xs.length/\n=xs.length - i/\objs=[.box 62 [.s [],.s []]]/\(∀j (h:j<xs.length),j<i->xs[j].all ppB=true)/\acc=jn2 (xs.take i)/\acc.length<=i*20000/\tm.length=113/\tm[0]? = some (.s r)/\tm[2]? = some (.p 0 0)/\tm[4]? = some (.i .i64 ix)/\tm[5]? = some (.row xs.length (xs.map .s))/\tm[10]? = some (.s acc)/\tm[61]? = some (.row xs.length (xs.map .s))/\tm[62]? = some (.i .i64 xs.length)/\tm[63]? = some (.i .i64 i)) xs.length ⟨0,[],zd _,rfl,rfl,fun j h h0=>absurd h0 (by omega),rfl,by simp,(by simp only[sxZ,z6,z7,z8,j4,j5,j6,j7,j8,j9,x0,x6,x7,x8,x9,y4,reduceCtorEq,↓reduceIte,za,hlen];try rfl),(by simp only[sxZ,z6,z7,z8,j4,j5,j6,j7,j8,j9,x0,x6,x7,x8,x9,y4,reduceCtorEq,↓reduceIte,za,hlen,t0];try rfl),(by simp only[sxZ,z6,z7,z8,j4,j5,j6,j7,j8,j9,x0,x6,x7,x8,x9,y4,reduceCtorEq,↓reduceIte,za,hlen,t2];try rfl),(by simp only[sxZ,z6,z7,z8,j4,j5,j6,j7,j8,j9,x0,x6,x7,x8,x9,y4,reduceCtorEq,↓reduceIte,za,hlen,t4];try rfl),(by simp only[sxZ,z6,z7,z8,j4,j5,j6,j7,j8,j9,x0,x6,x7,x8,x9,y4,reduceCtorEq,↓reduceIte,za,hlen,t5];try rfl),(by simp only[sxZ,z6,z7,z8,j4,j5,j6,j7,j8,j9,x0,x6,x7,x8,x9,y4,reduceCtorEq,↓reduceIte,za,hlen];try rfl),(by simp only[sxZ,z6,z7,z8,j4,j5,j6,j7,j8,j9,x0,x6,x7,x8,x9,y4,reduceCtorEq,↓reduceIte,za,hlen];try rfl),(by simp only[sxZ,z6,z7,z8,j4,j5,j6,j7,j8,j9,x0,x6,x7,x8,x9,y4,reduceCtorEq,↓reduceIte,za,hlen];try rfl),(by simp only[sxZ,z6,z7,z8,j4,j5,j6,j7,j8,j9,x0,x6,x7,x8,x9,y4,reduceCtorEq,↓reduceIte,za,hlen];try rfl)⟩ ?_;clear hall hlt t0 t2 t4 t5 t46 t47 t48 hlen tm;rintro n _ tm ⟨i,acc,hi,rfl,rfl,hall,hacc,hal,hlen,t0,t2,t4,t5,t10,t61,t62,t63⟩
      by_cases hlt:(i:Int)<xs.length
      ·have hlt':i<xs.length:=by omega
       have hx:(xs.map AV.s)[i]? = some (.s xs[i]):=by simp
       have hql:xs[i].length<=4096:=hxs _ (qw hlt');have hni:xs[i].all ppB=false->K objs (.tup [.agg [.s [],.s []],.i .i64 1]):=fun h=>by
        have:(xs.all fun q=>q.all ppB)=false:=by
         rw[Bool.eq_false_iff];intro e;have:=zv.1 e _ (qw hlt');rw[h] at this;cases this
        rw[if_pos this] at hid;rw[hid] at hk;simp only[sxZ,z6,z7,z8,j4,j5,j6,j7,j8,j9,x0,x6,x7,x8,x9,y4,reduceCtorEq,↓reduceIte] at hk;exact hk
       have hnext:xs[i].all ppB=true->∀j (h:j<xs.length),j<i+1->xs[j].all ppB=true:=by
        intro h j hj hji;rcases zj j i with h1|h1
        ·exact hall j hj h1
        ·have:j=i:=by omega
         subst this;exact h
       have htk:jn2 (xs.take (i+1))=(if xs.take i=[] then [] else acc++[58])++zbk xs[i]:=by
        rw[xt hlt',jn2_snoc,hacc]
       have htn:xs.take i=[]↔i=0:=by
        rw[List.take_eq_nil_iff]
        constructor
        ·rintro(h|h)
         ·exact h
         ·rw[h] at hxp;simp at hxp
        ·exact fun h=>.inl h
       have hdq:=hdec _ (qw hlt');have hdl3:(zcw xs[i]).2.length<=4096:=by
        have h2:(zcw xs[i]).2.length<=xs[i].length:=by
         rw[zeC (by omega)] at hdq ⊢;exact dcL_len _ hdq
        omega
       have hpl:(zdn (zcw xs[i]).2).length<=13000:=by
        have h1:=zlr (zcw xs[i]).2;omega
       clear hk hid hall hacc hxs hdec;have hpe:zbk xs[i]=zdn (zcw xs[i]).2:=rfl;generalize xs[i]=q at *;simp only[sxZ,z6,z7,z8,j4,j5,j6,j7,j8,j9,x0,x6,x7,x8,x9,y4,reduceCtorEq,↓reduceIte,za,hlen,t0,t2,t4,t5,t10,t61,t62,t63,hlt];refine⟨⟨by omega,by simp⟩,?_⟩;rw[xf,hx];simp only[sxZ,z6,z7,z8,j4,j5,j6,j7,j8,j9,x0,x6,x7,x8,x9,y4,reduceCtorEq,↓reduceIte,za,hlen,t0,t2,t4,t5,t10,t61,t62,t63];refine zaE (fun n objs tm=>∃k:Nat,k<=q.length/\n=q.length - k/\objs=[.box 62 [.s [],.s []]]/\(∀j (h:j<q.length),j<k->ppB q[j]=true)/\tm.length=113/\tm[0]? = some (.s r)/\tm[2]? = some (.p 0 0)/\tm[4]? = some (.i .i64 ix)/\tm[5]? = some (.row xs.length (xs.map .s))/\tm[10]? = some (.s acc)/\tm[11]? = some (.i .i64 i)/\tm[12]? = some (.s q)/\tm[13]? = some (.i .i64 k)/\tm[61]? = some (.row xs.length (xs.map .s))/\tm[62]? = some (.i .i64 xs.length)/\tm[63]? = some (.i .i64 i)) q.length ⟨0,zd _,rfl,rfl,fun j h h0=>absurd h0 (by omega),(by simp only[sxZ,z6,z7,z8,j4,j5,j6,j7,j8,j9,x0,x6,x7,x8,x9,y4,reduceCtorEq,↓reduceIte,za,hlen];try rfl),(by simp only[sxZ,z6,z7,z8,j4,j5,j6,j7,j8,j9,x0,x6,x7,x8,x9,y4,reduceCtorEq,↓reduceIte,za,hlen,t0];try rfl),(by simp only[sxZ,z6,z7,z8,j4,j5,j6,j7,j8,j9,x0,x6,x7,x8,x9,y4,reduceCtorEq,↓reduceIte,za,hlen,t2];try rfl),(by simp only[sxZ,z6,z7,z8,j4,j5,j6,j7,j8,j9,x0,x6,x7,x8,x9,y4,reduceCtorEq,↓reduceIte,za,hlen,t4];try rfl),(by simp only[sxZ,z6,z7,z8,j4,j5,j6,j7,j8,j9,x0,x6,x7,x8,x9,y4,reduceCtorEq,↓reduceIte,za,hlen,t5];try rfl),(by simp only[sxZ,z6,z7,z8,j4,j5,j6,j7,j8,j9,x0,x6,x7,x8,x9,y4,reduceCtorEq,↓reduceIte,za,hlen,t10];try rfl),(by simp only[sxZ,z6,z7,z8,j4,j5,j6,j7,j8,j9,x0,x6,x7,x8,x9,y4,reduceCtorEq,↓reduceIte,za,hlen];try rfl),(by simp only[sxZ,z6,z7,z8,j4,j5,j6,j7,j8,j9,x0,x6,x7,x8,x9,y4,reduceCtorEq,↓reduceIte,za,hlen];try rfl),(by simp only[sxZ,z6,z7,z8,j4,j5,j6,j7,j8,j9,x0,x6,x7,x8,x9,y4,reduceCtorEq,↓reduceIte,za,hlen];try rfl),(by simp only[sxZ,z6,z7,z8,j4,j5,j6,j7,j8,j9,x0,x6,x7,x8,x9,y4,reduceCtorEq,↓reduceIte,za,hlen,t61];try rfl),(by simp only[sxZ,z6,z7,z8,j4,j5,j6,j7,j8,j9,x0,x6,x7,x8,x9,y4,reduceCtorEq,↓reduceIte,za,hlen,t62];try rfl),(by simp only[sxZ,z6,z7,z8,j4,j5,j6,j7,j8,j9,x0,x6,x7,x8,x9,y4,reduceCtorEq,↓reduceIte,za,hlen,t63];try rfl)⟩ ?_;clear hx t0 t2 t4 t5 t10 t61 t62 t63 hlen tm;rintro n _ tm ⟨k,hk1,rfl,rfl,hall,hlen,t0,t2,t4,t5,t10,t11,t12,t13,t61,t62,t63⟩
       by_cases hkl:(k:Int)<q.length
       ·have hkl':k<q.length:=by omega
        have hg:=zaP hkl';have hbad:ppB q[k]=false->K objs (.tup [.agg [.s [],.s []],.i .i64 1]):=fun h=>hni (zig hkl' h);have hgood:ppB q[k]=true->∀j (h:j<q.length),j<k+1->ppB q[j]=true:=by
         intro h j hj hji;rcases zj j k with h1|h1
         ·exact hall j hj h1
         ·have:j=k:=by omega
          subst this;exact h
        generalize q[k]=c at *;have hpp:=pp_iff c;simp only[sxZ,z6,z7,z8,j4,j5,j6,j7,j8,j9,x0,x6,x7,x8,x9,y4,reduceCtorEq,↓reduceIte,za,hlen,t0,t2,t4,t5,t10,t11,t12,t13,t61,t62,t63,hkl,hg];refine⟨by omega,?_⟩;refine zad (ziG c ?_)
        by_cases hid:idB c=true
        ·simp only[sxZ,z6,z7,z8,j4,j5,j6,j7,j8,j9,x0,x6,x7,x8,x9,y4,reduceCtorEq,↓reduceIte,za,hlen,t0,t2,t4,t5,t10,t11,t12,t13,t61,t62,t63,hg,hid];have hpt:ppB c=true:=by rw[hpp,hid,Bool.or_true]
         exact⟨⟨by omega,by omega⟩,q.length - (k+1),by omega,k+1,by omega,rfl,hgood hpt,rfl⟩
        ·simp only[Bool.not_eq_true] at hid;rw[hid,Bool.or_false] at hpp
         by_cases h37:c=37
         ·have e37:((c.toNat:Nat):Int)=37:=by rw[h37];rfl
          have hpt:ppB c=true:=by rw[hpp,h37];rfl
          simp only[sxZ,z6,z7,z8,j4,j5,j6,j7,j8,j9,x0,x6,x7,x8,x9,y4,reduceCtorEq,↓reduceIte,za,hlen,t0,t2,t4,t5,t10,t11,t12,t13,t61,t62,t63,hg,hid,e37];exact⟨⟨by omega,by omega⟩,⟨by omega,by omega⟩,q.length - (k+1),by omega,k+1,by omega,rfl,hgood hpt,rfl⟩
         ·have e37:¬((c.toNat:Nat):Int)=37:=fun e=>h37 (UInt8.toNat_inj.1 (by have:(37:UInt8).toNat=37:=rfl;omega));have hpf:ppB c=false:=by rw[hpp];simpa using h37
          simp only[sxZ,z6,z7,z8,j4,j5,j6,j7,j8,j9,x0,x6,x7,x8,x9,y4,reduceCtorEq,↓reduceIte,za,hlen,t0,t2,t4,t5,t10,t11,t12,t13,t61,t62,t63,hg,hid,e37];exact⟨⟨by omega,by omega⟩,hbad hpf⟩
       ·have hqa:q.all ppB=true:=zlY fun j h=>hall j h (by omega);simp only[sxZ,z6,z7,z8,j4,j5,j6,j7,j8,j9,x0,x6,x7,x8,x9,y4,reduceCtorEq,↓reduceIte,za,hlen,t0,t2,t4,t5,t10,t11,t12,t13,t61,t62,t63,hkl];refine zad (zgR q ?_)
        by_cases hi0:i=0
        ·subst hi0;have hgt:¬(0:Int)<((0:Nat):Int):=by decide
         rw[if_pos (htn.2 rfl)] at htk;have hac:acc.length<=0:=by omega
         obtain rfl:acc=[]:=jh (by omega);simp only[sxZ,z6,z7,z8,j4,j5,j6,j7,j8,j9,x0,x6,x7,x8,x9,y4,reduceCtorEq,↓reduceIte,za,hlen,t0,t2,t4,t5,t10,t11,t12,t13,t61,t62,t63,hgt];refine zad (zga _ (by omega) ?_);simp only[sxZ,z6,z7,z8,j4,j5,j6,j7,j8,j9,x0,x6,x7,x8,x9,y4,reduceCtorEq,↓reduceIte,za,hlen,t0,t2,t4,t5,t10,t11,t12,t13,t61,t62,t63];exact⟨by omega,⟨by omega,by omega⟩,xs.length - 1,by omega,1,_,by omega,rfl,hnext hqa,by rw[htk,hpe];rfl,by omega,rfl,rfl⟩
        ·have hgt:(0:Int)<((i:Nat):Int):=by omega
         rw[if_neg (fun h=>hi0 (htn.1 h))] at htk;simp only[sxZ,z6,z7,z8,j4,j5,j6,j7,j8,j9,x0,x6,x7,x8,x9,y4,reduceCtorEq,↓reduceIte,za,hlen,t0,t2,t4,t5,t10,t11,t12,t13,t61,t62,t63,hgt];have hib:i*20000<=100000000:=by omega
         refine⟨by omega,?_⟩;refine zad (zga _ (by omega) ?_);simp only[sxZ,z6,z7,z8,j4,j5,j6,j7,j8,j9,x0,x6,x7,x8,x9,y4,reduceCtorEq,↓reduceIte,za,hlen,t0,t2,t4,t5,t10,t11,t12,t13,t61,t62,t63];exact⟨by omega,⟨by omega,by omega⟩,xs.length - (i+1),by omega,i+1,_,by omega,rfl,hnext hqa,by rw[htk,hpe],by simp only[zm,zr,qj];omega,rfl,rfl⟩
      ·have hie:i=xs.length:=by omega
       subst hie;have hal2:(xs.all fun q=>q.all ppB)=true:=zv.2 (zpS fun j h=>hall j h h);rw[if_neg (by rw[hal2];simp)] at hid;have hlast:xs.getLastD []=xs[xs.length - 1]:=zfy xs [] hxp;have hxn:(xs.map AV.s)[((xs.length:Int) - 1).toNat*1]? = some (.s xs[xs.length - 1]):=by
        rw[show ((xs.length:Int) - 1).toNat*1=xs.length - 1 by omega,qz,zl (by omega)];rfl
       rw[List.take_length] at hacc;simp only[sxZ,z6,z7,z8,j4,j5,j6,j7,j8,j9,x0,x6,x7,x8,x9,y4,reduceCtorEq,↓reduceIte,za,hlen,t0,t2,t4,t5,t10,t61,t62,t63,hlt];refine⟨⟨by omega,by omega⟩,⟨by omega,by omega,by simp⟩,?_⟩;rw[hxn];rw[hlast] at hid
       by_cases hz:xs[xs.length - 1]=[]
       ·rw[if_pos hz] at hid;rw[hid] at hk;simp only[sxZ,z6,z7,z8,j4,j5,j6,j7,j8,j9,x0,x6,x7,x8,x9,y4,reduceCtorEq,↓reduceIte,za,hlen,t0,t2,t4,t5,t10,t61,t62,t63,hz] at hk ⊢;exact hk
       ·rw[if_neg hz] at hid;rw[hid] at hk;simp only[sxZ,z6,z7,z8,j4,j5,j6,j7,j8,j9,x0,x6,x7,x8,x9,y4,reduceCtorEq,↓reduceIte] at hk;simp only[sxZ,z6,z7,z8,j4,j5,j6,j7,j8,j9,x0,x6,x7,x8,x9,y4,reduceCtorEq,↓reduceIte,za,hlen,t0,t2,t4,t5,t10,t61,t62,t63,hz];refine⟨⟨by omega,by omega⟩,?_⟩;rw[hacc];exact hk
    ·simp only[c2,sxZ,z6,z7,z8,j4,j5,j6,j7,j8,j9,x0,x6,x7,x8,x9,y4,reduceCtorEq,↓reduceIte] at hk ⊢;exact hk
   ·have e58:=c58.2 h58;rw[e58] at hk;have hne:((zbW r [58]:Nat):Int)=((r.length:Nat):Int):=by omega
    simp only[hne,sxZ,z6,z7,z8,j4,j5,j6,j7,j8,j9,x0,x6,x7,x8,x9,y4,reduceCtorEq,↓reduceIte] at hk ⊢;exact hk
  ·simp only[c1,sxZ,z6,z7,z8,j4,j5,j6,j7,j8,j9,x0,x6,x7,x8,x9,y4,reduceCtorEq,↓reduceIte] at hk ⊢;exact hk
end
theorem zh0:∀s:List UInt8,s.take (zbW s [47,63,35])=zbA s/\zbW s [47,63,35]=(zbA s).length
 | []=>⟨rfl,rfl⟩
 | c::t=>by
  have ih:=zh0 t;rw[zi0]
  by_cases h35:c=35
  ·subst h35;have:zbA (35::t)=[]:=by simp[zbA,zbn,zaC,zb0,zaH]
   rw[this];simp[zbL]
  ·by_cases h63:c=63
   ·subst h63;have:zbA (63::t)=[]:=by simp[zbA,zbn,zaC,zb0,zaH]
    rw[this];simp[zbL]
   ·by_cases h47:c=47
    ·subst h47;have:zbA (47::t)=[]:=by simp[zbA,zbn,zaC,zb0]
     rw[this];simp[zbL]
    ·have hb:zbL c [47,63,35]=false:=by simp[zbL,h35,h63,h47]
     have:zbA (c::t)=c::zbA t:=by simp[zbA,zbn,zaC,zb0,h35,h63,h47]
     rw[hb,if_neg Bool.false_ne_true,this,List.take_succ_cons,ih.1,ih.2];exact⟨rfl,rfl⟩
theorem zo9 (s:List UInt8):(zaH 35 (s.drop (zbA s).length)).1=(zaH 35 s).1.drop (zbA s).length/\(zaH 35 (s.drop (zbA s).length)).2=(zaH 35 s).2:=by
 induction s with
 | nil=>exact⟨rfl,rfl⟩
 | cons c t ih=>
  by_cases h35:c=35
  ·subst h35;have:zbA (35::t)=[]:=by simp[zbA,zbn,zaC,zb0,zaH]
   rw[this];simp
  ·by_cases h63:c=63
   ·subst h63;have:zbA (63::t)=[]:=by simp[zbA,zbn,zaC,zb0,zaH]
    rw[this];simp
   ·by_cases h47:c=47
    ·subst h47;have:zbA (47::t)=[]:=by simp[zbA,zbn,zaC,zb0]
     rw[this];simp
    ·have:zbA (c::t)=c::zbA t:=by simp[zbA,zbn,zaC,zb0,h35,h63,h47]
     rw[this,zr,List.drop_succ_cons,zaC,if_neg h35];exact⟨by rw[ih.1];rfl,ih.2⟩
theorem zmv (s:List UInt8):(zaH 63 ((zaH 35 s).1.drop (zbA s).length)).1=(zbn s).drop (zbA s).length/\(zaH 63 ((zaH 35 s).1.drop (zbA s).length)).2=(zaH 63 (zaH 35 s).1).2:=by
 induction s with
 | nil=>exact⟨rfl,rfl⟩
 | cons c t ih=>
  by_cases h35:c=35
  ·subst h35;have:zbA (35::t)=[]:=by simp[zbA,zbn,zaC,zb0,zaH]
   rw[this];simp[zbn]
  ·by_cases h63:c=63
   ·subst h63;have:zbA (63::t)=[]:=by simp[zbA,zbn,zaC,zb0,zaH]
    rw[this];simp[zbn]
   ·by_cases h47:c=47
    ·subst h47;have:zbA (47::t)=[]:=by simp[zbA,zbn,zaC,zb0]
     rw[this];simp[zbn]
    ·have hn:zbA (c::t)=c::zbA t:=by simp[zbA,zbn,zaC,zb0,h35,h63,h47]
     have hb:zbn (c::t)=c::zbn t:=by simp[zbn,zaC,h35,h63]
     rw[hn,hb,zr,zaC,if_neg h35];simp only[List.drop_succ_cons];rw[zaC,if_neg h63];exact ih
theorem didL_len (s:List UInt8):(zbA s).length<=s.length:=by
 have:=(zh0 s).2;have h:=zgj s [47,63,35];omega
section
variable [Tabs Tryz.prog] {objs:List OB} {K:List OB->AV->Prop}
set_option maxHeartbeats 8000000 in
theorem zf9 (s:List UInt8) (hs:s.length<=maxLen) (hk:K objs (.tup [zbi (zfz s).2,.i .i64 (zfz s).1])):zaf Tryz.prog 81 [.s s] objs K:=by
 have hm:maxLen=2 ^ 63 - 1:=rfl;refine zaX is_ref10_Parse rfl fun C _=>?_;unfold zfz at hk
 by_cases c0:(4096:Int)<↑s.length
 ·have c0':4096<s.length:=by omega
  simp only[c0',if_true,zbi,zfa] at hk;simp only[c0,c_ref10_Parse,sxZ,z6,z7,z8,j4,j5,j6,j7,j8,j9,x0,x6,x7,x8,x9,y4,reduceCtorEq,↓reduceIte];exact hk
 ·have c0':¬4096<s.length:=by omega
  simp only[c0',if_false] at hk;simp only[c0,c_ref10_Parse,sxZ,z6,z7,z8,j4,j5,j6,j7,j8,j9,x0,x6,x7,x8,x9,y4,reduceCtorEq,↓reduceIte];refine zad (zdg s [47,63,35] (by omega) (by decide) ?_);obtain⟨x1,x2⟩:=zh0 s;have hnl:=didL_len s;have d1:=zo9 s;have d2:=zmv s;rw[x2] at x1;rw[x2];simp only[sxZ,z6,z7,z8,j4,j5,j6,j7,j8,j9,x0,x6,x7,x8,x9,y4,reduceCtorEq,↓reduceIte];refine⟨⟨by omega,by omega⟩,?_⟩;rw[x1];refine zad (zfk (zbA s) (by omega) ?_);rw[<-d2.1,<-d2.2] at hk;rw[<-d1.1] at hk d2;rw[<-d1.2] at hk;have hrl:(s.drop (zbA s).length).length<=s.length:=by rw[zu];omega
  generalize hrest:s.drop (zbA s).length=rest at *;generalize hnn:zbA s=nm at *;clear d1 d2 x1 x2
  by_cases c1:(zcN nm).1=0
  ·simp only[c1,sxZ,z6,z7,z8,j4,j5,j6,j7,j8,j9,x0,x6,x7,x8,x9,y4,reduceCtorEq,↓reduceIte] at hk ⊢;refine⟨⟨by omega,by omega⟩,?_⟩;rw[hrest];refine zad (zdg rest [35] (by omega) (by decide) ?_);have c35:=zgw 35 rest;have hil:=zgj rest [35]
   by_cases h35:zbW rest [35]<rest.length
   ·have e35:=c35.1 h35;rw[e35] at hk;have hne:((zbW rest [35]:Nat):Int)<((rest.length:Nat):Int):=by omega
    have hr2:(rest.take (zbW rest [35])).length<=rest.length:=by rw[qd];omega
    simp only[hne,sxZ,z6,z7,z8,j4,j5,j6,j7,j8,j9,x0,x6,x7,x8,x9,y4,reduceCtorEq,↓reduceIte] at hk ⊢;refine⟨⟨by omega,by omega⟩,⟨by omega,by omega⟩,⟨by omega,by omega⟩,?_⟩;generalize rest.take (zbW rest [35])=r2 at *;generalize rest.drop (zbW rest [35]+1)=fr at hk ⊢;refine zad (zdg r2 [63] (by omega) (by decide) ?_);have c63:=zgw 63 r2;have hil2:=zgj r2 [63]
    by_cases h63:zbW r2 [63]<r2.length
    ·have e63:=c63.1 h63;rw[e63] at hk;have hne2:((zbW r2 [63]:Nat):Int)<((r2.length:Nat):Int):=by omega
     simp only[hne2,sxZ,z6,z7,z8,j4,j5,j6,j7,j8,j9,x0,x6,x7,x8,x9,y4,reduceCtorEq,↓reduceIte] at hk ⊢;refine⟨⟨by omega,by omega⟩,⟨by omega,by omega⟩,⟨by omega,by omega⟩,?_⟩;have e63':((zbW r2 [63]:Int)+1).toNat=zbW r2 [63]+1:=by omega
     try rw[e63']
     generalize r2.take (zbW r2 [63])=pa at hk ⊢;generalize r2.drop (zbW r2 [63]+1)=qu at hk ⊢;refine zad (zbB pa zaO (by decide) ?_)
     by_cases c2:(zaw pa zaO).1=0
     ·simp only[c2,sxZ,z6,z7,z8,j4,j5,j6,j7,j8,j9,x0,x6,x7,x8,x9,y4,reduceCtorEq,↓reduceIte] at hk ⊢;refine zad (zbB qu zaq (by decide) ?_)
      by_cases c3:(zaw qu zaq).1=0
      ·simp only[c3,sxZ,z6,z7,z8,j4,j5,j6,j7,j8,j9,x0,x6,x7,x8,x9,y4,reduceCtorEq,↓reduceIte] at hk ⊢;refine zad (zbB fr zaq (by decide) ?_)
       by_cases c4:(zaw fr zaq).1=0
       ·simp only[c4,zbi,sxZ,z6,z7,z8,j4,j5,j6,j7,j8,j9,x0,x6,x7,x8,x9,y4,reduceCtorEq,↓reduceIte] at hk ⊢;exact hk
       ·simp only[c4,zbi,zfa,sxZ,z6,z7,z8,j4,j5,j6,j7,j8,j9,x0,x6,x7,x8,x9,y4,reduceCtorEq,↓reduceIte] at hk ⊢;exact hk
      ·simp only[c3,zbi,zfa,sxZ,z6,z7,z8,j4,j5,j6,j7,j8,j9,x0,x6,x7,x8,x9,y4,reduceCtorEq,↓reduceIte] at hk ⊢;exact hk
     ·simp only[c2,zbi,zfa,sxZ,z6,z7,z8,j4,j5,j6,j7,j8,j9,x0,x6,x7,x8,x9,y4,reduceCtorEq,↓reduceIte] at hk ⊢;exact hk
    ·have e63:=c63.2 h63;rw[e63] at hk;have hne2:¬((zbW r2 [63]:Nat):Int)<((r2.length:Nat):Int):=by omega
     simp only[hne2,sxZ,z6,z7,z8,j4,j5,j6,j7,j8,j9,x0,x6,x7,x8,x9,y4,reduceCtorEq,↓reduceIte] at hk ⊢;refine zad (zbB r2 zaO (by decide) ?_)
     by_cases c2:(zaw r2 zaO).1=0
     ·simp only[c2,sxZ,z6,z7,z8,j4,j5,j6,j7,j8,j9,x0,x6,x7,x8,x9,y4,reduceCtorEq,↓reduceIte] at hk ⊢;refine zad (zbB ([]:List UInt8) zaq (by decide) ?_)
      by_cases c3:(zaw ([]:List UInt8) zaq).1=0
      ·simp only[c3,sxZ,z6,z7,z8,j4,j5,j6,j7,j8,j9,x0,x6,x7,x8,x9,y4,reduceCtorEq,↓reduceIte] at hk ⊢;refine zad (zbB fr zaq (by decide) ?_)
       by_cases c4:(zaw fr zaq).1=0
       ·simp only[c4,zbi,sxZ,z6,z7,z8,j4,j5,j6,j7,j8,j9,x0,x6,x7,x8,x9,y4,reduceCtorEq,↓reduceIte] at hk ⊢;exact hk
       ·simp only[c4,zbi,zfa,sxZ,z6,z7,z8,j4,j5,j6,j7,j8,j9,x0,x6,x7,x8,x9,y4,reduceCtorEq,↓reduceIte] at hk ⊢;exact hk
      ·simp only[c3,zbi,zfa,sxZ,z6,z7,z8,j4,j5,j6,j7,j8,j9,x0,x6,x7,x8,x9,y4,reduceCtorEq,↓reduceIte] at hk ⊢;exact hk
     ·simp only[c2,zbi,zfa,sxZ,z6,z7,z8,j4,j5,j6,j7,j8,j9,x0,x6,x7,x8,x9,y4,reduceCtorEq,↓reduceIte] at hk ⊢;exact hk
   ·have e35:=c35.2 h35;rw[e35] at hk;have hne:¬((zbW rest [35]:Nat):Int)<((rest.length:Nat):Int):=by omega
    have hr2:rest.length<=rest.length:=ze _;simp only[hne,sxZ,z6,z7,z8,j4,j5,j6,j7,j8,j9,x0,x6,x7,x8,x9,y4,reduceCtorEq,↓reduceIte] at hk ⊢;refine zad (zdg rest [63] (by omega) (by decide) ?_);have c63:=zgw 63 rest;have hil2:=zgj rest [63]
    by_cases h63:zbW rest [63]<rest.length
    ·have e63:=c63.1 h63;rw[e63] at hk;have hne2:((zbW rest [63]:Nat):Int)<((rest.length:Nat):Int):=by omega
     simp only[hne2,sxZ,z6,z7,z8,j4,j5,j6,j7,j8,j9,x0,x6,x7,x8,x9,y4,reduceCtorEq,↓reduceIte] at hk ⊢;refine⟨⟨by omega,by omega⟩,⟨by omega,by omega⟩,⟨by omega,by omega⟩,?_⟩;have e63':((zbW rest [63]:Int)+1).toNat=zbW rest [63]+1:=by omega
     try rw[e63']
     generalize rest.take (zbW rest [63])=pa at hk ⊢;generalize rest.drop (zbW rest [63]+1)=qu at hk ⊢;refine zad (zbB pa zaO (by decide) ?_)
     by_cases c2:(zaw pa zaO).1=0
     ·simp only[c2,sxZ,z6,z7,z8,j4,j5,j6,j7,j8,j9,x0,x6,x7,x8,x9,y4,reduceCtorEq,↓reduceIte] at hk ⊢;refine zad (zbB qu zaq (by decide) ?_)
      by_cases c3:(zaw qu zaq).1=0
      ·simp only[c3,sxZ,z6,z7,z8,j4,j5,j6,j7,j8,j9,x0,x6,x7,x8,x9,y4,reduceCtorEq,↓reduceIte] at hk ⊢;refine zad (zbB ([]:List UInt8) zaq (by decide) ?_)
       by_cases c4:(zaw ([]:List UInt8) zaq).1=0
       ·simp only[c4,zbi,sxZ,z6,z7,z8,j4,j5,j6,j7,j8,j9,x0,x6,x7,x8,x9,y4,reduceCtorEq,↓reduceIte] at hk ⊢;exact hk
       ·simp only[c4,zbi,zfa,sxZ,z6,z7,z8,j4,j5,j6,j7,j8,j9,x0,x6,x7,x8,x9,y4,reduceCtorEq,↓reduceIte] at hk ⊢;exact hk
      ·simp only[c3,zbi,zfa,sxZ,z6,z7,z8,j4,j5,j6,j7,j8,j9,x0,x6,x7,x8,x9,y4,reduceCtorEq,↓reduceIte] at hk ⊢;exact hk
     ·simp only[c2,zbi,zfa,sxZ,z6,z7,z8,j4,j5,j6,j7,j8,j9,x0,x6,x7,x8,x9,y4,reduceCtorEq,↓reduceIte] at hk ⊢;exact hk
    ·have e63:=c63.2 h63;rw[e63] at hk;have hne2:¬((zbW rest [63]:Nat):Int)<((rest.length:Nat):Int):=by omega
     simp only[hne2,sxZ,z6,z7,z8,j4,j5,j6,j7,j8,j9,x0,x6,x7,x8,x9,y4,reduceCtorEq,↓reduceIte] at hk ⊢;refine zad (zbB rest zaO (by decide) ?_)
     by_cases c2:(zaw rest zaO).1=0
     ·simp only[c2,sxZ,z6,z7,z8,j4,j5,j6,j7,j8,j9,x0,x6,x7,x8,x9,y4,reduceCtorEq,↓reduceIte] at hk ⊢;refine zad (zbB ([]:List UInt8) zaq (by decide) ?_)
      by_cases c3:(zaw ([]:List UInt8) zaq).1=0
      ·simp only[c3,sxZ,z6,z7,z8,j4,j5,j6,j7,j8,j9,x0,x6,x7,x8,x9,y4,reduceCtorEq,↓reduceIte] at hk ⊢;refine zad (zbB ([]:List UInt8) zaq (by decide) ?_)
       by_cases c4:(zaw ([]:List UInt8) zaq).1=0
       ·simp only[c4,zbi,sxZ,z6,z7,z8,j4,j5,j6,j7,j8,j9,x0,x6,x7,x8,x9,y4,reduceCtorEq,↓reduceIte] at hk ⊢;exact hk
       ·exact absurd c3 c4
      ·simp only[c3,zbi,zfa,sxZ,z6,z7,z8,j4,j5,j6,j7,j8,j9,x0,x6,x7,x8,x9,y4,reduceCtorEq,↓reduceIte] at hk ⊢;exact hk
     ·simp only[c2,zbi,zfa,sxZ,z6,z7,z8,j4,j5,j6,j7,j8,j9,x0,x6,x7,x8,x9,y4,reduceCtorEq,↓reduceIte] at hk ⊢;exact hk
  ·simp only[c1,zbi,zfa,sxZ,z6,z7,z8,j4,j5,j6,j7,j8,j9,x0,x6,x7,x8,x9,y4,reduceCtorEq,↓reduceIte] at hk ⊢;exact hk
set_option maxHeartbeats 4000000 in
theorem zjE (m i r:List UInt8) (h1:m.length<=200000000) (h2:i.length<=200000000) (hr:r.length<=200000000) (hk:K objs (.tup [zbi (ze0 m i r).2,.i .i64 (ze0 m i r).1])):zaf Tryz.prog 43 [.agg [.s m,.s i],.s r] objs K:=by
 have hm:maxLen=2 ^ 63 - 1:=rfl;have hl:=zew m i;refine zaX is_ref10_Resolve rfl fun C _=>?_;unfold ze0 at hk;simp only[c_ref10_Resolve,sxZ,z6,z7,z8,j4,j5,j6,j7,j8,j9,x0,x6,x7,x8,x9,y4,reduceCtorEq,↓reduceIte];refine zad (ziJ r zbM (by omega) ?_)
 by_cases c1:jc r zbM=true
 ·simp only[c1,sxZ,z6,z7,z8,j4,j5,j6,j7,j8,j9,x0,x6,x7,x8,x9,y4,reduceCtorEq,↓reduceIte] at hk ⊢;refine zad (zf9 r (by omega) ?_);simp only[zbi,sxZ,z6,z7,z8,j4,j5,j6,j7,j8,j9,x0,x6,x7,x8,x9,y4,reduceCtorEq,↓reduceIte] at hk ⊢;exact hk
 ·cases r with
  | nil=>
   simp only[c1,sxZ,z6,z7,z8,j4,j5,j6,j7,j8,j9,x0,x6,x7,x8,x9,y4,reduceCtorEq,↓reduceIte] at hk ⊢;refine zad (zbS m i (by omega) (by omega) ?_);simp only[sxZ,z6,z7,z8,j4,j5,j6,j7,j8,j9,x0,x6,x7,x8,x9,y4,reduceCtorEq,↓reduceIte];refine⟨by omega,?_⟩;refine zad (zf9 _ (by omega) ?_);simp only[zbi,sxZ,z6,z7,z8,j4,j5,j6,j7,j8,j9,x0,x6,x7,x8,x9,y4,reduceCtorEq,↓reduceIte,true_or] at hk ⊢;exact hk
  | cons c t=>
   simp only[c1,sxZ,z6,z7,z8,j4,j5,j6,j7,j8,j9,x0,x6,x7,x8,x9,y4,reduceCtorEq,↓reduceIte,List.head?_cons,Option.some.injEq,false_or] at hk;simp only[c1,sxZ,z6,z7,z8,j4,j5,j6,j7,j8,j9,x0,x6,x7,x8,x9,y4,reduceCtorEq,↓reduceIte,List.getD_cons_zero];refine⟨by omega,?_⟩;refine zad (rIn_k c _ (by decide) ?_)
   by_cases c2:zbL c [47,63,35]=true
   ·simp only[c2,sxZ,z6,z7,z8,j4,j5,j6,j7,j8,j9,x0,x6,x7,x8,x9,y4,reduceCtorEq,↓reduceIte] at hk ⊢;refine zad (zbS m i (by omega) (by omega) ?_);simp only[sxZ,z6,z7,z8,j4,j5,j6,j7,j8,j9,x0,x6,x7,x8,x9,y4,reduceCtorEq,↓reduceIte];simp only[zr] at hr;refine⟨by omega,?_⟩;refine zad (zf9 _ (by simp only[zm,zr];omega) ?_);simp only[zbi,sxZ,z6,z7,z8,j4,j5,j6,j7,j8,j9,x0,x6,x7,x8,x9,y4,reduceCtorEq,↓reduceIte] at hk ⊢;exact hk
   ·simp only[c2,sxZ,z6,z7,z8,j4,j5,j6,j7,j8,j9,x0,x6,x7,x8,x9,y4,reduceCtorEq,↓reduceIte] at hk ⊢;simp only[zbi,zfa,sxZ,z6,z7,z8,j4,j5,j6,j7,j8,j9,x0,x6,x7,x8,x9,y4,reduceCtorEq,↓reduceIte] at hk;exact hk
end
section
attribute [local irreducible] run
def rqB (m i:List UInt8) (e:Int):OB:=.box 76 [.s m,.s i,.i .i64 e]
theorem rqB_pl (m i:List UInt8) (e:Int):PlO (rqB m i e):=rfl
theorem zfv (e:Int):orE e 0=e:=by unfold orE;split<;>simp_all
section
variable [Tabs Tryz.prog] {objs:List OB} {K:List OB->AV->Prop}
theorem zbx (m i:List UInt8) (e x:Int) (b:Nat) (hb:objs[b]? = some (rqB m i e)) (hk:K (objs.set b (rqB m i (orE e x))) (.tup [])):zaf Tryz.prog 75 [.p b 0,.i .i64 x] objs K:=by
 unfold rqB at hb hk;refine zcj is_ref17_reader_stop fun C _=>?_;rw[c_ref17_reader_stop];unfold orE at hk
 by_cases c:e=0
 ·rw[if_pos c] at hk;simp only[sxZ,z6,z7,z8,j4,j5,j6,j7,j8,j9,x0,x6,x7,x8,x9,y4,reduceCtorEq,↓reduceIte,hb,c];exact hk
 ·rw[if_neg c,set_same hb] at hk;simp only[sxZ,z6,z7,z8,j4,j5,j6,j7,j8,j9,x0,x6,x7,x8,x9,y4,reduceCtorEq,↓reduceIte,hb,c];exact hk
theorem zfE (m i:List UInt8) (v:JV) (e:Int) (key:List UInt8) (b:Nat) (hv:JOk v) (hb:objs[b]? = some (rqB m i e)) (hk:∀o,Ext objs o b (rqB m i (orE e (rtE v key)))->K o (.s (zaG v key).1.text)):zaf Tryz.prog 33 [.p b 0,.agg (zao v),.s key] objs K:=by
 have hbl:=(zf.1 hb).1;refine zcj is_ref17_reader_text fun C _=>?_;rw[c_ref17_reader_text];have ejv:=zae v;rw[ejv];refine zaa fun Z hZ=>?_;simp only[sxZ,z6,z7,z8,j4,j5,j6,j7,j8,j9,x0,x6,x7,x8,x9,y4,reduceCtorEq,↓reduceIte];have hE0:=(Ext.refl hb).app (.box 25 [.i .i64 v.kind,.s v.text,.row v.keys.length (v.keys.map .s),.row v.items.length (zab v.items)]);have eV:(objs++[OB.box 25 [.i .i64 v.kind,.s v.text,.row v.keys.length (v.keys.map .s),.row v.items.length (zab v.items)]])[objs.length]? = some (.box 25 [.i .i64 v.kind,.s v.text,.row v.keys.length (v.keys.map .s),.row v.items.length (zab v.items)]):=gn1 _ _;generalize objs++[OB.box 25 [.i .i64 v.kind,.s v.text,.row v.keys.length (v.keys.map .s),.row v.items.length (zab v.items)]]=o0 at hE0 eV ⊢;subst hZ;refine zaa fun Z hZ=>?_;simp only[sxZ,z6,z7,z8,j4,j5,j6,j7,j8,j9,x0,x6,x7,x8,x9,y4,reduceCtorEq,↓reduceIte,eV];rw[<-ejv];refine zad (zc2 v key hv ?_);unfold rtE at hk;generalize zaG v key=R at hk ⊢;obtain⟨x,ok⟩:=R;unfold zbv;dsimp only at hk ⊢;rw[zae x];simp only[sxZ,z6,z7,z8,j4,j5,j6,j7,j8,j9,x0,x6,x7,x8,x9,y4,reduceCtorEq,↓reduceIte,gn1,sn1];have hE:=hE0.app (.box 25 [.i .i64 x.kind,.s x.text,.row x.keys.length (x.keys.map .s),.row x.items.length (zab x.items)]);have eX:(o0++[OB.box 25 [.i .i64 x.kind,.s x.text,.row x.keys.length (x.keys.map .s),.row x.items.length (zab x.items)]])[o0.length]? = some (.box 25 [.i .i64 x.kind,.s x.text,.row x.keys.length (x.keys.map .s),.row x.items.length (zab x.items)]):=gn1 _ _;have hol:=hE0.2.1;generalize o0.length=q at eX hol ⊢;generalize o0++[OB.box 25 [.i .i64 x.kind,.s x.text,.row x.keys.length (x.keys.map .s),.row x.items.length (zab x.items)]]=o1 at hE eX ⊢;subst hZ;refine zaa fun Z hZ=>?_
 by_cases c:x.kind=5
 ·rw[if_pos c,zfv] at hk;simp only[sxZ,z6,z7,z8,j4,j5,j6,j7,j8,j9,x0,x6,x7,x8,x9,y4,reduceCtorEq,↓reduceIte,eX,c];subst hZ;simp only[sxZ,z6,z7,z8,j4,j5,j6,j7,j8,j9,x0,x6,x7,x8,x9,y4,reduceCtorEq,↓reduceIte,eX];exact hk _ hE
 ·rw[if_neg c] at hk;simp only[sxZ,z6,z7,z8,j4,j5,j6,j7,j8,j9,x0,x6,x7,x8,x9,y4,reduceCtorEq,↓reduceIte,eX,c];refine zad (zbx m i e 160 b hE.1 ?_);have eX2:(o1.set b (rqB m i (orE e 160)))[q]? = some (.box 25 [.i .i64 x.kind,.s x.text,.row x.keys.length (x.keys.map .s),.row x.items.length (zab x.items)]):=by rw[zi (by omega)];exact eX
  have hE2:=hE.set (rqB m i (orE e 160));generalize o1.set b (rqB m i (orE e 160))=o2 at eX2 hE2 ⊢;simp only[sxZ,z6,z7,z8,j4,j5,j6,j7,j8,j9,x0,x6,x7,x8,x9,y4,reduceCtorEq,↓reduceIte];subst hZ;simp only[sxZ,z6,z7,z8,j4,j5,j6,j7,j8,j9,x0,x6,x7,x8,x9,y4,reduceCtorEq,↓reduceIte,eX2];exact hk _ hE2
theorem znd (m i:List UInt8) (v:JV) (e:Int) (key:List UInt8) (b:Nat) (hv:JOk v) (hb:objs[b]? = some (rqB m i e)) (hk:∀o,Ext objs o b (rqB m i (orE e (roD v key).1))->K o (.row (roD v key).2.length (zab (roD v key).2))):zaf Tryz.prog 36 [.p b 0,.agg (zao v),.s key] objs K:=by
 have hbl:=(zf.1 hb).1;refine zgf (.row (roD v key).2.length (zab (roD v key).2)) ?_;refine zcj is_ref17_reader_objects fun C _=>?_;rw[c_ref17_reader_objects];have ejv:=zae v;rw[ejv];refine zaa fun Z hZ=>?_;simp only[sxZ,z6,z7,z8,j4,j5,j6,j7,j8,j9,x0,x6,x7,x8,x9,y4,reduceCtorEq,↓reduceIte];have hE0:=(Ext.refl hb).app (.box 25 [.i .i64 v.kind,.s v.text,.row v.keys.length (v.keys.map .s),.row v.items.length (zab v.items)]);have eV:(objs++[OB.box 25 [.i .i64 v.kind,.s v.text,.row v.keys.length (v.keys.map .s),.row v.items.length (zab v.items)]])[objs.length]? = some (.box 25 [.i .i64 v.kind,.s v.text,.row v.keys.length (v.keys.map .s),.row v.items.length (zab v.items)]):=gn1 _ _;generalize objs++[OB.box 25 [.i .i64 v.kind,.s v.text,.row v.keys.length (v.keys.map .s),.row v.items.length (zab v.items)]]=o0 at hE0 eV ⊢;subst hZ;refine zaa fun Z hZ=>?_;simp only[sxZ,z6,z7,z8,j4,j5,j6,j7,j8,j9,x0,x6,x7,x8,x9,y4,reduceCtorEq,↓reduceIte,eV];rw[<-ejv];refine zad (zc2 v key hv ?_);unfold roD at hk ⊢;generalize zaG v key=R at hk ⊢;obtain⟨x,ok⟩:=R;unfold zbv;dsimp only at hk ⊢;rw[zae x];simp only[sxZ,z6,z7,z8,j4,j5,j6,j7,j8,j9,x0,x6,x7,x8,x9,y4,reduceCtorEq,↓reduceIte,gn1,sn1];have hE:=hE0.app (.box 25 [.i .i64 x.kind,.s x.text,.row x.keys.length (x.keys.map .s),.row x.items.length (zab x.items)]);have eX:(o0++[OB.box 25 [.i .i64 x.kind,.s x.text,.row x.keys.length (x.keys.map .s),.row x.items.length (zab x.items)]])[o0.length]? = some (.box 25 [.i .i64 x.kind,.s x.text,.row x.keys.length (x.keys.map .s),.row x.items.length (zab x.items)]):=gn1 _ _;have hol:=hE0.2.1;generalize o0.length=q at eX hol ⊢;generalize o0++[OB.box 25 [.i .i64 x.kind,.s x.text,.row x.keys.length (x.keys.map .s),.row x.items.length (zab x.items)]]=o1 at hE eX ⊢;subst hZ;refine zaa fun Z hZ=>?_;have fin:∀z:Int,Ext objs (o1.set b (rqB m i (orE e z))) b (rqB m i (orE e z)):=fun z=>hE.set _
 cases ok with
 | false=>
  rw[if_pos rfl] at hk ⊢;rw[zfv] at hk;simp only[sxZ,z6,z7,z8,j4,j5,j6,j7,j8,j9,x0,x6,x7,x8,x9,y4,reduceCtorEq,↓reduceIte];exact⟨fun G I y hy=>zav hy,hk _ hE⟩
 | true=>
  rw[if_neg (show ¬(true=false) by decide)] at hk ⊢
  by_cases c:x.kind=6
  rotate_left
  ·rw[if_pos c] at hk ⊢;simp only[sxZ,z6,z7,z8,j4,j5,j6,j7,j8,j9,x0,x6,x7,x8,x9,y4,reduceCtorEq,↓reduceIte,eX,c];refine zad (zbx m i e 160 b hE.1 ?_);simp only[sxZ,z6,z7,z8,j4,j5,j6,j7,j8,j9,x0,x6,x7,x8,x9,y4,reduceCtorEq,↓reduceIte];exact⟨fun G I y hy=>zav hy,hk _ (fin 160)⟩
  have nc:¬x.kind≠6:=fun e=>e c;rw[if_neg nc] at hk ⊢
  by_cases c64:(64:Int)<(x.items.length:Int)
  ·have c64':64<x.items.length:=by omega
   rw[if_pos c64'] at hk ⊢;simp only[sxZ,z6,z7,z8,j4,j5,j6,j7,j8,j9,x0,x6,x7,x8,x9,y4,reduceCtorEq,↓reduceIte,eX,c,c64,decide_true];refine zad (zbx m i e 161 b hE.1 ?_);simp only[sxZ,z6,z7,z8,j4,j5,j6,j7,j8,j9,x0,x6,x7,x8,x9,y4,reduceCtorEq,↓reduceIte];exact⟨fun G I y hy=>zav hy,hk _ (fin 161)⟩
  ·have c64':¬64<x.items.length:=by omega
   rw[if_neg c64'] at hk ⊢;rw[zfv] at hk;simp only[sxZ,z6,z7,z8,j4,j5,j6,j7,j8,j9,x0,x6,x7,x8,x9,y4,reduceCtorEq,↓reduceIte,eX,c,c64,decide_false];subst hZ;simp only[sxZ,z6,z7,z8,j4,j5,j6,j7,j8,j9,x0,x6,x7,x8,x9,y4,reduceCtorEq,↓reduceIte,eX];exact⟨fun G I y hy=>hy,hk _ hE⟩
end
end
section
attribute [local irreducible] run
def t5 (l:List JV):Int:=if l.all (fun y=>decide (y.kind=5))=true then 0 else 160
theorem t5_y (e:Int) (a:List JV) {y:JV} (c:y.kind=5):orE e (t5 (a++[y]))=orE e (t5 a):=by
 unfold t5;rw[List.all_append];simp[c]
theorem t5_n (e:Int) (a:List JV) {y:JV} (c:¬y.kind=5):orE e (t5 (a++[y]))=orE (orE e (t5 a)) 160:=by
 have:t5 (a++[y])=160:=by unfold t5;rw[List.all_append];simp[c]
 rw[this];unfold t5
 by_cases h:a.all (fun y=>decide (y.kind=5))=true
 ·rw[if_pos h,zfv]
 ·rw[if_neg h,zaB];rfl
theorem t5_0 (e:Int):orE e (t5 [])=e:=zfv e
theorem zmL.set5 {m:Nat} {l:List (List UInt8)} {o:List OB} {X:AV} (h:zmL m l o X) {r:Nat} {Z:OB} (hz:o[r]? = some Z) (hne:∀g n cs,Z≠.orow 9 1 g n cs) (W:OB):zmL m l (o.set r W) X:=by
 rcases h with h|⟨r',g,h1,h0,h2⟩
 ·exact .inl h
 ·refine .inr ⟨r',g,h1,h0,?_⟩;rw[zi (fun e=>by rw[e,h2] at hz;injection hz with hz;exact hne _ _ _ hz.symm)];exact h2
section
variable [Tabs Tryz.prog] {objs:List OB} {K:List OB->AV->Prop}
theorem zeY (m i:List UInt8) (v:JV) (e:Int) (key:List UInt8) (single:Bool) (b:Nat) (hv:JOk v) (hb:objs[b]? = some (rqB m i e)) (hk:∀o,Ext objs o b (rqB m i (orE e (rsD v key single).1))->K o (.row (rsD v key single).2.length ((rsD v key single).2.map .s))):zaf Tryz.prog 35 [.p b 0,.agg (zao v),.s key,.b single] objs K:=by
 have hbl:=(zf.1 hb).1;refine zgf (.row (rsD v key single).2.length ((rsD v key single).2.map .s)) ?_;refine zee ?_;refine zcj is_ref17_reader_strings fun C _=>?_;rw[c_ref17_reader_strings];have ejv:=zae v;rw[ejv];refine zaa fun Z hZ=>?_;simp only[sxZ,z6,z7,z8,j4,j5,j6,j7,j8,j9,x0,x6,x7,x8,x9,y4,reduceCtorEq,↓reduceIte];have hE0:=(Ext.refl hb).app (OB.box 25 [.i .i64 v.kind,.s v.text,.row v.keys.length (v.keys.map .s),.row v.items.length (zab v.items)]);have eV:(objs++[OB.box 25 [.i .i64 v.kind,.s v.text,.row v.keys.length (v.keys.map .s),.row v.items.length (zab v.items)]])[objs.length]? = some (OB.box 25 [.i .i64 v.kind,.s v.text,.row v.keys.length (v.keys.map .s),.row v.items.length (zab v.items)]):=gn1 _ _;generalize objs++[OB.box 25 [.i .i64 v.kind,.s v.text,.row v.keys.length (v.keys.map .s),.row v.items.length (zab v.items)]]=o0 at hE0 eV ⊢;subst hZ;refine zaa fun Z hZ=>?_;simp only[sxZ,z6,z7,z8,j4,j5,j6,j7,j8,j9,x0,x6,x7,x8,x9,y4,reduceCtorEq,↓reduceIte,eV];rw[<-ejv];refine zad (zc2 v key hv ?_);unfold rsD at hk ⊢;generalize zaG v key=R at hk ⊢;obtain⟨x,ok⟩:=R;unfold zbv;dsimp only at hk ⊢;rw[zae x];simp only[sxZ,z6,z7,z8,j4,j5,j6,j7,j8,j9,x0,x6,x7,x8,x9,y4,reduceCtorEq,↓reduceIte,gn1,sn1];have hE:=hE0.app (OB.box 25 [.i .i64 x.kind,.s x.text,.row x.keys.length (x.keys.map .s),.row x.items.length (zab x.items)]);have eX:(o0++[OB.box 25 [.i .i64 x.kind,.s x.text,.row x.keys.length (x.keys.map .s),.row x.items.length (zab x.items)]])[o0.length]? = some (OB.box 25 [.i .i64 x.kind,.s x.text,.row x.keys.length (x.keys.map .s),.row x.items.length (zab x.items)]):=gn1 _ _;have hol:=hE0.2.1;generalize o0.length=q at eX hol ⊢;generalize o0++[OB.box 25 [.i .i64 x.kind,.s x.text,.row x.keys.length (x.keys.map .s),.row x.items.length (zab x.items)]]=o1 at hE eX ⊢;have fin:∀z:Int,Ext objs (o1.set b (rqB m i (orE e z))) b (rqB m i (orE e z)):=fun z=>hE.set _;subst hZ;refine zaa fun Z hZ=>?_
 cases ok with
 | false=>
  rw[if_neg (show ¬(false=true) by decide)] at hk ⊢;rw[zfv] at hk;simp only[sxZ,z6,z7,z8,j4,j5,j6,j7,j8,j9,x0,x6,x7,x8,x9,y4,reduceCtorEq,↓reduceIte];exact .inl ⟨fun G I y hy=>zav hy,hk _ hE⟩
 | true=>
 rw[if_pos rfl] at hk ⊢;unfold rsB at hk ⊢
 by_cases c1:single=true/\x.kind=5
 ·rw[if_pos c1] at hk ⊢;rw[zfv] at hk;obtain⟨rfl,c5⟩:=c1;simp only[sxZ,z6,z7,z8,j4,j5,j6,j7,j8,j9,x0,x6,x7,x8,x9,y4,reduceCtorEq,↓reduceIte,eX,c5];refine .inr ⟨o1.length,_,_,_,_,_,gn1 _ _,fun G I y hy=>by simpa[subD,zcr] using hy,hk _ ((hE.app _).pub (rqB_pl m i e) _ _ _ _ hE.2.1 hbl)⟩
 rw[if_neg c1] at hk ⊢;refine zaJ (fun o t=>o=o1/\x.kind=6/\¬64<x.items.length/\t.length=65/\t[0]? = some (.p b 0)/\t[9]? = some (.p q 0)) ?_ ?_
 ·by_cases c6:x.kind=6
  rotate_left
  ·rw[if_pos c6] at hk ⊢
   cases single with
   | false=>
    simp only[sxZ,z6,z7,z8,j4,j5,j6,j7,j8,j9,x0,x6,x7,x8,x9,y4,reduceCtorEq,↓reduceIte,eX,c6];refine zad (zbx m i e 160 b hE.1 ?_);simp only[sxZ,z6,z7,z8,j4,j5,j6,j7,j8,j9,x0,x6,x7,x8,x9,y4,reduceCtorEq,↓reduceIte,zcR];exact .inl ⟨fun G I y hy=>zav hy,hk _ (fin 160)⟩
   | true=>
    have c5:¬x.kind=5:=fun h=>c1 ⟨rfl,h⟩;simp only[sxZ,z6,z7,z8,j4,j5,j6,j7,j8,j9,x0,x6,x7,x8,x9,y4,reduceCtorEq,↓reduceIte,eX,c5,c6];refine zad (zbx m i e 160 b hE.1 ?_);simp only[sxZ,z6,z7,z8,j4,j5,j6,j7,j8,j9,x0,x6,x7,x8,x9,y4,reduceCtorEq,↓reduceIte,zcR];exact .inl ⟨fun G I y hy=>zav hy,hk _ (fin 160)⟩
  have nc:¬x.kind≠6:=fun e=>e c6;rw[if_neg nc] at hk ⊢
  by_cases c64:(64:Int)<(x.items.length:Int)
  ·have c64':64<x.items.length:=by omega
   rw[if_pos c64'] at hk ⊢
   cases single with
   | false=>
    simp only[sxZ,z6,z7,z8,j4,j5,j6,j7,j8,j9,x0,x6,x7,x8,x9,y4,reduceCtorEq,↓reduceIte,eX,c6,c64,decide_true];refine zad (zbx m i e 161 b hE.1 ?_);simp only[sxZ,z6,z7,z8,j4,j5,j6,j7,j8,j9,x0,x6,x7,x8,x9,y4,reduceCtorEq,↓reduceIte,zcR];exact .inl ⟨fun G I y hy=>zav hy,hk _ (fin 161)⟩
   | true=>
    simp only[sxZ,z6,z7,z8,j4,j5,j6,j7,j8,j9,x0,x6,x7,x8,x9,y4,reduceCtorEq,↓reduceIte,eX,c6,c64,decide_true];refine zad (zbx m i e 161 b hE.1 ?_);simp only[sxZ,z6,z7,z8,j4,j5,j6,j7,j8,j9,x0,x6,x7,x8,x9,y4,reduceCtorEq,↓reduceIte,zcR];exact .inl ⟨fun G I y hy=>zav hy,hk _ (fin 161)⟩
  ·have c64':¬64<x.items.length:=by omega
   cases single with
   | false=>
    simp only[sxZ,z6,z7,z8,j4,j5,j6,j7,j8,j9,x0,x6,x7,x8,x9,y4,reduceCtorEq,↓reduceIte,eX,c6,c64,decide_false,zac,c64',not_false_eq_true]
   | true=>
    simp only[sxZ,z6,z7,z8,j4,j5,j6,j7,j8,j9,x0,x6,x7,x8,x9,y4,reduceCtorEq,↓reduceIte,eX,c6,c64,decide_false,zac,c64',not_false_eq_true]
 rintro o t ⟨rfl,c6,c64,hlen,t0,t9⟩;rw[if_neg (show ¬x.kind≠6 from fun e=>e c6),if_neg c64] at hk ⊢;have hit:x.items.length<=64:=by omega
 have hk:∀o,Ext objs o b (rqB m i (orE e (t5 x.items)))->K o (.row (x.items.map JV.text).length ((x.items.map JV.text).map .s)):=hk;show run _ _ _ _ _ _;subst hZ;refine zaa fun Z hZ=>?_;simp only[sxZ,z6,z7,z8,j4,j5,j6,j7,j8,j9,x0,x6,x7,x8,x9,y4,reduceCtorEq,↓reduceIte,za,hlen,t0,t9,eX];subst hZ;refine zaa fun Z hZ=>?_;refine zaa fun W hW=>?_;simp only[sxZ,z6,z7,z8,j4,j5,j6,j7,j8,j9,x0,x6,x7,x8,x9,y4,reduceCtorEq,↓reduceIte,za,hlen,t0,t9,eX];generalize x.items=its at hit hk ⊢;have hl4:=zaI its;subst hW;rw[zaZ];refine zaE (fun n o tm=>∃(j:Nat),j<=its.length/\n=its.length - j/\Ext objs o b (rqB m i (orE e (t5 (its.take j))))/\zmL objs.length ((its.take j).map JV.text) o (tm[11]?.getD .u)/\tm.length=65/\tm[0]? = some (.p b 0)/\tm[47]? = some (.row its.length (zab its))/\tm[48]? = some (.i .i64 (its.length:Int))/\tm[49]? = some (.i .i64 (j:Int))) its.length ⟨0,zd _,rfl,by rw[List.take_zero,t5_0];exact hE,.inl ⟨rfl,by simp only[sxZ,z6,z7,z8,j4,j5,j6,j7,j8,j9,x0,x6,x7,x8,x9,y4,reduceCtorEq,↓reduceIte,za,hlen]⟩,by simp only[zh,hlen],by simp only[sxZ,z6,z7,z8,j4,j5,j6,j7,j8,j9,x0,x6,x7,x8,x9,y4,reduceCtorEq,↓reduceIte,za,hlen,t0],by simp only[sxZ,z6,z7,z8,j4,j5,j6,j7,j8,j9,x0,x6,x7,x8,x9,y4,reduceCtorEq,↓reduceIte,za,hlen],by simp only[sxZ,z6,z7,z8,j4,j5,j6,j7,j8,j9,x0,x6,x7,x8,x9,y4,reduceCtorEq,↓reduceIte,za,hlen],by simp only[sxZ,z6,z7,z8,j4,j5,j6,j7,j8,j9,x0,x6,x7,x8,x9,y4,reduceCtorEq,↓reduceIte,za,hlen];rfl⟩ ?_;clear hlen t0 t9;rintro n o tm ⟨j,hj,rfl,ho,hA,hlen,t0,t47,t48,t49⟩;obtain⟨a11,t11⟩:∃a,tm[11]? = some a:=⟨_,zl (by omega)⟩;rw[t11,Option.getD_some] at hA;refine zaa fun W hW=>?_
 by_cases hlt:(j:Int)<(its.length:Int)
 ·have hi':j<its.length:=by omega
  have kv:=zd9 hi';have htk:its.take (j+1)=its.take j++[its[j]]:=by rw[ye,zl hi'];rfl
  have hfl:((its.take j).map JV.text).length=j:=by rw[qm,qd];omega
  generalize its[j]=y at kv htk;rw[zae y] at kv;simp only[sxZ,z6,z7,z8,j4,j5,j6,j7,j8,j9,x0,x6,x7,x8,x9,y4,reduceCtorEq,↓reduceIte,za,hlen,t47,t48,t49,hlt];subst hW;refine zaa fun W hW=>?_;simp only[sxZ,z6,z7,z8,j4,j5,j6,j7,j8,j9,x0,x6,x7,x8,x9,y4,reduceCtorEq,↓reduceIte,za,hlen];subst hW;refine zaa fun V hV=>?_;rw[zaZ];refine zaa fun W hW=>?_;simp only[sxZ,z6,z7,z8,j4,j5,j6,j7,j8,j9,x0,x6,x7,x8,x9,y4,reduceCtorEq,↓reduceIte,za,hlen,t47,t49,kv];refine⟨⟨by omega,by omega,by omega⟩,by omega,?_⟩;simp only[sxZ,z6,z7,z8,j4,j5,j6,j7,j8,j9,x0,x6,x7,x8,x9,y4,reduceCtorEq,↓reduceIte,za,hlen,gn1,sn1];subst hW;have hE:=ho.app (OB.box 25 [.i .i64 y.kind,.s y.text,.row y.keys.length (y.keys.map .s),.row y.items.length (zab y.items)]);have hA2:=hA.mono (OB.box 25 [.i .i64 y.kind,.s y.text,.row y.keys.length (y.keys.map .s),.row y.items.length (zab y.items)]);have eB:(o++[OB.box 25 [.i .i64 y.kind,.s y.text,.row y.keys.length (y.keys.map .s),.row y.items.length (zab y.items)]])[o.length]? = some (OB.box 25 [.i .i64 y.kind,.s y.text,.row y.keys.length (y.keys.map .s),.row y.items.length (zab y.items)]):=gn1 _ _;have hol:=ho.2.1;generalize hpp:o.length=p at eB hol ⊢;generalize o++[OB.box 25 [.i .i64 y.kind,.s y.text,.row y.keys.length (y.keys.map .s),.row y.items.length (zab y.items)]]=o1 at hE hA2 eB ⊢;refine zaa fun W hW=>?_;refine zaJ (fun o3 t3=>Ext objs o3 b (rqB m i (orE e (t5 (its.take (j+1)))))/\zmL objs.length ((its.take j).map JV.text) o3 a11/\o3[p]? = some (OB.box 25 [.i .i64 y.kind,.s y.text,.row y.keys.length (y.keys.map .s),.row y.items.length (zab y.items)])/\t3.length=65/\t3[0]? = some (.p b 0)/\t3[11]? = some a11/\t3[13]? = some (.p p 0)/\t3[47]? = some (.row its.length (zab its))/\t3[48]? = some (.i .i64 (its.length:Int))/\t3[49]? = some (.i .i64 (j:Int))) ?_ ?_
  ·rw[htk]
   by_cases c:y.kind=5
   ·rw[t5_y e _ c];simp only[sxZ,z6,z7,z8,j4,j5,j6,j7,j8,j9,x0,x6,x7,x8,x9,y4,reduceCtorEq,↓reduceIte,za,hlen,eB,c,t0,t11,t47,t48,t49,zac];exact⟨hE,hA2⟩
   ·rw[t5_n e _ c];simp only[sxZ,z6,z7,z8,j4,j5,j6,j7,j8,j9,x0,x6,x7,x8,x9,y4,reduceCtorEq,↓reduceIte,za,hlen,eB,c,t0];refine zad (zbx m i _ 160 b hE.1 ?_);simp only[sxZ,z6,z7,z8,j4,j5,j6,j7,j8,j9,x0,x6,x7,x8,x9,y4,reduceCtorEq,↓reduceIte,za,hlen,t0,t11,t47,t48,t49,zac];refine⟨hE.set _,hA2.set5 hE.1 (by intro _ _ _ h;cases h) _,?_⟩;rw[if_neg (by omega)];exact eB
  rintro o3 tm2 ⟨hE3,hA3,eB3,hlen2,k0,k11,k13,k47,k48,k49⟩;subst hW;generalize hacc:(its.take j).map JV.text=acc at hA3 hfl;have hol3:=hE3.2.1;rcases hA3 with ⟨rfl,rfl⟩|⟨r,g,rfl,hr0,hr⟩
  ·simp only[sxZ,z6,z7,z8,j4,j5,j6,j7,j8,j9,x0,x6,x7,x8,x9,y4,reduceCtorEq,↓reduceIte,za,hlen2,k0,k11,k13,eB3];subst hV;simp only[sxZ,z6,z7,z8,j4,j5,j6,j7,j8,j9,x0,x6,x7,x8,x9,y4,reduceCtorEq,↓reduceIte,za,hlen2,k0,k47,k48,k49];refine⟨by omega,its.length - (j+1),by omega,j+1,by omega,rfl,hE3.app _,?_,rfl⟩;rw[htk,je,hacc];exact .inr ⟨o3.length,0,rfl,hol3,by rw[gn1];rfl⟩
  ·have hrl:=(zf.1 hr).1;simp only[sxZ,z6,z7,z8,j4,j5,j6,j7,j8,j9,x0,x6,x7,x8,x9,y4,reduceCtorEq,↓reduceIte,za,hlen2,k0,k11,k13,eB3,hr];refine⟨⟨by omega,by omega⟩,?_⟩;subst hV;simp only[sxZ,z6,z7,z8,j4,j5,j6,j7,j8,j9,x0,x6,x7,x8,x9,y4,reduceCtorEq,↓reduceIte,za,hlen2,k0,k47,k48,k49];refine⟨by omega,its.length - (j+1),by omega,j+1,by omega,rfl,hE3.own r _ hr0 hbl,?_,rfl⟩;rw[htk,je,hacc];exact .inr ⟨r,g+1,rfl,hr0,by rw[zk hrl,zm,je];rfl⟩
 have hn:j=its.length:=by omega
 rw[hn,jk (ze _)] at hA ho;simp only[sxZ,z6,z7,z8,j4,j5,j6,j7,j8,j9,x0,x6,x7,x8,x9,y4,reduceCtorEq,↓reduceIte,za,hlen,t47,t48,t49,hlt];subst hW;simp only[sxZ,z6,z7,z8,j4,j5,j6,j7,j8,j9,x0,x6,x7,x8,x9,y4,reduceCtorEq,↓reduceIte,za,hlen];subst hZ;rcases hA with ⟨h0,rfl⟩|⟨r,g,rfl,hr0,hr⟩
 ·simp only[sxZ,z6,z7,z8,j4,j5,j6,j7,j8,j9,x0,x6,x7,x8,x9,y4,reduceCtorEq,↓reduceIte,za,hlen,t11];rw[h0] at hk ⊢;exact .inl ⟨fun G I y hy=>zav hy,hk _ ho⟩
 ·simp only[sxZ,z6,z7,z8,j4,j5,j6,j7,j8,j9,x0,x6,x7,x8,x9,y4,reduceCtorEq,↓reduceIte,za,hlen,t11];refine .inr ⟨r,_,_,_,_,_,hr,fun G I y hy=>?_,hk _ (ho.pub (rqB_pl _ _ _) r g _ _ hr0 hbl)⟩;simpa[subD,zcr] using hy
theorem rqid_k (m i:List UInt8) (v:JV) (e:Int) (b:Nat) (hv:JOk v) (h1:m.length<=100000) (h2:i.length<=100000) (ht:(zaG v kId).1.text.length<=100000000) (hb:objs[b]? = some (rqB m i e)) (hk:∀o,Ext objs o b (rqB m i (orE e (riD m i v).1))->K o (.s (riD m i v).2)):zaf Tryz.prog 76 [.p b 0,.agg (zao v)] objs K:=by
 have hbl:=(zf.1 hb).1;refine zcj is_ref17_reader_id fun C _=>?_;rw[c_ref17_reader_id];have ejv:=zae v;have hrl:=ziD m i (zaG v kId).1.text;rw[ejv];refine zaa fun Z hZ=>?_;simp only[sxZ,z6,z7,z8,j4,j5,j6,j7,j8,j9,x0,x6,x7,x8,x9,y4,reduceCtorEq,↓reduceIte];have hE0:=(Ext.refl hb).app (OB.box 25 [.i .i64 v.kind,.s v.text,.row v.keys.length (v.keys.map .s),.row v.items.length (zab v.items)]);have eV:(objs++[OB.box 25 [.i .i64 v.kind,.s v.text,.row v.keys.length (v.keys.map .s),.row v.items.length (zab v.items)]])[objs.length]? = some (OB.box 25 [.i .i64 v.kind,.s v.text,.row v.keys.length (v.keys.map .s),.row v.items.length (zab v.items)]):=gn1 _ _;generalize objs++[OB.box 25 [.i .i64 v.kind,.s v.text,.row v.keys.length (v.keys.map .s),.row v.items.length (zab v.items)]]=o0 at hE0 eV ⊢;subst hZ;refine zaa fun Z hZ=>?_;simp only[sxZ,z6,z7,z8,j4,j5,j6,j7,j8,j9,x0,x6,x7,x8,x9,y4,reduceCtorEq,↓reduceIte,eV];rw[<-ejv];refine zad (zfE m i v e kId b hv hE0.1 fun o hE1=>?_);have hE1:=hE0.trans hE1;have eb1:=hE1.1;simp only[sxZ,z6,z7,z8,j4,j5,j6,j7,j8,j9,x0,x6,x7,x8,x9,y4,reduceCtorEq,↓reduceIte];subst hZ;refine zaa fun Z hZ=>?_;unfold riD at hk;have eb1':=eb1;unfold rqB at eb1';generalize (zaG v kId).1.text=x at ht hk hrl ⊢;generalize rtE v kId=er at hk hE1 eb1 eb1';simp only[sxZ,z6,z7,z8,j4,j5,j6,j7,j8,j9,x0,x6,x7,x8,x9,y4,reduceCtorEq,↓reduceIte,eb1'];refine zad (zjE m i x (by omega) (by omega) (by omega) ?_);generalize ze0 m i x=R at hk hrl ⊢;obtain⟨e2,u⟩:=R;dsimp only at hk hrl ⊢;obtain⟨q1,q2,q3,q4,q5⟩:=hrl;unfold zbi;simp only[sxZ,z6,z7,z8,j4,j5,j6,j7,j8,j9,x0,x6,x7,x8,x9,y4,reduceCtorEq,↓reduceIte,gn1,sn1];have hE2:=hE1.app (.box 87 [.s u.meth,.s u.id,.s u.path,.s u.query,.s u.frag,.b u.hq,.b u.hf]);have eU:(o++[OB.box 87 [.s u.meth,.s u.id,.s u.path,.s u.query,.s u.frag,.b u.hq,.b u.hf]])[o.length]? = some (.box 87 [.s u.meth,.s u.id,.s u.path,.s u.query,.s u.frag,.b u.hq,.b u.hf]):=gn1 _ _;generalize o.length=q at eU ⊢;generalize o++[OB.box 87 [.s u.meth,.s u.id,.s u.path,.s u.query,.s u.frag,.b u.hq,.b u.hf]]=o2 at hE2 eU ⊢;subst hZ;refine zaa fun Z hZ=>?_
 by_cases c:e2=0
 ·subst c;rw[if_neg (show ¬((0:Int)≠0) by decide)] at hk;simp only[sxZ,z6,z7,z8,j4,j5,j6,j7,j8,j9,x0,x6,x7,x8,x9,y4,reduceCtorEq,↓reduceIte];subst hZ;refine zaa fun Z hZ=>?_;simp only[sxZ,z6,z7,z8,j4,j5,j6,j7,j8,j9,x0,x6,x7,x8,x9,y4,reduceCtorEq,↓reduceIte,eU];refine zad (zmj u (by omega) (by omega) (by omega) (by omega) (by omega) ?_);simp only[sxZ,z6,z7,z8,j4,j5,j6,j7,j8,j9,x0,x6,x7,x8,x9,y4,reduceCtorEq,↓reduceIte];subst hZ;simp only[sxZ,z6,z7,z8,j4,j5,j6,j7,j8,j9,x0,x6,x7,x8,x9,y4,reduceCtorEq,↓reduceIte];exact hk _ hE2
 ·rw[if_pos c] at hk;simp only[sxZ,z6,z7,z8,j4,j5,j6,j7,j8,j9,x0,x6,x7,x8,x9,y4,reduceCtorEq,↓reduceIte,c];refine zad (zbx m i _ 160 b hE2.1 ?_);simp only[sxZ,z6,z7,z8,j4,j5,j6,j7,j8,j9,x0,x6,x7,x8,x9,y4,reduceCtorEq,↓reduceIte];exact hk _ (by dsimp only;rw[<-zaB];exact hE2.set _)
end
end
section
attribute [local irreducible] run
theorem Ext.keep {o o':List OB} {b:Nat} {X:OB} (h:Ext o o' b X) {j:Nat} {Y:OB} (hi:o[j]? = some Y) (hn:j≠b) (hp:PlO Y):o'[j]? = some Y:=h.2.2 j Y hn hi (hp.m _)
theorem zaD {o:List OB} {j:Nat} {Y:OB} (h:o[j]? = some Y) (z:OB):(o++[z])[j]? = some Y:=by rw[List.getElem?_append_left (zf.1 h).1];exact h
theorem zaT {o:List OB} {j r:Nat} {Y:OB} (h:o[j]? = some Y) (hn:r≠j) (z:OB):(o.set r z)[j]? = some Y:=by rw[zi hn];exact h
theorem den_ag {G:Gh} {I:Imm} {a a' b b':AV} {t:List UInt8} {y:Value} (h1:∀z,Den G I a z->Den G I a' z) (h2:∀z,Den G I b z->Den G I b' z) (hd:Den G I (.agg [.s t,a,b]) y):Den G I (.agg [.s t,a',b']) y:=by
 simp only[zaj,Den] at hd ⊢;obtain⟨zs,rfl,⟨z0,m0,rfl,q0,z1,m1,rfl,q1,z2,m2,rfl,q2,q3⟩,hz⟩:=hd;exact⟨_,rfl,⟨_,_,rfl,q0,_,_,rfl,h1 _ q1,_,_,rfl,h2 _ q2,q3⟩,hz⟩
section
variable [Tabs Tryz.prog] {objs:List OB} {K:List OB->AV->Prop}
theorem rqm_k (m i:List UInt8) (v:JV) (e:Int) (b:Nat) (hv:JOk v) (h1:m.length<=100000) (h2:i.length<=100000) (ht:(zaG v kId).1.text.length<=100000000) (hb:objs[b]? = some (rqB m i e)) (hk:∀o,Ext objs o b (rqB m i (orE e (rmD m i v).1))->K o (.agg (mtc (rmD m i v).2))):zaf Tryz.prog 37 [.p b 0,.agg (zao v)] objs K:=by
 have hbl:=(zf.1 hb).1;have ejv:=zae v;have hpv:PlO (OB.box 25 [.i .i64 v.kind,.s v.text,.row v.keys.length (v.keys.map .s),.row v.items.length (zab v.items)]):=by
  show zan _=true;rw[<-ejv];exact zaL v
 refine zcj is_ref17_reader_method fun C _=>?_;rw[c_ref17_reader_method,ejv];refine zaa fun Z hZ=>?_;simp only[sxZ,z6,z7,z8,j4,j5,j6,j7,j8,j9,x0,x6,x7,x8,x9,y4,reduceCtorEq,↓reduceIte];have hE0:=((Ext.refl hb).app (OB.box 25 [.i .i64 v.kind,.s v.text,.row v.keys.length (v.keys.map .s),.row v.items.length (zab v.items)])).app (OB.box 48 [.s [],.s [],.s []]);have eV:(objs++[OB.box 25 [.i .i64 v.kind,.s v.text,.row v.keys.length (v.keys.map .s),.row v.items.length (zab v.items)]]++[OB.box 48 [.s [],.s [],.s []]])[objs.length]? = some (OB.box 25 [.i .i64 v.kind,.s v.text,.row v.keys.length (v.keys.map .s),.row v.items.length (zab v.items)]):=gn20 _ _ _;have eM:(objs++[OB.box 25 [.i .i64 v.kind,.s v.text,.row v.keys.length (v.keys.map .s),.row v.items.length (zab v.items)]]++[OB.box 48 [.s [],.s [],.s []]])[objs.length+1]? = some (OB.box 48 [.s [],.s [],.s []]):=gn21 _ _ _;generalize objs++[OB.box 25 [.i .i64 v.kind,.s v.text,.row v.keys.length (v.keys.map .s),.row v.items.length (zab v.items)]]++[OB.box 48 [.s [],.s [],.s []]]=o0 at hE0 eV eM ⊢;subst hZ;refine zaa fun Z hZ=>?_;unfold rmD at hk
 by_cases c7:v.kind=7
 rotate_left
 ·rw[if_pos c7] at hk;simp only[sxZ,z6,z7,z8,j4,j5,j6,j7,j8,j9,x0,x6,x7,x8,x9,y4,reduceCtorEq,↓reduceIte,eV,c7];refine zad (zbx m i e 160 b hE0.1 ?_);have hE1:=hE0.set (rqB m i (orE e 160));have eM1:=zaT eM (r:=b) (by omega) (rqB m i (orE e 160));generalize o0.set b (rqB m i (orE e 160))=o1 at hE1 eM1 ⊢;have hl1:=(zf.1 eM1).1;have hk2:=hk _ (hE1.own (objs.length+1) (OB.box 48 [.s [],.s [],.s []]) (by omega) hbl);simp only[sxZ,z6,z7,z8,j4,j5,j6,j7,j8,j9,x0,x6,x7,x8,x9,y4,reduceCtorEq,↓reduceIte,eM1,hl1,za];exact hk2
 rw[if_neg (show ¬v.kind≠7 from fun e=>e c7)] at hk;simp only[sxZ,z6,z7,z8,j4,j5,j6,j7,j8,j9,x0,x6,x7,x8,x9,y4,reduceCtorEq,↓reduceIte,eV,c7];subst hZ;refine zaa fun Z hZ=>?_;simp only[sxZ,z6,z7,z8,j4,j5,j6,j7,j8,j9,x0,x6,x7,x8,x9,y4,reduceCtorEq,↓reduceIte,eV];rw[<-ejv];refine zad (rqid_k m i v e b hv h1 h2 ht hE0.1 fun o1 hX=>?_);have eV1:=hX.keep eV (by omega) hpv;have eM1:=hX.keep eM (by omega) rfl;have hE1:=hE0.trans hX;clear hX hE0 eV eM;generalize riD m i v=R at hk hE1 ⊢;obtain⟨er,id⟩:=R;dsimp only at hk hE1 ⊢;simp only[sxZ,z6,z7,z8,j4,j5,j6,j7,j8,j9,x0,x6,x7,x8,x9,y4,reduceCtorEq,↓reduceIte,gn1,sn1];have hol:=hE1.2.1;have hE2:=hE1.app (OB.box 48 [.s id,.s [],.s []]);have eV2:=zaD eV1 (OB.box 48 [.s id,.s [],.s []]);have eM2:=zaD eM1 (OB.box 48 [.s id,.s [],.s []]);have eN2:(o1++[OB.box 48 [.s id,.s [],.s []]])[o1.length]? = some (OB.box 48 [.s id,.s [],.s []]):=gn1 _ _;have hq:objs.length+1<o1.length:=(zf.1 eM1).1;generalize o1.length=q at eN2 hq hol ⊢;generalize o1++[OB.box 48 [.s id,.s [],.s []]]=o2 at hE2 eV2 eM2 eN2 ⊢;subst hZ;refine zaa fun Z hZ=>?_;simp only[sxZ,z6,z7,z8,j4,j5,j6,j7,j8,j9,x0,x6,x7,x8,x9,y4,reduceCtorEq,↓reduceIte,eV2];rw[<-ejv];refine zad (zfE m i v _ zbe b hv hE2.1 fun o3 hX=>?_);have eV3:=hX.keep eV2 (by omega) hpv;have eM3:=hX.keep eM2 (by omega) rfl;have eN3:=hX.keep eN2 (by omega) rfl;have hE3:=hE2.trans hX;clear hX hE2 eV2 eM2 eN2;generalize (zaG v zbe).1.text=ty at hk ⊢;generalize rtE v zbe=e2 at hk hE3 ⊢;simp only[sxZ,z6,z7,z8,j4,j5,j6,j7,j8,j9,x0,x6,x7,x8,x9,y4,reduceCtorEq,↓reduceIte,eN3];have hE4:=hE3.own q (OB.box 48 [.s id,.s ty,.s []]) (by omega) hbl;have eV4:=zaT eV3 (r:=q) (by omega) (OB.box 48 [.s id,.s ty,.s []]);have eM4:=zaT eM3 (r:=q) (by omega) (OB.box 48 [.s id,.s ty,.s []]);have eN4:(o3.set q (OB.box 48 [.s id,.s ty,.s []]))[q]? = some (OB.box 48 [.s id,.s ty,.s []]):=zk (zf.1 eN3).1;generalize o3.set q (OB.box 48 [.s id,.s ty,.s []])=o4 at hE4 eV4 eM4 eN4 ⊢;subst hZ;refine zaa fun Z hZ=>?_;simp only[sxZ,z6,z7,z8,j4,j5,j6,j7,j8,j9,x0,x6,x7,x8,x9,y4,reduceCtorEq,↓reduceIte,eV4];rw[<-ejv];refine zad (zfE m i v _ zbI b hv hE4.1 fun o5 hX=>?_);have eM5:=hX.keep eM4 (by omega) rfl;have eN5:=hX.keep eN4 (by omega) rfl;have hE5:=hE4.trans hX;clear hX hE4 eV4 eM4 eN4;generalize (zaG v zbI).1.text=co at hk ⊢;generalize rtE v zbI=e3 at hk hE5 ⊢;simp only[sxZ,z6,z7,z8,j4,j5,j6,j7,j8,j9,x0,x6,x7,x8,x9,y4,reduceCtorEq,↓reduceIte,eN5];have hE6:=hE5.own q (OB.box 48 [.s id,.s ty,.s co]) (by omega) hbl;have eM6:=zaT eM5 (r:=q) (by omega) (OB.box 48 [.s id,.s ty,.s co]);have eN6:(o5.set q (OB.box 48 [.s id,.s ty,.s co]))[q]? = some (OB.box 48 [.s id,.s ty,.s co]):=zk (zf.1 eN5).1;generalize o5.set q (OB.box 48 [.s id,.s ty,.s co])=o6 at hE6 eM6 eN6 ⊢;subst hZ;have hl6:=(zf.1 eM6).1;have hE7:=hE6.own (objs.length+1) (OB.box 48 [.s id,.s ty,.s co]) (by omega) hbl;rw[zaB,zaB,<-zaB er] at hE7;simp only[sxZ,z6,z7,z8,j4,j5,j6,j7,j8,j9,x0,x6,x7,x8,x9,y4,reduceCtorEq,↓reduceIte,eM6,eN6,hl6,za];exact hk _ hE7
theorem rqv_k (m i:List UInt8) (v:JV) (e:Int) (b:Nat) (hv:JOk v) (h1:m.length<=100000) (h2:i.length<=100000) (ht:(zaG v kId).1.text.length<=100000000) (hb:objs[b]? = some (rqB m i e)) (hk:∀o,Ext objs o b (rqB m i (orE e (rvD m i v).1))->K o (.agg (svc (rvD m i v).2))):zaf Tryz.prog 38 [.p b 0,.agg (zao v)] objs K:=by
 refine zgf (.agg (svc (rvD m i v).2)) ?_;have hbl:=(zf.1 hb).1;have ejv:=zae v;have hpv:PlO (OB.box 25 [.i .i64 v.kind,.s v.text,.row v.keys.length (v.keys.map .s),.row v.items.length (zab v.items)]):=by
  show zan _=true;rw[<-ejv];exact zaL v
 refine zcj is_ref17_reader_service fun C _=>?_;rw[c_ref17_reader_service,ejv];refine zaa fun Z hZ=>?_;simp only[sxZ,z6,z7,z8,j4,j5,j6,j7,j8,j9,x0,x6,x7,x8,x9,y4,reduceCtorEq,↓reduceIte];have hE0:=((Ext.refl hb).app (OB.box 25 [.i .i64 v.kind,.s v.text,.row v.keys.length (v.keys.map .s),.row v.items.length (zab v.items)])).app (OB.box 46 [.s [],.nil,.nil]);have eV:(objs++[OB.box 25 [.i .i64 v.kind,.s v.text,.row v.keys.length (v.keys.map .s),.row v.items.length (zab v.items)]]++[OB.box 46 [.s [],.nil,.nil]])[objs.length]? = some (OB.box 25 [.i .i64 v.kind,.s v.text,.row v.keys.length (v.keys.map .s),.row v.items.length (zab v.items)]):=gn20 _ _ _;have eM:(objs++[OB.box 25 [.i .i64 v.kind,.s v.text,.row v.keys.length (v.keys.map .s),.row v.items.length (zab v.items)]]++[OB.box 46 [.s [],.nil,.nil]])[objs.length+1]? = some (OB.box 46 [.s [],.nil,.nil]):=gn21 _ _ _;generalize objs++[OB.box 25 [.i .i64 v.kind,.s v.text,.row v.keys.length (v.keys.map .s),.row v.items.length (zab v.items)]]++[OB.box 46 [.s [],.nil,.nil]]=o0 at hE0 eV eM ⊢;subst hZ;refine zaa fun Z hZ=>?_;unfold rvD at hk ⊢
 by_cases c7:v.kind=7
 rotate_left
 ·rw[if_pos c7] at hk ⊢;simp only[sxZ,z6,z7,z8,j4,j5,j6,j7,j8,j9,x0,x6,x7,x8,x9,y4,reduceCtorEq,↓reduceIte,eV,c7];refine zad (zbx m i e 160 b hE0.1 ?_);have hE1:=hE0.set (rqB m i (orE e 160));have eM1:=zaT eM (r:=b) (by omega) (rqB m i (orE e 160));generalize o0.set b (rqB m i (orE e 160))=o1 at hE1 eM1 ⊢;have hl1:=(zf.1 eM1).1;have hk2:=hk _ (hE1.own (objs.length+1) (OB.box 46 [.s [],.nil,.nil]) (by omega) hbl);simp only[sxZ,z6,z7,z8,j4,j5,j6,j7,j8,j9,x0,x6,x7,x8,x9,y4,reduceCtorEq,↓reduceIte,eM1,hl1,za];exact⟨fun G I y h=>den_ag (fun z hz=>zav hz) (fun z hz=>zav hz) h,hk2⟩
 rw[if_neg (show ¬v.kind≠7 from fun e=>e c7)] at hk ⊢;simp only[sxZ,z6,z7,z8,j4,j5,j6,j7,j8,j9,x0,x6,x7,x8,x9,y4,reduceCtorEq,↓reduceIte,eV,c7];subst hZ;refine zaa fun Z hZ=>?_;simp only[sxZ,z6,z7,z8,j4,j5,j6,j7,j8,j9,x0,x6,x7,x8,x9,y4,reduceCtorEq,↓reduceIte,eV];rw[<-ejv];refine zad (rqid_k m i v e b hv h1 h2 ht hE0.1 fun o1 hX=>?_);have eV1:=hX.keep eV (by omega) hpv;have eM1:=hX.keep eM (by omega) rfl;have hE1:=hE0.trans hX;clear hX hE0 eV eM;generalize riD m i v=R at hk hE1 ⊢;obtain⟨er,id⟩:=R;dsimp only at hk hE1 ⊢;simp only[sxZ,z6,z7,z8,j4,j5,j6,j7,j8,j9,x0,x6,x7,x8,x9,y4,reduceCtorEq,↓reduceIte,gn1,sn1];have hol:=hE1.2.1;have hE2:=hE1.app (OB.box 46 [.s id,.nil,.nil]);have eV2:=zaD eV1 (OB.box 46 [.s id,.nil,.nil]);have eM2:=zaD eM1 (OB.box 46 [.s id,.nil,.nil]);have eN2:(o1++[OB.box 46 [.s id,.nil,.nil]])[o1.length]? = some (OB.box 46 [.s id,.nil,.nil]):=gn1 _ _;have hq:objs.length+1<o1.length:=(zf.1 eM1).1;generalize o1.length=q at eN2 hq hol ⊢;generalize o1++[OB.box 46 [.s id,.nil,.nil]]=o2 at hE2 eV2 eM2 eN2 ⊢;subst hZ;refine zaa fun Z hZ=>?_;refine zaJ (fun o t=>Ext objs o b (rqB m i (orE (orE e er) (thE v zbe)))/\o[objs.length]? = some (OB.box 25 [.i .i64 v.kind,.s v.text,.row v.keys.length (v.keys.map .s),.row v.items.length (zab v.items)])/\o[objs.length+1]? = some (OB.box 46 [.s [],.nil,.nil])/\o[q]? = some (OB.box 46 [.s id,.nil,.nil])/\t.length=50/\t[0]? = some (.p b 0)/\t[3]? = some (.p objs.length 0)/\t[4]? = some (.p (objs.length+1) 0)/\t[5]? = some (.p q 0)) ?_ ?_
 ·simp only[sxZ,z6,z7,z8,j4,j5,j6,j7,j8,j9,x0,x6,x7,x8,x9,y4,reduceCtorEq,↓reduceIte,eV2];rw[<-ejv];refine zad (zc2 v zbe hv ?_);unfold thE;generalize zaG v zbe=R;obtain⟨x,ok⟩:=R;unfold zbv;dsimp only;rw[zae x,ejv];simp only[sxZ,z6,z7,z8,j4,j5,j6,j7,j8,j9,x0,x6,x7,x8,x9,y4,reduceCtorEq,↓reduceIte,gn1,sn1];have hE3:=hE2.app (OB.box 25 [.i .i64 x.kind,.s x.text,.row x.keys.length (x.keys.map .s),.row x.items.length (zab x.items)]);have eV3:=zaD eV2 (OB.box 25 [.i .i64 x.kind,.s x.text,.row x.keys.length (x.keys.map .s),.row x.items.length (zab x.items)]);have eM3:=zaD eM2 (OB.box 25 [.i .i64 x.kind,.s x.text,.row x.keys.length (x.keys.map .s),.row x.items.length (zab x.items)]);have eN3:=zaD eN2 (OB.box 25 [.i .i64 x.kind,.s x.text,.row x.keys.length (x.keys.map .s),.row x.items.length (zab x.items)]);generalize o2++[OB.box 25 [.i .i64 x.kind,.s x.text,.row x.keys.length (x.keys.map .s),.row x.items.length (zab x.items)]]=o3 at hE3 eV3 eM3 eN3 ⊢
  cases ok with
  | true=>
   simp only[sxZ,z6,z7,z8,j4,j5,j6,j7,j8,j9,x0,x6,x7,x8,x9,y4,reduceCtorEq,↓reduceIte,zac];rw[zfv];exact⟨hE3,eV3,eM3,eN3⟩
  | false=>
   simp only[sxZ,z6,z7,z8,j4,j5,j6,j7,j8,j9,x0,x6,x7,x8,x9,y4,reduceCtorEq,↓reduceIte];refine zad (zbx m i _ 160 b hE3.1 ?_);simp only[sxZ,z6,z7,z8,j4,j5,j6,j7,j8,j9,x0,x6,x7,x8,x9,y4,reduceCtorEq,↓reduceIte,zac];exact⟨hE3.set _,zaT eV3 (by omega) _,zaT eM3 (by omega) _,zaT eN3 (by omega) _⟩
 clear hE1 hE2 eV2 eM2 eN2 eV1 eM1;rintro o4 t ⟨hE4,eV4,eM4,eN4,hlen,t0,t3,t4,t5⟩;subst hZ;refine zaa fun Z hZ=>?_;simp only[sxZ,z6,z7,z8,j4,j5,j6,j7,j8,j9,x0,x6,x7,x8,x9,y4,reduceCtorEq,↓reduceIte,za,hlen,t0,t3,t4,t5,eV4];rw[<-ejv];refine zad (zeY m i v _ zbe true b hv hE4.1 fun o5 hX=>?_);have eV5:=hX.keep eV4 (by omega) hpv;have eM5:=hX.keep eM4 (by omega) rfl;have eN5:=hX.keep eN4 (by omega) rfl;have hE5:=hE4.trans hX;clear hX hE4 eV4 eM4 eN4;generalize rsD v zbe true=R at hk hE5 ⊢;obtain⟨e2,l1⟩:=R;dsimp only at hk hE5 ⊢;simp only[sxZ,z6,z7,z8,j4,j5,j6,j7,j8,j9,x0,x6,x7,x8,x9,y4,reduceCtorEq,↓reduceIte,za,hlen,t0,t3,t4,t5,eN5];have hp1:=za0 l1;have hpN:PlO (OB.box 46 [.s id,.row l1.length (l1.map .s),.nil]):=by
  show zan _=true;simp only[zan,AV.plain,hp1,Bool.and_self]
 have hE6:=hE5.own q (OB.box 46 [.s id,.row l1.length (l1.map .s),.nil]) (by omega) hbl;have eV6:=zaT eV5 (r:=q) (by omega) (OB.box 46 [.s id,.row l1.length (l1.map .s),.nil]);have eM6:=zaT eM5 (r:=q) (by omega) (OB.box 46 [.s id,.row l1.length (l1.map .s),.nil]);have eN6:(o5.set q (OB.box 46 [.s id,.row l1.length (l1.map .s),.nil]))[q]? = some (OB.box 46 [.s id,.row l1.length (l1.map .s),.nil]):=zk (zf.1 eN5).1;generalize o5.set q (OB.box 46 [.s id,.row l1.length (l1.map .s),.nil])=o6 at hE6 eV6 eM6 eN6 ⊢;clear hE5 eV5 eM5 eN5;subst hZ;refine zaa fun Z hZ=>?_;simp only[sxZ,z6,z7,z8,j4,j5,j6,j7,j8,j9,x0,x6,x7,x8,x9,y4,reduceCtorEq,↓reduceIte,za,hlen,t0,t3,t4,t5,eV6];rw[<-ejv];refine zad (zc2 v zbH hv ?_);have hth:thE v zbH=if (zaG v zbH).2=true then 0 else 160:=rfl
 rw[hth] at hk ⊢;clear hth;generalize zaG v zbH=R at hk ⊢;obtain⟨x,ok⟩:=R;unfold zbv;dsimp only at hk ⊢;rw[zae x,ejv];have hpx:PlO (OB.box 25 [.i .i64 x.kind,.s x.text,.row x.keys.length (x.keys.map .s),.row x.items.length (zab x.items)]):=by
  show zan _=true;rw[<-zae x];exact zaL x
 simp only[sxZ,z6,z7,z8,j4,j5,j6,j7,j8,j9,x0,x6,x7,x8,x9,y4,reduceCtorEq,↓reduceIte,za,hlen,t0,t3,t4,t5,gn1,sn1];have hol6:=hE6.2.1;have hE7:=hE6.app (OB.box 25 [.i .i64 x.kind,.s x.text,.row x.keys.length (x.keys.map .s),.row x.items.length (zab x.items)]);have eV7:=zaD eV6 (OB.box 25 [.i .i64 x.kind,.s x.text,.row x.keys.length (x.keys.map .s),.row x.items.length (zab x.items)]);have eM7:=zaD eM6 (OB.box 25 [.i .i64 x.kind,.s x.text,.row x.keys.length (x.keys.map .s),.row x.items.length (zab x.items)]);have eN7:=zaD eN6 (OB.box 25 [.i .i64 x.kind,.s x.text,.row x.keys.length (x.keys.map .s),.row x.items.length (zab x.items)]);have eX7:(o6++[OB.box 25 [.i .i64 x.kind,.s x.text,.row x.keys.length (x.keys.map .s),.row x.items.length (zab x.items)]])[o6.length]? = some (OB.box 25 [.i .i64 x.kind,.s x.text,.row x.keys.length (x.keys.map .s),.row x.items.length (zab x.items)]):=gn1 _ _;have hq6:=(zf.1 eN6).1;clear hE6 eV6 eM6 eN6;generalize o6.length=r at eX7 hol6 hq6 ⊢;generalize o6++[OB.box 25 [.i .i64 x.kind,.s x.text,.row x.keys.length (x.keys.map .s),.row x.items.length (zab x.items)]]=o7 at hE7 eV7 eM7 eN7 eX7 ⊢;subst hZ;refine zaa fun Z hZ=>?_;refine zaJ (fun o t=>Ext objs o b (rqB m i (orE (orE (orE (orE e er) (thE v zbe)) e2) (if ok=true then 0 else 160)))/\o[objs.length]? = some (OB.box 25 [.i .i64 v.kind,.s v.text,.row v.keys.length (v.keys.map .s),.row v.items.length (zab v.items)])/\o[objs.length+1]? = some (OB.box 46 [.s [],.nil,.nil])/\o[q]? = some (OB.box 46 [.s id,.row l1.length (l1.map .s),.nil])/\o[r]? = some (OB.box 25 [.i .i64 x.kind,.s x.text,.row x.keys.length (x.keys.map .s),.row x.items.length (zab x.items)])/\t.length=50/\t[0]? = some (.p b 0)/\t[3]? = some (.p objs.length 0)/\t[4]? = some (.p (objs.length+1) 0)/\t[5]? = some (.p q 0)/\t[8]? = some (.p r 0)) ?_ ?_
 ·cases ok with
  | true=>
   simp only[sxZ,z6,z7,z8,j4,j5,j6,j7,j8,j9,x0,x6,x7,x8,x9,y4,reduceCtorEq,↓reduceIte,za,hlen,t0,t3,t4,t5,zac,zfv];exact⟨hE7,eV7,eM7,eN7,eX7⟩
  | false=>
   simp only[sxZ,z6,z7,z8,j4,j5,j6,j7,j8,j9,x0,x6,x7,x8,x9,y4,reduceCtorEq,↓reduceIte,za,hlen,t0,t3,t4,t5];refine zad (zbx m i _ 160 b hE7.1 ?_);simp only[sxZ,z6,z7,z8,j4,j5,j6,j7,j8,j9,x0,x6,x7,x8,x9,y4,reduceCtorEq,↓reduceIte,za,hlen,t0,t3,t4,t5,zac];have g1:=zaT eV7 (r:=b) (by omega) (rqB m i (orE (orE (orE (orE e er) (thE v zbe)) e2) 160));have g2:=zaT eM7 (r:=b) (by omega) (rqB m i (orE (orE (orE (orE e er) (thE v zbe)) e2) 160));have g3:=zaT eN7 (r:=b) (by omega) (rqB m i (orE (orE (orE (orE e er) (thE v zbe)) e2) 160));have g4:=zaT eX7 (r:=b) (by omega) (rqB m i (orE (orE (orE (orE e er) (thE v zbe)) e2) 160));simp only[za] at g1 g2 g3 g4;exact⟨hE7.set _,g1,g2,g3,g4⟩
 clear hE7 eV7 eM7 eN7 eX7 hlen t0 t3 t4 t5;rintro o8 t ⟨hE8,eV8,eM8,eN8,eX8,hlen,t0,t3,t4,t5,t8⟩;subst hZ;refine zaa fun Z hZ=>?_
 by_cases c:x.kind=7
 ·rw[if_pos c] at hk ⊢;simp only[sxZ,z6,z7,z8,j4,j5,j6,j7,j8,j9,x0,x6,x7,x8,x9,y4,reduceCtorEq,↓reduceIte,za,hlen,t0,t3,t4,t5,t8,eX8,c];subst hZ;have hl8:=(zf.1 eM8).1;have hE9:=hE8.own (objs.length+1) (OB.box 46 [.s id,.row l1.length (l1.map .s),.nil]) (by omega) hbl;simp only[zaB] at hE9 hk;have hk2:=hk _ hE9;simp only[sxZ,z6,z7,z8,j4,j5,j6,j7,j8,j9,x0,x6,x7,x8,x9,y4,reduceCtorEq,↓reduceIte,za,hlen,t0,t3,t4,t5,t8,eM8,eN8,hl8];exact⟨fun G I y h=>den_ag (fun z hz=>hz) (fun z hz=>zav hz) h,hk2⟩
 rw[if_neg c] at hk ⊢;simp only[sxZ,z6,z7,z8,j4,j5,j6,j7,j8,j9,x0,x6,x7,x8,x9,y4,reduceCtorEq,↓reduceIte,za,hlen,t0,t3,t4,t5,t8,eX8,eV8,c];rw[<-ejv];refine zad (zeY m i v _ zbH true b hv hE8.1 fun o9 hX=>?_);have eM9:=hX.keep eM8 (by omega) rfl;have eN9:=hX.keep eN8 (by omega) hpN;have hE9:=hE8.trans hX;clear hX hE8 eV8 eM8 eN8 eX8;generalize rsD v zbH true=R at hk hE9 ⊢;obtain⟨e4,l2⟩:=R;dsimp only at hk hE9 ⊢;simp only[sxZ,z6,z7,z8,j4,j5,j6,j7,j8,j9,x0,x6,x7,x8,x9,y4,reduceCtorEq,↓reduceIte,za,hlen,t0,t3,t4,t5,t8,eN9];have hEa:=hE9.own q (OB.box 46 [.s id,.row l1.length (l1.map .s),.row l2.length (l2.map .s)]) (by omega) hbl;have eMa:=zaT eM9 (r:=q) (by omega) (OB.box 46 [.s id,.row l1.length (l1.map .s),.row l2.length (l2.map .s)]);have eNa:(o9.set q (OB.box 46 [.s id,.row l1.length (l1.map .s),.row l2.length (l2.map .s)]))[q]? = some (OB.box 46 [.s id,.row l1.length (l1.map .s),.row l2.length (l2.map .s)]):=zk (zf.1 eN9).1;generalize o9.set q (OB.box 46 [.s id,.row l1.length (l1.map .s),.row l2.length (l2.map .s)])=oa at hEa eMa eNa ⊢;subst hZ;have hla:=(zf.1 eMa).1;have hEb:=hEa.own (objs.length+1) (OB.box 46 [.s id,.row l1.length (l1.map .s),.row l2.length (l2.map .s)]) (by omega) hbl;simp only[zaB] at hEb hk;have hk2:=hk _ hEb;simp only[sxZ,z6,z7,z8,j4,j5,j6,j7,j8,j9,x0,x6,x7,x8,x9,y4,reduceCtorEq,↓reduceIte,za,hlen,t0,t3,t4,t5,t8,eMa,eNa,hla];exact⟨fun G I y h=>h,hk2⟩
end
end
section
attribute [local irreducible] run
def hitB (m i id:List UInt8) (y:JV):Bool:=decide ((zeI m i y).1=0)&&decide ((zeI m i y).2=id)
def znU (v:JV):List JV:=(zaG v zb2).1.items++(zaG v zbz).1.items
def selV (v:JV) (id:List UInt8):JV×Bool :=
 if (ddE v).1≠0 then (jvZ,false)
 else match (znU v).find? (hitB (sbD v).2.1 (sbD v).2.2 id) with
  | some y=>(y,true)
  | none=>(jvZ,false)
theorem ddE_sb {v:JV} (h:(ddE v).1=0):(sbD v).1=0:=by
 unfold ddE at h
 by_cases c:(sbD v).1=0
 ·exact c
 ·rw[if_pos c] at h;exact absurd h c
def zmn (v:JV) (k:Nat):List JV:=if k=0 then [] else if k=1 then (zaG v zb2).1.items else znU v
theorem find_hit {p:JV->Bool} {a b:List JV} {y:JV} (ha:∀x∈a,p x=false) (hy:p y=true):(a++y::b).find? p=some y:=by
 rw[List.find?_append,List.find?_eq_none.2 (fun x hx=>by rw[ha x hx];decide),List.find?_cons_of_pos hy];rfl
section
variable [Tabs Tryz.prog] {objs:List OB} {K:List OB->AV->Prop}
theorem sel_k [Shp Tryz.prog] (v:JV) (id:List UInt8) (hv:JOk v) (hj:JBd v) (hb:IdB v) (hk:K objs (zbv (selV v id))):zaf Tryz.prog 13 [.agg (zao v),.s id] objs K:=by
 refine zgf (zbv (selV v id)) ?_;have kz:selV v id=(jvZ,false)->(∀G I y,Den G I (.tup [.agg [.i .i64 0,.s [],.nil,.nil],.b false]) y->Den G I (zbv (selV v id)) y)/\K objs (zbv (selV v id)):=fun he=>⟨fun G I y h=>by rw[he];exact zcF (fun z hz=>den_jv4 (k:=0) (t:=[]) hz) h,hk⟩;have ky:∀y:JV,selV v id=(y,true)->(∀G I z,Den G I (.tup [.agg [.i .i64 y.kind,.s y.text,.row y.keys.length (y.keys.map .s),.row y.items.length (zab y.items)],.b true]) z->Den G I (zbv (selV v id)) z)/\K objs (zbv (selV v id)):=fun y he=>⟨fun G I z h=>by rw[he];unfold zbv;rw[zae y];exact h,hk⟩;refine zaX is_diddoc_Select (by simp only[zan,AV.plain,zaL,Bool.and_self]) fun C _=>?_;rw[c_diddoc_Select];have ejv:=zae v;have hsl:=zkm v;have hsb:=@ddE_sb v;rw[ejv];refine zaa fun Z hZ=>?_;simp only[sxZ,z6,z7,z8,j4,j5,j6,j7,j8,j9,x0,x6,x7,x8,x9,y4,reduceCtorEq,↓reduceIte];subst hZ;refine zaa fun Z hZ=>?_;simp only[sxZ,z6,z7,z8,j4,j5,j6,j7,j8,j9,x0,x6,x7,x8,x9,y4,reduceCtorEq,↓reduceIte];rw[<-ejv];refine zad (dd_k v hv hj hb ?_);unfold selV at kz ky hk ⊢;generalize ddE v=R at kz ky hk hsb ⊢;obtain⟨e,d⟩:=R;dsimp only at kz ky hk hsb ⊢;unfold zmK doc;rw[ejv];dsimp only;simp only[sxZ,z6,z7,z8,j4,j5,j6,j7,j8,j9,x0,x6,x7,x8,x9,y4,reduceCtorEq,↓reduceIte]
 by_cases c:e=0
 rotate_left
 ·rw[if_pos c] at kz hk ⊢;have:=kz rfl;simp only[sxZ,z6,z7,z8,j4,j5,j6,j7,j8,j9,x0,x6,x7,x8,x9,y4,reduceCtorEq,↓reduceIte,c];exact this
 subst c;rw[if_neg (show ¬((0:Int)≠0) by decide)] at kz ky hk ⊢;have hsb:=hsb rfl;simp only[sxZ,z6,z7,z8,j4,j5,j6,j7,j8,j9,x0,x6,x7,x8,x9,y4,reduceCtorEq,↓reduceIte];subst hZ;refine zaa fun Z hZ=>?_;simp only[sxZ,z6,z7,z8,j4,j5,j6,j7,j8,j9,x0,x6,x7,x8,x9,y4,reduceCtorEq,↓reduceIte];rw[<-ejv];refine zad (sub_k v hv hj hb.1 ?_);generalize sbD v=R at kz ky hk hsl hsb ⊢;obtain⟨e,m,i⟩:=R;dsimp only at kz ky hk hsl hsb ⊢;subst hsb;rw[ejv];simp only[sxZ,z6,z7,z8,j4,j5,j6,j7,j8,j9,x0,x6,x7,x8,x9,y4,reduceCtorEq,↓reduceIte];subst hZ;refine zaa fun Z hZ=>?_;simp only[sxZ,z6,z7,z8,j4,j5,j6,j7,j8,j9,x0,x6,x7,x8,x9,y4,reduceCtorEq,↓reduceIte];subst hZ;refine zaa fun Z hZ=>?_;refine zaa fun W hW=>?_;simp only[sxZ,z6,z7,z8,j4,j5,j6,j7,j8,j9,x0,x6,x7,x8,x9,y4,reduceCtorEq,↓reduceIte];subst hW;rw[zaZ];refine zaE (fun n o tm=>∃k:Nat,k<=2/\n=2 - k/\(∀y∈zmn v k,hitB m i id y=false)/\o[0]? = some (OB.box 25 [.i .i64 v.kind,.s v.text,.row v.keys.length (v.keys.map .s),.row v.items.length (zab v.items)])/\o[1]? = some (OB.box 25 [.i .i64 0,.s [],.nil,.nil])/\o[3]? = some (.box 62 [.s m,.s i])/\tm.length=70/\tm[1]? = some (.s id)/\tm[2]? = some (.p 0 0)/\tm[4]? = some (.p 1 0)/\tm[8]? = some (.p 3 0)/\tm[34]? = some (.row 2 [.s [118,101,114,105,102,105,99,97,116,105,111,110,77,101,116,104,111,100],.s [115,101,114,118,105,99,101]])/\tm[35]? = some (.i .i64 2)/\tm[36]? = some (.i .i64 (k:Int))) 2 ⟨0,zd _,rfl,(fun y hy=>by cases hy),rfl,rfl,rfl,rfl,rfl,rfl,rfl,rfl,rfl,rfl,rfl⟩ ?_;rintro n o tm ⟨k,hk2,rfl,hno,o0,o1,o3,hlen,t1,t2,t4,t8,t34,t35,t36⟩;refine zaa fun W hW=>?_
 by_cases hlt:(k:Int)<2
 ·obtain⟨key,hkey,hpart,hrest⟩:∃key,([AV.s [118,101,114,105,102,105,99,97,116,105,111,110,77,101,116,104,111,100],.s [115,101,114,118,105,99,101]]:List AV)[k*1]? = some (.s key)/\zmn v (k+1)=zmn v k++(zaG v key).1.items/\∃post,znU v=zmn v (k+1)++post:=by
   rcases(show k=0\/k=1 by omega) with rfl|rfl
   ·exact⟨zb2,rfl,rfl,(zaG v zbz).1.items,rfl⟩
   ·exact⟨zbz,rfl,rfl,[],(jt _).symm⟩
  simp only[sxZ,z6,z7,z8,j4,j5,j6,j7,j8,j9,x0,x6,x7,x8,x9,y4,reduceCtorEq,↓reduceIte,za,hlen,t35,t36,hlt];subst hW;refine zaa fun W hW=>?_;simp only[sxZ,z6,z7,z8,j4,j5,j6,j7,j8,j9,x0,x6,x7,x8,x9,y4,reduceCtorEq,↓reduceIte,za,hlen];subst hW;refine zaa fun Y hY=>?_;rw[zaZ];refine zaa fun W hW=>?_;simp only[sxZ,z6,z7,z8,j4,j5,j6,j7,j8,j9,x0,x6,x7,x8,x9,y4,reduceCtorEq,↓reduceIte,za,hlen,t34,t36,hkey]
  (and_intros<;>try omega)
  subst hW;refine zaa fun W hW=>?_;simp only[sxZ,z6,z7,z8,j4,j5,j6,j7,j8,j9,x0,x6,x7,x8,x9,y4,reduceCtorEq,↓reduceIte,za,hlen,t2,o0];rw[<-ejv];refine zad (zli v key hv hj ?_);have hits:=hb.it hv hj key;have hbd:=(zlh hj key).lens.2;generalize zaG v key=R at hpart hits hbd ⊢;obtain⟨x,ok⟩:=R;unfold zbv;dsimp only at hpart hits hbd ⊢;rw[zae x];simp only[sxZ,z6,z7,z8,j4,j5,j6,j7,j8,j9,x0,x6,x7,x8,x9,y4,reduceCtorEq,↓reduceIte,za,hlen,gn1,sn1];have a0:=zaD o0 (OB.box 25 [.i .i64 x.kind,.s x.text,.row x.keys.length (x.keys.map .s),.row x.items.length (zab x.items)]);have a1:=zaD o1 (OB.box 25 [.i .i64 x.kind,.s x.text,.row x.keys.length (x.keys.map .s),.row x.items.length (zab x.items)]);have a3:=zaD o3 (OB.box 25 [.i .i64 x.kind,.s x.text,.row x.keys.length (x.keys.map .s),.row x.items.length (zab x.items)]);have aX:(o++[OB.box 25 [.i .i64 x.kind,.s x.text,.row x.keys.length (x.keys.map .s),.row x.items.length (zab x.items)]])[o.length]? = some (OB.box 25 [.i .i64 x.kind,.s x.text,.row x.keys.length (x.keys.map .s),.row x.items.length (zab x.items)]):=gn1 _ _;generalize o.length=p at aX ⊢;generalize o++[OB.box 25 [.i .i64 x.kind,.s x.text,.row x.keys.length (x.keys.map .s),.row x.items.length (zab x.items)]]=oa at a0 a1 a3 aX ⊢;clear o0 o1 o3;subst hW;refine zaa fun W hW=>?_;simp only[sxZ,z6,z7,z8,j4,j5,j6,j7,j8,j9,x0,x6,x7,x8,x9,y4,reduceCtorEq,↓reduceIte,za,hlen,aX];subst hW;clear aX;generalize x.items=its at hpart hits hbd ⊢;have hl4:=zaI its;rw[zaZ];refine zaE (fun n o tm=>∃j:Nat,j<=its.length/\n=its.length - j/\(∀y∈its.take j,hitB m i id y=false)/\o[0]? = some (OB.box 25 [.i .i64 v.kind,.s v.text,.row v.keys.length (v.keys.map .s),.row v.items.length (zab v.items)])/\o[1]? = some (OB.box 25 [.i .i64 0,.s [],.nil,.nil])/\o[3]? = some (.box 62 [.s m,.s i])/\tm.length=70/\tm[1]? = some (.s id)/\tm[2]? = some (.p 0 0)/\tm[4]? = some (.p 1 0)/\tm[8]? = some (.p 3 0)/\tm[34]? = some (.row 2 [.s [118,101,114,105,102,105,99,97,116,105,111,110,77,101,116,104,111,100],.s [115,101,114,118,105,99,101]])/\tm[35]? = some (.i .i64 2)/\tm[36]? = some (.i .i64 (k:Int))/\tm[47]? = some (.row its.length (zab its))/\tm[48]? = some (.i .i64 (its.length:Int))/\tm[49]? = some (.i .i64 (j:Int))) its.length ⟨0,zd _,rfl,(fun y hy=>by cases hy),a0,a1,a3,?_⟩ ?_
  ·simp only[sxZ,z6,z7,z8,j4,j5,j6,j7,j8,j9,x0,x6,x7,x8,x9,y4,reduceCtorEq,↓reduceIte,zh,za,hlen,t1,t2,t4,t8,t34,t35,t36,yd,and_self]
  clear hlen t1 t2 t4 t8 t34 t35 t36 a0 a1 a3 tm;rintro n o tm ⟨j,hjl,rfl,hnj,o0,o1,o3,hlen,t1,t2,t4,t8,t34,t35,t36,t47,t48,t49⟩;refine zaa fun W hW=>?_
  by_cases hlt2:(j:Int)<(its.length:Int)
  ·have hi':j<its.length:=by omega
   have kv:=zd9 hi';obtain⟨y1,y2,y3⟩:=hits its[j] (qw hi');have htk:its.take (j+1)=its.take j++[its[j]]:=by rw[ye,zl hi'];rfl
   have hsp:its=its.take j++its[j]::its.drop (j+1):=by rw[<-jq hi',List.take_append_drop]
   generalize its[j]=y at kv htk hsp y1 y2 y3;have ey:=zae y;rw[ey] at kv;simp only[sxZ,z6,z7,z8,j4,j5,j6,j7,j8,j9,x0,x6,x7,x8,x9,y4,reduceCtorEq,↓reduceIte,za,hlen,t48,t49,hlt2];subst hW;refine zaa fun W hW=>?_;simp only[sxZ,z6,z7,z8,j4,j5,j6,j7,j8,j9,x0,x6,x7,x8,x9,y4,reduceCtorEq,↓reduceIte,za,hlen];subst hW;refine zaa fun U hU=>?_;rw[zaZ];refine zaa fun W hW=>?_;simp only[sxZ,z6,z7,z8,j4,j5,j6,j7,j8,j9,x0,x6,x7,x8,x9,y4,reduceCtorEq,↓reduceIte,za,hlen,t47,t49,kv]
   (and_intros<;>try omega)
   simp only[sxZ,z6,z7,z8,j4,j5,j6,j7,j8,j9,x0,x6,x7,x8,x9,y4,reduceCtorEq,↓reduceIte,za,hlen,gn1,sn1];have b0:=zaD o0 (OB.box 25 [.i .i64 y.kind,.s y.text,.row y.keys.length (y.keys.map .s),.row y.items.length (zab y.items)]);have b1:=zaD o1 (OB.box 25 [.i .i64 y.kind,.s y.text,.row y.keys.length (y.keys.map .s),.row y.items.length (zab y.items)]);have b3:=zaD o3 (OB.box 25 [.i .i64 y.kind,.s y.text,.row y.keys.length (y.keys.map .s),.row y.items.length (zab y.items)]);have bY:(o++[OB.box 25 [.i .i64 y.kind,.s y.text,.row y.keys.length (y.keys.map .s),.row y.items.length (zab y.items)]])[o.length]? = some (OB.box 25 [.i .i64 y.kind,.s y.text,.row y.keys.length (y.keys.map .s),.row y.items.length (zab y.items)]):=gn1 _ _;generalize o.length=p at bY ⊢;generalize o++[OB.box 25 [.i .i64 y.kind,.s y.text,.row y.keys.length (y.keys.map .s),.row y.items.length (zab y.items)]]=ob at b0 b1 b3 bY ⊢;clear o0 o1 o3;subst hW;refine zaa fun W hW=>?_;simp only[sxZ,z6,z7,z8,j4,j5,j6,j7,j8,j9,x0,x6,x7,x8,x9,y4,reduceCtorEq,↓reduceIte,za,hlen,t8,bY,b3];rw[<-ey];refine zad (mid_k m i y y1 y2 (by omega) (by omega) y3 (resL m i) ?_);have hh:hitB m i id y=(decide ((zeI m i y).1=0)&&decide ((zeI m i y).2=id)):=rfl;generalize zeI m i y=R at hh ⊢;obtain⟨e2,s⟩:=R;dsimp only at hh ⊢;simp only[sxZ,z6,z7,z8,j4,j5,j6,j7,j8,j9,x0,x6,x7,x8,x9,y4,reduceCtorEq,↓reduceIte,za,hlen];subst hW;have hl1:=(zf.1 b1).1
   by_cases c:e2=0
   ·subst c
    by_cases cs:s=id
    ·subst cs;have:=ky y (by
      obtain⟨post,hpost⟩:=hrest;have e9:∀(a b:List JV),its=a++y::b->zmn v k++its++post=(zmn v k++a)++y::(b++post):=fun a b h=>by rw[h];simp
      rw[hpost,hpart,e9 _ _ hsp,find_hit (fun z hz=>?_) (by rw[hh];simp)];rcases zy.1 hz with h|h
      ·exact hno z h
      ·exact hnj z h)
     simp only[sxZ,z6,z7,z8,j4,j5,j6,j7,j8,j9,x0,x6,x7,x8,x9,y4,reduceCtorEq,↓reduceIte,za,hlen,t1,t2,t4,t8,bY,b1,hl1,zbc,zch];exact this
    ·simp only[sxZ,z6,z7,z8,j4,j5,j6,j7,j8,j9,x0,x6,x7,x8,x9,y4,reduceCtorEq,↓reduceIte,za,hlen,t1,cs];subst hU;simp only[sxZ,z6,z7,z8,j4,j5,j6,j7,j8,j9,x0,x6,x7,x8,x9,y4,reduceCtorEq,↓reduceIte,za,hlen,t1,t2,t4,t8,t34,t35,t36,t47,t48,t49];refine⟨by omega,its.length - (j+1),by omega,j+1,by omega,rfl,?_,b0,b1,b3,rfl⟩;intro z hz;rw[htk] at hz;rcases zy.1 hz with h|h
     ·exact hnj z h
     ·rw[xy] at h;subst h;rw[hh];simp[cs]
   ·simp only[sxZ,z6,z7,z8,j4,j5,j6,j7,j8,j9,x0,x6,x7,x8,x9,y4,reduceCtorEq,↓reduceIte,za,hlen,t1,c];subst hU;simp only[sxZ,z6,z7,z8,j4,j5,j6,j7,j8,j9,x0,x6,x7,x8,x9,y4,reduceCtorEq,↓reduceIte,za,hlen,t1,t2,t4,t8,t34,t35,t36,t47,t48,t49];refine⟨by omega,its.length - (j+1),by omega,j+1,by omega,rfl,?_,b0,b1,b3,rfl⟩;intro z hz;rw[htk] at hz;rcases zy.1 hz with h|h
    ·exact hnj z h
    ·rw[xy] at h;subst h;rw[hh];simp[c]
  have hn:j=its.length:=by omega
  rw[hn,jk (ze _)] at hnj;simp only[sxZ,z6,z7,z8,j4,j5,j6,j7,j8,j9,x0,x6,x7,x8,x9,y4,reduceCtorEq,↓reduceIte,za,hlen,t48,t49,hlt2];subst hW;simp only[sxZ,z6,z7,z8,j4,j5,j6,j7,j8,j9,x0,x6,x7,x8,x9,y4,reduceCtorEq,↓reduceIte,za,hlen];subst hY;simp only[sxZ,z6,z7,z8,j4,j5,j6,j7,j8,j9,x0,x6,x7,x8,x9,y4,reduceCtorEq,↓reduceIte,za,hlen,t1,t2,t4,t8,t34,t35,t36];refine⟨by omega,2 - (k+1),by omega,k+1,by omega,rfl,?_,by rw[ejv];exact o0,o1,o3,rfl⟩;rw[hpart];intro z hz;rcases zy.1 hz with h|h
  ·exact hno z h
  ·exact hnj z h
 have hn:k=2:=by omega
 subst hn;have:=kz (by
  rw[List.find?_eq_none.2 fun z hz=>by rw[hno z hz];decide])
 have hl1:=(zf.1 o1).1;simp only[sxZ,z6,z7,z8,j4,j5,j6,j7,j8,j9,x0,x6,x7,x8,x9,y4,reduceCtorEq,↓reduceIte,za,hlen,t35,t36,hlt];subst hW;simp only[sxZ,z6,z7,z8,j4,j5,j6,j7,j8,j9,x0,x6,x7,x8,x9,y4,reduceCtorEq,↓reduceIte,za,hlen];subst hZ;simp only[sxZ,z6,z7,z8,j4,j5,j6,j7,j8,j9,x0,x6,x7,x8,x9,y4,reduceCtorEq,↓reduceIte,za,hlen,t4,o1,hl1];exact this
end
end
section
attribute [local irreducible] run
theorem zbD {s:List UInt8} (hs:s.length<=1048576) (ρ:Rs):(zag s ρ).1.2.1.length<=1048576:=by
 unfold zag
 split
 ·exact zd _
 split
 ·exact zd _
 ·rename_i h;have h:(zbt s ρ.pos).2.2=0:=by simpa using h
  by_cases h0:0<=ρ.pos
  ·have:=(zhR h0 h).2.1;show (zbt s ρ.pos).1.2.1.length<=_;omega
  ·exfalso;unfold zbt at h;rw[if_pos (.inl (by omega))] at h;exact absurd h (by decide)
theorem zb9 {k:Int} {t:List UInt8} (hk:(Lit.int .i64 k).wf=true) (ht:t.length<=1048576):JOk (.mk k t [] []):=by
 rw[JOk];exact⟨hk,by omega,by simp,by simp,by simp,by rw[zdU];trivial⟩
theorem zhW:∀{a b:List JV},zdU a->zdU b->zdU (a++b)
 | [],b,_,hb=>hb
 | v::l,b,ha,hb=>by
  rw[zdU] at ha;rw[qy,zdU];exact⟨ha.1,zhW ha.2 hb⟩
def OkV (val:Rs->Tk->JV×Rs):Prop:=∀ρ t,t.2.1.length<=1048576->JOk (val ρ t).1
theorem zkJ {s:List UInt8} (hs:s.length<=1048576) {val:Rs->Tk->JV×Rs} (hv:OkV val):∀(n:Nat) (ρ:Rs) (t:Tk) (acc:List JV),t.2.1.length<=1048576->zdU acc->zdU (zcI s val n ρ t acc).1
 | 0,ρ,t,acc,_,h=>h
 | n+1,ρ,t,acc,ht,h=>by
  rw[zcI]
  split
  ·exact h
  dsimp only;have h1:=hv ρ t ht;generalize val ρ t=a at h1 ⊢;have h2:zdU (acc++[a.1]):=zhW h (by rw[zdU,zdU];exact⟨h1,trivial⟩)
  split
  ·exact h2
  ·exact zkJ hs hv n _ _ _ (zbD hs _) h2
theorem zku {s:List UInt8} (hs:s.length<=1048576) {val:Rs->Tk->JV×Rs} (hv:OkV val):∀(n:Nat) (ρ:Rs) (t:Tk) (ks:List (List UInt8)) (its:List JV),t.2.1.length<=1048576->(∀k∈ks,k.length<=1048576)->zdU its->zdU (zbU s val n ρ t ks its).1.2/\∀k∈(zbU s val n ρ t ks its).1.1,k.length<=1048576
 | 0,ρ,t,ks,its,_,hk,h=>⟨h,hk⟩
 | n+1,ρ,t,ks,its,ht,hk,h=>by
  rw[zbU]
  split
  ·exact⟨h,hk⟩
  dsimp only;generalize zag s (zkF ρ t ks)=a;have hb:=zbD hs (za9 a.2 a.1 58);generalize zag s (za9 a.2 a.1 58)=b at hb ⊢;have h1:=hv b.2 b.1 hb;generalize val b.2 b.1=v at h1 ⊢;have h2:zdU (its++[v.1]):=zhW h (by rw[zdU,zdU];exact⟨h1,trivial⟩);have hk2:∀k∈ks++[t.2.1],k.length<=1048576:=by
   intro k hm;rcases zy.1 hm with hm|hm
   ·exact hk k hm
   ·rw[xy] at hm;subst hm;exact ht
  generalize zag s v.2=c
  split
  ·exact⟨h2,hk2⟩
  ·exact zku hs hv n _ _ _ _ (zbD hs _) hk2 h2
theorem word_wf (l:List UInt8):(Lit.int .i64 (zfs l)).wf=true:=by
 unfold zfs
 split
 ·decide
 split
 ·decide
 ·decide
theorem zkV (l:List UInt8):(zcU l).2.length<=100:=by
 unfold zcU
 split
 ·exact zd _
 ·exact can_len _ _
theorem zf3 {s:List UInt8} (hs:s.length<=1048576):∀(f d:Nat),OkV (fun ρ t=>zat s f ρ t d)
 | 0,d=>fun ρ t _=>zb9 (by decide) (zd _)
 | f+1,d=>fun ρ t ht=>by
  dsimp only;rw[zat]
  split
  ·exact zb9 (by decide) (zd _)
  split
  ·exact zb9 (by decide) (zd _)
  split
  ·exact zb9 (by decide) (zd _)
  split
  ·exact zb9 (word_wf _) (zd _)
  split
  ·unfold zgD;dsimp only
   split
   ·exact zb9 (by decide) (zd _)
   ·have h1:=zkJ hs (zf3 hs f (d+1)) (s.length+2) (zag s (zaW ρ t)).2 (zag s (zaW ρ t)).1 [] (zbD hs _) (by rw[zdU];trivial);have h2:=(zhH (s:=s) (zdu hs f (d+1)) (s.length+2) (zag s (zaW ρ t)).2 (zag s (zaW ρ t)).1 [] (by rw[zds];trivial)).2;rw[JOk];simp only[qj] at h2;exact⟨by decide,by simp,by simp,by simp,by omega,h1⟩
  split
  ·unfold zgF;dsimp only
   split
   ·exact zb9 (by decide) (zd _)
   ·obtain⟨h1,h3⟩:=zku hs (zf3 hs f (d+1)) (s.length+2) (zag s (zaW ρ t)).2 (zag s (zaW ρ t)).1 [] [] (zbD hs _) (by simp) (by rw[zdU];trivial);have h2:=(zhD (s:=s) (zdu hs f (d+1)) (s.length+2) (zag s (zaW ρ t)).2 (zag s (zaW ρ t)).1 [] [] (by rw[zds];trivial)).2;rw[JOk];simp only[qj] at h2;exact⟨by decide,by simp,by have:=h2.2;omega,fun k hm=>by have:=h3 k hm;omega,by have:=h2.1;omega,h1⟩
  split
  ·exact zb9 (by decide) (by have:=zkV t.2.1;omega)
  ·exact zb9 (by decide) ht
theorem znf {s:List UInt8} (hs:s.length<=1048576):JOk (zcC s).1:=by
 unfold zcC;rw[if_neg (by omega)];dsimp only;generalize hρ:(if (zag s (zat s 65 (zag s rs0).2 (zag s rs0).1 0).2).2.fail=0/\¬(zag s (zat s 65 (zag s rs0).2 (zag s rs0).1 0).2).1.1=1 then za4 (zag s (zat s 65 (zag s rs0).2 (zag s rs0).1 0).2).2 (zag s (zat s 65 (zag s rs0).2 (zag s rs0).1 0).2).1.2.2 140 else (zag s (zat s 65 (zag s rs0).2 (zag s rs0).1 0).2).2)=ρ
 by_cases c:¬ρ.fail=0
 ·rw[if_pos c];exact zb9 (by decide) (zd _)
 ·rw[if_neg c];exact zf3 hs 65 0 _ _ (zbD hs _)
end
section
attribute [local irreducible] run
mutual
def JTx:JV->Prop
 | .mk k t ks its=>t.length<=1048576/\zfO its
def zfO:List JV->Prop
 | []=>True
 | v::l=>JTx v/\zfO l
end
theorem zoK:∀{l:List JV} (h:zfO l) {i:Nat} (hi:i<l.length),JTx l[i]
 | a::l,h,0,hi=>by rw[zfO] at h;exact h.1
 | a::l,h,i+1,hi=>by rw[zfO] at h;exact zoK h.2 (by simpa using hi)
theorem JTx.its {v:JV} (h:JTx v) {i:Nat} (hi:i<v.items.length):JTx v.items[i]:=by
 cases v with
 | mk k t ks its=>rw[JTx] at h;exact zoK h.2 hi
theorem JTx.txt {v:JV} (h:JTx v):v.text.length<=1048576:=by
 cases v;rw[JTx] at h;exact h.1
theorem zb8 {k:Int} {t:List UInt8} (ht:t.length<=1048576):JTx (.mk k t [] []):=by
 rw[JTx];exact⟨ht,by rw[zfO];trivial⟩
theorem zhV:∀{a b:List JV},zfO a->zfO b->zfO (a++b)
 | [],b,_,hb=>hb
 | v::l,b,ha,hb=>by
  rw[zfO] at ha;rw[qy,zfO];exact⟨ha.1,zhV ha.2 hb⟩
def TxV (val:Rs->Tk->JV×Rs):Prop:=∀ρ t,t.2.1.length<=1048576->JTx (val ρ t).1
theorem zkI {s:List UInt8} (hs:s.length<=1048576) {val:Rs->Tk->JV×Rs} (hv:TxV val):∀(n:Nat) (ρ:Rs) (t:Tk) (acc:List JV),t.2.1.length<=1048576->zfO acc->zfO (zcI s val n ρ t acc).1
 | 0,ρ,t,acc,_,h=>h
 | n+1,ρ,t,acc,ht,h=>by
  rw[zcI]
  split
  ·exact h
  dsimp only;have h1:=hv ρ t ht;generalize val ρ t=a at h1 ⊢;have h2:zfO (acc++[a.1]):=zhV h (by rw[zfO,zfO];exact⟨h1,trivial⟩)
  split
  ·exact h2
  ·exact zkI hs hv n _ _ _ (zbD hs _) h2
theorem zkt {s:List UInt8} (hs:s.length<=1048576) {val:Rs->Tk->JV×Rs} (hv:TxV val):∀(n:Nat) (ρ:Rs) (t:Tk) (ks:List (List UInt8)) (its:List JV),t.2.1.length<=1048576->zfO its->zfO (zbU s val n ρ t ks its).1.2
 | 0,ρ,t,ks,its,_,h=>h
 | n+1,ρ,t,ks,its,ht,h=>by
  rw[zbU]
  split
  ·exact h
  dsimp only;generalize zag s (zkF ρ t ks)=a;have hb:=zbD hs (za9 a.2 a.1 58);generalize zag s (za9 a.2 a.1 58)=b at hb ⊢;have h1:=hv b.2 b.1 hb;generalize val b.2 b.1=v at h1 ⊢;have h2:zfO (its++[v.1]):=zhV h (by rw[zfO,zfO];exact⟨h1,trivial⟩);generalize zag s v.2=c
  split
  ·exact h2
  ·exact zkt hs hv n _ _ _ _ (zbD hs _) h2
theorem zf2 {s:List UInt8} (hs:s.length<=1048576):∀(f d:Nat),TxV (fun ρ t=>zat s f ρ t d)
 | 0,d=>fun ρ t _=>zb8 (zd _)
 | f+1,d=>fun ρ t ht=>by
  dsimp only;rw[zat]
  split
  ·exact zb8 (zd _)
  split
  ·exact zb8 (zd _)
  split
  ·exact zb8 (zd _)
  split
  ·exact zb8 (zd _)
  split
  ·unfold zgD;dsimp only
   split
   ·exact zb8 (zd _)
   ·have h1:=zkI hs (zf2 hs f (d+1)) (s.length+2) (zag s (zaW ρ t)).2 (zag s (zaW ρ t)).1 [] (zbD hs _) (by rw[zfO];trivial);rw[JTx];exact⟨by simp,h1⟩
  split
  ·unfold zgF;dsimp only
   split
   ·exact zb8 (zd _)
   ·have h1:=zkt hs (zf2 hs f (d+1)) (s.length+2) (zag s (zaW ρ t)).2 (zag s (zaW ρ t)).1 [] [] (zbD hs _) (by rw[zfO];trivial);rw[JTx];exact⟨by simp,h1⟩
  split
  ·exact zb8 (by have:=zkV t.2.1;omega)
  ·exact zb8 ht
theorem zne {s:List UInt8} (hs:s.length<=1048576):JTx (zcC s).1:=by
 unfold zcC;rw[if_neg (by omega)];dsimp only;generalize hρ:(if (zag s (zat s 65 (zag s rs0).2 (zag s rs0).1 0).2).2.fail=0/\¬(zag s (zat s 65 (zag s rs0).2 (zag s rs0).1 0).2).1.1=1 then za4 (zag s (zat s 65 (zag s rs0).2 (zag s rs0).1 0).2).2 (zag s (zat s 65 (zag s rs0).2 (zag s rs0).1 0).2).1.2.2 140 else (zag s (zat s 65 (zag s rs0).2 (zag s rs0).1 0).2).2)=ρ
 by_cases c:¬ρ.fail=0
 ·rw[if_pos c];exact zb8 (zd _)
 ·rw[if_neg c];exact zf2 hs 65 0 _ _ (zbD hs _)
theorem jtx_z:JTx jvZ:=by rw[jvZ,JTx];exact⟨by simp,by rw[zfO];trivial⟩
theorem zjX {v:JV} (hv:JTx v) (key:List UInt8):JTx (zaG v key).1:=by
 unfold zaG
 split
 ·split
  ·rename_i x hx;obtain⟨hi,rfl⟩:=zf.1 hx;exact hv.its hi
  ·exact jtx_z
 ·exact jtx_z
end
section
attribute [local irreducible] run
def vB14 (X Y:AV):OB:=.box 25 [.i .i64 7,.s [],X,Y]
section
variable [Tabs Tryz.prog] {objs:List OB} {K:List OB->AV->Prop} {L:List (Nat×OB)}
theorem znF {X Y:AV} {R1 R2:List (Nat×OB)} (ks:List (List UInt8)) (its:List JV) (key:List UInt8) (hl:its.length=ks.length) (hlen0:ks.length<=10000000) (hX:SlO 9 1 ks.length (ks.map .s) X R1) (hY:SlO 25 4 its.length (zab its) Y R2) (hO:zaS (R1++(R2++L)) objs)
  (h1:key∈ks->∀o w,zaS (R1++(R2++L)) o->K o (.tup [.agg (zao w),.b true])) (h2:¬key∈ks->∀o,zaS (R1++(R2++L)) o->K o (.tup [.agg [.i .i64 0,.s [],.nil,.nil],.b false])):zaf Tryz.prog 42 [.agg [.i .i64 7,.s [],X,Y],.s key] objs K:=by
 refine zcj is_ref14_Get fun C _=>?_;rw[c_ref14_Get];have hO2:=(hO.new (vB14 X Y)).new zvB;unfold vB14 zvB at hO2;refine zaa fun Z hZ=>?_;have flatX:X.flat=true:=by rcases hX with ⟨_,_,rfl,_⟩|⟨_,_,rfl,_⟩<;>rfl
 have flatY:Y.flat=true:=by rcases hY with ⟨_,_,rfl,_⟩|⟨_,_,rfl,_⟩<;>rfl
 have flatV:(AV.agg [.i .i64 7,.s [],X,Y]).flat=true:=by
  rcases hX with ⟨_,_,rfl,_⟩|⟨_,_,rfl,_⟩<;>rcases hY with ⟨_,_,rfl,_⟩|⟨_,_,rfl,_⟩<;>rfl
 simp only[sxZ,z6,z7,z8,j4,j5,j6,j7,j8,j9,x0,x6,x7,x8,x9,y4,reduceCtorEq,↓reduceIte,flatV];have elen:(objs++[OB.box 25 [.i .i64 7,.s [],X,Y]]).length=objs.length+1:=by simp
 rw[elen] at hO2;generalize objs.length=qv at hO2 ⊢;generalize objs++[OB.box 25 [.i .i64 7,.s [],X,Y]]++[OB.box 25 [.i .i64 0,.s [],.nil,.nil]]=o at hO2 ⊢;have e0:=hO2.get (i:=qv) (x:=.box 25 [.i .i64 7,.s [],X,Y]) (by simp);have e1:=hO2.get (i:=qv+1) (x:=.box 25 [.i .i64 0,.s [],.nil,.nil]) (by simp);have gs:∀x,(o.set (qv+1) x)[qv+1]? = some x:=fun x=>zk (hO2.lt (i:=qv+1) (x:=.box 25 [.i .i64 0,.s [],.nil,.nil]) (by simp));have fin:∀x,zaS (R1++(R2++L)) (o.set (qv+1) x):=fun x=>(zaS.set (A:=[]) x hO2).sub ((jj _ _).trans (jj _ _));subst hZ;refine zaa fun Z hZ=>?_;simp only[sxZ,z6,z7,z8,j4,j5,j6,j7,j8,j9,x0,x6,x7,x8,x9,y4,reduceCtorEq,↓reduceIte,e0,decide_true,Bool.not_true];subst hZ;refine zaa fun Z hZ=>?_;refine zaa fun W hW=>?_;refine zaJ (fun o' tm=>o=o'/\tm.length=38/\tm[1]? = some (.s key)/\tm[2]? = some (.p qv 0)/\tm[4]? = some (.p (qv+1) 0)/\tm[13]? = some (.i .i64 (ks.length:Int))/\tm[14]? = some (.i .i64 0)) ?_ ?_
 ·rcases id hX with ⟨z1,z2,rfl,_⟩|⟨b1,g1,rfl,rfl⟩
  ·simp only[sxZ,z6,z7,z8,j4,j5,j6,j7,j8,j9,x0,x6,x7,x8,x9,y4,reduceCtorEq,↓reduceIte,zac,e0,z1,yd,and_self]
  ·have eb1:=hO2.get (i:=b1) (x:=.orow 9 1 g1 ks.length (ks.map .s)) (by simp);simp only[sxZ,z6,z7,z8,j4,j5,j6,j7,j8,j9,x0,x6,x7,x8,x9,y4,reduceCtorEq,↓reduceIte,zac,e0,eb1,and_self]
 rintro _ tm ⟨rfl,hlen,t1,t2,t4,t13,t14⟩;subst hW;rw[zaZ];refine zaE (fun n o' tm=>∃i:Nat,i<=ks.length/\n=ks.length - i/\o=o'/\(∀j,j<i->ks[j]?≠some key)/\tm.length=38/\tm[1]? = some (.s key)/\tm[2]? = some (.p qv 0)/\tm[4]? = some (.p (qv+1) 0)/\tm[13]? = some (.i .i64 (ks.length:Int))/\tm[14]? = some (.i .i64 (i:Int))) ks.length ⟨0,zd _,rfl,rfl,fun j h=>by omega,hlen,t1,t2,t4,t13,t14⟩ ?_;clear hlen t1 t2 t4 t13 t14;rintro n _ tm ⟨i,hi,rfl,rfl,hall,hlen,t1,t2,t4,t13,t14⟩;refine zaa fun W hW=>?_
 by_cases hlt:(i:Int)<(ks.length:Int)
 ·have hi':i<ks.length:=by omega
  have hi2:i<its.length:=by omega
  rcases hX with ⟨z1,_⟩|⟨b1,g1,rfl,rfl⟩
  ·omega
  rcases hY with ⟨z1,_⟩|⟨b2,g2,rfl,rfl⟩
  ·omega
  have eb1:=hO2.get (i:=b1) (x:=.orow 9 1 g1 ks.length (ks.map .s)) (by simp);have eb2:=hO2.get (i:=b2) (x:=.orow 25 4 g2 its.length (zab its)) (by simp);have kv:(ks.map AV.s)[i*1]? = some (.s ks[i]):=by rw[xf,qz,zl hi'];rfl
  have kv2:ks[i]? = some ks[i]:=zl hi';have kv3:ks[i]∈ks:=qw hi';generalize ks[i]=x at kv kv2 kv3;simp only[sxZ,z6,z7,z8,j4,j5,j6,j7,j8,j9,x0,x6,x7,x8,x9,y4,reduceCtorEq,↓reduceIte,za,hlen,t1,t2,t4,t13,t14,hlt];subst hW;refine zaa fun W hW=>?_;simp only[sxZ,z6,z7,z8,j4,j5,j6,j7,j8,j9,x0,x6,x7,x8,x9,y4,reduceCtorEq,↓reduceIte,za,hlen];subst hW;refine zaa fun V hV=>?_;rw[zaZ];refine zaa fun W hW=>?_;simp only[sxZ,z6,z7,z8,j4,j5,j6,j7,j8,j9,x0,x6,x7,x8,x9,y4,reduceCtorEq,↓reduceIte,za,hlen,t14];subst hW;refine zaa fun W hW=>?_
  by_cases c2:x=key
  ·have hlt2:(i:Int)<(its.length:Int):=by omega
   have jv:=zd9 hi2;have jvl:=zaI its;have hw:=fun o ho=>h1 (by rw[<-c2];exact kv3) o its[i] ho;have hq:=zae its[i];rw[hq] at jv;simp only[sxZ,z6,z7,z8,j4,j5,j6,j7,j8,j9,x0,x6,x7,x8,x9,y4,reduceCtorEq,↓reduceIte,za,hlen,t1,t2,e0,eb1,eb2,kv,qm,c2,hlt2,decide_true];refine⟨⟨by omega,by omega⟩,?_⟩;subst hW;simp only[sxZ,z6,z7,z8,j4,j5,j6,j7,j8,j9,x0,x6,x7,x8,x9,y4,reduceCtorEq,↓reduceIte,za,hlen,t1,t2,t4,e0,e1,eb2,jv,gs];refine⟨⟨by omega,by omega⟩,by omega,?_⟩;rw[<-hq];exact hw _ (fin _)
  ·simp only[sxZ,z6,z7,z8,j4,j5,j6,j7,j8,j9,x0,x6,x7,x8,x9,y4,reduceCtorEq,↓reduceIte,za,hlen,t1,t2,e0,eb1,kv,qm,c2,decide_false];refine⟨⟨by omega,by omega⟩,?_⟩;subst hW;simp only[sxZ,z6,z7,z8,j4,j5,j6,j7,j8,j9,x0,x6,x7,x8,x9,y4,reduceCtorEq,↓reduceIte,za,hlen,t1,t2,t4];subst hV;simp only[sxZ,z6,z7,z8,j4,j5,j6,j7,j8,j9,x0,x6,x7,x8,x9,y4,reduceCtorEq,↓reduceIte,za,hlen,t1,t2,t4,t13,t14];refine⟨by omega,ks.length - (i+1),by omega,i+1,by omega,rfl,fun j hj=>?_,rfl⟩
   by_cases e:j=i
   ·subst e;rw[kv2];intro h;injection h with h;exact c2 h
   ·exact hall j (by omega)
 simp only[sxZ,z6,z7,z8,j4,j5,j6,j7,j8,j9,x0,x6,x7,x8,x9,y4,reduceCtorEq,↓reduceIte,za,hlen,t1,t2,t4,t13,t14,hlt];subst hW;subst hZ;simp only[sxZ,z6,z7,z8,j4,j5,j6,j7,j8,j9,x0,x6,x7,x8,x9,y4,reduceCtorEq,↓reduceIte,za,hlen,t1,t2,t4,t13,t14,hlt,e1,gs];refine h2 (fun h=>?_) _ (fin _);obtain⟨j,hj⟩:=List.mem_iff_getElem?.1 h;exact hall j (by have:=(zf.1 hj).1;omega) hj
end
end
end Go.Proofs.YtceenajkieomoaaGreatDoor
