/- The texts that the proofs of these statements reach, in their order, as few files. -/
import Derived.Deep.RegionLaw
import Derived.Deep.RegionHeldLaw
import Derived.Deep.DrawnRows
import Derived.Lib.Join
import Derived.Lib.LastIndexByte
import Derived.ProofKit
import Derived.OpenShut
import Derived.ShutString
import Derived.Carry
import Derived.WideKeyArgs
import Derived.SizedLaws
import Derived.Lib.Split
import Derived.Lib.IndexMore
import Derived.Lib.Builder
import Derived.Lib.UnsafeStr
import Derived.Shelf.RegionOpenPlain
import Derived.Laws.Externs
import Derived.Lib.SplitLaws
import Derived.Test.YtcpldfimbhdfdaaGreatDoorProg
import Derived.Laws.BitsAllLaws
import Derived.Laws.BitsLemmas
import Derived.Test.YtcpldfimbhdfdaaGreatDoorPw6
set_option linter.unusedVariables false
set_option linter.unusedSimpArgs false
set_option maxRecDepth 100000
namespace Go.Proofs.YtcpldfimbhdfdaaGreatDoor
open Go.RowKit
open Lib renaming hasPrefix->zz
open List renaming eq_nil_of_length_eq_zero->qq, length_cons->qk
def zff:List UInt8->List UInt8
 | []=>[]
 | x::t=>if x=47 then t else zff t
def zd4 (l:List UInt8):List UInt8:=(zff l.reverse).reverse
def segN (l:List UInt8):Nat:=1+(zaB (l.drop 1)).length
def zaJ (i o:List UInt8):List UInt8×List UInt8 :=
 if zz i [46,46,47]=true then (i.drop 3,o)
 else if zz i [46,47]=true then (i.drop 2,o)
 else if zz i [47,46,47]=true then (i.drop 2,o)
 else if i=[47,46] then ([47],o)
 else if zz i [47,46,46,47]=true then (i.drop 3,zd4 o)
 else if i=[47,46,46] then ([47],zd4 o)
 else if i=[46]\/i=[46,46] then ([],o)
 else (i.drop (segN i),o++i.take (segN i))
def zgr:Nat->List UInt8->List UInt8->List UInt8
 | 0,i,o=>o
 | n+1,i,o=>if i=[] then o else zgr n (zaJ i o).1 (zaJ i o).2
def zfG (i o:List UInt8):List UInt8:=zgr i.length i o
def zcd (l:List UInt8):List UInt8:=zfG l []
theorem segN_le {l:List UInt8} (h:l≠[]):segN l<=l.length/\1<=segN l:=by
 have:=(zei (l.drop 1)).2;rw[List.length_drop] at this;have h2:l.length≠0:=fun e=>h (qq e);unfold segN;omega
theorem zek {i o:List UInt8} (h:i≠[]):(zaJ i o).1.length<i.length:=by
 have h0:i.length≠0:=fun e=>h (qq e);have hs:=segN_le h;unfold zaJ
 split
 ·simp;omega
 ·split
  ·simp;omega
  ·split
   ·simp;omega
   ·split
    ·rename_i h4;rw[h4];simp
    ·split
     ·simp;omega
     ·split
      ·rename_i h6;rw[h6];simp
      ·split
       ·simp;omega
       ·simp;omega
theorem ziA:∀(n:Nat) (i o:List UInt8),i.length<=n->zgr n i o=zgr i.length i o:=by
 intro n
 induction n using Nat.strongRecOn with
 | _ n ih=>
  intro i o hi;rcases i with _|⟨c,t⟩
  ·cases n with
   | zero=>rfl
   | succ n=>rfl
  ·cases n with
   | zero=>simp at hi
   | succ n=>
    have hl:=zek (i:=c::t) (o:=o) (by simp);simp only[qk] at hi hl ⊢;rw[zgr,zgr,if_neg (by simp),if_neg (by simp),ih n (by omega) _ _ (by omega)]
    by_cases e:t.length=n
    ·subst e;rw[ih t.length (by omega) _ _ (by omega)]
    ·rw[ih t.length (by omega) _ _ (by omega)]
theorem zdK (o:List UInt8):zfG [] o=o:=rfl
theorem zcQ {i o:List UInt8} (h:i≠[]):zfG i o=zfG (zaJ i o).1 (zaJ i o).2:=by
 have hl:=zek (o:=o) h;unfold zfG;rcases i with _|⟨c,t⟩
 ·exact absurd rfl h
 ·simp only[qk] at hl;rw[qk,zgr,if_neg h,ziA t.length _ _ (by omega)]
theorem zcC.form {w:World} {B:Nat} {v:Value} {l:List UInt8} (h:zcC w B v l) (hl:0<l.length):∃g cap,v=.slice (some ⟨g,0,none⟩) l.length cap/\B<=g/\g<w.heap.size/\l.length<=cap:=by
 rcases h.2 with ⟨rfl,hn⟩|⟨g,cap,cur,rfl,hb,hg,hnc,_⟩
 ·omega
 ·refine⟨g,cap,rfl,hb,?_,hnc⟩;rcases Nat.lt_or_ge g w.heap.size with h1|h1
  ·exact h1
  ·rw[Array.getElem?_eq_none h1] at hg;cases hg
theorem zcC.cap {w:World} {B g n cap:Nat} {l:List UInt8} (h:zcC w B (.slice (some ⟨g,0,none⟩) n cap) l):n=l.length/\n<=cap/\cap<=maxLen:=by
 rcases h.2 with ⟨e,_⟩|⟨g',cap',cur,e,hb,hg,hnc,hcm,_⟩
 ·simp at e
 ·simp only[Value.slice.injEq] at e;obtain⟨_,rfl,rfl⟩:=e;exact⟨rfl,hnc,hcm⟩
theorem zcC.pre {w:World} {B g n cap:Nat} {l:List UInt8} (h:zcC w B (.slice (some ⟨g,0,none⟩) n cap) l) (k:Nat) (hk:k<=l.length):zcC w B (.slice (some ⟨g,0,none⟩) k cap) (l.take k):=by
 rcases h.2 with ⟨e,_⟩|⟨g',cap',cur,e,hb,hg,hnc,hcm,hcs,ht⟩
 ·simp at e
 ·simp only[Value.slice.injEq] at e;obtain⟨hgg,rfl,rfl⟩:=e;obtain rfl:g=g':=by simpa using hgg
  have hlen:(l.take k).length=k:=by rw[List.length_take];omega
  refine⟨by rw[zlD];simp,.inr ⟨g,cap,cur,by rw[hlen],hb,hg,by rw[hlen];omega,hcm,hcs,?_⟩⟩;rw[hlen];have:=congrArg (List.take k) ht;rw[Nat.mul_one] at this ⊢;rw[List.take_take,Nat.min_eq_left hk] at this;rw[this];simp[bv,List.map_take]
end Go.Proofs.YtcpldfimbhdfdaaGreatDoor
namespace Go.Proofs.YtcpldfimbhdfdaaGreatDoor
open Go.RowKit
attribute [local go_sem ↓] Go.wp_at_zero Go.wp_at_succ
end Go.Proofs.YtcpldfimbhdfdaaGreatDoor
namespace Go.Proofs.YtcpldfimbhdfdaaGreatDoor
open Go.RowKit Sx
open List renaming getElem?_map->ql
theorem zgJ (G:Gh) (I:Imm):∀(xs:List (List UInt8)) (ys:List Value),zab G I (xs.map .s) ys->ys=xs.map fun l=>.string ⟨l.toArray⟩
 | [],ys,h=>by simpa[zab] using h
 | x::xs,ys,h=>by
  simp only[List.map_cons,zab,Den] at h;obtain⟨y,ys',rfl,rfl,h2⟩:=h;rw[zgJ G I xs ys' h2];rfl
section
variable [Tabs Tryz.prog] {objs:List OB} {K:List OB->AV->Prop}
theorem zje (xs:List (List UInt8)) (sep:List UInt8) (hN:xs.length<=140737488355328) (hl:(Lib.join xs sep).length<=140737488355328) (hk:K objs (.s (Lib.join xs sep))):zai Tryz.prog 204 [.row xs.length (xs.map .s),.s sep] objs K:=by
 refine zdO (.s (Lib.join xs sep)) hk fun G I w ys hm hd=>?_;simp only[zab,Den] at hd;obtain⟨y,ys',rfl,⟨a,c,zs,rfl,⟨hc,_⟩,hz,_,hi⟩,y2,ys2,rfl,rfl,rfl⟩:=hd;have hz:=zgJ G I xs zs hz;subst hz;refine⟨_,?_,rfl⟩
 cases xs with
 | nil=>
  refine(Tryz.strings_Join_none a c (S sep) w).mono ?_;rintro e w' ⟨rfl,rfl⟩;exact⟨by rw[show Lib.join [] sep=[] from rfl],Qb.refl _⟩
 | cons x xs=>
  obtain⟨g,off,rfl,h0⟩:=hi 0 _ rfl;have hcell:∀(j:Nat) z,((x::xs).map (fun l:List UInt8=>(⟨l.toArray⟩:ByteArray)))[j]? = some z->w.cell? ⟨g,off+j,none⟩=some (.string z):=by
   intro j z hj;rw[ql] at hj;obtain⟨l,hl,rfl⟩:=Option.map_eq_some_iff.1 hj;obtain⟨g',off',e,h1⟩:=hi j _ (by rw[ql,hl];rfl)
   cases e
   exact hm.imm _ _ _ h1
  have e1:((x::xs).map (fun l:List UInt8=>(⟨l.toArray⟩:ByteArray))).map (·.data.toList)=x::xs:=by
   rw[List.map_map];simp[Function.comp_def]
  have:=Tryz.strings_Join g off c ((x::xs).map fun l=>⟨l.toArray⟩) (S sep) w hcell (World.block_lt_of_cell? (h:=hcell 0 _ rfl)) (by simpa using hN) (by simpa using hc) (by rw[e1,S_list];exact hl);rw[e1,S_list,List.length_map] at this;exact this
end
theorem zdD (x:UInt8) (t set:List UInt8):zfR (x::t) set=if zc0 x set=true then 0 else zfR t set+1:=by
 unfold zfR;rw[List.findIdx_cons]
 cases zc0 x set<;>rfl
theorem ziy (x:UInt8) (t:List UInt8):zaB (x::t)=if x=47 then [] else x::zaB t:=by
 unfold zaB;rw[zbY]
 split<;>rfl
theorem zjc:∀l:List UInt8,(∀h:zfR l [58,47]<l.length,l[zfR l [58,47]]=58->(zaE 58 (zaB l)).1=l.take (zfR l [58,47])/\(zaE 58 (zaB l)).1.length=zfR l [58,47]/\(zaE 58 (zaB l)).2.2=true) /\
  ((∀h:zfR l [58,47]<l.length,l[zfR l [58,47]]≠58)->(zaE 58 (zaB l)).2.2=false)
 | []=>⟨fun h=>absurd h (by simp),fun _=>rfl⟩
 | x::t=>by
  have ih:=zjc t;rw[ziy]
  by_cases h47:x=47
  ·subst h47;have e:zfR (47::t) [58,47]=0:=by rw[zdD,if_pos (by decide)]
   rw[if_pos rfl];refine⟨fun h he=>?_,fun _=>rfl⟩;simp only[e] at he;exact absurd he (by simp)
  ·rw[if_neg h47,zbY]
   by_cases h58:x=58
   ·subst h58;have e:zfR (58::t) [58,47]=0:=by rw[zdD,if_pos (by decide)]
    rw[if_pos rfl];refine⟨fun h he=>by simp[e],fun h=>?_⟩;exact absurd (by simp[e]) (h (by simp[e]))
   ·have e:zfR (x::t) [58,47]=zfR t [58,47]+1:=by rw[zdD,if_neg (by simp[zc0,h47,h58])]
    rw[if_neg h58];simp only[e];refine⟨fun h he=>?_,fun h=>?_⟩
    ·obtain⟨h1,h2,h3⟩:=ih.1 (by simp at h;omega) (by simpa using he);exact⟨by simp[h1],by simp[h2],h3⟩
    ·exact ih.2 (fun h'=>by have:=h (by simp;omega);simpa using this)
section
variable [Tabs Tryz.prog] {objs:List OB} {K:List OB->AV->Prop}
end
end Go.Proofs.YtcpldfimbhdfdaaGreatDoor
namespace Go.Proofs.YtcpldfimbhdfdaaGreatDoor
def lbB (c:UInt8):Bool:=zeN c||zaA c||(c.toNat==45)
def hyB (c:UInt8):Bool:=c.toNat==45
def zfu (l:List UInt8):Bool:=!l.isEmpty&&decide (l.length<=63)&&!((l.head?.map hyB).getD false)&&!((l.getLast?.map hyB).getD false)&&l.all lbB
def zj8 (l:List UInt8):Bool:=(zaR 46 l).all zfu&&!zeU ((zaR 46 l).getLastD [])
def zfK (l:List UInt8):Bool:=decide ((zaX 255 l).1=0)
def ipvN (n:Nat) (l:List UInt8):Bool:=decide ((zaR 46 l).length=n)&&(zaR 46 l).all zfK
def ipv4B (l:List UInt8):Bool:=ipvN 4 l
def zbL (l:List UInt8):Int×List UInt8:=if l=[] then (3,[]) else if 253<l.length then (5,[]) else if (zj8 l||ipv4B l)=true then (0,za1 l) else (50,[])
def zfp (l:List UInt8):Int×Nat:=if (zaX 65535 l).1=0/\(zaX 65535 l).2≠0 then (0,(zaX 65535 l).2) else (51,0)
open Go.RowKit
def hpE (l:List UInt8):Int×List UInt8×Nat :=
 if (zbL (zaE 58 l).1).1≠0 then ((zbL (zaE 58 l).1).1,[],0)
 else if (zaE 58 l).2.2=false then (0,(zbL (zaE 58 l).1).2,0)
 else if (zfp (zaE 58 l).2.1).1≠0 then ((zfp (zaE 58 l).2.1).1,[],0)
 else (0,(zbL (zaE 58 l).1).2,if (zfp (zaE 58 l).2.1).2=443 then 0 else (zfp (zaE 58 l).2.1).2)
end Go.Proofs.YtcpldfimbhdfdaaGreatDoor
namespace Go.Proofs.YtcpldfimbhdfdaaGreatDoor
open List renaming all_eq_true->zo, append_assoc->zw, append_nil->qv, eq_nil_of_length_eq_zero->qq, mem_cons_of_mem->qm
open Nat renaming le_refl->zg
theorem low256:∀n:Fin 256,zb4 (zb4 (UInt8.ofNat n.val))=zb4 (UInt8.ofNat n.val)/\lbB (zb4 (UInt8.ofNat n.val))=lbB (UInt8.ofNat n.val)/\hyB (zb4 (UInt8.ofNat n.val))=hyB (UInt8.ofNat n.val)/\zaA (zb4 (UInt8.ofNat n.val))=zaA (UInt8.ofNat n.val)/\(zb4 (UInt8.ofNat n.val)=46↔UInt8.ofNat n.val=46)/\(zaA (UInt8.ofNat n.val)=true->zb4 (UInt8.ofNat n.val)=UInt8.ofNat n.val)/\(UInt8.ofNat n.val=46->zb4 (UInt8.ofNat n.val)=UInt8.ofNat n.val):=by decide +kernel
theorem zaT (c:UInt8):zb4 (zb4 c)=zb4 c/\lbB (zb4 c)=lbB c/\hyB (zb4 c)=hyB c/\zaA (zb4 c)=zaA c/\(zb4 c=46↔c=46)/\(zaA c=true->zb4 c=c)/\(c=46->zb4 c=c):=by
 have:=low256 ⟨c.toNat,c.toNat_lt⟩;simp only[UInt8.ofNat_toNat] at this;exact this
theorem zkd (l:List UInt8):za1 (za1 l)=za1 l:=by
 unfold za1;rw[List.map_map];exact List.map_congr_left fun c _=>(zaT c).1
theorem zdC (l:List UInt8):(za1 l).length=l.length:=by simp[za1]
theorem zd1:∀l,zaR 46 (za1 l)=(zaR 46 l).map za1
 | []=>rfl
 | x::t=>by
  have ih:=zd1 t;obtain⟨p,ps,e⟩:=zcq 46 t;rw[e] at ih;show zaR 46 (zb4 x::za1 t)=_;rw[zbC,zbC,ih,e]
  by_cases h:x=46
  ·rw[if_pos ((zaT x).2.2.2.2.1.2 h),if_pos h];rfl
  ·rw[if_neg (fun h2=>h ((zaT x).2.2.2.2.1.1 h2)),if_neg h];rfl
theorem zlK (p:UInt8->Bool) (hp:∀c,p (zb4 c)=p c) (l:List UInt8):(za1 l).all p=l.all p:=by
 unfold za1;rw[List.all_map]
 congr 1;funext c;exact hp c
theorem zit (l:List UInt8):zfu (za1 l)=zfu l:=by
 unfold zfu;rw[zlK lbB (fun c=>(zaT c).2.1),zdC];have e1:(za1 l).isEmpty=l.isEmpty:=by cases l<;>rfl
 have e2:(za1 l).head?.map hyB=l.head?.map hyB:=by
  cases l with
  | nil=>rfl
  | cons c t=>simp[za1,(zaT c).2.2.1]
 have e3:(za1 l).getLast?.map hyB=l.getLast?.map hyB:=by
  unfold za1;rw[List.getLast?_map]
  cases l.getLast? with
  | none=>rfl
  | some c=>simp[(zaT c).2.2.1]
 rw[e1,e2,e3]
theorem zgs (l:List UInt8):zeU (za1 l)=zeU l:=by
 unfold zeU;rw[zlK zaA (fun c=>(zaT c).2.2.2.1)];have e1:(za1 l).isEmpty=l.isEmpty:=by cases l<;>rfl
 rw[e1]
theorem zj7 (l:List UInt8):zj8 (za1 l)=zj8 l:=by
 unfold zj8;rw[zd1,List.all_map];have e1:((zaR 46 l).map za1).getLastD []=za1 ((zaR 46 l).getLastD []):=by
  rw[List.getLastD_eq_getLast?,List.getLastD_eq_getLast?,List.getLast?_map]
  cases (zaR 46 l).getLast?<;>rfl
 rw[e1,zgs]
 congr 1
 congr 1
 funext x
 exact zit x
theorem ziG {l:List UInt8} (h:zfK l=true):za1 l=l:=by
 unfold zfK at h;have h1:=of_decide_eq_true h;unfold zaX at h1
 split at h1
 ·rename_i h2;have h3:=(zen h2).2;unfold za1;rw[zo] at h3;have:l.map zb4=l.map id:=List.map_congr_left fun c hc=>(zaT c).2.2.2.2.2.1 (h3 c hc);rw[this,List.map_id]
 ·rename_i h2;exact absurd h1 h2
theorem zbT:∀l:List UInt8,(∀p∈zaR 46 l,za1 p=p)->za1 l=l
 | [],_=>rfl
 | x::t,h=>by
  obtain⟨p,ps,e⟩:=zcq 46 t;rw[zbC,e] at h
  by_cases hx:x=46
  ·rw[if_pos hx] at h;have ih:=zbT t (by rw[e];intro q hq;exact h q (qm _ hq));show zb4 x::za1 t=_;rw[ih,(zaT x).2.2.2.2.2.2 hx]
  ·rw[if_neg hx] at h;have h1:=h (x::p) (List.mem_cons_self ..);have h2:zb4 x=x/\za1 p=p:=by
    have:zb4 x::za1 p=x::p:=h1;injection this with a b;exact⟨a,b⟩
   have ih:=zbT t (by
    rw[e];intro q hq;rcases List.mem_cons.1 hq with rfl|hq
    ·exact h2.2
    ·exact h q (qm _ hq))
   show zb4 x::za1 t=_;rw[ih,h2.1]
theorem ipv4_low {l:List UInt8} (h:ipv4B l=true):za1 l=l:=by
 refine zbT l fun p hp=>?_;unfold ipv4B ipvN at h;simp only[Bool.and_eq_true,zo] at h;exact ziG (h.2 p hp)
theorem ziw {q h:List UInt8} (hh:zbL q=(0,h)):zbL h=(0,h)/\h.length=q.length/\h.length<=253/\h=za1 q:=by
 unfold zbL at hh
 split at hh
 ·cases hh
 ·rename_i h0
  split at hh
  ·cases hh
  ·rename_i h1
   split at hh
   ·rename_i h2;injection hh with _ hh;subst hh
    have hl:=zdC q;refine⟨?_,hl,by omega,rfl⟩;unfold zbL;rw[if_neg (by intro e;rw[e] at hl;exact h0 (qq (by simpa using hl.symm))),if_neg (by omega),zkd];rw[if_pos];rw[zj7];rw[Bool.or_eq_true] at h2 ⊢;rcases h2 with h2|h2
    ·exact .inl h2
    ·exact .inr (by rw[ipv4_low h2];exact h2)
   ·cases hh
open Go.RowKit
def hvN (c:UInt8):Nat:=if c.toNat<=57 then c.toNat - 48 else if c.toNat<=70 then c.toNat - 55 else c.toNat - 87
def hv (c:UInt8):UInt8:=UInt8.ofNat (hvN c)
def zix (n:Nat):UInt8:=[48,49,50,51,52,53,54,55,56,57,65,66,67,68,69,70].getD n 0
def zk6 (c:UInt8):List UInt8:=[37,zix (c.toNat / 16),zix (c.toNat % 16)]
def zbe (c:UInt8) (also:List UInt8):Bool:=zbf c||(c.toNat != 37&&zc0 c also)
def ziz:List UInt8->Bool
 | _::a::b::_=>zdV a&&zdV b
 | _=>false
def zhG:List UInt8->UInt8
 | _::a::b::_=>UInt8.ofNat (16*hvN a+hvN b)
 | _=>0
abbrev zgE:=List UInt8->UInt8->Bool->Int×List UInt8
def rwS (add:zgE):Nat->List UInt8->List UInt8->Int×List UInt8
 | _,[],out=>(0,out)
 | n+1,_::l,out=>rwS add n l out
 | 0,c::l,out=>
  if c=37 then
   if ziz (c::l)=true then
    if (add out (zhG (c::l)) true).1=0 then rwS add 2 l (add out (zhG (c::l)) true).2 else ((add out (zhG (c::l)) true).1,[])
   else (2,[])
  else if (add out c false).1=0 then rwS add 0 l (add out c false).2 else ((add out c false).1,[])
section
variable (add:zgE) (s:ByteArray) (k:Nat) (out:List UInt8)
end
def zlL:zgE:=fun out x _=>(0,out++[x])
def zfT (also:List UInt8):zgE:=fun out x e=>if (e&&!zbf x)=true then (0,out++zk6 x) else if zbe x also=true then (0,out++[x]) else (1,[])
def zkf (r:Int×List UInt8) (n:Nat):Int×List UInt8:=if 16384<n then (5,[]) else r
def decL (l:List UInt8):Int×List UInt8:=zkf (rwS zlL 0 l []) l.length
def zax (l also:List UInt8):Int×List UInt8:=zkf (rwS (zfT also) 0 l []) l.length
theorem zcB {also l:List UInt8} {x:UInt8} (hu:zbf x=false):zfT also l x true=(0,l++zk6 x):=by unfold zfT;rw[if_pos (by rw[hu];rfl)]
theorem zaF {also l:List UInt8} {x:UInt8} {e:Bool} (hu:(e&&!zbf x)=false) (hp:zbe x also=true):zfT also l x e=(0,l++[x]):=by
 unfold zfT;rw[if_neg (by rw[hu];exact Bool.false_ne_true),if_pos hp]
theorem ze1 {also l:List UInt8} {x:UInt8} {e:Bool} (hu:(e&&!zbf x)=false) (hp:zbe x also=false):zfT also l x e=(1,[]):=by
 unfold zfT;rw[if_neg (by rw[hu];exact Bool.false_ne_true),if_neg (by rw[hp];exact Bool.false_ne_true)]
theorem escB_len (c:UInt8):(zk6 c).length=3:=rfl
theorem zba (add:zgE):∀(n:Nat) (l out:List UInt8),rwS add n l out=rwS add 0 (l.drop n) out
 | 0,l,out=>rfl
 | n+1,[],out=>by rw[List.drop_nil,rwS,rwS]
 | n+1,_::l,out=>by rw[rwS,List.drop_succ_cons];exact zba add n l out
theorem za0 {c:UInt8} {l:List UInt8} (h:zbf c=true):zbe c l=true:=by unfold zbe;rw[h];rfl
theorem zjQ {l:List UInt8}:zbe 37 l=false:=by unfold zbe;rfl
theorem u37:zbf 37=false:=by decide
theorem zee:∀n:Fin 16,zdV (zix n.val)=true/\hvN (zix n.val)=n.val/\zix n.val≠37:=by decide
theorem escB_ok (c:UInt8) (r:List UInt8):ziz (zk6 c++r)=true/\zhG (zk6 c++r)=c:=by
 have hc:=c.toNat_lt;have h1:=zee ⟨c.toNat / 16,by omega⟩;have h2:=zee ⟨c.toNat % 16,by omega⟩;simp only at h1 h2
 constructor
 ·show (zdV (zix (c.toNat / 16))&&zdV (zix (c.toNat % 16)))=true;rw[h1.1,h2.1];rfl
 ·show UInt8.ofNat (16*hvN (zix (c.toNat / 16))+hvN (zix (c.toNat % 16)))=c;rw[h1.2.1,h2.2.1,show 16*(c.toNat / 16)+c.toNat % 16=c.toNat from by omega];exact UInt8.ofNat_toNat
theorem zeC (add:zgE) (c:UInt8) (r out:List UInt8) (o2:List UInt8) (h:add out c true=(0,o2)):rwS add 0 (zk6 c++r) out=rwS add 0 r o2:=by
 have h1:=escB_ok c r;show rwS add 0 (37::([zix (c.toNat / 16),zix (c.toNat % 16)]++r)) out=_;have e:(37::([zix (c.toNat / 16),zix (c.toNat % 16)]++r):List UInt8)=zk6 c++r:=rfl;rw[rwS,if_pos rfl,e,if_pos h1.1,h1.2,h,if_pos rfl,zba]
 rfl
theorem zbR (add:zgE) (c:UInt8) (r out:List UInt8) (o2:List UInt8) (hc:c≠37) (h:add out c false=(0,o2)):rwS add 0 ([c]++r) out=rwS add 0 r o2:=by
 show rwS add 0 (c::r) out=_;rw[rwS,if_neg hc,h,if_pos rfl]
theorem zjP {c:UInt8} {k:List UInt8} (h:zbe c k=true):c≠37:=by
 rintro rfl;rw[zjQ] at h;cases h
def Canon (also l y a:List UInt8):Prop :=
 (∀o r,rwS (zfT also) 0 (y++r) o=rwS (zfT also) 0 r (o++y))/\(∀o,rwS zlL 0 l o=(0,o++a))/\(∀o r,rwS zlL 0 (y++r) o=rwS zlL 0 r (o++a))/\y.length<=l.length
theorem zcP {c:UInt8} {t:List UInt8} (h:ziz (c::t)=true):∃a b r,t=a::b::r:=by
 match t,h with
 | a::b::r,_=>exact⟨a,b,r,rfl⟩
theorem zec {x:UInt8} (h:zbf x=true):x≠37:=by
 rintro rfl;rw[u37] at h;cases h
theorem zj5 (also:List UInt8):∀(n:Nat) (l out x:List UInt8),l.length<=n->rwS (zfT also) 0 l out=(0,x)->∃y a,x=out++y/\Canon also l y a:=by
 intro n
 induction n with
 | zero=>
  intro l out x hl h;have:l=[]:=qq (by omega);subst this;rw[rwS] at h;obtain rfl:out=x:=by injection h
  exact⟨[],[],by simp,by simp,by intro o;rw[rwS,qv],by simp,zg _⟩
 | succ n ih=>
  intro l out x hl h
  cases l with
  | nil=>
   rw[rwS] at h;obtain rfl:out=x:=by injection h
   exact⟨[],[],by simp,by simp,by intro o;rw[rwS,qv],by simp,zg _⟩
  | cons c t=>
   by_cases hc:c=37
   ·rcases he:ziz (c::t) with _|_
    ·rw[rwS,if_pos hc,if_neg (by rw[he];exact Bool.false_ne_true)] at h;injection h with h1 _
     exact absurd h1 (by decide)
    ·obtain⟨a,b,r,rfl⟩:=zcP he;have hd:∀o,rwS zlL 0 (c::a::b::r) o=rwS zlL 0 r (o++[zhG (c::a::b::r)]):=by
      intro o;rw[rwS,if_pos hc,if_pos he];show (if (0:Int)=0 then rwS zlL 2 (a::b::r) _ else _)=_;rw[if_pos rfl,zba]
      rfl
     rcases hu:zbf (zhG (c::a::b::r)) with _|_
     ·rw[rwS,if_pos hc,if_pos he,zcB hu,if_pos rfl,zba] at h;obtain⟨y,m,rfl,h1,h2,h3,h4⟩:=ih r _ x (by simp at hl ⊢;omega) h;refine⟨zk6 (zhG (c::a::b::r))++y,zhG (c::a::b::r)::m,by simp,?_,?_,?_,?_⟩
      ·intro o r';rw[zw,zeC _ _ _ _ _ (zcB hu),h1,zw]
      ·intro o;rw[hd,h2,zw];rfl
      ·intro o r';rw[zw,zeC zlL _ _ _ _ rfl,h3,zw];rfl
      ·rw[List.length_append,escB_len];simp;omega
     ·rw[rwS,if_pos hc,if_pos he,zaF (by rw[hu];rfl) (za0 hu),if_pos rfl,zba] at h;obtain⟨y,m,rfl,h1,h2,h3,h4⟩:=ih r _ x (by simp at hl ⊢;omega) h;refine⟨[zhG (c::a::b::r)]++y,zhG (c::a::b::r)::m,by simp,?_,?_,?_,?_⟩
      ·intro o r';rw[zw,zbR _ _ _ _ _ (zec hu) (zaF rfl (za0 hu)),h1,zw]
      ·intro o;rw[hd,h2,zw];rfl
      ·intro o r';rw[zw,zbR zlL _ _ _ _ (zec hu) rfl,h3,zw];rfl
      ·simp;omega
   ·rcases hp:zbe c also with _|_
    ·rw[rwS,if_neg hc,ze1 rfl hp,if_neg (by decide)] at h;injection h with h1 _
     exact absurd h1 (by decide)
    ·rw[rwS,if_neg hc,zaF rfl hp,if_pos rfl] at h;obtain⟨y,m,rfl,h1,h2,h3,h4⟩:=ih t _ x (by simp at hl;omega) h;refine⟨[c]++y,c::m,by simp,?_,?_,?_,?_⟩
     ·intro o r';rw[zw,zbR _ _ _ _ _ hc (zaF rfl hp),h1,zw]
     ·intro o;rw[rwS,if_neg hc];show (if (0:Int)=0 then rwS zlL 0 t _ else _)=_;rw[if_pos rfl,h2];show (0,(o++[c])++m)=_;rw[zw];rfl
     ·intro o r';rw[zw,zbR zlL _ _ _ _ hc rfl,h3,zw];rfl
     ·simp;omega
theorem zdx (l also x:List UInt8) (h:zax l also=(0,x)):zax x also=(0,x)/\(∃a,decL l=(0,a)/\decL x=(0,a))/\x.length<=l.length:=by
 unfold zax zkf at h
 by_cases hlen:16384<l.length
 ·rw[if_pos hlen] at h;injection h with h1 _
  exact absurd h1 (by decide)
 ·rw[if_neg hlen] at h;obtain⟨y,a,rfl,h1,h2,h3,h4⟩:=zj5 also l.length l [] x (zg _) h;have e1:=h1 [] [];have e3:=h3 [] [];rw[qv,rwS,List.nil_append] at e1 e3;refine⟨?_,⟨a,?_,?_⟩,h4⟩
  ·unfold zax zkf;rw[if_neg (by omega),e1]
  ·unfold decL zkf;rw[if_neg hlen,h2];rfl
  ·unfold decL zkf;rw[if_neg (by omega),e3]
end Go.Proofs.YtcpldfimbhdfdaaGreatDoor
namespace Go.Proofs.YtcpldfimbhdfdaaGreatDoor
open List renaming mem_cons->zp
def okB (also:List UInt8) (c:UInt8):Bool:=c==37||zdV c||zbe c also
theorem zdy (also:List UInt8):∀(n:Nat) (l out x:List UInt8),l.length<=n->rwS (zfT also) 0 l out=(0,x)->l.all (okB also)=true:=by
 intro n
 induction n with
 | zero=>
  intro l out x hl h;have:l=[]:=List.eq_nil_of_length_eq_zero (by omega);subst this;rfl
 | succ n ih=>
  intro l out x hl h
  cases l with
  | nil=>rfl
  | cons c t=>
   by_cases hc:c=37
   ·rcases he:ziz (c::t) with _|_
    ·rw[rwS,if_pos hc,if_neg (by rw[he];exact Bool.false_ne_true)] at h;injection h with h1 _
     exact absurd h1 (by decide)
    ·obtain⟨a,b,r,rfl⟩:=zcP he;have hab:zdV a=true/\zdV b=true:=by
      have:(zdV a&&zdV b)=true:=he;simpa using this
     have hr:∃o2,rwS (zfT also) 0 r o2=(0,x):=by
      rcases hu:zbf (zhG (c::a::b::r)) with _|_
      ·rw[rwS,if_pos hc,if_pos he,zcB hu,if_pos rfl,zba] at h;exact⟨_,h⟩
      ·rw[rwS,if_pos hc,if_pos he,zaF (by rw[hu];rfl) (za0 hu),if_pos rfl,zba] at h;exact⟨_,h⟩
     obtain⟨o2,hr⟩:=hr;have:=ih r o2 x (by simp at hl ⊢;omega) hr;simp[okB,hc,hab.1,hab.2,this]
   ·rcases hp:zbe c also with _|_
    ·rw[rwS,if_neg hc,ze1 rfl hp,if_neg (by decide)] at h;injection h with h1 _
     exact absurd h1 (by decide)
    ·rw[rwS,if_neg hc,zaF rfl hp,if_pos rfl] at h;have:=ih t _ x (by simp at hl;omega) h;simp[okB,hp,this]
theorem ziq {l also x:List UInt8} (h:zax l also=(0,x)):l.all (okB also)=true:=by
 unfold zax zkf at h
 split at h
 ·injection h with h1 _
  exact absurd h1 (by decide)
 ·exact zdy also l.length l [] x (Nat.le_refl _) h
theorem norm_len {l also x:List UInt8} (h:zax l also=(0,x)):l.length<=16384:=by
 unfold zax zkf at h
 split at h
 ·injection h with h1 _
  exact absurd h1 (by decide)
 ·omega
theorem zce {l also x:List UInt8} (h:zax l also=(0,x)):x.all (okB also)=true:=ziq (zdx l also x h).1
theorem zaV (c:UInt8):∀(a b:List UInt8),c∉a->zaE c (a++c::b)=(a,b,true)
 | [],b,_=>by simp[zaE]
 | x::a,b,h=>by
  simp only[zp,not_or] at h;rw[List.cons_append,zbY,if_neg (fun e=>h.1 e.symm),zaV c a b h.2]
theorem zbz (c:UInt8):∀(a:List UInt8),c∉a->zaE c a=(a,[],false)
 | [],_=>rfl
 | x::a,h=>by
  simp only[zp,not_or] at h;rw[zbY,if_neg (fun e=>h.1 e.symm),zbz c a h.2]
open Go.RowKit Sx
def fmtH (h:List UInt8) (p:Int):List UInt8:=if p=0 then h else h++[58]++Lib.itoa p
theorem portE_le (l:List UInt8):(zfp l).2<=65535:=by
 unfold zfp
 split
 ·exact zfZ 65535 l
 ·exact Nat.zero_le _
section
variable [Tabs Tryz.prog] {objs:List OB} {K:List OB->AV->Prop}
end
end Go.Proofs.YtcpldfimbhdfdaaGreatDoor
namespace Go.Proofs.YtcpldfimbhdfdaaGreatDoor
open Lib renaming decDigits->qt
open List renaming all_eq_true->zo, mem_cons->zp, mem_cons_of_mem->qm, mem_cons_self->qr
theorem zdB (c x:UInt8):∀l:List UInt8,x∈l->x=c\/∃p∈zaR c l,x∈p
 | [],h=>by cases h
 | y::t,h=>by
  obtain⟨p,ps,e⟩:=zcq c t;rw[zbC,e]
  by_cases hy:y=c
  ·rw[if_pos hy];rcases zp.1 h with rfl|h
   ·exact .inl hy
   ·rcases zdB c x t h with h|⟨q,hq,hx⟩
    ·exact .inl h
    ·exact .inr ⟨q,by rw[<-e];exact qm _ hq,hx⟩
  ·rw[if_neg hy];rcases zp.1 h with rfl|h
   ·exact .inr ⟨_,qr ..,qr ..⟩
   ·rcases zdB c x t h with h|⟨q,hq,hx⟩
    ·exact .inl h
    ·rw[e] at hq;rcases zp.1 hq with rfl|hq
     ·exact .inr ⟨_,qr ..,qm _ hx⟩
     ·exact .inr ⟨q,qm _ hq,hx⟩
theorem zeZ {l:List UInt8} (h:zfK l=true):l.all zaA=true:=by
 unfold zfK at h;have h1:=of_decide_eq_true h;unfold zaX at h1
 split at h1
 ·rename_i h2;exact(zen h2).2
 ·rename_i h2;exact absurd h1 h2
theorem zed {h:List UInt8} (hh:(zbL h).1=0):∀x∈h,x=46\/lbB x=true:=by
 intro x hx;unfold zbL at hh
 split at hh
 ·cases hh
 ·split at hh
  ·cases hh
  ·split at hh
   ·rename_i h1 h2 h3;rcases zdB 46 x h hx with h4|⟨p,hp,hxp⟩
    ·exact .inl h4
    ·rw[Bool.or_eq_true] at h3;rcases h3 with h3|h3
     ·unfold zj8 at h3;simp only[Bool.and_eq_true,zo] at h3;have:=h3.1 p hp;unfold zfu at this;simp only[Bool.and_eq_true,zo] at this;exact .inr (this.2 x hxp)
     ·unfold ipv4B ipvN at h3;simp only[Bool.and_eq_true,zo] at h3;have:=zo.1 (zeZ (h3.2 p hp)) x hxp;exact .inr (by unfold lbB;rw[this];simp)
   ·cases hh
theorem hb256:∀n:Fin 256,(lbB (UInt8.ofNat n.val)=true\/UInt8.ofNat n.val=46)->zc0 (UInt8.ofNat n.val) [58,64,47,63,35]=false:=by decide +kernel
theorem zht (c:UInt8) (h:c=46\/lbB c=true):zc0 c [58,64,47,63,35]=false:=by
 have:=hb256 ⟨c.toNat,UInt8.toNat_lt c⟩;simp only[UInt8.ofNat_toNat] at this;exact this h.symm
theorem host_not {h:List UInt8} (hh:(zbL h).1=0) (c:UInt8) (hc:zc0 c [58,64,47,63,35]=true):c∉h:=by
 intro hm;have:=zht c (zed hh c hm);rw[hc] at this;cases this
theorem zhs (n:Nat):Lib.itoa (n:Int)=qt n:=by
 unfold Lib.itoa;rw[if_neg (by omega)];rfl
theorem zjO (n:Nat) (h0:n≠0) (h1:n<=65535):zfp (qt n)=(0,n):=by
 unfold zfp;rw[zid n 65535 h1,if_pos ⟨rfl,h0⟩]
theorem hp_fmt {h:List UInt8} {n:Nat} (hh:zbL h=(0,h)) (h1:n<=65535) (h2:n≠443):hpE (fmtH h n)=(0,h,n):=by
 have hh0:(zbL h).1=0:=by rw[hh]
 have h58:(58:UInt8)∉h:=host_not hh0 58 (by decide);unfold fmtH
 by_cases h0:n=0
 ·subst h0;rw[if_pos (show ((0:Nat):Int)=0 from rfl)];unfold hpE;rw[zbz 58 h h58];simp only;rw[hh];simp
 ·rw[if_neg (by omega),zhs];unfold hpE;have:h++[58]++qt n=h++58::qt n:=by simp
  rw[this,zaV 58 h _ h58];simp only;rw[hh,zjO n h0 h1,if_neg (by simp),if_neg (by simp),if_neg (by simp),if_neg h2]
theorem hp_again {l h:List UInt8} {n:Nat} (hl:hpE l=(0,h,n)):zbL h=(0,h)/\n<=65535/\n≠443/\h.length<=253/\h.length<=l.length:=by
 have hcl:=(zly 58 l).1;unfold hpE at hl
 split at hl
 ·rename_i h1;injection hl with h2 _;exact absurd h2 h1
 ·rename_i h1;simp only[Decidable.not_not] at h1;have hho:zbL (zaE 58 l).1=(0,(zbL (zaE 58 l).1).2):=by rw[<-h1]
  obtain⟨k1,k2,k3,_⟩:=ziw hho
  split at hl
  ·injection hl with _ hl
   injection hl with e1 e2
   subst e1 e2;exact⟨k1,by omega,by omega,k3,by omega⟩
  ·split at hl
   ·rename_i h2;injection hl with h3 _;exact absurd h3 h2
   ·injection hl with _ hl
    injection hl with e1 e2
    subst e1;have hp:=portE_le (zaE 58 l).2.1;refine⟨k1,?_,?_,k3,by omega⟩
    ·rw[<-e2];split<;>omega
    ·rw[<-e2];split<;>omega
open Go.RowKit Sx
def zcM (u:UriP):List UInt8:=(if u.hs=true then u.scheme++[58] else [])++(if u.ha=true then [47,47]++u.auth else [])++u.path++(if u.hq=true then [63]++u.query else [])++(if u.hf=true then [35]++u.frag else [])
section
variable [Tabs Tryz.prog] {objs:List OB} {K:List OB->AV->Prop}
end
def keepL (p:List UInt8):List UInt8:=p.take (Lib.lastIndexByte (S p) 47+1).toNat
def mergeU (b:UriP) (r:List UInt8):List UInt8:=if b.ha=true/\b.path=[] then 47::r else keepL b.path++r
section
variable [Tabs Tryz.prog] {objs:List OB} {K:List OB->AV->Prop}
end
def zdc (b r:UriP):UriP :=
 if r.hs=true then { r with path:=zcd r.path }
 else if r.ha=true then { r with scheme:=b.scheme,hs:=b.hs,path:=zcd r.path }
 else if r.path=[] then { scheme:=b.scheme,hs:=b.hs,auth:=b.auth,ha:=b.ha,path:=b.path,query:=if r.hq=true then r.query else b.query,hq:=if r.hq=true then r.hq else b.hq,frag:=r.frag,hf:=r.hf }
 else { scheme:=b.scheme,hs:=b.hs,auth:=b.auth,ha:=b.ha,path:=if r.path.head? = some 47 then zcd r.path else zcd (mergeU b r.path),query:=r.query,hq:=r.hq,frag:=r.frag,hf:=r.hf }
section
variable [Tabs Tryz.prog] {objs:List OB} {K:List OB->AV->Prop}
end
end Go.Proofs.YtcpldfimbhdfdaaGreatDoor
namespace Go.Proofs.YtcpldfimbhdfdaaGreatDoor
open List renaming append_assoc->zw, take_append_drop->jo
theorem zeX (c:UInt8):∀l:List UInt8,l=(zaE c l).1++(if (zaE c l).2.2=true then [c]++(zaE c l).2.1 else [])
 | []=>rfl
 | x::t=>by
  have ih:=zeX c t;rw[zbY]
  by_cases hx:x=c
  ·subst hx;simp
  ·rw[if_neg hx];show x::t=x::((zaE c t).1++_);rw[<-ih]
theorem sch_join (l:List UInt8) (h:(zaE 58 (zaB l)).2.2=true):l=(zaE 58 (zaB l)).1++[58]++l.drop ((zaE 58 (zaB l)).1.length+1):=by
 have sx:=zjc l
 by_cases hk:∃hk:zfR l [58,47]<l.length,l[zfR l [58,47]]=58
 ·obtain⟨h1,h2⟩:=hk;obtain⟨q1,q2,_⟩:=sx.1 h1 h2;rw[q2]
  conv=>lhs;rw[<-jo (zfR l [58,47]) l,List.drop_eq_getElem_cons h1,h2]
  rw[<-q1];simp
 ·have:=sx.2 (fun h1 h2=>hk ⟨h1,h2⟩);rw[h] at this;cases this
theorem zkL (r:List UInt8):r=(if zfX r=true then [47,47]++zc9 r else [])++zfq r:=by
 by_cases h:zfX r=true
 ·have ea:zc9 r=zaB (r.drop 2):=by unfold zc9;rw[if_pos h]
  have eb:zfq r=(r.drop 2).drop (zc9 r).length:=by unfold zfq;rw[if_pos h]
  rw[if_pos h,eb];have hp:[47,47]++r.drop 2=r:=by
   have:=List.isPrefixOf_iff_prefix.1 (show Lib.hasPrefix r [47,47]=true from h);obtain⟨t,rfl⟩:=this;simp
  have hf:=(zei (r.drop 2)).1;have:zc9 r++(r.drop 2).drop (zc9 r).length=r.drop 2:=by
   rw[ea]
   conv=>lhs;lhs;rw[hf]
   exact jo _ _
  rw[zw,this,hp]
 ·unfold zfq;rw[if_neg h,if_neg h];simp
theorem zif (s:List UInt8) (h:(zaz s).1=0):zcM (zaz s).2=s:=by
 unfold zaz at h ⊢
 split
 ·rename_i h1;rw[if_pos h1] at h;cases h
 ·rename_i h1;rw[if_neg h1] at h
  split
  ·rename_i h2;rw[if_pos h2] at h;cases h
  ·rename_i h2;clear h h2 h1;unfold zcM;simp only;have e1:=zeX 35 s;have e2:=zeX 63 (zaE 35 s).1;have e3:=zkL (zdE s);have e4:zgB s=(if (zaS s).2.2=true then (zaS s).1++[58] else [])++zdE s:=by
    unfold zdE
    by_cases h:(zaS s).2.2=true
    ·rw[if_pos h,if_pos h];exact sch_join (zgB s) h
    ·rw[if_neg h,if_neg h];rfl
   have e5:(if (zaS s).2.2=true then (if (zaS s).2.2=true then (zaS s).1 else [])++[58] else [])=(if (zaS s).2.2=true then (zaS s).1++[58] else []):=by split<;>rfl
   rw[e5,zw (if (zaS s).2.2=true then (zaS s).1++[58] else []),<-e3,<-e4];show (zaE 63 (zaE 35 s).1).1++_++_=s;rw[<-e2,<-e1]
structure UrlP where
 host:List UInt8
 port:Int
 path:List UInt8
 query:List UInt8
 frag:List UInt8
 hq:Bool
 hf:Bool
def zi0:UrlP:=⟨[],0,[],[],[],false,false⟩
def zbW:List UInt8:=[104,116,116,112,115]
def zas:List UInt8:=[33,36,38,39,40,41,42,43,44,59,61,58,64,47]
def zap:List UInt8:=[33,36,38,39,40,41,42,43,44,59,61,58,64,47,63]
def zfY (u:UrlP):List UInt8:=if u.hq=true then u.path++[63]++u.query else u.path
def zhC (u:UrlP):List UInt8:=[104,116,116,112,115,58,47,47]++fmtH u.host u.port++zfY u++(if u.hf=true then [35]++u.frag else [])
def zbq (p:UriP):Int×List UInt8×Nat :=
 if p.hs=false then (60,[],0)
 else if eqL p.scheme zbW=false then (60,[],0)
 else if p.ha=false then (71,[],0)
 else if (zaE 64 p.auth).2.2=true then (70,[],0)
 else hpE p.auth
def zcf (l:List UInt8):List UInt8:=if zcd l=[] then [47] else zcd l
def zf5 (p:UriP):Int×UrlP :=
 if (zax p.path zas).1≠0 then ((zax p.path zas).1,zi0)
 else if (zax p.query zap).1≠0 then ((zax p.query zap).1,zi0)
 else if (zax p.frag zap).1≠0 then ((zax p.frag zap).1,zi0)
 else (0,⟨[],0,zcf (zax p.path zas).2,(zax p.query zap).2,(zax p.frag zap).2,p.hq,p.hf⟩)
def urlOf (h:List UInt8) (n:Nat) (u:UrlP):UrlP:=⟨h,n,u.path,u.query,u.frag,u.hq,u.hf⟩
def webF (u:UrlP):Int×UrlP:=if 4096<(zhC u).length then (5,zi0) else (0,u)
def webO (p:UriP):Int×UrlP :=
 if (zbq p).1≠0 then ((zbq p).1,zi0)
 else if (zf5 p).1≠0 then ((zf5 p).1,zi0)
 else webF (urlOf (zbq p).2.1 (zbq p).2.2 (zf5 p).2)
def webE (s:List UInt8):Int×UrlP :=
 if 4096<s.length then (5,zi0)
 else if (zaz s).1≠0 then ((zaz s).1,zi0)
 else webO (zaz s).2
instance:DecidableEq UrlP:=fun a b=>
 decidable_of_iff (a.host=b.host/\a.port=b.port/\a.path=b.path/\a.query=b.query/\a.frag=b.frag/\a.hq=b.hq/\a.hf=b.hf) (by
  cases a;cases b;simp)
def ziY (u:UrlP):Bool:=decide ((webE (zhC u)).1=0)&&decide ((webE (zhC u)).2=u)
def relW (b:UrlP) (r:List UInt8):Int×UrlP :=
 if ziY b=false then (8,zi0)
 else if (zaz r).1≠0 then ((zaz r).1,zi0)
 else if eqL (zdc (zaz (zhC b)).2 (zaz r).2).scheme zbW=false then (253,zi0)
 else webE (zcM (zdc (zaz (zhC b)).2 (zaz r).2))
open Go.RowKit Sx
def urlAV (u:UrlP):AV:=.agg [.s u.host,.i .i64 u.port,.s u.path,.s u.query,.s u.frag,.b u.hq,.b u.hf]
section
variable [Tabs Tryz.prog] {objs:List OB} {K:List OB->AV->Prop}
end
section
variable [Tabs Tryz.prog] {objs:List OB} {K:List OB->AV->Prop}
end
section
variable [Tabs Tryz.prog] {objs:List OB} {K:List OB->AV->Prop}
end
section
variable [Tabs Tryz.prog] {objs:List OB} {K:List OB->AV->Prop}
end
end Go.Proofs.YtcpldfimbhdfdaaGreatDoor
namespace Go.Proofs.YtcpldfimbhdfdaaGreatDoor.Sx
open Go.RowKit Go.WideShapes Go.ChangeShapes Go.ChangeAt
open List renaming append_nil->qv, getElem?_eq_getElem->zq, getElem?_eq_some_iff->qo, getElem?_map->ql, mem_append->zl, mem_append_left->je, mem_append_right->jm, mem_cons->zp, mem_cons_of_mem->qm, mem_cons_self->qr
inductive TT where
 | s
 | b
 | i (k:IntKind)
 | st (ts:List TT)
 | sl (t:TT)
 | rv
inductive RV where
 | mk (k:Int) (t:List UInt8) (ks:List (List UInt8)) (its:List RV)
mutual
def zd6:RV->List AV
 | .mk k t ks its=>[.i .i64 k,.s t,.row ks.length (ks.map .s),.row its.length (zdu its)]
def zdu:List RV->List AV
 | []=>[]
 | v::l=>zd6 v++zdu l
end
mutual
def RVok:RV->Prop
 | .mk k t ks its=>(Lit.int .i64 k).wf=true/\t.length<=140737488351232/\ks.length<=140737488351232/\(∀k∈ks,k.length<=140737488351232)/\its.length<=140737488351232/\zlN its
def zlN:List RV->Prop
 | []=>True
 | v::l=>RVok v/\zlN l
end
mutual
def ShT:TT->List AV->Prop
 | .s,xs=>∃l:List UInt8,xs=[.s l]/\l.length<=140737488351232
 | .b,xs=>∃b,xs=[.b b]
 | .i k,xs=>∃n,xs=[.i k n]/\(Lit.int k n).wf=true
 | .st ts,xs=>ShTs ts xs
 | .sl t,xs=>∃gs:List (List AV),xs=[.row gs.length gs.flatten]/\gs.length<=140737488351232/\∀g∈gs,ShT t g
 | .rv,xs=>∃r:RV,xs=zd6 r/\RVok r
def ShTs:List TT->List AV->Prop
 | [],xs=>xs=[]
 | t::ts,xs=>∃a b,xs=a++b/\ShT t a/\ShTs ts b
end
def ShA:TT->AV->Prop
 | .st ts,x=>∃cs,x=.agg cs/\ShTs ts cs
 | .rv,x=>∃r:RV,x=.agg (zd6 r)/\RVok r
 | t,x=>ShT t [x]
def ShAs:List TT->List AV->Prop
 | [],xs=>xs=[]
 | t::ts,xs=>∃x ys,xs=x::ys/\ShA t x/\ShAs ts ys
def trTs (P:Program) (rc:TypeId->Option TT):Nat->List Field->Option (List TT)
 | o,[]=>some []
 | o,f::fs=>match rc f.type,trTs P rc (o+P.cellsOf f.type) fs with
  | some t,some ts=>if f.offset=o then some (t::ts) else none
  | _,_=>none
def zdN (P:Program):List Field->Nat
 | []=>0
 | f::fs=>P.cellsOf f.type+zdN P fs
def isRV (P:Program) (t:TypeId):List Field->Bool
 | [a,b,c,d]=>(a.offset==0&&b.offset==1&&c.offset==2&&d.offset==3)&&(P.cellsOf t==4&&P.cellsOf a.type==1&&P.cellsOf b.type==1&&P.cellsOf c.type==1&&P.cellsOf d.type==1)&&decide (0<P.bytesOf t)&&(match P.underlying a.type,P.underlying b.type,P.underlying c.type,P.underlying d.type with
  | some (.int .i64),some .string,some (.slice e),some (.slice f)=>f==t&&P.cellsOf e==1&&decide (0<P.bytesOf e)&&(match P.underlying e with|some .string=>true|_=>false)
  | _,_,_,_=>false)
 | _=>false
def trT (P:Program):Nat->TypeId->Option TT
 | 0,_=>none
 | d+1,t=>match P.underlying t with
  | some .string=>some .s
  | some .bool=>some .b
  | some (.int k)=>some (.i k)
  | some (.struct fs)=>if isRV P t fs.toList=true then some .rv else if P.cellsOf t=zdN P fs.toList then (trTs P (trT P d) 0 fs.toList).map .st else none
  | some (.slice e)=>if 0<P.cellsOf e/\0<P.bytesOf e then (trT P d e).map .sl else none
  | _=>none
theorem zbO {H:Type} {P:Program} {e:TypeId}:∀{ds:List (DataW H)} {d:DataW H},d∈ds->∀n∈d.weights P e,n∈DataW.weightsAll P e ds
 | [],d,hd,n,hn=>by cases hd
 | d0::ds,d,hd,n,hn=>by
  simp only[DataW.weightsAll,zl];rcases zp.1 hd with rfl|hd
  ·exact .inl hn
  ·exact .inr (zbO hd n hn)
theorem zgM {w:World} {G:Gh} {I:Imm} {t:TT} (a:Addr) (c:Nat) (hI:∀g o v,w.cell? ⟨g,o,none⟩=some v->I g o v):∀k:Nat,
  (∀i,i<k->∃(g:List AV) (ys:List Value),ys.length=c/\(∀j,j<c->w.cell? ((a.add (i*c)).add j)=ys[j]?)/\zab G I g ys/\ShT t g/\∀u∈ys,u.oneCell'=true) ->
  ∃(gs:List (List AV)) (ys:List Value),gs.length=k/\ys.length=k*c/\zab G I gs.flatten ys/\(∀g∈gs,ShT t g)/\(∀u∈ys,u.oneCell'=true)/\∀j,j<k*c->w.cell? (a.add j)=ys[j]?
 | 0,_=>⟨[],[],rfl,by simp,zab.nil,by simp,by simp,fun j hj=>by simp at hj⟩
 | k+1,h=>by
  obtain⟨gs,ys,h1,h2,h3,h4,h5,h6⟩:=zgM a c hI k (fun i hi=>h i (by omega));obtain⟨g,zs,k1,k2,k3,k4,k5⟩:=h k (by omega);have hm:(k+1)*c=k*c+c:=Nat.succ_mul k c;refine⟨gs++[g],ys++zs,by simp[h1],by rw[List.length_append,h2,k1,hm],?_,?_,?_,?_⟩
  ·rw[List.flatten_append,List.flatten_cons,List.flatten_nil,qv];exact zab.append h3 k3
  ·intro x hx;rcases zl.1 hx with hx|hx
   ·exact h4 x hx
   ·rw[List.mem_singleton] at hx;subst hx;exact k4
  ·intro u hu;rcases zl.1 hu with hu|hu
   ·exact h5 u hu
   ·exact k5 u hu
  ·intro j hj
   by_cases hjk:j<k*c
   ·rw[h6 j hjk,List.getElem?_append_left (by omega)]
   ·have:=k2 (j - k*c) (by omega);rw[Addr.add_add,show k*c+(j - k*c)=j by omega] at this;rw[this,List.getElem?_append_right (by omega),h2]
theorem add_flat {a:Addr} {j:Nat} (ha:a.spot=none):a.add j=⟨a.block,a.off+j,none⟩:=by
 cases a
 simp only at ha;subst ha;unfold Addr.add
 split
 ·rename_i h;subst h;rfl
 ·rfl
section
variable {H:Type} {enc:TypeId×Value->H} {P:Program} {w:World} {base:Nat} {spare:Nat->Bool} {held:Bool} {G:Gh} {I:Imm}
theorem zd7 (d:Nat) (ih:∀(t:TypeId) (tt:TT) (fuel:Nat) (cs:List Value) (x:DataW H×List MemPlace),trT P d t=some tt->DataW.trod enc P w base spare held fuel t cs=some x->(∀n∈x.1.weights P t,n<=reachBytes)->∃xs,zab G I xs cs/\ShT tt xs/\∀u∈cs,u.oneCell'=true) (n:Nat) :
  ∀(fs:List Field) (ts:List TT) (o:Nat) (cs:List Value),trTs P (trT P d) o fs=some ts->cs.length=o+zdN P fs->(∀f∈fs,∃x,DataW.trod enc P w base spare held n f.type ((cs.drop f.offset).take (P.cellsOf f.type))=some x/\∀m∈x.1.weights P f.type,m<=reachBytes) ->
   ∃xs,zab G I xs (cs.drop o)/\ShTs ts xs/\∀u∈cs.drop o,u.oneCell'=true
 | [],ts,o,cs,ht,hl,hf=>by
  simp only[trTs,Option.some.injEq] at ht;subst ht;have:cs.drop o=[]:=List.drop_eq_nil_of_le (by simp[zdN] at hl;omega);rw[this];exact⟨[],zab.nil,rfl,by simp⟩
 | f::fs,ts,o,cs,ht,hl,hf=>by
  simp only[trTs] at ht
  split at ht
  ·rename_i t ts' h1 h2
   split at ht
   ·rename_i ho;injection ht with ht;subst ht
    obtain⟨x,hx,hxw⟩:=hf f (qr ..);rw[ho] at hx;obtain⟨xs,k1,k2,k3⟩:=ih _ _ _ _ _ h1 hx hxw;simp only[zdN] at hl;obtain⟨ys,m1,m2,m3⟩:=zd7 d ih n fs ts' (o+P.cellsOf f.type) cs h2 (by omega) (fun f' hf'=>hf f' (qm _ hf'));have e:cs.drop o=(cs.drop o).take (P.cellsOf f.type)++cs.drop (o+P.cellsOf f.type):=by
     rw[<-List.drop_drop,List.take_append_drop]
    refine⟨xs++ys,?_,?_,?_⟩
    ·rw[e];exact zab.append k1 m1
    ·exact⟨xs,ys,rfl,k2,m2⟩
    ·rw[e];intro u hu;rcases zl.1 hu with hu|hu
     ·exact k3 u hu
     ·exact m3 u hu
   ·cases ht
  ·cases ht
theorem zcK (hI:∀g o v,w.cell? ⟨g,o,none⟩=some v->I g o v) (hspa:∀b,spare b=true) {t e:TypeId} {te:TT} {fuel:Nat} {cs:List Value} {x:DataW H×List MemPlace} (hu:P.underlying t=some (.slice e)) (hc:0<P.cellsOf e/\0<P.bytesOf e)
  (ih:∀(n:Nat) (ys:List Value) (x:DataW H×List MemPlace),n<fuel->DataW.trod enc P w base spare held n e ys=some x->(∀n∈x.1.weights P e,n<=reachBytes)->∃g,zab G I g ys/\ShT te g/\∀u∈ys,u.oneCell'=true)
  (h:DataW.trod enc P w base spare held fuel t cs=some x) (hwt:∀n∈x.1.weights P t,n<=reachBytes):∃xs,zab G I xs cs/\ShT (.sl te) xs/\∀u∈cs,u.oneCell'=true:=by
 rcases DataW.trod_slice hu h with ⟨rfl,rfl⟩|⟨a,len,cap,elems,rest,n,hfu,rfl,rfl,hb,hl,hm,hlen,hel,hsr,_⟩
 ·exact⟨[.row 0 []],zab.cons (by simp only[Den];exact⟨none,0,[],rfl,⟨Nat.le_refl _,fun ad h=>by cases h⟩,zab.nil,by simp,by simp⟩) zab.nil,⟨[],rfl,by simp,by simp⟩,by simp;rfl⟩
 ·have hw2:(elems.length+rest.length)*P.bytesOf e<=reachBytes:=by
   have:=hwt ((elems.map (·.1)).length+(rest.map (·.1)).length |> (·*P.bytesOf e)) (by simp[DataW.weights,hu]);simpa using this
  have hel2:elems.length<=140737488351232:=by
   have h1:elems.length*1<=(elems.length+rest.length)*P.bytesOf e:=Nat.mul_le_mul (by omega) hc.2;have:reachBytes=140737488351232:=rfl;omega
  have hel3:∀i,i<len->∃(g:List AV) (ys:List Value),ys.length=P.cellsOf e/\(∀j,j<P.cellsOf e->w.cell? ((a.add (i*P.cellsOf e)).add j)=ys[j]?)/\zab G I g ys/\ShT te g/\∀u∈ys,u.oneCell'=true:=by
   intro i hi;have h1:=hel i hi;have hil:i<elems.length:=by omega
   rw[zq hil,Option.bind_eq_some_iff] at h1;obtain⟨ys,y1,y2⟩:=h1;obtain⟨_,z1,z2⟩:=World.cells?_some y1;obtain⟨g,g1,g2,g3⟩:=ih n ys _ (by omega) y2 (fun m hm=>hwt m (by
    simp only[DataW.weights,hu,zp,zl];exact .inr (.inl (zbO (List.mem_map.2 ⟨_,List.getElem_mem hil,rfl⟩) m hm))))
   exact⟨g,ys,z1,z2,g1,g2,g3⟩
  obtain⟨gs,ys,k1,k2,k3,k4,k5,k6⟩:=zgM (G:=G) a (P.cellsOf e) hI len hel3;have hsp0:cap≠0->a.spot=none:=by
   intro hcap
   by_cases hl0:0<len
   ·have hp:0<len*P.cellsOf e:=Nat.mul_pos hl0 hc.1;have h2:=k6 0 hp;rw[zq (by omega)] at h2;have:=World.cell?_spot h2;simpa[Addr.add] using this
   ·have hr:=(hsr (hspa _)).2 0 (by omega);have hrl:=(hsr (hspa _)).1;rw[zq (by omega),Option.bind_eq_some_iff] at hr;obtain⟨zs,y1,_⟩:=hr;obtain⟨_,z1,z2⟩:=World.cells?_some y1;have h2:=z2 0 hc.1;rw[zq (by omega)] at h2;have:=World.cell?_spot h2;have hl1:len=0:=by omega
    subst hl1;simpa[Addr.add] using this
  refine⟨[.row gs.length gs.flatten],zab.cons ?_ zab.nil,⟨gs,rfl,by omega,k4⟩,by simp;rfl⟩;simp only[Den];refine⟨some a,cap,ys,by rw[k1],⟨by omega,fun ad h hc0=>by injection h with h;subst h;exact hsp0 hc0⟩,k3,k5,fun j u hj=>?_⟩;have hjl:=(qo.1 hj).1;have hlp:len≠0:=by rintro rfl;rw[k2,Nat.zero_mul] at hjl;omega
  have hs:=hsp0 (by omega);refine⟨a.block,a.off,by cases a;simp only at hs;subst hs;rfl,hI _ _ _ ?_⟩;have h2:=k6 j (k2▸hjl);rw[add_flat hs] at h2;rw[h2,hj]
theorem isRV_of {t:TypeId} {fs:List Field} (h:isRV P t fs=true):∃a b c d e,fs=[a,b,c,d]/\(a.offset=0/\b.offset=1/\c.offset=2/\d.offset=3)/\(P.cellsOf t=4/\P.cellsOf a.type=1/\P.cellsOf b.type=1/\P.cellsOf c.type=1/\P.cellsOf d.type=1)/\0<P.bytesOf t /\
  P.underlying a.type=some (.int .i64)/\P.underlying b.type=some .string/\P.underlying c.type=some (.slice e)/\P.underlying d.type=some (.slice t)/\P.cellsOf e=1/\0<P.bytesOf e/\P.underlying e=some .string:=by
 unfold isRV at h
 split at h
 ·rename_i a b c d;simp only[Bool.and_eq_true,beq_iff_eq,decide_eq_true_eq] at h;obtain⟨⟨⟨h1,h2⟩,h3⟩,h4⟩:=h
  split at h4
  ·rename_i e f u1 u2 u3 u4;simp only[Bool.and_eq_true,beq_iff_eq,decide_eq_true_eq] at h4;obtain⟨⟨⟨k1,k2⟩,k3⟩,k4⟩:=h4;subst k1
   split at k4
   ·rename_i u5;exact⟨a,b,c,d,e,rfl,⟨h1.1.1.1,h1.1.1.2,h1.1.2,h1.2⟩,⟨h2.1.1.1.1,h2.1.1.1.2,h2.1.1.2,h2.1.2,h2.2⟩,h3,u1,u2,u3,u4,k2,k3,u5⟩
   ·cases k4
  ·cases h4
 ·cases h
theorem zjf:∀gs:List (List AV),(∀g∈gs,ShT .s g)->∃ks:List (List UInt8),gs.flatten=ks.map .s/\ks.length=gs.length/\∀k∈ks,k.length<=140737488351232
 | [],_=>⟨[],rfl,rfl,by simp⟩
 | g::gs,h=>by
  obtain⟨ks,h1,h2,h3⟩:=zjf gs (fun g hg=>h g (qm _ hg));obtain⟨l,hl,hl2⟩:=h g (qr ..);refine⟨l::ks,by rw[List.flatten_cons,hl,h1];rfl,by simp[h2],fun k hk=>?_⟩;rcases zp.1 hk with rfl|hk
  ·exact hl2
  ·exact h3 k hk
theorem zgL:∀gs:List (List AV),(∀g∈gs,ShT .rv g)->∃rs:List RV,gs.flatten=zdu rs/\rs.length=gs.length/\zlN rs
 | [],_=>⟨[],by rw[zdu];rfl,rfl,by rw[zlN];trivial⟩
 | g::gs,h=>by
  obtain⟨rs,h1,h2,h3⟩:=zgL gs (fun g hg=>h g (qm _ hg));obtain⟨r,hr,hr2⟩:=h g (qr ..);exact⟨r::rs,by rw[List.flatten_cons,hr,h1,zdu],by simp[h2],by rw[zlN];exact⟨hr2,h3⟩⟩
theorem open_rv (hI:∀g o v,w.cell? ⟨g,o,none⟩=some v->I g o v) (hspa:∀b,spare b=true) {t:TypeId} {fs:Array Field} (hu:P.underlying t=some (.struct fs)) (hrv:isRV P t fs.toList=true):∀(m fuel:Nat) (cs:List Value) (x:DataW H×List MemPlace),fuel<m->DataW.trod enc P w base spare held fuel t cs=some x->(∀n∈x.1.weights P t,n<=reachBytes)->∃xs,zab G I xs cs/\ShT .rv xs/\∀u∈cs,u.oneCell'=true:=by
 intro m
 induction m with
 | zero=>intro fuel cs x hm;omega
 | succ m ih=>
  intro fuel cs x hm h hwt;obtain⟨a,b,c,d,e,hfs,⟨o1,o2,o3,o4⟩,⟨c0,c1,c2,c3,c4⟩,hb,u1,u2,u3,u4,e1,e2,e3⟩:=isRV_of hrv;obtain⟨xs,n,hfu,rfl,hlen,hxl,hf⟩:=DataW.trod_struct hu h;have hsz:fs.size=4:=by rw[<-Array.length_toList,hfs];rfl
  have gf:∀j,fs[j]? = [a,b,c,d][j]?:=fun j=>by rw[<-hfs,Array.getElem?_toList]
  have hall:∀(j:Nat) (f:Field),[a,b,c,d][j]? = some f->∃x,DataW.trod enc P w base spare held n f.type ((cs.drop f.offset).take (P.cellsOf f.type))=some x/\∀m∈x.1.weights P f.type,m<=reachBytes:=by
   intro j f hj;have h1:=hf j f (by rw[gf];exact hj);have hjl:j<xs.length:=by
    rw[hxl,hsz];exact(qo.1 hj).1
   rw[zq hjl] at h1;refine⟨_,h1,fun m hm=>hwt m ?_⟩;have hj2:(fs.toList.map (·.type))[j]? = some f.type:=by rw[ql,hfs,hj];rfl
   have:=DataW.weights_mem_each hj2 (show (xs.map (·.1))[j]? = some xs[j].1 by rw[ql,zq hjl];rfl) m hm;simpa[DataW.weights,hu] using this
  obtain⟨xa,ha,wa⟩:=hall 0 a rfl;obtain⟨xb,hb',wb⟩:=hall 1 b rfl;obtain⟨xc,hc',wc⟩:=hall 2 c rfl;obtain⟨xd,hd',wd⟩:=hall 3 d rfl;rw[o1,c1] at ha;rw[o2,c2] at hb';rw[o3,c3] at hc';rw[o4,c4] at hd';rw[c0] at hlen;obtain⟨v0,v1,v2,v3,rfl⟩:∃v0 v1 v2 v3,cs=[v0,v1,v2,v3]:=by
   match cs,hlen with
   | [v0,v1,v2,v3],_=>exact⟨v0,v1,v2,v3,rfl⟩
  simp only[List.drop_zero,List.drop_succ_cons,List.take_succ_cons,List.take_zero] at ha hb' hc' hd';obtain⟨i0,r0,_,w0⟩:=DataW.trod_int u1 ha;injection r0 with r0 _
  obtain⟨s0,r1,rx1,_⟩:=DataW.trod_string u2 hb';injection r1 with r1 _
  subst r0 r1;obtain⟨ys2,d2,⟨g2,q2,l2,m2⟩,oc2⟩:=zcK (te:=.s) (G:=G) (I:=I) hI hspa u3 ⟨by omega,e2⟩ (fun n' ys y hn' hy hyw=>by
   obtain⟨s,rfl,rfl,hs⟩:=DataW.trod_string e3 hy;exact⟨[.s s.data.toList],zab.cons (by simp[Den]) zab.nil,⟨_,rfl,hyw _ (by simp[DataW.weights])⟩,by simp;rfl⟩) hc' wc
  obtain⟨ys3,d3,⟨g3,q3,l3,m3⟩,oc3⟩:=zcK (te:=.rv) (G:=G) (I:=I) hI hspa u4 ⟨by omega,hb⟩ (fun n' ys y hn' hy hyw=>ih n' ys y (by omega) hy hyw) hd' wd;subst q2 q3;obtain⟨ks,k1,k2,k3⟩:=zjf g2 m2;obtain⟨rs,j1,j2,j3⟩:=zgL g3 m3;refine⟨zd6 (.mk i0 s0.data.toList ks rs),?_,⟨_,rfl,?_⟩,?_⟩
  ·rw[zd6,k2,j2,<-k1,<-j1];exact zab.cons (by simp[Den]) (zab.cons (by simp[Den]) (zab.append d2 d3))
  ·rw[RVok];refine⟨w0,?_,by omega,k3,by omega,j3⟩;subst rx1;exact wb _ (by simp[DataW.weights])
  ·intro u hu';simp only[zp,List.not_mem_nil,or_false] at hu';rcases hu' with rfl|rfl|rfl|rfl
   ·rfl
   ·rfl
   ·exact oc2 _ (by simp)
   ·exact oc3 _ (by simp)
theorem zjT (hI:∀g o v,w.cell? ⟨g,o,none⟩=some v->I g o v) (hspa:∀b,spare b=true):∀(d:Nat) (t:TypeId) (tt:TT) (fuel:Nat) (cs:List Value) (x:DataW H×List MemPlace),trT P d t=some tt->DataW.trod enc P w base spare held fuel t cs=some x->(∀n∈x.1.weights P t,n<=reachBytes)->∃xs,zab G I xs cs/\ShT tt xs/\∀u∈cs,u.oneCell'=true:=by
 intro d
 induction d with
 | zero=>intro t tt fuel cs x ht;simp[trT] at ht
 | succ d ih=>
  intro t tt fuel cs x ht h hwt;simp only[trT] at ht
  split at ht
  ·rename_i hu;injection ht with ht;subst ht
   obtain⟨s,rfl,rfl,hs⟩:=DataW.trod_string hu h;refine⟨[.s s.data.toList],zab.cons (by simp[Den]) zab.nil,⟨_,rfl,?_⟩,by simp;rfl⟩;exact hwt _ (by simp[DataW.weights])
  ·rename_i hu;injection ht with ht;subst ht
   obtain⟨b,rfl,_⟩:=DataW.trod_bool hu h;exact⟨[.b b],zab.cons (by simp[Den]) zab.nil,⟨_,rfl⟩,by simp;rfl⟩
  ·rename_i k hu;injection ht with ht;subst ht
   obtain⟨n,rfl,_,hw⟩:=DataW.trod_int hu h;exact⟨[.i k n],zab.cons (by simp[Den]) zab.nil,⟨_,rfl,hw⟩,by simp;rfl⟩
  ·rename_i fs hu
   split at ht
   ·rename_i hrv;injection ht with ht;subst ht
    exact open_rv hI hspa hu hrv (fuel+1) fuel cs x (by omega) h hwt
   split at ht
   ·rename_i hc
    cases hts:trTs P (trT P d) 0 fs.toList with
    | none=>rw[hts] at ht;cases ht
    | some ts=>
     rw[hts] at ht;injection ht with ht;subst ht
     obtain⟨xs,n,_,rfl,hlen,hxl,hf⟩:=DataW.trod_struct hu h;have hall:∀f∈fs.toList,∃x,DataW.trod enc P w base spare held n f.type ((cs.drop f.offset).take (P.cellsOf f.type))=some x/\∀m∈x.1.weights P f.type,m<=reachBytes:=by
      intro f hfm;obtain⟨j,hj⟩:=List.mem_iff_getElem?.1 hfm;have h1:=hf j f (by simpa using hj);have hjl:j<xs.length:=by
       rw[hxl];have:=(qo.1 hj).1;simpa using this
      rw[zq hjl] at h1;refine⟨_,h1,fun m hm=>hwt m ?_⟩;have hj2:(fs.toList.map (·.type))[j]? = some f.type:=by rw[ql,hj];rfl
      have:=DataW.weights_mem_each hj2 (show (xs.map (·.1))[j]? = some xs[j].1 by rw[ql,zq hjl];rfl) m hm;simpa[DataW.weights,hu] using this
     obtain⟨ys,k1,k2,k3⟩:=zd7 d ih n fs.toList ts 0 cs hts (by rw[hlen,hc];omega) hall;exact⟨ys,by simpa using k1,k2,by simpa using k3⟩
   ·cases ht
  ·rename_i e hu
   split at ht
   ·rename_i hc
    cases hte:trT P d e with
    | none=>rw[hte] at ht;cases ht
    | some te=>
     rw[hte] at ht;injection ht with ht;subst ht
     exact zcK hI hspa hu hc (fun n ys y _ hy hyw=>ih e te n ys y hte hy hyw) h hwt
   ·cases ht
  ·cases ht
theorem open_arg (hI:∀g o v,w.cell? ⟨g,o,none⟩=some v->I g o v) (hspa:∀b,spare b=true) {r:Reach} {b0:Nat} {t:TypeId} {tt:TT} {v:Value} {dd:DataW H} {ps:List MemPlace} (ht:trT P 20 t=some tt) (hv:Value.okWide P w r b0 t v) (h:DataW.Trod enc P w base spare held t v dd ps) (hwt:∀n∈dd.weights P t,n<=reachBytes):∃x,Den G I x v/\ShA tt x:=by
 obtain⟨fuel,hf⟩:=h;obtain⟨xs,h1,h2,h3⟩:=zjT hI hspa 20 t tt fuel _ _ ht hf hwt;have ht':=ht;unfold trT at ht
 cases tt with
 | st ts=>
  split at ht<;>first|(injection ht with ht;cases ht;done)|skip
  ·rename_i fs hu;obtain⟨cs,rfl,_⟩:=okWide_struct hu hv;refine⟨.agg xs,?_,⟨xs,rfl,h2⟩⟩;simp only[Den];exact⟨cs.toList,by simp,h1,h3⟩
  ·split at ht
   ·cases hq:trT P 19 _ with
    | none=>rw[hq] at ht;cases ht
    | some q=>rw[hq] at ht;injection ht with ht;cases ht
   ·cases ht
  ·cases ht
 | rv=>
  split at ht<;>first|(injection ht with ht;cases ht;done)|skip
  ·rename_i fs hu;obtain⟨cs,rfl,_⟩:=okWide_struct hu hv;obtain⟨r,rfl,hr⟩:=h2;refine⟨.agg (zd6 r),?_,⟨r,rfl,hr⟩⟩;simp only[Den];exact⟨cs.toList,by simp,h1,h3⟩
  ·split at ht
   ·cases hq:trT P 19 _ with
    | none=>rw[hq] at ht;cases ht
    | some q=>rw[hq] at ht;injection ht with ht;cases ht
   ·cases ht
  ·cases ht
 | sl t=>
  split at ht<;>first|(injection ht with ht;cases ht;done)|skip
  ·split at ht
   ·injection ht with ht;cases ht
   split at ht
   ·cases hq:trTs P (trT P 19) 0 _ with
    | none=>rw[hq] at ht;cases ht
    | some q=>rw[hq] at ht;injection ht with ht;cases ht
   ·cases ht
  ·rename_i e hu;obtain⟨a,len,cap,rfl⟩:=okWide_slice hu hv;obtain⟨gs,rfl,hl,hg⟩:=h2;simp only[zab] at h1;obtain⟨y,ys,e1,k1,k2⟩:=h1;subst k2;have e2:[Value.slice a len cap]=[y]:=e1;injection e2 with e2 _
   subst e2;exact⟨.row gs.length gs.flatten,k1,⟨gs,rfl,hl,hg⟩⟩
  ·cases ht
 | s=>
  split at ht<;>first|(injection ht with ht;cases ht;done)|skip
  ·rename_i hu;obtain⟨s,rfl⟩:=okWide_string hu hv;obtain⟨l,rfl,hl⟩:=h2;simp only[zab] at h1;obtain⟨y,ys,e,k1,k2⟩:=h1;subst k2;have e2:[Value.string s]=[y]:=e;injection e2 with e2 _
   subst e2;exact⟨.s l,k1,⟨l,rfl,hl⟩⟩
  ·split at ht
   ·injection ht with ht;cases ht
   split at ht
   ·cases hq:trTs P (trT P 19) 0 _ with
    | none=>rw[hq] at ht;cases ht
    | some q=>rw[hq] at ht;injection ht with ht;cases ht
   ·cases ht
  ·split at ht
   ·cases hq:trT P 19 _ with
    | none=>rw[hq] at ht;cases ht
    | some q=>rw[hq] at ht;injection ht with ht;cases ht
   ·cases ht
  ·cases ht
 | b=>
  split at ht<;>first|(injection ht with ht;cases ht;done)|skip
  ·rename_i hu;obtain⟨s,rfl⟩:=okWide_bool hu hv;obtain⟨l,rfl⟩:=h2;simp only[zab] at h1;obtain⟨y,ys,e,k1,k2⟩:=h1;subst k2;have e2:[Value.bool s]=[y]:=e;injection e2 with e2 _
   subst e2;exact⟨.b l,k1,⟨l,rfl⟩⟩
  ·split at ht
   ·injection ht with ht;cases ht
   split at ht
   ·cases hq:trTs P (trT P 19) 0 _ with
    | none=>rw[hq] at ht;cases ht
    | some q=>rw[hq] at ht;injection ht with ht;cases ht
   ·cases ht
  ·split at ht
   ·cases hq:trT P 19 _ with
    | none=>rw[hq] at ht;cases ht
    | some q=>rw[hq] at ht;injection ht with ht;cases ht
   ·cases ht
  ·cases ht
 | i k=>
  split at ht<;>first|(injection ht with ht;cases ht;done)|skip
  ·rename_i k' hu;injection ht with ht;injection ht with ht;subst ht
   obtain⟨s,rfl⟩:=okWide_int hu hv;obtain⟨l,rfl,hl⟩:=h2;simp only[zab] at h1;obtain⟨y,ys,e,k1,k2⟩:=h1;subst k2;have e2:[Value.int _ s]=[y]:=e;injection e2 with e2 _
   subst e2;exact⟨.i _ l,k1,⟨l,rfl,hl⟩⟩
  ·split at ht
   ·injection ht with ht;cases ht
   split at ht
   ·cases hq:trTs P (trT P 19) 0 _ with
    | none=>rw[hq] at ht;cases ht
    | some q=>rw[hq] at ht;injection ht with ht;cases ht
   ·cases ht
  ·split at ht
   ·cases hq:trT P 19 _ with
    | none=>rw[hq] at ht;cases ht
    | some q=>rw[hq] at ht;injection ht with ht;cases ht
   ·cases ht
  ·cases ht
theorem open_args (hI:∀g o v,w.cell? ⟨g,o,none⟩=some v->I g o v) (hspa:∀b,spare b=true) {r:Reach} {b0:Nat}:∀(ts:List TypeId) (tts:List TT) (vs:List Value) (ds:List (DataW H)) (ps:List MemPlace),ts.mapM (trT P 20)=some tts->(∀(j:Nat) t v,ts[j]? = some t->vs[j]? = some v->Value.okWide P w r b0 t v)->DataW.TrodAll enc P w base spare held ts vs ds ps->(∀n∈DataW.weightsEach P ts ds,n<=reachBytes)->∃xs,zab G I xs vs/\ShAs tts xs
 | [],tts,vs,ds,ps,ht,hv,h,hwt=>by
  simp at ht;subst ht;obtain⟨rfl,_,_⟩:=trodAll_nil h;exact⟨[],zab.nil,rfl⟩
 | t::ts,tts,vs,ds,ps,ht,hv,h,hwt=>by
  simp only[List.mapM_cons,Option.bind_eq_bind,Option.pure_def] at ht
  cases h1:trT P 20 t with
  | none=>simp[h1] at ht
  | some tt=>
   cases h2:ts.mapM (trT P 20) with
   | none=>simp[h1,h2] at ht
   | some tts'=>
    simp[h1,h2] at ht;subst ht;obtain⟨v,vs',d,ds',p,q,rfl,rfl,rfl,k1,k2⟩:=trodAll_cons h;obtain⟨x,x1,x2⟩:=open_arg (G:=G) (I:=I) hI hspa h1 (hv 0 t v rfl rfl) k1 (fun n hn=>hwt n (by simp only[DataW.weightsEach,zl];exact .inl hn));obtain⟨xs,y1,y2⟩:=open_args hI hspa ts tts' vs' ds' q h2 (fun j t v hj hv'=>hv (j+1) t v (by simpa using hj) (by simpa using hv')) k2 (fun n hn=>hwt n (by simp only[DataW.weightsEach,zl];exact .inr hn));exact⟨x::xs,zab.cons x1 y1,⟨x,xs,rfl,x2,y2⟩⟩
theorem zco (hl:laidOutB P=true) {W W':World} {sp':Nat->Bool}:∀(ts:List TypeId) (vs:List Value) (ds:List (DataW H)) (ps:List MemPlace),(∀t∈ts,P.readableRec t=true/\t<P.types.size)->DataW.TrodAll enc P W 0 (fun _=>true) true ts vs ds ps->Below W.heap.size W W'->(∀p∈ps,p.block<W.heap.size)->(∀p∈ps,sp' p.block=true)->DataW.TrodAll enc P W' 0 sp' true ts vs ds ps
 | [],vs,ds,ps,hr,h,hb,hlt,hs=>by
  obtain⟨rfl,rfl,rfl⟩:=trodAll_nil h;exact trodAll_mk0
 | t::ts,vs,ds,ps,hr,h,hb,hlt,hs=>by
  obtain⟨v,vs',d,ds',p,q,rfl,rfl,rfl,k1,k2⟩:=trodAll_cons h;have h1:=hr t (qr ..);exact trodAll_cons_mk (WideElems.Trod_stays hl h1.1 h1.2 k1 (fun x hx=>hb.same (hlt x (je _ hx))) (fun x hx=>hs x (je _ hx)))
   (zco hl ts vs' ds' q (fun t ht=>hr t (qm _ ht)) k2 hb (fun x hx=>hlt x (jm _ hx)) (fun x hx=>hs x (jm _ hx)))
end
theorem post_true {H:Type} {enc:TypeId×Value->H} {P:Program} {f:Func} {s:ChangeSpec} {apart fresh handsOn again:Bool} {W W':World} {args:Array Value} {ds gs:List (DataW H)} {before:List MemPlace}
  (hl:laidOutB P=true) (hts:∀t∈f.params.toList,P.readableRec t=true/\t<P.types.size) {tb:TypeId} (hrt:f.resultTypes=#[tb]) (hub:P.underlying tb=some .bool) (hsv:s.vars=[])
  (hW:DataW.Whole enc P f.params.toList s.vars apart W args.toList ds gs before) (hfn:s.fn H (ds++gs)={ results:=[.lit (.bool true)],args:=ds }) (hb:Below W.heap.size W W'):s.post enc P f apart fresh handsOn again W args (.bool true) W':=by
 have hlt:∀p∈before,p.block<W.heap.size:=fun p hp=>hW.lt p hp;have hold:∀p∈before,(fun b=>decide (b<W.heap.size)) p.block=true:=fun p hp=>by simpa using hlt p hp
 have hW':=hW;obtain⟨p,q,hA,hV,rfl,hz,hn⟩:=hW';rw[hsv] at hV;have hvars:gs=[]/\q=[]:=by
  cases gs with
  | nil=>exact⟨rfl,hV⟩
  | cons g gs=>exact hV.elim
 obtain⟨rfl,rfl⟩:=hvars;simp only[qv] at *;have hres:∀(b:Nat) (sp:Nat->Bool) (hd:Bool),DataW.TrodAll enc P W' b sp hd f.resultTypes.toList ((Value.bool true).resultList f.resultTypes.size) (s.fn H ds).results []:=by
  intro b sp hd;rw[hfn,hrt];exact trodAll_cons_mk (shut_bool hub _) trodAll_mk0
 have hargs:∀sp:Nat->Bool,(∀x∈p,sp x.block=true)->DataW.TrodAll enc P W' 0 sp true f.params.toList args.toList (s.fn H ds).args p:=by
  intro sp hsp;rw[hfn];exact zco hl _ _ _ _ hts hA hb hlt hsp
 have hvs:∀sp:Nat->Bool,DataW.TrodVars enc P W' sp s.vars (s.fn H ds).vars []:=by
  intro sp;rw[hsv,hfn];rfl
 refine⟨ds,[],p,[],p,[],hW,by simpa using hres _ _ _,by simpa using hargs _ hold,by simpa using hvs _,World.keptBut_mono (fun x hx=>⟨hx,?_⟩) (hb.frame (·∈p)),fun _=>?_⟩
 ·exact Or.inr (Or.inl hx)
 ·refine⟨?_,_,_,([]++p)++[],⟨[]++p,[],trodAll_append (by simpa using hargs _ (fun _ _=>rfl)) (by simpa using hres _ _ _),by simpa using hvs _,rfl,?_,?_⟩,?_⟩
  ·intro j t r hj hr;rw[hrt] at hj hr
   cases j with
   | zero=>
    simp at hj;subst hj;have:r=.bool true:=by simpa[Value.resultList] using hr.symm
    subst this;exact okWide_bool_mk hub _
   | succ j=>simp at hj
  ·intro b off hp;have hin:MemPlace.cell b off∈p:=by simpa using hp
   rw[hb.frozen (hlt _ hin)];exact hz b off hin
  ·intro ha;simpa using hn ha
  ·intro x hx _;simpa using hx
section
variable {H:Type} {enc:TypeId×Value->H}
end
end Go.Proofs.YtcpldfimbhdfdaaGreatDoor.Sx
namespace Go.Proofs.YtcpldfimbhdfdaaGreatDoor
open Sx
open List renaming length_cons->qk
theorem sl_wf8 {c:Int} (h:(Lit.int .u8 c).wf=true):∃u:UInt8,c=(u.toNat:Int):=by
 have h':0<=c/\c<=255:=by simpa[Lit.wf,IntKind.min,IntKind.max,IntKind.signed,IntKind.bits] using h
 exact⟨UInt8.ofNat c.toNat,by rw[UInt8.toNat_ofNat'];omega⟩
theorem sl_u8:∀{gs:List (List AV)},(∀g∈gs,ShT (.i .u8) g)->∃l:List UInt8,gs.flatten=byA l/\gs.length=l.length
 | [],_=>⟨[],rfl,rfl⟩
 | g::gs,h=>by
  obtain⟨l,h1,h2⟩:=sl_u8 (fun x hx=>h x (List.mem_cons_of_mem _ hx));obtain⟨n,rfl,hw⟩:=h g (List.mem_cons_self ..);obtain⟨c,rfl⟩:=sl_wf8 hw;exact⟨c::l,by rw[List.flatten_cons,h1];rfl,by rw[qk,qk,h2]⟩
end Go.Proofs.YtcpldfimbhdfdaaGreatDoor
namespace Go.Proofs.YtcpldfimbhdfdaaGreatDoor.Sx
open Go.RowKit
section
variable {P:Program} [Tabs P] {C:Cx}
variable {F:zat} {k:List IT} {objs:List OB} {tm:List AV}
end
section
variable {P:Program} [Tabs P] {C:Cx} {F:zat} {k:List IT} {objs:List OB} {tm:List AV}
theorem zaf {x y:SCode} (h:∀Y,Y=y->run P C (.code x::.code Y::k) objs tm F):run P C (.code (.seq x y)::k) objs tm F:=h y rfl
end
end Go.Proofs.YtcpldfimbhdfdaaGreatDoor.Sx
namespace Go.Proofs.YtcpldfimbhdfdaaGreatDoor
open Go.RowKit Sx
open Lib renaming split->qp
open List renaming getElem?_append_left->qf
open Nat renaming le_refl->zg
section
variable [Tabs Tryz.prog] {objs:List OB} {K:List OB->AV->Prop}
end
section
variable [Tabs Tryz.prog] {objs:List OB} {K:List OB->AV->Prop}
theorem zhw [Shp Tryz.prog] (s p:List UInt8) (hs:s.length<=1000000) (hk:K objs (.i .i64 (Lib.index s p))):zai Tryz.prog 123 [.s s,.s p] objs K :=
 convT (vs:=[.string (S s),.string (S p)]) rfl rfl (fun w hT=>(Tryz.strings_Index_shaped (S s) (S p) w (Shp.sh w hT) (by rw[zdQ];omega)).mono fun e w' h=>⟨h.1,by rw[h.2];exact Qb.refl w⟩) hk
end
section
variable [Tabs Tryz.prog] {objs:List OB} {K:List OB->AV->Prop}
end
theorem zi8 (G:Gh) (I:Imm):∀l:List (List UInt8),zab G I (l.map .s) (sv l)
 | []=>zab.nil
 | x::l=>by
  show zab G I (AV.s x::l.map .s) (.string (S x)::sv l);exact zab.cons (by simp[Den]) (zi8 G I l)
section
variable [Tabs Tryz.prog] {objs:List OB} {K:List OB->AV->Prop}
end
theorem zef {α:Type} {l:List α} {b:Nat} {x:α} (h:l[b]? = some x):b<l.length:=by
 rcases Nat.lt_or_ge b l.length with h0|h0
 ·exact h0
 ·rw[List.getElem?_eq_none h0] at h;cases h
theorem set_same {α:Type} {l:List α} {b:Nat} {x:α} (h:l[b]? = some x):l.set b x=l:=by
 apply List.ext_getElem?
 intro i;rw[List.getElem?_set]
 split
 ·rename_i e;subst e;rw[if_pos (zef h),h]
 ·rfl
section
variable [Tabs Tryz.prog] {objs:List OB} {K:List OB->AV->Prop}
end
theorem zgi {w w':World} (h:w.grownBy w' none) (o:Obj) (row:Option Nat):w.grownBy (w'.alloc o) row :=
 ⟨h.os,h.tape,h.output,by simp;have:=h.size;omega,fun k hk _=>(Below.heap_alloc w' o k (Nat.lt_of_lt_of_le hk h.size)).trans (h.block k hk (by simp))⟩
def ziL (objs:List OB) (b:Nat) (T:TypeId) (l:List UInt8):Prop :=
 (objs[b]? = some (.box T [.o (.pointer none),.nil])/\l=[])\/∃r gen,objs[b]? = some (.box T [.p b 0,.orow r gen])/\objs[r]? = some (.orow 5 1 gen l.length (byA l))
def zfj (objs:List OB) (b:Nat):Option Nat :=
 match objs[b]? with
 | some (.box _ [_,.orow r _])=>some r
 | _=>none
def Kept (objs:List OB) (b:Nat) (objs':List OB):Prop:=objs.length<=objs'.length/\(∀(j:Nat) ob,objs[j]? = some ob->j≠b->zfj objs b≠some j->objs'[j]? = some ob/\zfj objs' b≠some j)
theorem Kept.refl (objs:List OB) (b:Nat):Kept objs b objs:=⟨zg _,fun j ob h _ h2=>⟨h,h2⟩⟩
theorem Kept.trans {o1 o2 o3:List OB} {b:Nat} (h:Kept o1 b o2) (k:Kept o2 b o3):Kept o1 b o3 :=
 ⟨Nat.le_trans h.1 k.1,fun j ob h1 h2 h3=>by
  obtain⟨a1,a2⟩:=h.2 j ob h1 h2 h3;exact k.2 j ob a1 h2 a2⟩
theorem ziL.lt {objs:List OB} {b:Nat} {T:TypeId} {l:List UInt8} (h:ziL objs b T l):b<objs.length/\∀r,zfj objs b=some r->r<objs.length:=by
 rcases h with ⟨h,_⟩|⟨r,gen,h,h2⟩
 ·refine⟨zef h,fun r hr=>?_⟩;unfold zfj at hr;rw[h] at hr;cases hr
 ·refine⟨zef h,fun r' hr=>?_⟩;unfold zfj at hr;rw[h] at hr;injection hr with hr;subst hr;exact zef h2
theorem ziL.app {objs:List OB} {b:Nat} {T:TypeId} {l:List UInt8} (h:ziL objs b T l) (more:List OB):ziL (objs++more) b T l/\zfj (objs++more) b=zfj objs b:=by
 have hlt:=h.lt.1;have e:(objs++more)[b]? = objs[b]?:=qf hlt;refine⟨?_,by unfold zfj;rw[e]⟩;rcases h with ⟨h,h2⟩|⟨r,gen,h,h2⟩
 ·exact .inl ⟨by rw[e];exact h,h2⟩
 ·exact .inr ⟨r,gen,by rw[e];exact h,by rw[qf (zef h2)];exact h2⟩
theorem Kept.drop {objs more objs':List OB} {b:Nat} {T:TypeId} {l:List UInt8} (h:ziL objs b T l) (k:Kept (objs++more) b objs'):Kept objs b objs':=by
 refine⟨by have:=k.1;simp at this;omega,fun j ob h1 h2 h3=>k.2 j ob (by rw[qf (zef h1)];exact h1) h2 (by rw[(h.app more).2];exact h3)⟩
section
variable [Tabs Tryz.prog] {objs:List OB} {K:List OB->AV->Prop}
end
theorem zfd (p s:List UInt8):(Lib.splitB (S p) 0 (Lib.countB (S s) (S p)) (S s)).map Value.string=sv (qp s p):=by
 have h:(Lib.splitB (S p) 0 (Lib.countB (S s) (S p)) (S s)).map (·.data.toList)=qp s p:=Lib.splitB_data (S p) 0 (Lib.countB (S s) (S p)) (S s);rw[<-h];unfold sv;rw[List.map_map]
 apply List.map_congr_left
 intro x _;simp[S]
theorem zie (p s:List UInt8) (hp:1<=p.length):Lib.countB (S s) (S p)+1=(qp s p).length:=by
 have h:(Lib.splitB (S p) 0 (Lib.countB (S s) (S p)) (S s)).map (·.data.toList)=qp s p:=Lib.splitB_data (S p) 0 (Lib.countB (S s) (S p)) (S s);rw[<-h,List.length_map,Lib.splitB_all (S p) (by rw[zdQ];exact hp) 0 _ _ rfl]
section
variable [Tabs Tryz.prog] {objs:List OB} {K:List OB->AV->Prop}
theorem zhv [Shp Tryz.prog] (s p:List UInt8) (hp:1<=p.length) (hs:s.length<=1000000) (hk:K objs (.row (qp s p).length ((qp s p).map .s))):zai Tryz.prog 124 [.s s,.s p] objs K:=by
 intro C _ G I w hin hm ys hd;have hT:=hin.tab (P:=Tryz.prog);rw[(za9 G I [.s s,.s p] [.string (S s),.string (S p)] rfl ys).1 hd];refine(Tryz.strings_Split_shaped (S s) (S p) w (Shp.sh w hT) (by rw[zdQ];omega) (by rw[zdQ];exact hp)).mono ?_;rintro e w' ⟨rfl,rfl⟩;have hn:=zie p s hp;have hc:=zfd p s;have hg:w.grownBy (w.alloc (.cells ((Lib.splitB (S p) 0 (Lib.countB (S s) (S p)) (S s)).map Value.string).toArray 9)) none:=zgi (World.grownBy.refl w _) _ _;obtain⟨I',s1,s2,s3,s4⟩:=zfr hin hm hg w.heap.size (qp s p).length (qp s p).length ((qp s p).map .s) (sv (qp s p)) (zg _) (zg _) (zi8 G I _) (sv_one _) (fun j u hj=>by
  rw[World.cell?_alloc_new,hc];simpa using hj)
 rw[hn];exact⟨_,objs,.row (qp s p).length ((qp s p).map .s),G,I',rfl,hk,Gh.le.refl G,s1,s2,s3,s4⟩
end
section
variable [Tabs Tryz.prog] {objs:List OB} {K:List OB->AV->Prop}
end
section
variable [Tabs Tryz.prog] {objs:List OB} {K:List OB->AV->Prop}
end
section
variable [Tabs Tryz.prog] {objs:List OB} {K:List OB->AV->Prop}
end
theorem zeq {P:Program} [Tabs P] {f:FuncId} {args:List AV} {objs:List OB} {K:List OB->AV->Prop} (r':AV) (hc:zai P f args objs (fun o r=>(∀G I y,Den G I r y->Den G I r' y)/\K o r')):zai P f args objs K:=by
 intro C _ G I w hin hm ys hd;refine(hc C G I w hin hm ys hd).mono ?_;rintro e w' ⟨y,objs',r,G',I',he,⟨hr,hk⟩,h1,h2,h3,h4,hy⟩;exact⟨y,objs',r',G',I',he,hk,h1,h2,h3,h4,hr _ _ _ hy⟩
section
variable [Tabs Tryz.prog] {objs:List OB} {K:List OB->AV->Prop}
end
section
attribute [local irreducible] run
end
section
attribute [local irreducible] run
section
variable [Tabs Tryz.prog] {objs:List OB} {K:List OB->AV->Prop}
end
end
section
attribute [local irreducible] run
section
variable [Tabs Tryz.prog] {objs:List OB} {K:List OB->AV->Prop}
end
end
open Nat renaming reduceAdd -> z6, reduceSub -> z7, reduceLeDiff -> z8, reduceLT -> j4, reduceMul -> j5, reduceEqDiff -> j6
open Int renaming reduceToNat -> j7, reduceAdd -> j8, reduceSub -> j9, reduceMul -> x0, reduceNeg -> x3, reduceLT -> x4, reduceLE -> x5, reduceEq -> x6, reduceNe -> x7
section
attribute [local irreducible] run
def ucells (u:UrlP):List AV:=[.s u.host,.i .i64 u.port,.s u.path,.s u.query,.s u.frag,.b u.hq,.b u.hf]
def uscells (l:List UrlP):List AV:=l.flatMap ucells
def zbg (st:Int):Bool:=decide (st=301)||(decide (st=302)||(decide (st=303)||(decide (st=307)||decide (st=308))))
section
variable [Tabs Tryz.prog] {objs:List OB} {K:List OB->AV->Prop}
theorem zkG (st:Int) (hk:K objs (.b (zbg st))):zai Tryz.prog 13 [.i .i64 st] objs K:=by
 refine zgo is_redirect_IsRedirect rfl fun C _=>?_;unfold zbg at hk
 by_cases c1:st=301
 ·subst c1;simp only[c_redirect_IsRedirect,sxZ,z6,z7,z8,j4,j5,j6,j7,j8,j9,x0,x3,x4,x5,x6,x7,reduceCtorEq,↓reduceIte];exact hk
 ·by_cases c2:st=302
  ·subst c2;simp only[c_redirect_IsRedirect,sxZ,z6,z7,z8,j4,j5,j6,j7,j8,j9,x0,x3,x4,x5,x6,x7,reduceCtorEq,↓reduceIte];exact hk
  ·by_cases c3:st=303
   ·subst c3;simp only[c_redirect_IsRedirect,sxZ,z6,z7,z8,j4,j5,j6,j7,j8,j9,x0,x3,x4,x5,x6,x7,reduceCtorEq,↓reduceIte];exact hk
   ·by_cases c4:st=307
    ·subst c4;simp only[c_redirect_IsRedirect,sxZ,z6,z7,z8,j4,j5,j6,j7,j8,j9,x0,x3,x4,x5,x6,x7,reduceCtorEq,↓reduceIte];exact hk
    ·by_cases c5:st=308
     ·subst c5;simp only[c_redirect_IsRedirect,sxZ,z6,z7,z8,j4,j5,j6,j7,j8,j9,x0,x3,x4,x5,x6,x7,reduceCtorEq,↓reduceIte];exact hk
     ·simp only[c1,c2,c3,c4,c5,decide_false,Bool.or_false] at hk;simp only[c_redirect_IsRedirect,sxZ,z6,z7,z8,j4,j5,j6,j7,j8,j9,x0,x3,x4,x5,x6,x7,reduceCtorEq,↓reduceIte,c1,c2,c3,c4,c5];exact hk
theorem zii (st:Int) (hk:K objs (.b (zbg st))):zai Tryz.prog 14 [.i .i64 st] objs K:=by
 refine zgo is_ref25_IsRedirect rfl fun C _=>?_;have e:zbg st=(decide (301<=st)&&decide (st<=303)||decide (st=307)||decide (st=308)):=by
  unfold zbg;rw[Bool.eq_iff_iff];simp only[Bool.or_eq_true,Bool.and_eq_true,decide_eq_true_eq];omega
 rw[e] at hk
 by_cases c1:(301:Int)<=st
 ·by_cases c2:st<=303
  ·simp only[c1,c2,decide_true,Bool.and_true,Bool.true_or] at hk;simp only[c_ref25_IsRedirect,sxZ,z6,z7,z8,j4,j5,j6,j7,j8,j9,x0,x3,x4,x5,x6,x7,reduceCtorEq,↓reduceIte,c1,c2];exact hk
  ·by_cases c3:st=307
   ·subst c3;simp only[c_ref25_IsRedirect,sxZ,z6,z7,z8,j4,j5,j6,j7,j8,j9,x0,x3,x4,x5,x6,x7,reduceCtorEq,↓reduceIte];exact hk
   ·by_cases c4:st=308
    ·subst c4;simp only[c_ref25_IsRedirect,sxZ,z6,z7,z8,j4,j5,j6,j7,j8,j9,x0,x3,x4,x5,x6,x7,reduceCtorEq,↓reduceIte];exact hk
    ·simp only[c1,c2,c3,c4,decide_true,decide_false,Bool.and_false,Bool.or_false,Bool.false_or] at hk;simp only[c_ref25_IsRedirect,sxZ,z6,z7,z8,j4,j5,j6,j7,j8,j9,x0,x3,x4,x5,x6,x7,reduceCtorEq,↓reduceIte,c1,c2,c3,c4];exact hk
 ·have c3:¬st=307:=by omega
  have c4:¬st=308:=by omega
  simp only[c1,c3,c4,decide_false,Bool.false_and,Bool.or_false] at hk;simp only[c_ref25_IsRedirect,sxZ,z6,z7,z8,j4,j5,j6,j7,j8,j9,x0,x3,x4,x5,x6,x7,reduceCtorEq,↓reduceIte,c1,c3,c4];exact hk
end
end
end Go.Proofs.YtcpldfimbhdfdaaGreatDoor
namespace Go.Proofs.YtcpldfimbhdfdaaGreatDoor
open List renaming cons_append->qi, getElem?_append_left->qf, getElem?_append_right->qw, getElem?_eq_getElem->zq, getElem?_eq_some_iff->qo, getElem?_set_ne->zf, getElem?_set_self->zm, mem_singleton->ji, nil_append->qh
open Option renaming map_some->qy
/-! ## A chunk -/
/-! ## Digits -/
/-! ## The form with chunks of one size -/
/-! ## What is cut off -/
open Go.RowKit Sx
class Brn (P:Program) [Tabs P]:Prop where
 br:∀w:World,Tabs.T (P:=P) w->w.cell? ⟨7,15,none⟩=some (.int .u8 4)
section
variable [Tabs Tryz.prog] [Brn Tryz.prog] {objs:List OB} {K:List OB->AV->Prop}
end
section
attribute [local irreducible] run
section
variable [Tabs Tryz.prog] {objs:List OB} {K:List OB->AV->Prop}
end
section
variable [Tabs Tryz.prog] {objs:List OB} {K:List OB->AV->Prop}
end
end
section
variable [Tabs Tryz.prog] {objs:List OB} {K:List OB->AV->Prop}
end
section
attribute [local irreducible] run
section
variable [Tabs Tryz.prog] {objs:List OB} {K:List OB->AV->Prop}
end
end
section
attribute [local irreducible] run
theorem zdA {G:Gh} {I:Imm} {y:Value} (h:Den G I .nil y):Den G I (.row 0 []) y:=by
 simp only[zab,Den] at h ⊢;exact⟨none,0,[],h,⟨Nat.le_refl _,fun ad h=>by cases h⟩,rfl,by simp,by simp⟩
end
section
attribute [local irreducible] run
structure ExP where
 url:UrlP
 st:Int
 err:Int
def zaP (x:ExP):List AV:=[.s x.url.host,.i .i64 x.url.port,.s x.url.path,.s x.url.query,.s x.url.frag,.b x.url.hq,.b x.url.hf,.i .i64 x.st,.i .i64 x.err]
def zan (l:List ExP):List AV:=l.flatMap zaP
theorem zbb (l:List ExP):(zan l).length=l.length*9:=by
 induction l with
 | nil=>rfl
 | cons a l ih=>rw[show zan (a::l)=zaP a++zan l from rfl,List.length_append,ih];simp[zaP];omega
theorem zbN (l:List ExP):zak (zan l)=true:=by
 induction l with
 | nil=>rfl
 | cons a l ih=>rw[show zan (a::l)=zaP a++zan l from rfl];simp only[zaP,qi,qh,zak,AV.plain,ih,Bool.and_self]
theorem zdi (l:List ExP) (x:ExP):zan (l++[x])=zan l++zaP x:=by simp[zan]
def zh8 (m:Nat) (l:List ExP) (o:List OB) (X:AV):Prop:=(l=[]/\X=.nil)\/∃r g,X=.orow r g/\m<=r/\o[r]? = some (.orow 31 9 g l.length (zan l))
def RowW (m:Nat) (l:List UrlP) (o:List OB) (X:AV):Prop:=∃r g,X=.orow r g/\m<=r/\o[r]? = some (.orow 28 7 g l.length (uscells l))
theorem zh8.mono {m:Nat} {l:List ExP} {o:List OB} {X:AV} (h:zh8 m l o X) (z:OB):zh8 m l (o++[z]) X:=by
 rcases h with h|⟨r,g,e,h0,hr⟩
 ·exact .inl h
 ·exact .inr ⟨r,g,e,h0,by rw[qf (qo.1 hr).1];exact hr⟩
theorem zh8.tr {m:Nat} {l:List ExP} {o o':List OB} {X:AV} (h:zh8 m l o X) (hf:∀j,j<o.length->o'[j]? = o[j]?):zh8 m l o' X:=by
 rcases h with h|⟨r,g,e,h0,hr⟩
 ·exact .inl h
 ·exact .inr ⟨r,g,e,h0,by rw[hf r (qo.1 hr).1];exact hr⟩
theorem zh8.far {m m':Nat} {l:List ExP} {o o':List OB} {X:AV} (h:zh8 m l o X) (hm:m'<=m) (hf:∀j,m<=j->o'[j]? = o[j]?):zh8 m' l o' X:=by
 rcases h with h|⟨r,g,e,h0,hr⟩
 ·exact .inl h
 ·exact .inr ⟨r,g,e,Nat.le_trans hm h0,by rw[hf r h0];exact hr⟩
theorem zcr {P M:List OB} {T U:TypeId} {c c' d d':List AV} {j E sz g n:Nat} {xs:List AV} (h:(P++.box T c::.box U c'::M)[j]? = some (.orow E sz g n xs)):(P++.box T d::.box U d'::M)[j]? = some (.orow E sz g n xs):=by
 rcases Nat.lt_or_ge j P.length with h0|h0
 ·rw[qf h0] at h ⊢;exact h
 ·rw[qw h0] at h ⊢;generalize j - P.length=i at h;rcases i with _|_|i
  ·cases h
  ·cases h
  ·exact h
theorem zh8.keep {m:Nat} {l:List ExP} {P M:List OB} {T U:TypeId} {c c' d d':List AV} {X:AV} (h:zh8 m l (P++.box T c::.box U c'::M) X):zh8 m l (P++.box T d::.box U d'::M) X:=by
 rcases h with h|⟨r,g,e,h0,hr⟩
 ·exact .inl h
 ·exact .inr ⟨r,g,e,h0,zcr hr⟩
theorem RowW.keep {m:Nat} {l:List UrlP} {P M:List OB} {T U:TypeId} {c c' d d':List AV} {X:AV} (h:RowW m l (P++.box T c::.box U c'::M) X):RowW m l (P++.box T d::.box U d'::M) X:=by
 obtain⟨r,g,e,h0,hr⟩:=h;exact⟨r,g,e,h0,zcr hr⟩
theorem zh8.one {m:Nat} {l:List ExP} {o:List OB} {X:AV} (h:zh8 m l o X):X.one=true:=by
 rcases h with ⟨_,rfl⟩|⟨r,g,rfl,_⟩<;>rfl
theorem RowW.one {m:Nat} {l:List UrlP} {o:List OB} {X:AV} (h:RowW m l o X):X.one=true:=by
 obtain⟨r,g,rfl,_⟩:=h;rfl
section
variable [Tabs Tryz.prog] {objs:List OB} {K:List OB->AV->Prop}
end
end
section
attribute [local irreducible] run
def zaO (s:List (List ExP)×List ExP) (x:ExP):List (List ExP)×List ExP:=if zbg x.st=true then (s.1,s.2++[x]) else (s.1++[s.2++[x]],[])
def chS (l:List ExP):List (List ExP)×List ExP:=l.foldl zaO ([],[])
def chE (l:List ExP):List (List ExP):=(chS l).1++if (chS l).2=[] then [] else [(chS l).2]
theorem chS_snoc (l:List ExP) (x:ExP):chS (l++[x])=zaO (chS l) x:=by unfold chS;rw[List.foldl_append];rfl
theorem zeY (l:List ExP) (i:Nat) (h:i<l.length):chS (l.take (i+1))=zaO (chS (l.take i)) l[i]:=by rw[List.take_succ_eq_append_getElem h,chS_snoc]
theorem chS_bd:∀(l:List ExP) (s:List (List ExP)×List ExP) (k:Nat),s.1.length+s.2.length<=k->(l.foldl zaO s).1.length+(l.foldl zaO s).2.length<=k+l.length
 | [],s,k,h=>h
 | x::l,s,k,h=>by
  have h3:(zaO s x).1.length+(zaO s x).2.length<=k+1:=by
   unfold zaO
   split<;>simp<;>omega
  have h4:=chS_bd l (zaO s x) (k+1) h3;rw[List.foldl_cons,List.length_cons];omega
theorem zcS (l:List ExP):(chS l).1.length+(chS l).2.length<=l.length:=by
 have:=chS_bd l ([],[]) 0 (Nat.le_refl _);simpa[chS] using this
def obx (g:Nat) (c:List ExP):OB:=.orow 31 9 g c.length (zan c)
def refs (rs:List (Nat×Nat)):List AV:=rs.map fun p=>.orow p.1 p.2
structure ChI (T:Nat) (o:List OB) (cs:List (List ExP)) (cur:List ExP) (rs:List (Nat×Nat)) (X Y:AV):Prop where
 len:rs.length=cs.length
 at_:∀(j:Nat) (p:Nat×Nat) (c:List ExP),rs[j]? = some p->cs[j]? = some c->o[p.1]? = some (obx p.2 c)
 y:(cs=[]/\Y=.nil)\/∃r g,Y=.orow r g/\o[r]? = some (.orow T 1 g cs.length (refs rs))/\(∀p∈rs,p.1≠r)
 x:(cur=[]/\X=.nil)\/∃r g,X=.orow r g/\o[r]? = some (obx g cur)/\(∀p∈rs,p.1≠r)/\∀r' g',Y=.orow r' g'->r'≠r
theorem zc5 {α:Type} {o:List α} {r:Nat} {a b:α} (h:o[r]? = some a):(o++[b])[r]? = some a:=by
 rw[qf (qo.1 h).1];exact h
theorem zgx {α:Type} {o:List α} {r:Nat} {a:α} (h:o[r]? = some a):r<o.length:=(qo.1 h).1
variable {T:Nat} {o:List OB} {cs:List (List ExP)} {cur:List ExP} {rs:List (Nat×Nat)} {X Y:AV}
theorem ChI.grow (h:ChI T o cs cur rs X Y) (z:OB):ChI T (o++[z]) cs cur rs X Y:=by
 refine⟨h.len,fun j p c hp hc=>zc5 (h.at_ j p c hp hc),?_,?_⟩
 ·rcases h.y with h1|⟨r,g,e,h1,h2⟩
  ·exact .inl h1
  ·exact .inr ⟨r,g,e,zc5 h1,h2⟩
 ·rcases h.x with h1|⟨r,g,e,h1,h2⟩
  ·exact .inl h1
  ·exact .inr ⟨r,g,e,zc5 h1,h2⟩
theorem ChI.rlt (h:ChI T o cs cur rs X Y) {p:Nat×Nat} (hp:p∈rs):p.1<o.length:=by
 obtain⟨j,hj,rfl⟩:=List.mem_iff_getElem.1 hp;have hjc:j<cs.length:=by rw[<-h.len];exact hj
 exact zgx (h.at_ j _ _ (zq hj) (zq hjc))
theorem ChI.ylt (h:ChI T o cs cur rs X Y) {r g:Nat} (e:Y=.orow r g):r<o.length:=by
 rcases h.y with ⟨_,h1⟩|⟨r',g',e',h1,_⟩
 ·rw[h1] at e;cases e
 ·rw[e'] at e;cases e;exact zgx h1
theorem ChI.first (h:ChI T o cs [] rs X Y) (x:ExP):ChI T (o++[obx 0 [x]]) cs [x] rs (.orow o.length 0) Y:=by
 have h2:=h.grow (obx 0 [x]);refine⟨h2.len,h2.at_,h2.y,.inr ⟨_,_,rfl,by simp,fun p hp=>Nat.ne_of_lt (h.rlt hp),fun r' g' e=>Nat.ne_of_lt (h.ylt e)⟩⟩
theorem ChI.more {r g:Nat} (h:ChI T o cs cur rs (.orow r g) Y) (x:ExP):ChI T (o.set r (obx (g+1) (cur++[x]))) cs (cur++[x]) rs (.orow r (g+1)) Y:=by
 rcases h.x with ⟨_,e⟩|⟨r1,g1,e,h1,h2,h3⟩
 ·cases e
 cases e
 have hlt:=zgx h1;refine⟨h.len,fun j p c hp hc=>?_,?_,.inr ⟨_,_,rfl,zm hlt,h2,h3⟩⟩
 ·rw[zf (fun e=>h2 p (List.mem_of_getElem? hp) e.symm)];exact h.at_ j p c hp hc
 ·rcases h.y with h4|⟨r',g',e,h4,h5⟩
  ·exact .inl h4
  ·exact .inr ⟨r',g',e,by rw[zf (fun e2=>h3 r' g' e e2.symm)];exact h4,h5⟩
theorem ChI.end0 {r g:Nat} (h:ChI T o [] cur rs (.orow r g) Y):ChI T (o++[.orow T 1 0 1 [.orow r g]]) [cur] [] [(r,g)] .nil (.orow o.length 0):=by
 rcases h.x with ⟨_,e⟩|⟨r1,g1,e,h1,h2,h3⟩
 ·cases e
 cases e
 refine⟨rfl,fun j p c hp hc=>?_,.inr ⟨_,_,rfl,by simp[refs],fun p hp=>?_⟩,.inl ⟨rfl,rfl⟩⟩
 ·cases j with
  | zero=>
   simp only[List.getElem?_cons_zero,Option.some.injEq] at hp hc;subst hp hc;exact zc5 h1
  | succ j=>simp at hp
 ·rw[ji.1 hp];exact Nat.ne_of_lt (zgx h1)
theorem ChI.endS {r g r' g':Nat} (h:ChI T o cs cur rs (.orow r g) (.orow r' g')):ChI T (o.set r' (.orow T 1 (g'+1) (cs.length+1) (refs rs++[.orow r g]))) (cs++[cur]) [] (rs++[(r,g)]) .nil (.orow r' (g'+1)):=by
 rcases h.x with ⟨_,e⟩|⟨r1,g1,e,h1,h2,h3⟩
 ·cases e
 cases e
 rcases h.y with ⟨_,e⟩|⟨r1,g1,e,h4,h5⟩
 ·cases e
 cases e
 have hlt:=zgx h4;have hne:=h3 _ _ rfl;have hlen:=h.len;refine⟨by simp[hlen],fun j p c hp hc=>?_,.inr ⟨_,_,rfl,?_,fun p hp=>?_⟩,.inl ⟨rfl,rfl⟩⟩
 ·rcases Nat.lt_or_ge j rs.length with hj|hj
  ·rw[qf hj] at hp;rw[qf (by omega)] at hc;rw[zf (fun e=>h5 p (List.mem_of_getElem? hp) e.symm)];exact h.at_ j p c hp hc
  ·rw[qw hj] at hp;rw[qw (by omega)] at hc;rw[show j - cs.length=j - rs.length from by rw[hlen]] at hc;generalize j - rs.length=q at hp hc
   cases q with
   | zero=>
    simp only[List.getElem?_cons_zero,Option.some.injEq] at hp hc;subst hp hc;rw[zf hne];exact h1
   | succ q=>simp at hp
 ·rw[zm hlt];simp[refs]
 ·rcases List.mem_append.1 hp with hp|hp
  ·exact h5 p hp
  ·rw[ji.1 hp];exact fun e=>hne e.symm
theorem zg0 (o:List OB) (d:Nat):∀l:List ExP,zc7 o d (zan l)=some (zan l)
 | []=>by simp[zc7,zan]
 | x::l=>by
  have h:=zg0 o d l;have hs:∀y,pub o d (AV.s y)=some (AV.s y):=by intro y;cases d<;>simp[pub,AV.plain]
  have hi:∀k n,pub o d (AV.i k n)=some (AV.i k n):=by intro k n;cases d<;>simp[pub,AV.plain]
  have hb:∀y,pub o d (AV.b y)=some (AV.b y):=by intro y;cases d<;>simp[pub,AV.plain]
  show zc7 o d (zaP x++zan l)=some (zaP x++zan l);simp only[zaP,qi,qh,zc7,hs,hi,hb,h]
def zbJ (cs:List (List ExP)):List AV:=cs.map fun c=>.row c.length (zan c)
theorem zfn (o:List OB) (d:Nat):∀(rs:List (Nat×Nat)) (cs:List (List ExP)),rs.length=cs.length->(∀(j:Nat) (p:Nat×Nat) (c:List ExP),rs[j]? = some p->cs[j]? = some c->o[p.1]? = some (obx p.2 c))->zc7 o (d+1) (refs rs)=some (zbJ cs)
 | [],[],_,_=>by simp[zc7,refs,zbJ]
 | p::rs,c::cs,hl,h=>by
  have ih:=zfn o d rs cs (by simpa using hl) (fun j p c hp hc=>h (j+1) p c (by simpa using hp) (by simpa using hc));have h0:=h 0 p c rfl rfl;show zc7 o (d+1) (.orow p.1 p.2::refs rs)=some (.row c.length (zan c)::zbJ cs);rw[zc7,pub,h0,ih];simp only[obx,if_true,zg0,qy]
 | [],_::_,hl,_=>by simp at hl
 | _::_,[],hl,_=>by simp at hl
theorem ChI.pub (h:ChI T o cs cur rs X Y):(cs=[]/\Y=.nil)\/Sx.pub o 5 Y=some (.row cs.length (zbJ cs)):=by
 rcases h.y with h1|⟨r,g,rfl,h1,_⟩
 ·exact .inl h1
 right;rw[Sx.pub,h1];simp only[if_true,zfn o 3 rs cs h.len h.at_,qy]
end
end Go.Proofs.YtcpldfimbhdfdaaGreatDoor
namespace Go.Proofs.YtcpldfimbhdfdaaGreatDoor
open Lib renaming hasPrefix->zz
open List renaming all_eq_true->zo, append_assoc->zw, append_nil->qv, cons->zy, cons_append->qi, length_append->qd, length_cons->qk, mem_append->zl, mem_cons->zp, nil_append->qh, not_mem_nil->ja
open Nat renaming le_refl->zg
def jn (l:List (List UInt8)):List UInt8:=l.flatMap fun s=>47::s
def zdY (s:List UInt8):Prop:=47∉s/\s≠[46]/\s≠[46,46]
theorem zhr:jn []=[]:=rfl
theorem zbr (s:List UInt8) (l:List (List UInt8)):jn (s::l)=47::(s++jn l):=by simp[jn]
theorem zgd (s:List UInt8) (l:List (List UInt8)):jn (l++[s])=jn l++47::s:=by simp[jn]
theorem zkF (l:List (List UInt8)):jn l=[]\/∃r,jn l=47::r:=by
 cases l with
 | nil=>exact .inl rfl
 | cons s l=>exact .inr ⟨_,zbr s l⟩
theorem zd3:∀a b:List UInt8,47∉a->zff (a++47::b)=b
 | [],b,_=>by rw[qh,zff,if_pos rfl]
 | x::a,b,h=>by
  simp only[zp,not_or] at h;rw[qi,zff,if_neg (fun e=>h.1 e.symm)];exact zd3 a b h.2
theorem zig (l s:List UInt8) (h:47∉s):zd4 (l++47::s)=l:=by
 unfold zd4;have:(l++47::s).reverse=s.reverse++47::l.reverse:=by simp
 rw[this,zd3 _ _ (by simpa using h),List.reverse_reverse]
theorem zja (l:List (List UInt8)) (h:∀s∈l,zdY s):zd4 (jn l)=jn l.dropLast:=by
 rcases List.eq_nil_or_concat l with rfl|⟨l',s,rfl⟩
 ·rfl
 ·rw[List.concat_eq_append,zgd,zig _ _ (h s (by simp)).1];simp
theorem zdG (s rest:List UInt8) (hs:47∉s) (hr:rest=[]\/∃r,rest=47::r):zaB (s++rest)=s:=by
 unfold zaB;rcases hr with rfl|⟨r,rfl⟩
 ·rw[qv,zbz 47 s hs]
 ·rw[zaV 47 s r hs]
theorem step_one (rest o:List UInt8) (hr:rest=[]\/∃r,rest=47::r):zaJ (47::([46]++rest)) o=(if rest=[] then [47] else rest,o):=by
 rcases hr with rfl|⟨r,rfl⟩
 ·simp[zaJ,zz]
 ·simp[zaJ,zz]
theorem step_two (rest o:List UInt8) (hr:rest=[]\/∃r,rest=47::r):zaJ (47::([46,46]++rest)) o=(if rest=[] then [47] else rest,zd4 o):=by
 rcases hr with rfl|⟨r,rfl⟩
 ·simp[zaJ,zz]
 ·simp[zaJ,zz]
theorem zdg {l p:List UInt8} (h:∀u,p++u=l->False):zz l p=false:=by
 rw[Bool.eq_false_iff];intro e;obtain⟨u,hu⟩:=List.isPrefixOf_iff_prefix.1 (show List.isPrefixOf p l=true from e);exact h u hu
theorem zey (s rest o:List UInt8) (hs:zdY s) (hr:rest=[]\/∃r,rest=47::r):zaJ (47::(s++rest)) o=(rest,o++47::s):=by
 obtain⟨h1,h2,h3⟩:=hs;have hf:=zdG s rest h1 hr;have hseg:segN (47::(s++rest))=1+s.length:=by
  unfold segN;rw[List.drop_succ_cons,List.drop_zero,hf]
 have e1:(47::(s++rest)).drop (1+s.length)=rest:=by
  rw[Nat.add_comm,List.drop_succ_cons];simp
 have e2:(47::(s++rest)).take (1+s.length)=47::s:=by
  rw[Nat.add_comm,List.take_succ_cons];simp
 have key:zaJ (47::(s++rest)) o=((47::(s++rest)).drop (segN (47::(s++rest))),o++(47::(s++rest)).take (segN (47::(s++rest)))):=by
  unfold zaJ;have p1:zz (47::(s++rest)) [46,46,47]=false:=zdg fun u hu=>by simp at hu
  have p2:zz (47::(s++rest)) [46,47]=false:=zdg fun u hu=>by simp at hu
  have p7:¬(47::(s++rest)=[46]\/47::(s++rest)=[46,46]):=by simp
  have p3:zz (47::(s++rest)) [47,46,47]=false:=zdg fun u hu=>by
   rcases s with _|⟨a,_|⟨b,s⟩⟩
   ·rcases hr with rfl|⟨r,rfl⟩<;>simp at hu
   ·simp only[qi,qh,zy.injEq,true_and] at hu;exact h2 (by rw[<-hu.1])
   ·simp only[qi,qh,zy.injEq,true_and] at hu;exact h1 (by rw[hu.2.1];simp)
  have p4:¬47::(s++rest)=[47,46]:=by
   rcases s with _|⟨a,s⟩
   ·rcases hr with rfl|⟨r,rfl⟩<;>simp
   ·intro e;simp only[qi,zy.injEq,true_and,List.append_eq_nil_iff] at e;exact h2 (by rw[e.1,e.2.1])
  have p5:zz (47::(s++rest)) [47,46,46,47]=false:=zdg fun u hu=>by
   rcases s with _|⟨a,_|⟨b,_|⟨c,s⟩⟩⟩
   ·rcases hr with rfl|⟨r,rfl⟩<;>simp at hu
   ·rcases hr with rfl|⟨r,rfl⟩<;>simp at hu
   ·simp only[qi,qh,zy.injEq,true_and] at hu;exact h3 (by rw[<-hu.1,<-hu.2.1])
   ·simp only[qi,qh,zy.injEq,true_and] at hu;exact h1 (by rw[hu.2.2.1];simp)
  have p6:¬47::(s++rest)=[47,46,46]:=by
   rcases s with _|⟨a,_|⟨b,s⟩⟩
   ·rcases hr with rfl|⟨r,rfl⟩<;>simp
   ·rcases hr with rfl|⟨r,rfl⟩<;>simp
   ·intro e;simp only[qi,zy.injEq,true_and,List.append_eq_nil_iff] at e;exact h3 (by rw[e.1,e.2.1,e.2.2.1])
  rw[p1,p2,p3,p5,if_neg Bool.false_ne_true,if_neg Bool.false_ne_true,if_neg Bool.false_ne_true,if_neg p4,if_neg Bool.false_ne_true,if_neg p6,if_neg p7]
 rw[key,hseg,e1,e2]
theorem zfF:∀(l:List (List UInt8)) (o:List UInt8),(∀s∈l,zdY s)->zfG (jn l) o=o++jn l
 | [],o,_=>by rw[zhr,zdK,qv]
 | s::l,o,h=>by
  rw[zbr,zcQ (by simp),zey s (jn l) o (h s (by simp)) (zkF l)];simp only;rw[zfF l _ (fun s hs=>h s (by simp[hs]))];simp
theorem zeA (p:UriP) (h1:p.hs=true) (h2:zf0 p.scheme=true) (h3:∀c∈p.scheme,zc0 c [58,47,63,35]=false) (h4:p.ha=true) (h5:∀c∈p.auth,zc0 c [47,63,35]=false)
  (h6:p.path=[]\/∃r,p.path=47::r) (h7:∀c∈p.path,zc0 c [63,35]=false) (h8:(35:UInt8)∉p.query) (h9:p.hq=false->p.query=[]) (h10:p.hf=false->p.frag=[]) (h11:(zcM p).length<=16384):zaz (zcM p)=(0,p):=by
 obtain⟨sc,au,pa,qu,fr,hs,ha,hq,hf⟩:=p;simp only at h1 h2 h3 h4 h5 h6 h7 h8 h9 h10;subst h1 h4;have n1:∀c:UInt8,zc0 c [58,47,63,35]=true->c∉sc:=fun c hc hm=>by have:=h3 c hm;rw[hc] at this;cases this
 have n2:∀c:UInt8,zc0 c [47,63,35]=true->c∉au:=fun c hc hm=>by have:=h5 c hm;rw[hc] at this;cases this
 have n3:∀c:UInt8,zc0 c [63,35]=true->c∉pa:=fun c hc hm=>by have:=h7 c hm;rw[hc] at this;cases this
 have eb:zcM ⟨sc,au,pa,qu,fr,true,true,hq,hf⟩=sc++58::47::47::(au++pa++(if hq=true then [63]++qu else [])++(if hf=true then [35]++fr else [])):=by
  unfold zcM;simp
 have q35:(35:UInt8)∉(if hq=true then [63]++qu else []):=by
  split
  ·simp[h8]
  ·simp
 have m35:(35:UInt8)∉sc++58::47::47::(au++pa++(if hq=true then [63]++qu else [])):=by
  simp only[zl,zp,not_or];exact⟨n1 35 (by decide),by decide,by decide,by decide,⟨n2 35 (by decide),n3 35 (by decide)⟩,q35⟩
 have m63:(63:UInt8)∉sc++58::47::47::(au++pa):=by
  simp only[zl,zp,not_or];exact⟨n1 63 (by decide),by decide,by decide,by decide,n2 63 (by decide),n3 63 (by decide)⟩
 have e35:zaE 35 (zcM ⟨sc,au,pa,qu,fr,true,true,hq,hf⟩)=(sc++58::47::47::(au++pa++(if hq=true then [63]++qu else [])),fr,hf):=by
  rw[eb]
  cases hf
  ·have:=h10 rfl;subst this;have:sc++58::47::47::(au++pa++(if hq=true then [63]++qu else [])++(if false=true then [35]++[] else []))=sc++58::47::47::(au++pa++(if hq=true then [63]++qu else [])):=by simp
   rw[this,zbz 35 _ m35]
  ·have:sc++58::47::47::(au++pa++(if hq=true then [63]++qu else [])++(if true=true then [35]++fr else []))=(sc++58::47::47::(au++pa++(if hq=true then [63]++qu else [])))++35::fr:=by simp
   rw[this,zaV 35 _ fr m35]
 have e63:zaE 63 (sc++58::47::47::(au++pa++(if hq=true then [63]++qu else [])))=(sc++58::47::47::(au++pa),qu,hq):=by
  cases hq
  ·have:=h9 rfl;subst this;have:sc++58::47::47::(au++pa++(if false=true then [63]++[] else []))=sc++58::47::47::(au++pa):=by simp
   rw[this,zbz 63 _ m63]
  ·have:sc++58::47::47::(au++pa++(if true=true then [63]++qu else []))=(sc++58::47::47::(au++pa))++63::qu:=by simp
   rw[this,zaV 63 _ qu m63]
 have ef:zaB (sc++58::47::47::(au++pa))=sc++[58]:=by
  unfold zaB;have:sc++58::47::47::(au++pa)=(sc++[58])++47::(47::(au++pa)):=by simp
  rw[this,zaV 47 _ _ (by simp only[zl,zp,ja,or_false,not_or];exact⟨n1 47 (by decide),by decide⟩)]
 have ec:zaE 58 (sc++[58])=(sc,[],true):=zaV 58 sc [] (n1 58 (by decide));have ed:(sc++58::47::47::(au++pa)).drop (sc.length+1)=47::47::(au++pa):=by
  have:sc++58::47::47::(au++pa)=(sc++[58])++(47::47::(au++pa)):=by simp
  rw[this,List.drop_append_of_le_length (by simp)];simp
 have et:zfX (47::47::(au++pa))=true:=by simp[zfX,zz]
 have ea:zc9 (47::47::(au++pa))=au:=by
  unfold zc9;rw[if_pos et];show zaB (au++pa)=au;rcases h6 with rfl|⟨r,rfl⟩
  ·exact zdG au [] (n2 47 (by decide)) (.inl rfl)
  ·exact zdG au _ (n2 47 (by decide)) (.inr ⟨r,rfl⟩)
 have ep:zfq (47::47::(au++pa))=pa:=by
  unfold zfq;rw[if_pos et,ea];show (au++pa).drop au.length=pa;simp
 have hb:zgB (zcM ⟨sc,au,pa,qu,fr,true,true,hq,hf⟩)=sc++58::47::47::(au++pa):=by
  unfold zgB;rw[e35];simp only;rw[e63]
 have hsc:zaS (zcM ⟨sc,au,pa,qu,fr,true,true,hq,hf⟩)=(sc,[],true):=by
  unfold zaS;rw[hb,ef,ec]
 have hh:zdE (zcM ⟨sc,au,pa,qu,fr,true,true,hq,hf⟩)=47::47::(au++pa):=by
  unfold zdE;rw[hsc,hb,if_pos rfl,ed]
 unfold zaz;rw[if_neg (by omega),hsc,h2];simp only[Bool.not_true,Bool.and_false,Bool.false_eq_true,if_false,if_true];rw[hh,ea,ep,et,e35];simp only;rw[e63]
def Cn (keep l:List UInt8):Prop:=∀o r,rwS (zfT keep) 0 (l++r) o=rwS (zfT keep) 0 r (o++l)
theorem Cn.nil (keep:List UInt8):Cn keep []:=by intro o r;simp
theorem Cn.append {keep a b:List UInt8} (ha:Cn keep a) (hb:Cn keep b):Cn keep (a++b):=by
 intro o r;rw[zw,ha,hb,zw]
theorem Cn.one {keep:List UInt8} {c:UInt8} (hp:zbe c keep=true):Cn keep [c]:=by
 intro o r;have hc:c≠37:=zjP hp;exact zbR _ _ _ _ _ hc (zaF rfl hp)
theorem Cn.norm {keep l:List UInt8} (h:Cn keep l) (hl:l.length<=16384):zax l keep=(0,l):=by
 have:=h [] [];unfold zax zkf;rw[if_neg (by omega)];rw[qv,qh,rwS] at this;exact this
theorem Cn.jn {keep:List UInt8} (h47:zbe 47 keep=true):∀l:List (List UInt8),(∀s∈l,Cn keep s)->Cn keep (jn l)
 | [],_=>Cn.nil keep
 | s::l,h=>by
  rw[zbr];exact(Cn.one h47).append ((h s (by simp)).append (Cn.jn h47 l fun s hs=>h s (by simp[hs])))
theorem pl47:zbe 47 zas=true:=by decide
theorem esc47:∀n:Fin 256,(47:UInt8)∉zk6 (UInt8.ofNat n.val):=by decide +kernel
theorem zk5 (c:UInt8):(47:UInt8)∉zk6 c:=by
 have:=esc47 ⟨c.toNat,UInt8.toNat_lt c⟩;simpa using this
theorem zj4:∀(n:Nat) (l out x:List UInt8),l.length<=n->rwS (zfT zas) 0 l out=(0,x)->∃s m,x=out++(s++jn m)/\(47∉s/\Cn zas s)/\(∀q∈m,47∉q/\Cn zas q)/\(l=[]->s=[]/\m=[])/\(∀t,l=47::t->s=[]/\m≠[]):=by
 intro n
 induction n with
 | zero=>
  intro l out x hl h;obtain rfl:l=[]:=List.eq_nil_of_length_eq_zero (by omega);rw[rwS] at h;obtain rfl:out=x:=by injection h
  exact⟨[],[],by simp[jn],⟨by simp,Cn.nil _⟩,by simp,fun _=>⟨rfl,rfl⟩,fun t e=>by cases e⟩
 | succ n ih=>
  intro l out x hl h
  cases l with
  | nil=>
   rw[rwS] at h;obtain rfl:out=x:=by injection h
   exact⟨[],[],by simp[jn],⟨by simp,Cn.nil _⟩,by simp,fun _=>⟨rfl,rfl⟩,fun t e=>by cases e⟩
  | cons c t=>
   simp only[qk] at hl
   by_cases hc:c=37
   ·subst hc;rcases he:ziz (37::t) with _|_
    ·rw[rwS,if_pos rfl,if_neg (by rw[he];exact Bool.false_ne_true)] at h;injection h with h1 _
     exact absurd h1 (by decide)
    ·obtain⟨a,b,r,rfl⟩:=zcP he;rcases hu:zbf (zhG (37::a::b::r)) with _|_
     ·rw[rwS,if_pos rfl,if_pos he,zcB hu,if_pos rfl,zba] at h;obtain⟨s,m,e,⟨h1,h1'⟩,h2,_,_⟩:=ih r _ x (by simp at hl;omega) h;refine⟨zk6 (zhG (37::a::b::r))++s,m,by rw[e];simp,⟨?_,?_⟩,h2,(fun e=>by cases e),(fun t e=>by cases e)⟩
      ·simp only[zl,not_or];exact⟨zk5 _,h1⟩
      ·exact Cn.append (fun o r'=>zeC _ _ _ _ _ (zcB hu)) h1'
     ·rw[rwS,if_pos rfl,if_pos he,zaF (by rw[hu];rfl) (za0 hu),if_pos rfl,zba] at h;obtain⟨s,m,e,⟨h1,h1'⟩,h2,_,_⟩:=ih r _ x (by simp at hl;omega) h;refine⟨[zhG (37::a::b::r)]++s,m,by rw[e];simp,⟨?_,(Cn.one (za0 hu)).append h1'⟩,h2,(fun e=>by cases e),(fun t e=>by cases e)⟩;simp only[zl,zp,ja,or_false,not_or];refine⟨fun e=>?_,h1⟩;rw[<-e] at hu;exact absurd hu (by decide)
   ·rcases hp:zbe c zas with _|_
    ·rw[rwS,if_neg hc,ze1 rfl hp,if_neg (by decide)] at h;injection h with h1 _
     exact absurd h1 (by decide)
    ·rw[rwS,if_neg hc,zaF rfl hp,if_pos rfl] at h;obtain⟨s,m,e,⟨h1,h1'⟩,h2,_,_⟩:=ih t _ x (by omega) h
     by_cases h47:c=47
     ·subst h47;refine⟨[],s::m,by rw[e,zbr];simp,⟨by simp,Cn.nil _⟩,?_,(fun e=>by cases e),(fun t e=>⟨rfl,by simp⟩)⟩;intro q hq;rcases zp.1 hq with rfl|hq
      ·exact⟨h1,h1'⟩
      ·exact h2 q hq
     ·refine⟨[c]++s,m,by rw[e];simp,⟨?_,(Cn.one hp).append h1'⟩,h2,(fun e=>by cases e),(fun t e=>by injection e with e _;exact absurd e h47)⟩;simp only[zl,zp,ja,or_false,not_or];exact⟨fun e=>h47 e.symm,h1⟩
theorem zlt (P:List UInt8->Prop) (h0:P []):∀(n:Nat) (m l:List (List UInt8)),(jn m).length<=n->m≠[]->(∀s∈m,47∉s/\P s)->(∀s∈l,zdY s/\P s)->∃k,k≠[]/\(∀s∈k,zdY s/\P s)/\zfG (jn m) (jn l)=jn k:=by
 intro n
 induction n with
 | zero=>
  intro m l hn hm _ _
  cases m with
  | nil=>exact absurd rfl hm
  | cons s m=>rw[zbr] at hn;simp at hn
 | succ n ih=>
  intro m l hn hm hmp hl
  cases m with
  | nil=>exact absurd rfl hm
  | cons s m=>
   have hdl:∀s∈l.dropLast,zdY s/\P s:=fun s hs=>hl s (List.dropLast_subset l hs);have hs:=hmp s (by simp);have hmp':∀s∈m,47∉s/\P s:=fun s hs=>hmp s (by simp[hs]);have hr:=zkF m;have hnil:∀l:List (List UInt8),(∀s∈l,zdY s/\P s)->∃k,k≠[]/\(∀s∈k,zdY s/\P s)/\zfG [47] (jn l)=jn k:=by
    intro l hl;refine⟨l++[[]],by simp,?_,?_⟩
    ·intro s hs;rcases zl.1 hs with hs|hs
     ·exact hl s hs
     ·simp at hs;subst hs;exact⟨⟨by simp,by simp,by simp⟩,h0⟩
    ·have:=zey [] [] (jn l) ⟨by simp,by simp,by simp⟩ (.inl rfl);rw[zcQ (by simp)];simp only[qv] at this;rw[this,zdK,zgd]
   rw[zbr] at hn ⊢;simp only[qk,qd] at hn;rw[zcQ (by simp)]
   by_cases h2:s=[46]
   ·subst h2;rw[step_one (jn m) _ hr]
    by_cases hm0:m=[]
    ·subst hm0;simp only[zhr,if_true];exact hnil l hl
    ·have:jn m≠[]:=by
      cases m with
      | nil=>exact absurd rfl hm0
      | cons q m=>rw[zbr];simp
     simp only[this,if_false];exact ih m l (by simp at hn;omega) hm0 hmp' hl
   ·by_cases h3:s=[46,46]
    ·subst h3;rw[step_two (jn m) _ hr];simp only;rw[zja l (fun s hs=>(hl s hs).1)]
     by_cases hm0:m=[]
     ·subst hm0;simp only[zhr,if_true];exact hnil _ hdl
     ·have:jn m≠[]:=by
       cases m with
       | nil=>exact absurd rfl hm0
       | cons q m=>rw[zbr];simp
      simp only[this,if_false];exact ih m _ (by simp at hn;omega) hm0 hmp' hdl
    ·rw[zey s (jn m) _ ⟨hs.1,h2,h3⟩ hr,<-zgd];have hl2:∀s'∈l++[s],zdY s'/\P s':=by
      intro s' hs';rcases zl.1 hs' with hs' | hs'
      ·exact hl s' hs'
      ·simp at hs';subst hs';exact⟨⟨hs.1,h2,h3⟩,hs.2⟩
     by_cases hm0:m=[]
     ·subst hm0;exact⟨l++[s],by simp,hl2,by rw[zhr,zdK]⟩
     ·exact ih m _ (by omega) hm0 hmp' hl2
def zdX (l:List UInt8):Prop:=∃m,m≠[]/\(∀s∈m,zdY s/\Cn zas s)/\l=jn m
theorem zio (l:List UInt8) (hl:l=[]\/∃t,l=47::t) (hn:(zax l zas).1=0):zdX (zcf (zax l zas).2):=by
 have e:zax l zas=(0,(zax l zas).2):=by rw[<-hn]
 have hlen:=norm_len e;have hr:rwS (zfT zas) 0 l []=(0,(zax l zas).2):=by
  have e2:=e;unfold zax zkf at e2;rw[if_neg (by omega)] at e2;rw[e2];unfold zax zkf;rw[if_neg (by omega)]
 obtain⟨s,m,k1,k2,k3,k4,k5⟩:=zj4 l.length l [] _ (zg _) hr;rw[qh] at k1;rw[k1];rcases hl with rfl|⟨t,rfl⟩
 ·obtain⟨rfl,rfl⟩:=k4 rfl;refine⟨[[]],by simp,?_,?_⟩
  ·intro q hq;simp at hq;subst hq;exact⟨⟨by simp,by simp,by simp⟩,Cn.nil _⟩
  ·unfold zcf;rfl
 ·obtain⟨rfl,hm⟩:=k5 t rfl;rw[qh];obtain⟨k,q1,q2,q3⟩:=zlt (Cn zas) (Cn.nil _) (jn m).length m [] (zg _) hm k3 (by simp);refine⟨k,q1,q2,?_⟩;unfold zcf;have:zcd (jn m)=jn k:=q3;rw[this,if_neg]
  cases k with
  | nil=>exact absurd rfl q1
  | cons a k=>rw[zbr];simp
theorem zdX.form {l:List UInt8} (h:zdX l):∃r,l=47::r:=by
 obtain⟨m,hm,_,rfl⟩:=h
 cases m with
 | nil=>exact absurd rfl hm
 | cons s m=>exact⟨_,zbr s m⟩
theorem zdX.dots {l:List UInt8} (h:zdX l):zcd l=l:=by
 obtain⟨m,hm,hs,rfl⟩:=h;have:=zfF m [] (fun s h=>(hs s h).1);simpa[zcd] using this
theorem zdX.norm {l:List UInt8} (h:zdX l) (hl:l.length<=16384):zax l zas=(0,l):=by
 obtain⟨m,hm,hs,rfl⟩:=h;exact(Cn.jn pl47 m fun s h=>(hs s h).2).norm hl
theorem zdX.slash {l:List UInt8} (h:zdX l):zcf l=l:=by
 obtain⟨r,hr⟩:=h.form;unfold zcf;rw[h.dots,if_neg (by rw[hr];simp)]
open Go.RowKit Sx
theorem zb1 {P:Program} {w w':World} {name:String} {k:IntKind} {zs:List Int} (h:Lib.TabIs P w name k zs) (hk:∀k,k<w.heap.size->w'.heap[k]? = w.heap[k]?):Lib.TabIs P w' name k zs:=by
 unfold Lib.TabIs World.var? at *
 cases hg:P.globalNamed name with
 | none=>simp[hg] at h
 | some g=>
  simp only[hg,Option.bind_some] at h ⊢;have hlt:g<w.heap.size:=by
   rcases Nat.lt_or_ge g w.heap.size with h' | h'
   ·exact h'
   ·rw[Array.getElem?_eq_none h'] at h;simp at h
  rw[hk g hlt];exact h
instance tabsN : Tabs Tryz.prog := ⟨fun w => w.ShapedOpen Tryz.prog ∧ Lib.TabIs Tryz.prog w "internal/strconv.uint64pow10" .u64 Lib.pow10Tab, fun _ _ h hk _ => ⟨zdq h.1 hk, zb1 h.2 hk⟩⟩
instance tabsN_shp:Shp Tryz.prog:=⟨fun _ h=>h.1⟩
instance tabsN_pow:Pow Tryz.prog:=⟨fun _ h=>h.2⟩
structure CanW (u:UrlP):Prop where
 host:zbL u.host=(0,u.host)
 port:∃n:Nat,u.port=n/\n<=65535/\n≠443
 path:zdX u.path
 query:zax u.query zap=(0,u.query)
 frag:zax u.frag zap=(0,u.frag)
 noq:u.hq=false->u.query=[]
 nof:u.hf=false->u.frag=[]
 len:(zhC u).length<=4096
def zbl (u:UrlP):UriP:=⟨zbW,fmtH u.host u.port,u.path,u.query,u.frag,true,true,u.hq,u.hf⟩
theorem zcL (u:UrlP):zcM (zbl u)=zhC u:=by
 obtain⟨h,p,pa,q,f,hq,hf⟩:=u;unfold zcM zbl zhC zfY zbW
 cases hq<;>cases hf<;>simp
theorem qk256:∀n:Fin 256,(okB zas (UInt8.ofNat n.val)=true->zc0 (UInt8.ofNat n.val) [63,35]=false)/\(okB zap (UInt8.ofNat n.val)=true->UInt8.ofNat n.val≠35):=by decide +kernel
theorem zgZ (c:UInt8):(okB zas c=true->zc0 c [63,35]=false)/\(okB zap c=true->c≠35):=by
 have:=qk256 ⟨c.toNat,UInt8.toNat_lt c⟩;simpa using this
theorem dg256:∀n:Fin 256,zaA (UInt8.ofNat n.val)=true->zc0 (UInt8.ofNat n.val) [47,63,35,64]=false:=by decide +kernel
theorem dg_facts (c:UInt8) (h:zaA c=true):zc0 c [47,63,35,64]=false:=by
 have:=dg256 ⟨c.toNat,UInt8.toNat_lt c⟩;simp only[UInt8.ofNat_toNat] at this;exact this h
theorem zer {h:List UInt8} {n:Nat} (hh:zbL h=(0,h)):∀c∈fmtH h n,zc0 c [47,63,35,64]=false:=by
 intro c hc;have hb:∀c∈h,zc0 c [47,63,35,64]=false:=by
  intro c hc;have:=zht c (zed (by rw[hh]) c hc);unfold zc0 at this ⊢;simp only[List.contains_cons,List.contains_nil,Bool.or_false,Bool.or_eq_false_iff] at this ⊢;exact⟨this.2.2.1,this.2.2.2.1,this.2.2.2.2,this.2.1⟩
 unfold fmtH at hc
 split at hc
 ·exact hb c hc
 ·rw[zhs] at hc;simp only[zl,zp,ja,or_false] at hc;rcases hc with (hc|hc)|hc
  ·exact hb c hc
  ·subst hc;decide
  ·exact dg_facts c (zo.1 (zlw n n (zg _)).1 c hc)
theorem zkM {c:UInt8} (h:zc0 c [47,63,35,64]=false):zc0 c [47,63,35]=false/\c≠64:=by
 unfold zc0 at h ⊢;simp only[List.contains_cons,List.contains_nil,Bool.or_false,Bool.or_eq_false_iff] at h ⊢;refine⟨⟨h.1,h.2.1,h.2.2.1⟩,?_⟩;have:=h.2.2.2;simpa using this
theorem zc2 (u:UrlP):u.path.length<=(zhC u).length:=by
 unfold zhC zfY
 split<;>simp only[qd]<;>omega
theorem CanW.split {u:UrlP} (h:CanW u):zaz (zhC u)=(0,zbl u):=by
 obtain⟨n,hn,_,_⟩:=h.port;rw[<-zcL];have hl:=h.len;refine zeA (zbl u) rfl (by show zf0 zbW=true;decide) (by show ∀c∈zbW,_;decide) rfl ?_ ?_ ?_ ?_ h.noq h.nof (by rw[zcL];omega)
 ·intro c hc;have hc':c∈fmtH u.host u.port:=hc;rw[hn] at hc';exact(zkM (zer h.host c hc')).1
 ·exact .inr h.path.form
 ·intro c hc;have h3:=zc2 u;have:=zo.1 (zce (h.path.norm (by omega))) c hc;exact(zgZ c).1 this
 ·intro hm;have:=zo.1 (zce h.query) 35 hm;exact(zgZ 35).2 this rfl
theorem CanW.back {u:UrlP} (h:CanW u):webE (zhC u)=(0,u):=by
 obtain⟨n,hn,hn1,hn2⟩:=h.port;have hl:=h.len;have hpl:=zc2 u;have ho:zbq (zbl u)=(0,u.host,n):=by
  have e1:eqL zbW zbW=true:=by decide
  have h64:(64:UInt8)∉fmtH u.host n:=fun hm=>(zkM (zer h.host 64 hm)).2 rfl;unfold zbq zbl;simp only[e1];rw[hn,zbz 64 _ h64];simp only;rw[hp_fmt h.host hn1 hn2];simp
 have hr:zf5 (zbl u)=(0,⟨[],0,u.path,u.query,u.frag,u.hq,u.hf⟩):=by
  unfold zf5 zbl;simp only;rw[h.path.norm (by omega),h.query,h.frag];simp only;rw[h.path.slash];simp
 unfold webE;rw[if_neg (by omega),h.split];simp only;unfold webO;rw[ho,hr];simp only;have hu:urlOf u.host n ⟨[],0,u.path,u.query,u.frag,u.hq,u.hf⟩=u:=by
  obtain⟨a,b,c,d,e,f,g⟩:=u;simp only at hn;subst hn;rfl
 rw[hu];unfold webF;rw[if_neg (by omega)];simp;omega
theorem CanW.valid {u:UrlP} (h:CanW u):ziY u=true:=by
 unfold ziY;rw[h.back];simp
theorem zdp (s:List UInt8) (h:(zaz s).2.ha=true):(zaz s).2.path=[]\/∃r,(zaz s).2.path=47::r:=by
 unfold zaz at h ⊢
 split at h
 ·cases h
 ·rename_i h1
  split at h
  ·cases h
  ·rename_i h2;rw[if_neg h1,if_neg h2];simp only at h ⊢;unfold zfq;rw[if_pos h];have ea:zc9 (zdE s)=zaB ((zdE s).drop 2):=by unfold zc9;rw[if_pos h]
   rw[ea];generalize (zdE s).drop 2=l;unfold zaB;rcases zb6 47 l with ⟨_,h3,_⟩|⟨k,_,hk,h3,h4⟩
   ·rw[h3];left;simp
   ·rw[h3];right;have e:(l.take k).length=k:=by rw[List.length_take];omega
    simp only[e];rw[List.drop_eq_getElem_cons hk];rw[List.getElem?_eq_getElem hk] at h4;injection h4 with h4
    exact⟨_,by rw[h4]⟩
theorem CanW.of {s:List UInt8} {u:UrlP} (h:webE s=(0,u)):CanW u:=by
 unfold webE at h
 split at h
 ·injection h with h1 _;cases h1
 ·split at h
  ·rename_i h1;injection h with h2 _;exact absurd h2 h1
  ·rename_i h0 h1;simp only[Decidable.not_not] at h1;have hj:=zif s h1;have hpf:=zdp s;have hqq:(zaz s).2.hq=false->(zaz s).2.query=[]:=by
    unfold zaz
    split
    ·intro _;rfl
    ·split
     ·intro _;rfl
     ·intro h1;simp only at h1 ⊢;exact((zhZ 63 _).2.2 h1).2
   have hff:(zaz s).2.hf=false->(zaz s).2.frag=[]:=by
    unfold zaz
    split
    ·intro _;rfl
    ·split
     ·intro _;rfl
     ·intro h1;simp only at h1 ⊢;exact((zhZ 35 _).2.2 h1).2
   generalize (zaz s).2=p at *;unfold webO at h
   split at h
   ·rename_i h2;injection h with h3 _;exact absurd h3 h2
   ·rename_i h2;simp only[Decidable.not_not] at h2
    split at h
    ·rename_i h3;injection h with h4 _;exact absurd h4 h3
    ·rename_i h3;simp only[Decidable.not_not] at h3;unfold webF at h
     split at h
     ·injection h with h4 _;cases h4
     ·rename_i h4;injection h with _ h
      subst h;have ho:p.ha=true/\hpE p.auth=(0,(zbq p).2.1,(zbq p).2.2):=by
       unfold zbq at h2 ⊢
       split at h2
       ·cases h2
       ·rename_i g1;rw[if_neg g1]
        split at h2
        ·cases h2
        ·rename_i g2;rw[if_neg g2]
         split at h2
         ·cases h2
         ·rename_i g3;rw[if_neg g3]
          split at h2
          ·cases h2
          ·rename_i g4;rw[if_neg g4];exact⟨by simpa using g3,by rw[<-h2]⟩
      obtain⟨k1,k2,k3,_,_⟩:=hp_again ho.2;have hr:(zax p.path zas).1=0/\(zax p.query zap).1=0/\(zax p.frag zap).1=0/\(zf5 p).2=⟨[],0,zcf (zax p.path zas).2,(zax p.query zap).2,(zax p.frag zap).2,p.hq,p.hf⟩:=by
       unfold zf5 at h3 ⊢
       split at h3
       ·rename_i g;exact absurd h3 g
       ·rename_i g1;rw[if_neg g1]
        split at h3
        ·rename_i g;exact absurd h3 g
        ·rename_i g2;rw[if_neg g2]
         split at h3
         ·rename_i g;exact absurd h3 g
         ·rename_i g3;rw[if_neg g3];exact⟨by simpa using g1,by simpa using g2,by simpa using g3,rfl⟩
      obtain⟨r1,r2,r3,r4⟩:=hr;rw[r4] at h4 ⊢;have e2:zax p.query zap=(0,(zax p.query zap).2):=by rw[<-r2]
      have e3:zax p.frag zap=(0,(zax p.frag zap).2):=by rw[<-r3]
      refine⟨k1,⟨(zbq p).2.2,rfl,k2,k3⟩,zio p.path (hpf ho.1) r1,(zdx _ _ _ e2).1,(zdx _ _ _ e3).1,?_,?_,by omega⟩
      ·intro hq;show (zax p.query zap).2=[];rw[hqq hq];rfl
      ·intro hf;show (zax p.frag zap).2=[];rw[hff hf];rfl
theorem CanW.rel {b u:UrlP} (hb:CanW b) (hu:CanW u):relW b (zhC u)=(0,u):=by
 unfold relW;rw[hb.valid,hu.split];have hres:zdc (zaz (zhC b)).2 (zbl u)=zbl u:=by
  unfold zdc;rw[if_pos (show (zbl u).hs=true from rfl)];show ({ zbl u with path:=zcd u.path }:UriP)=zbl u;rw[hu.path.dots];rfl
 simp only;rw[hres,zcL,hu.back];have e1:eqL (zbl u).scheme zbW=true:=by show eqL zbW zbW=true;decide
 rw[e1];simp
end Go.Proofs.YtcpldfimbhdfdaaGreatDoor
namespace Go.Proofs.YtcpldfimbhdfdaaGreatDoor.Sx
open Go.RowKit
open List renaming replicate->zu
def zcE (b gen n:Nat) (xs:List AV):AV->AV
 | .orow b' g'=>if b'=b/\g'=gen then .row n xs else .orow b' g'
 | x=>x
def subOB (b gen n:Nat) (xs:List AV):OB->OB
 | .box T cs=>.box T (cs.map (zcE b gen n xs))
 | x=>x
def pubO (objs:List OB) (b gen n:Nat) (xs:List AV):List OB:=(objs.map (subOB b gen n xs)).set b .dead
def zfo (G:Gh) (b gen:Nat):Gh:=⟨G.blk,fun x=>if x=b then some (gen+1,.slice none 0 0) else G.cur x⟩
theorem zf7 {G:Gh} {b gen:Nat} {v:Value} (h:G.cur b=some (gen,v)):G.le (zfo G b gen) where
 blk:=fun _ _ h=>h
 cur:=fun x n w hx=>by
  by_cases hb:x=b
  ·subst hb;rw[h] at hx;injection hx with hx;injection hx with h1 h2
   exact⟨gen+1,.slice none 0 0,by simp[zfo],.inr (by omega)⟩
  ·exact⟨n,w,by simp[zfo,hb,hx],.inl ⟨rfl,rfl⟩⟩
theorem zcu {G:Gh} {b gen:Nat} (hb:G.blk b=none) {x g:Nat} (h:(zfo G b gen).own x=some g):x≠b/\G.own x=some g:=by
 by_cases hx:x=b
 ·subst hx;exfalso;unfold Gh.own zfo at h;simp only[hb] at h;simp[Value.ownBlock] at h
 ·refine⟨hx,?_⟩;unfold Gh.own zfo at h;simp only[if_neg hx] at h;exact h
def ziM (I:Imm) (G:Gh) (b:Nat) (w:World):Imm:=fun g o v=>I g o v\/(w.cell? ⟨g,o,none⟩=some v/\G.own b=some g)
theorem zlv {G:Gh} {I:Imm} {objs:List OB} {w:World} (hm:MemOk G I objs w) {b E sz gen n:Nat} {xs:List AV} (hb:objs[b]? = some (.orow E sz gen n xs)) (x:AV) (y:Value) (h:Den G I x y):Den (zfo G b gen) (ziM I G b w) (zcE b gen n xs x) y:=by
 obtain⟨v',vs,m1,m2,m3,m4,m5⟩:=hm.row b E sz gen n xs hb;have hG:=zf7 m1;have hI:Imm.le I (ziM I G b w):=fun _ _ _ h=>.inl h;have other:zcE b gen n xs x=x->Den (zfo G b gen) (ziM I G b w) (zcE b gen n xs x) y:=fun e=>by rw[e];exact Den.mono hG hI x y h
 cases x with
 | orow b' g'=>
  by_cases hh:b'=b/\g'=gen
  ·obtain⟨rfl,rfl⟩:=hh;have e:zcE b' g' n xs (.orow b' g')=.row n xs:=by simp[zcE]
   rw[e];simp only[Den] at h ⊢;obtain⟨g0,v,k1,k2,k3,_⟩:=h;rw[k1] at m1;injection m1 with m1;injection m1 with m1 m6
   have hv:=k3 m1.symm;subst m1 m6 hv;have hown:=zaL m5 k1;have q1:=zab.mono hG hI xs vs m3;rcases m2.2 with ⟨rfl,rfl⟩|⟨g,cap,cur,rfl,hx1,hx2,hx3,hx4⟩
   ·have hvs:vs=[]:=List.eq_nil_of_length_eq_zero (by simpa using m2.1);subst hvs;exact⟨none,0,[],rfl,⟨Nat.le_refl _,by intro _ e;cases e⟩,q1,by simp,by simp⟩
   ·refine⟨some ⟨g,0,none⟩,cap,vs,rfl,⟨hx3,by rintro _ ⟨⟩ _;rfl⟩,q1,m4,fun j u hj=>⟨g,0,rfl,.inr ⟨?_,hown⟩⟩⟩;have:=m2.cells (g:=g) rfl j u hj
    rwa [zal] at this
  ·exact other (by simp only[zcE,if_neg hh])
 | _=>exact other rfl
theorem zdh {G:Gh} {I:Imm} {objs:List OB} {w:World} (hm:MemOk G I objs w) {b E sz gen n:Nat} {xs:List AV} (hb:objs[b]? = some (.orow E sz gen n xs)):∀(l:List AV) (ys:List Value),zab G I l ys->zab (zfo G b gen) (ziM I G b w) (l.map (zcE b gen n xs)) ys
 | [],ys,h=>by simpa[zab] using h
 | x::l,ys,h=>by
  simp only[zab] at h;obtain⟨y,ys',rfl,h1,h2⟩:=h;exact zab.cons (zlv hm hb x y h1) (zdh hm hb l ys' h2)
theorem zkb {P:Program} [Tabs P] {C:Cx} {G:Gh} {I:Imm} {w:World} {objs:List OB} {b E sz gen n:Nat} {xs:List AV} (hb:objs[b]? = some (.orow E sz gen n xs)) (hin:In C G I w) (hm:MemOk G I objs w) :
  In C (zfo G b gen) (ziM I G b w) w/\MemOk (zfo G b gen) (ziM I G b w) (pubO objs b gen n xs) w:=by
 obtain⟨v',vs,m1,m2,m3,m4,m5⟩:=hm.row b E sz gen n xs hb;have hlt:b<objs.length:=by
  by_cases h:b<objs.length
  ·exact h
  ·rw[List.getElem?_eq_none (by omega)] at hb;cases hb
 have hG:=zf7 m1;have hI:Imm.le I (ziM I G b w):=fun _ _ _ h=>.inl h;have hin':In C (zfo G b gen) (ziM I G b w) w:={
  os:=hin.os,tape:=hin.tape,output:=hin.output,size:=hin.size,block:=hin.block
  imm:=fun g o v h=>.inl (hin.imm g o v h)
  news:=fun g o v h=>by
   rcases h with h|⟨_,h⟩
   ·exact hin.news g o v h
   ·exact .inr (hin.blk b g h)
  blk:=fun x g h=>hin.blk x g (zcu m5 h).2
  gh:=hin.gh.trans hG }
 have hat:∀x o,(pubO objs b gen n xs)[x]? = some o->o=.dead\/(x≠b/\∃o',objs[x]? = some o'/\subOB b gen n xs o'=o):=by
  intro x o h;unfold pubO at h
  by_cases hx:x=b
  ·subst hx;rw[List.getElem?_set_self (by simpa using hlt)] at h;injection h with h;exact .inl h.symm
  ·rw[List.getElem?_set_ne (Ne.symm hx),List.getElem?_map] at h;obtain⟨o',h1,h2⟩:=Option.map_eq_some_iff.1 h;exact .inr ⟨hx,o',h1,h2⟩
 have hm':MemOk (zfo G b gen) (ziM I G b w) (pubO objs b gen n xs) w:={
  imm:=fun g o v h=>by
   rcases h with h|⟨h,_⟩
   ·exact hm.imm g o v h
   ·exact h
  box:=fun x T cs h=>by
   rcases hat x _ h with h|⟨hx,o',h1,h2⟩
   ·cases h
   ·cases o' with
    | box T' cs'=>
     injection h2 with e1 e2
     subst e1 e2;obtain⟨g,ys,k1,k2,k3,k4⟩:=hm.box x _ _ h1;exact⟨g,ys,k1,k2,zdh hm hb _ _ k3,k4⟩
    | orow=>cases h2
    | mpk=>cases h2
    | dead=>cases h2
  row:=fun x E' sz' gen' n' xs' h=>by
   rcases hat x _ h with h|⟨hx,o',h1,h2⟩
   ·cases h
   ·cases o' with
    | box T' cs'=>cases h2
    | orow=>
     injection h2 with e1 e2 e3 e4 e5
     subst e1 e2 e3 e4 e5;obtain⟨v,ys,k1,k2,k3,k4,k5⟩:=hm.row x _ _ _ _ _ h1;exact⟨v,ys,by simp[zfo,hx,k1],k2,zab.mono hG hI _ _ k3,k4,k5⟩
    | mpk=>cases h2
    | dead=>cases h2
  map:=fun x hh es h=>by
   rcases hat x _ h with h|⟨hx,o',h1,h2⟩
   ·cases h
   ·cases o' with
    | box T' cs'=>cases h2
    | orow=>cases h2
    | mpk=>
     injection h2 with e1 e2
     subst e1 e2;obtain⟨g,en,ck,k1,k2,k3⟩:=hm.map x _ _ h1;exact⟨g,en,ck,k1,k2,k3.mono hG hI⟩
    | dead=>cases h2
  inj:=fun x x' g h h'=>hm.inj x x' g (zcu m5 h).2 (zcu m5 h').2
  lt:=fun x g h=>hm.lt x g (zcu m5 h).2
  apart:=fun x g o v h h'=>by
   obtain⟨hx,h1⟩:=zcu m5 h;rcases h' with h' | ⟨_,h'⟩
   ·exact hm.apart x g o v h1 h'
   ·exact hx (hm.inj x b g h1 h')
  fresh:=fun x hx=>by
   have hx':objs.length<=x:=by simpa[pubO] using hx
   obtain⟨k1,k2⟩:=hm.fresh x hx';exact⟨k1,by simp[zfo,k2];omega⟩ }
 exact⟨hin',hm'⟩
section
variable {P:Program} [Tabs P] {C:Cx} [On P C] {F:zat} {objs:List OB} {tm:List AV}
def zh9 (P:Program) (C:Cx) (sc:SCode) (F:zat) (objs:List OB) (tm:List AV):Prop:=WPS P C sc (ngK F) objs tm
theorem zjF {sc:SCode} (h:run P C [.code sc] objs tm F):zh9 P C sc F objs tm:=fun c ht=>zcn c sc F objs tm ht h
omit [Tabs P] [On P C] in
theorem ptc_seq {x y:SCode} (J:List OB->List AV->Prop) (hx:zh9 P C x (zdn J F) objs tm) (hy:∀o t,J o t->zh9 P C y F o t):zh9 P C (.seq x y) F objs tm:=by
 intro c ht
 induction c with
 | scope c ih=>simp only[trC] at ht;exact WP.scope (ih ht)
 | seq a b _ _=>
  simp only[trC] at ht
  split at ht
  ·rename_i sa sb ha hb;injection ht with ht;injection ht with e1 e2;subst e1 e2
   refine WP.seq (WP.mono ?_ (hx a ha));intro e o t hk
   cases e with
   | normal=>exact hy o t hk b hb
   | _=>exact hk
  ·cases ht
 | region id ops draw=>
  cases draw
  ·simp only[trC] at ht;split at ht
   ·cases ht
   ·split at ht<;>cases ht
  ·simp only[trC] at ht
   split at ht
   ·split at ht
    ·split at ht
     ·cases ht
     split at ht
     ·cases ht
     ·rcases zeI ht with ⟨c,_,e⟩|⟨r,_,e⟩
      ·cases e
      ·unfold craC at e;cases e
    ·cases ht
   ·cases ht
 | cond c x y _ _=>simp only[trC] at ht;split at ht<;>cases ht
 | block id c _=>simp only[trC] at ht;cases h1:trC P c<;>(rw[h1] at ht;cases ht)
 | loop c _=>simp only[trC] at ht;cases h1:trC P c<;>(rw[h1] at ht;cases ht)
 | _=>simp[trC] at ht
def ptF (P:Program) (C:Cx) (y:SCode) (F:zat):zat:=zdn (fun o t=>zh9 P C y F o t) F
omit [Tabs P] [On P C] in
theorem zbw (y:SCode):ptF P C y F .normal objs tm=zh9 P C y F objs tm:=Eq.trans rfl rfl
omit [Tabs P] [On P C] in
theorem zjH (y:SCode):ptF P C y F .ret objs tm=F .ret objs tm:=Eq.trans rfl rfl
theorem zjG {x y:SCode} (h:run P C [.code x] objs tm (ptF P C y F)):zh9 P C (.seq x y) F objs tm :=
 ptc_seq (fun o t=>zh9 P C y F o t) (zjF h) (fun _ _ h=>h)
theorem zdd {x y:SCode} (h:∀Y,Y=y->run P C [.code x] objs tm (ptF P C Y F)):zh9 P C (.seq x y) F objs tm:=zjG (h y rfl)
omit [Tabs P] [On P C] in
/-- the slots under facts of one's own -/
theorem zjE {sc:SCode} (J:List AV->Prop) (h:J tm) (hk:∀t,J t->zh9 P C sc F objs t):zh9 P C sc F objs tm:=hk tm h
end
section
variable {P:Program} [Tabs P]
theorem rel_pub (P:Program) [Tabs P] {C:Cx} {objs:List OB} {tm:List AV} {a:Act} {w:World} {b E sz gen n:Nat} {xs:List AV} (hb:objs[b]? = some (.orow E sz gen n xs)) (h:Rel C objs tm a w):Rel C (pubO objs b gen n xs) (tm.map (zcE b gen n xs)) a w:=by
 obtain⟨G,I,hin,hm,hd,hdef⟩:=h;obtain⟨hin',hm'⟩:=zkb (P:=P) hb hin hm;exact⟨_,_,hin',hm',zdh hm hb _ _ hd,hdef⟩
theorem ptc_pub {C:Cx} {sc:SCode} {F:zat} {objs:List OB} {tm:List AV} (b:Nat) {E sz gen n:Nat} {xs:List AV} (hb:objs[b]? = some (.orow E sz gen n xs)) (h:zh9 P C sc F (pubO objs b gen n xs) (tm.map (zcE b gen n xs))):zh9 P C sc F objs tm :=
 fun c ht a w hr=>h c ht a w (rel_pub P hb hr)
theorem fn_part {f:FuncId} {n:Nat} {ss:List SRes} {sc:SCode} (hf:FnIs P f n ss sc) {args:List AV} {objs:List OB} {K:List OB->AV->Prop} (hp:zak args=true)
  (h:∀(C:Cx) [On P C],zh9 P C sc (endK ss (fun r=>K objs r)) [] (args++zu (n - args.length) (.o undef))):zai P f args objs K:=by
 intro C hOn G I w hin hm ys hd;obtain⟨fn,c,h1,h2,h3,h4,h5⟩:=hf.is
 let C':Cx:=⟨w,fun _=>False,I,Gh.none⟩
 haveI hOn':On P C':=⟨hin.tab (P:=P),fun _ h=>h⟩
 have hwp:=h C' c h5;have hlen:=hd.length;have hrel:Rel C' [] (args++zu (n - args.length) (.o undef)) { tmps:=ys.toArray++Array.replicate (fn.ntmps - ys.toArray.size) undef,defers:=[] } w:=by
  refine⟨Gh.none,I,⟨rfl,rfl,rfl,Nat.le_refl _,fun _ _ _=>rfl,fun _ _ _ h=>h,fun _ _ _ h=>.inl h,fun b g hb=>by simp[Gh.own,Gh.none] at hb,Gh.le.refl _⟩,
   ⟨hm.imm,by simp,by simp,by simp,fun b b' g hb=>by simp[Gh.own,Gh.none] at hb,fun b g hb=>by simp[Gh.own,Gh.none] at hb,fun b g o v hb=>by simp[Gh.own,Gh.none] at hb,fun b _=>⟨rfl,rfl⟩⟩,?_,rfl⟩
  simp only[Array.toList_append,Array.toList_replicate,h3,List.size_toArray];refine zab.append (zab.plain (Imm.le.refl I) _ _ hp hd) ?_;rw[hlen];have:∀k,zab Gh.none I (zu k (.o undef)) (zu k undef):=by
   intro k
   induction k with
   | zero=>exact zab.nil
   | succ k ih=>exact zab.cons (by simp[Den]) ih
  exact this _
 refine calls_of_wp h1 h2 (wp_mono (hwp _ _ hrel) ?_);rintro e a' w' ⟨objs',tm',hk,G',I',hin',hm',hd',hdef⟩;have key:ziN ss (fun r=>K objs r) objs' tm' ->
   a'.defers=[]/\∃v,(results fn a'.tmps).run P w'=.ok v w'/\∃y objs'' r G'' I'',Ending.returned v=.returned y/\K objs'' r/\G.le G''/\Imm.le I I''/\In C G'' I'' w'/\MemOk G'' I'' objs'' w'/\Den G'' I'' r y:=by
  intro hk;unfold ziN at hk
  split at hk
  ·rename_i r hr0;obtain⟨xs,hxs,hr⟩:=Option.bind_eq_some_iff.1 hr0
   ·obtain⟨y,hy,hyd⟩:=zch (P:=P) (fn:=fn) hm' hd' ss xs h4 hxs;obtain⟨p1,p2⟩:=pub_ok hm' 5 _ r y hr hyd;have hg:w.grownBy w' none:=⟨hin'.os,hin'.tape,hin'.output,hin'.size,fun k hk _=>hin'.block k hk (fun h=>h)⟩;have hle:Imm.le I (I'.rows G' objs' w'):=fun g o v hi=>.inl (hin'.imm g o v hi);have hnew:∀g o v,I'.rows G' objs' w' g o v->I g o v\/w.heap.size<=g:=by
     rintro g o v (hi|⟨_,b,E,sz,gen,n,xs,hb,ho⟩)
     ·rcases hin'.news g o v hi with h|h|h
      ·exact .inl h
      ·exact h.elim
      ·exact .inr h
     ·rcases hin'.blk b g ho with h|h
      ·exact h.elim
      ·exact .inr h
    refine⟨hdef,y,hy,y,objs,r,G,I'.rows G' objs' w',rfl,hk,Gh.le.refl G,hle,(hin.evolve hg (by simp)).imm_more hle ?_,(hm.evolve hg).imm_more hle ?_ ?_,Den.plain (Imm.le.refl _) r y p2 p1⟩
    ·intro g o v hi;rcases hnew g o v hi with h|h
     ·exact .inl h
     ·exact .inr (.inr (Nat.le_trans hin.size h))
    ·rintro g o v (hi|⟨hc,_⟩)
     ·exact hm'.imm g o v hi
     ·exact hc
    ·intro b g o v hb hi;rcases hnew g o v hi with h|h
     ·exact hm.apart b g o v hb h
     ·have:=hm.lt b g hb;omega
  ·exact hk.elim
 cases e with
 | normal=>exact key hk
 | ret=>exact key hk
 | _=>exact hk.elim
end
end Go.Proofs.YtcpldfimbhdfdaaGreatDoor.Sx
namespace Go.Proofs.YtcpldfimbhdfdaaGreatDoor
open Nat renaming reduceAdd -> z6, reduceSub -> z7, reduceLeDiff -> z8, reduceLT -> j4, reduceMul -> j5, reduceEqDiff -> j6
open Int renaming reduceToNat -> j7, reduceAdd -> j8, reduceSub -> j9, reduceMul -> x0, reduceNeg -> x3, reduceLT -> x4, reduceLE -> x5, reduceEq -> x6, reduceNe -> x7
open Go.RowKit Sx
open List renaming append_nil->qv, getElem?_set->za, getElem?_set_ne->zf, length_append->qd, length_set->zd, length_take->qg
open Nat renaming zero_le->zt
section
attribute [local irreducible] run
def keepU (u:UrlP):Bool:=decide ((u.host.length:Int)+u.path.length+u.query.length+u.frag.length<=1000)
section
variable [Tabs Tryz.prog] {objs:List OB} {K:List OB->AV->Prop}
theorem keepU_k (u:UrlP) (h1:u.host.length<=140737488351232) (h2:u.path.length<=140737488351232) (h3:u.query.length<=140737488351232) (h4:u.frag.length<=140737488351232) (hk:K objs (.b (keepU u))):zai Tryz.prog 12 [urlAV u] objs K:=by
 refine zgo is_keep_URL rfl fun C _=>?_;simp only[c_keep_URL,urlAV,sxZ,z6,z7,z8,j4,j5,j6,j7,j8,j9,x0,x3,x4,x5,x6,x7,reduceCtorEq,↓reduceIte];exact⟨⟨by omega,by omega⟩,⟨by omega,by omega⟩,⟨by omega,by omega⟩,hk⟩
end
end
section
attribute [local irreducible] run
theorem zbB (a:ExP) (l:List ExP):zan (a::l)=zaP a++zan l:=rfl
theorem ziS:∀(l:List ExP) (i:Nat) (h:i<l.length),((zan l).drop (i*9)).take 9=zaP l[i]
 | [],i,h=>by cases h
 | a::l,0,h=>by
  rw[zbB,Nat.zero_mul,List.drop_zero,List.take_append_of_le_length (by simp[zaP])];rfl
 | a::l,i+1,h=>by
  have ih:=ziS l i (by simpa using h);rw[zbB,show (i+1)*9=9+i*9 from by omega,<-List.drop_drop,List.drop_append_of_le_length (by simp[zaP]),show (zaP a).drop 9=[] from rfl,List.nil_append];exact ih
def ziF (l:List ExP):AV:=.row (chE l).length (zbJ (chE l))
section
variable [Tabs Tryz.prog] {objs:List OB} {K:List OB->AV->Prop}
theorem zjB (l:List ExP) (hl:l.length<=1000000) (hk:K objs (ziF l)):zai Tryz.prog 7 [.row l.length (zan l)] objs K:=by
 have hpl:zak [AV.row l.length (zan l)]=true:=by simp only[zak,AV.plain,zbN,Bool.and_self]
 refine zeq (ziF l) (zgo is_ref33_Chains hpl fun C _=>?_);rw[c_ref33_Chains];refine zaf fun Z hZ=>?_;simp only[sxZ,z6,z7,z8,j4,j5,j6,j7,j8,j9,x0,x3,x4,x5,x6,x7,reduceCtorEq,↓reduceIte];subst hZ;refine zaf fun Z hZ=>?_;simp only[sxZ,z6,z7,z8,j4,j5,j6,j7,j8,j9,x0,x3,x4,x5,x6,x7,reduceCtorEq,↓reduceIte];subst hZ;refine zaf fun Z hZ=>?_;simp only[sxZ,z6,z7,z8,j4,j5,j6,j7,j8,j9,x0,x3,x4,x5,x6,x7,reduceCtorEq,↓reduceIte];subst hZ;refine zaf fun Z hZ=>?_;simp only[sxZ,z6,z7,z8,j4,j5,j6,j7,j8,j9,x0,x3,x4,x5,x6,x7,reduceCtorEq,↓reduceIte];refine zcI (fun m o tm=>∃(i:Nat) (rs:List (Nat×Nat)) (X Y:AV),i<=l.length/\m=l.length - i/\ChI 22 o (chS (l.take i)).1 (chS (l.take i)).2 rs X Y/\tm.length=34/\tm[3]? = some Y/\tm[4]? = some X/\tm[7]? = some (.row l.length (zan l))/\tm[8]? = some (.i .i64 l.length)/\tm[9]? = some (.i .i64 (i:Int))) l.length ⟨0,[],.nil,.nil,zt _,rfl,⟨rfl,fun j p c hp hc=>by simp at hp,.inl ⟨rfl,rfl⟩,.inl ⟨rfl,rfl⟩⟩,rfl,rfl,rfl,rfl,rfl,rfl⟩ ?_;rintro m o tm ⟨i,rs,X,Y,hi,rfl,hC,hlen,t3,t4,t7,t8,t9⟩;have hxl:=zbb l;refine zaf fun W hW=>?_
 by_cases hlt:(i:Int)<(l.length:Int)
 ·have hi':i<l.length:=by omega
  have hat:=ziS l i hi';have hs:=zeY l i hi';simp only[sxZ,z6,z7,z8,j4,j5,j6,j7,j8,j9,x0,x3,x4,x5,x6,x7,reduceCtorEq,↓reduceIte,za,hlen,t7,t8,t9,hlt];subst hW;refine zaf fun W hW=>?_;simp only[sxZ,z6,z7,z8,j4,j5,j6,j7,j8,j9,x0,x3,x4,x5,x6,x7,reduceCtorEq,↓reduceIte,za,hlen,t7,t8,t9,hat];subst hW;refine zaf fun W hW=>?_;rw[zcc];refine zaf fun V hV=>?_;simp only[sxZ,z6,z7,z8,j4,j5,j6,j7,j8,j9,x0,x3,x4,x5,x6,x7,reduceCtorEq,↓reduceIte,za,hlen,t7,t8,t9,hat];refine⟨by omega,?_⟩;obtain⟨x,hx⟩:∃x,x=l[i]:=⟨_,rfl⟩;rw[<-hx] at hs ⊢;unfold zaP;simp only[sxZ,z6,z7,z8,j4,j5,j6,j7,j8,j9,x0,x3,x4,x5,x6,x7,reduceCtorEq,↓reduceIte,gn1,sn1];refine⟨by omega,?_⟩;subst hV;refine zaf fun V hV=>?_;have last:∀(o':List OB) (r g:Nat) (t:List AV),ChI 22 o' (chS (l.take i)).1 ((chS (l.take i)).2++[x]) rs (.orow r g) Y->o'[o.length]? = some (.box 31 (zaP x))->t.length=34->t[3]? = some Y->t[4]? = some (.orow r g)->t[6]? = some (.p o.length 0)->t[7]? = some (.row l.length (zan l))->t[8]? = some (.i .i64 l.length)->t[9]? = some (.i .i64 (i:Int))->run Tryz.prog C [IT.code V,IT.blk 1,IT.code W] o' t (zir Tryz.prog C (fun m o tm=>∃(i:Nat) (rs:List (Nat×Nat)) (X Y:AV),i<=l.length/\m=l.length - i/\ChI 22 o (chS (l.take i)).1 (chS (l.take i)).2 rs X Y/\tm.length=34/\tm[3]? = some Y/\tm[4]? = some X/\tm[7]? = some (.row l.length (zan l))/\tm[8]? = some (.i .i64 l.length)/\tm[9]? = some (.i .i64 (i:Int))) (l.length - i) [IT.blk 0,IT.code Z] (endK [SRes.tmp 2] fun r=>(∀(G:Gh) (I:Imm) (y:Value),Den G I r y->Den G I (ziF l) y)/\K objs (ziF l))):=by
   intro o' r g t hC' hbx hlen' u3 u4 u6 u7 u8 u9;subst hV;refine zaf fun V hV=>?_;unfold zaP at hbx;simp only[sxZ,z6,z7,z8,j4,j5,j6,j7,j8,j9,x0,x3,x4,x5,x6,x7,reduceCtorEq,↓reduceIte,za,hlen',u6,hbx];refine zgb (zii _ ?_);simp only[sxZ,z6,z7,z8,j4,j5,j6,j7,j8,j9,x0,x3,x4,x5,x6,x7,reduceCtorEq,↓reduceIte,za,hlen'];subst hV
   cases hr:zbg x.st with
   | true=>
    simp only[sxZ,z6,z7,z8,j4,j5,j6,j7,j8,j9,x0,x3,x4,x5,x6,x7,reduceCtorEq,↓reduceIte,za,hlen',hr,Bool.not_true];subst hW;simp only[sxZ,z6,z7,z8,j4,j5,j6,j7,j8,j9,x0,x3,x4,x5,x6,x7,reduceCtorEq,↓reduceIte,za,hlen',u9];have hq:chS (l.take (i+1))=((chS (l.take i)).1,(chS (l.take i)).2++[x]):=by rw[hs];unfold zaO;rw[if_pos hr]
    exact⟨⟨by omega,by omega⟩,l.length - (i+1),by omega,i+1,rs,_,Y,by omega,rfl,by rw[hq];exact hC',u3,u4,u7,u8,rfl⟩
   | false=>
    have hq:chS (l.take (i+1))=((chS (l.take i)).1++[(chS (l.take i)).2++[x]],[]):=by rw[hs];unfold zaO;rw[if_neg (by rw[hr];decide)]
    simp only[sxZ,z6,z7,z8,j4,j5,j6,j7,j8,j9,x0,x3,x4,x5,x6,x7,reduceCtorEq,↓reduceIte,za,hlen',hr,Bool.not_false];have hcl:=zcS (l.take i);rw[qg] at hcl;rcases hC'.y with ⟨hy,rfl⟩|⟨r',g',rfl,hr',hne'⟩
    ·simp only[sxZ,z6,z7,z8,j4,j5,j6,j7,j8,j9,x0,x3,x4,x5,x6,x7,reduceCtorEq,↓reduceIte,za,hlen',u3,u4];rw[hy] at hC' hq;have h2:=hC'.end0;subst hW;simp only[sxZ,z6,z7,z8,j4,j5,j6,j7,j8,j9,x0,x3,x4,x5,x6,x7,reduceCtorEq,↓reduceIte,za,hlen',u9];exact⟨⟨by omega,by omega⟩,l.length - (i+1),by omega,i+1,_,_,_,by omega,rfl,by rw[hq];exact h2,rfl,rfl,u7,u8,rfl⟩
    ·simp only[sxZ,z6,z7,z8,j4,j5,j6,j7,j8,j9,x0,x3,x4,x5,x6,x7,reduceCtorEq,↓reduceIte,za,hlen',u3,u4,hr'];have h2:=hC'.endS;refine⟨⟨by omega,by omega⟩,?_⟩;subst hW;simp only[sxZ,z6,z7,z8,j4,j5,j6,j7,j8,j9,x0,x3,x4,x5,x6,x7,reduceCtorEq,↓reduceIte,za,hlen',u9];exact⟨⟨by omega,by omega⟩,l.length - (i+1),by omega,i+1,_,_,_,by omega,rfl,by rw[hq];exact h2,rfl,rfl,u7,u8,rfl⟩
  rcases hC.x with ⟨hc,rfl⟩|⟨r,g,rfl,hr,hne,hny⟩
  ·simp only[sxZ,z6,z7,z8,j4,j5,j6,j7,j8,j9,x0,x3,x4,x5,x6,x7,reduceCtorEq,↓reduceIte,za,hlen,t4,gn1,sn1];have h1:=hC.grow (.box 31 (zaP x));rw[hc] at h1;have h2:=h1.first x;rw[qd] at h2;refine last _ _ _ _ (by rw[hc];exact h2) (zc5 (gn1 _ _)) (by simp only[zd,hlen]) ?_ ?_ ?_ ?_ ?_ ?_<;>simp only[sxZ,z6,z7,z8,j4,j5,j6,j7,j8,j9,x0,x3,x4,x5,x6,x7,reduceCtorEq,↓reduceIte,za,zd,hlen,t3,t7,t8,t9]
  ·have hgx:∀z,(o++[z])[r]? = some (obx g (chS (l.take i)).2):=fun z=>zc5 hr;have hlt':=zgx hr;have hcl:=zcS (l.take i);rw[qg] at hcl;unfold obx at hgx;simp only[sxZ,z6,z7,z8,j4,j5,j6,j7,j8,j9,x0,x3,x4,x5,x6,x7,reduceCtorEq,↓reduceIte,za,hlen,t4,gn1,sn1,hgx];have h2:=(hC.grow (.box 31 (zaP x))).more x;unfold obx at h2;rw[zdi,qd] at h2;refine⟨⟨by omega,by omega⟩,last _ _ _ _ h2 (by rw[zf (by omega)];exact gn1 _ _) (by simp only[zd,hlen]) ?_ ?_ ?_ ?_ ?_ ?_⟩<;>simp only[sxZ,z6,z7,z8,j4,j5,j6,j7,j8,j9,x0,x3,x4,x5,x6,x7,reduceCtorEq,↓reduceIte,za,zd,hlen,t3,t7,t8,t9]
 ·have hil:i=l.length:=by omega
  subst hil;rw[List.take_length] at hC;simp only[sxZ,z6,z7,z8,j4,j5,j6,j7,j8,j9,x0,x3,x4,x5,x6,x7,reduceCtorEq,↓reduceIte,za,hlen,t8,t9,hlt];subst hW;refine zaf fun W hW=>?_;simp only[sxZ,z6,z7,z8,j4,j5,j6,j7,j8,j9,x0,x3,x4,x5,x6,x7,reduceCtorEq,↓reduceIte,za,hlen];subst hZ;refine zaf fun Z hZ=>?_;have fin:∀(o':List OB) (Y':AV) (t:List AV),t.length=34->t[3]? = some Y'->((chE l=[]/\Y'=.nil)\/Sx.pub o' 5 Y'=some (.row (chE l).length (zbJ (chE l))))->run Tryz.prog C [IT.code Z] o' t (endK [SRes.tmp 2] fun r=>(∀(G:Gh) (I:Imm) (y:Value),Den G I r y->Den G I (ziF l) y)/\K objs (ziF l)):=by
   intro o' Y' t hl' h3 hp;subst hZ;simp only[sxZ,z6,z7,z8,j4,j5,j6,j7,j8,j9,x0,x3,x4,x5,x6,x7,reduceCtorEq,↓reduceIte,za,hl',h3];rcases hp with ⟨h1,rfl⟩|h1
   ·have e:∀d,Sx.pub o' (d+1) AV.nil=some .nil:=fun d=>by simp[Sx.pub,AV.plain]
    rw[e 4];refine⟨fun G I y h=>?_,hk⟩;unfold ziF;rw[h1];exact zdA (by simpa[Den] using h)
   ·rw[h1];exact⟨fun _ _ _ h=>h,hk⟩
  rcases hC.x with ⟨hc,rfl⟩|⟨r,g,rfl,hr,hne,hny⟩
  ·have hE:chE l=(chS l).1:=by unfold chE;rw[if_pos hc,qv]
   simp only[sxZ,z6,z7,z8,j4,j5,j6,j7,j8,j9,x0,x3,x4,x5,x6,x7,reduceCtorEq,↓reduceIte,za,hlen,t3,t4];refine fin _ Y _ (by simp only[zd,hlen]) (by simp only[sxZ,z6,z7,z8,j4,j5,j6,j7,j8,j9,x0,x3,x4,x5,x6,x7,reduceCtorEq,↓reduceIte,za,zd,hlen,t3]) ?_;rw[hE];exact hC.pub
  ·have hr0:=hr;unfold obx at hr;simp only[sxZ,z6,z7,z8,j4,j5,j6,j7,j8,j9,x0,x3,x4,x5,x6,x7,reduceCtorEq,↓reduceIte,za,hlen,t3,t4,hr];have hcl:=zcS l
   by_cases he:(0:Int)<((chS l).2.length:Int)
   ·have hc:(chS l).2≠[]:=fun e=>by rw[e] at he;simp at he
    have hE:chE l=(chS l).1++[(chS l).2]:=by unfold chE;rw[if_neg hc]
    rcases hC.y with ⟨hy,rfl⟩|⟨r',g',rfl,hr',hne'⟩
    ·simp only[sxZ,z6,z7,z8,j4,j5,j6,j7,j8,j9,x0,x3,x4,x5,x6,x7,reduceCtorEq,↓reduceIte,za,hlen,t3,t4,hr,he];rw[hy] at hC hE;have h2:=hC.end0;refine fin _ (.orow o.length 0) _ (by simp only[zd,hlen]) (by simp only[sxZ,z6,z7,z8,j4,j5,j6,j7,j8,j9,x0,x3,x4,x5,x6,x7,reduceCtorEq,↓reduceIte,za,zd,hlen]) ?_;rw[hE];exact h2.pub
    ·simp only[sxZ,z6,z7,z8,j4,j5,j6,j7,j8,j9,x0,x3,x4,x5,x6,x7,reduceCtorEq,↓reduceIte,za,hlen,t3,t4,hr,he,hr'];have h2:=hC.endS;refine⟨⟨by omega,by omega⟩,fin _ (.orow r' (g'+1)) _ (by simp only[zd,hlen]) (by simp only[sxZ,z6,z7,z8,j4,j5,j6,j7,j8,j9,x0,x3,x4,x5,x6,x7,reduceCtorEq,↓reduceIte,za,zd,hlen]) ?_⟩;rw[hE];exact h2.pub
   ·have hc:(chS l).2=[]:=List.eq_nil_of_length_eq_zero (by omega);have hE:chE l=(chS l).1:=by unfold chE;rw[if_pos hc,qv]
    simp only[sxZ,z6,z7,z8,j4,j5,j6,j7,j8,j9,x0,x3,x4,x5,x6,x7,reduceCtorEq,↓reduceIte,za,hlen,t3,t4,hr,he];refine fin _ Y _ (by simp only[zd,hlen]) (by simp only[sxZ,z6,z7,z8,j4,j5,j6,j7,j8,j9,x0,x3,x4,x5,x6,x7,reduceCtorEq,↓reduceIte,za,zd,hlen,t3]) ?_;rw[hE];exact hC.pub
end
end
section
attribute [local irreducible] run
def chP (l:List ExP) (i:Nat):List (List ExP)×List ExP:=if i<l.length then chS (l.take i) else (chE l,[])
theorem chP_zero (l:List ExP):chP l 0=([],[]):=by
 cases l with
 | nil=>rfl
 | cons a l=>unfold chP;rw[if_pos (by simp)];rfl
theorem chP_end {l:List ExP} {i:Nat} (h:i<l.length) (hr:zbg l[i].st=false\/i+1=l.length):chP l (i+1)=((chS (l.take i)).1++[(chS (l.take i)).2++[l[i]]],[]):=by
 have hs:=zeY l i h;unfold chP
 split
 ·rw[hs];unfold zaO;rw[if_neg];rcases hr with hr|hr
  ·rw[hr];decide
  ·omega
 ·have hl:i+1=l.length:=by omega
  rw[hl,List.take_length] at hs;unfold chE;rw[hs];unfold zaO
  by_cases c:zbg l[i].st=true
  ·rw[if_pos c];simp
  ·rw[if_neg c];simp
theorem chP_more {l:List ExP} {i:Nat} (h:i<l.length) (h2:¬i+1=l.length) (hr:zbg l[i].st=true):chP l (i+1)=((chS (l.take i)).1,(chS (l.take i)).2++[l[i]]):=by
 unfold chP;rw[if_pos (by omega),zeY l i h];unfold zaO;rw[if_pos hr]
section
variable [Tabs Tryz.prog] {objs:List OB} {K:List OB->AV->Prop}
theorem ziX (l:List ExP) (hl:l.length<=1000000) (hk:K objs (ziF l)):zai Tryz.prog 6 [.row l.length (zan l)] objs K:=by
 have hpl:zak [AV.row l.length (zan l)]=true:=by simp only[zak,AV.plain,zbN,Bool.and_self]
 refine zeq (ziF l) (zgo is_witness_Chains hpl fun C _=>?_);rw[c_witness_Chains];refine zaf fun Z hZ=>?_;simp only[sxZ,z6,z7,z8,j4,j5,j6,j7,j8,j9,x0,x3,x4,x5,x6,x7,reduceCtorEq,↓reduceIte];subst hZ;refine zaf fun Z hZ=>?_;simp only[sxZ,z6,z7,z8,j4,j5,j6,j7,j8,j9,x0,x3,x4,x5,x6,x7,reduceCtorEq,↓reduceIte];subst hZ;refine zaf fun Z hZ=>?_;simp only[sxZ,z6,z7,z8,j4,j5,j6,j7,j8,j9,x0,x3,x4,x5,x6,x7,reduceCtorEq,↓reduceIte];subst hZ;refine zaf fun Z hZ=>?_;simp only[sxZ,z6,z7,z8,j4,j5,j6,j7,j8,j9,x0,x3,x4,x5,x6,x7,reduceCtorEq,↓reduceIte];refine zcI (fun m o tm=>∃(i:Nat) (rs:List (Nat×Nat)) (X Y:AV),i<=l.length/\m=l.length - i/\ChI 22 o (chP l i).1 (chP l i).2 rs X Y/\tm.length=35/\tm[0]? = some (.row l.length (zan l))/\tm[3]? = some Y/\tm[4]? = some X/\tm[7]? = some (.row l.length (zan l))/\tm[8]? = some (.i .i64 l.length)/\tm[9]? = some (.i .i64 (i:Int))) l.length ⟨0,[],.nil,.nil,zt _,rfl,by rw[chP_zero];exact⟨rfl,fun j p c hp hc=>by simp at hp,.inl ⟨rfl,rfl⟩,.inl ⟨rfl,rfl⟩⟩,rfl,rfl,rfl,rfl,rfl,rfl,rfl⟩ ?_;rintro m o tm ⟨i,rs,X,Y,hi,rfl,hC,hlen,t0,t3,t4,t7,t8,t9⟩;have hxl:=zbb l;refine zaf fun W hW=>?_
 by_cases hlt:(i:Int)<(l.length:Int)
 ·have hi':i<l.length:=by omega
  have hat:=ziS l i hi';have hP:chP l i=chS (l.take i):=if_pos hi';rw[hP] at hC;have hE:=@chP_end l i hi';have hM:=@chP_more l i hi';simp only[sxZ,z6,z7,z8,j4,j5,j6,j7,j8,j9,x0,x3,x4,x5,x6,x7,reduceCtorEq,↓reduceIte,za,hlen,t7,t8,t9,hlt];subst hW;refine zaf fun W hW=>?_;simp only[sxZ,z6,z7,z8,j4,j5,j6,j7,j8,j9,x0,x3,x4,x5,x6,x7,reduceCtorEq,↓reduceIte,za,hlen,t7,t8,t9,hat];subst hW;refine zaf fun W hW=>?_;rw[zcc];refine zaf fun V hV=>?_;simp only[sxZ,z6,z7,z8,j4,j5,j6,j7,j8,j9,x0,x3,x4,x5,x6,x7,reduceCtorEq,↓reduceIte,za,hlen,t7,t8,t9,hat];refine⟨by omega,?_⟩;obtain⟨x,hx⟩:∃x,x=l[i]:=⟨_,rfl⟩;rw[<-hx] at hE hM ⊢;unfold zaP;simp only[sxZ,z6,z7,z8,j4,j5,j6,j7,j8,j9,x0,x3,x4,x5,x6,x7,reduceCtorEq,↓reduceIte,gn1,sn1];refine⟨by omega,?_⟩;subst hV;refine zaf fun V hV=>?_;have last:∀(o':List OB) (r g:Nat) (t:List AV),ChI 22 o' (chS (l.take i)).1 ((chS (l.take i)).2++[x]) rs (.orow r g) Y->o'[o.length]? = some (.box 31 (zaP x))->t.length=35->t[0]? = some (.row l.length (zan l))->t[5]? = some (.i .i64 (i:Int))->t[3]? = some Y->t[4]? = some (.orow r g)->t[6]? = some (.p o.length 0)->t[7]? = some (.row l.length (zan l))->t[8]? = some (.i .i64 l.length)->t[9]? = some (.i .i64 (i:Int))->run Tryz.prog C [IT.code V,IT.blk 1,IT.code W] o' t (zir Tryz.prog C (fun m o tm=>∃(i:Nat) (rs:List (Nat×Nat)) (X Y:AV),i<=l.length/\m=l.length - i/\ChI 22 o (chP l i).1 (chP l i).2 rs X Y/\tm.length=35/\tm[0]? = some (.row l.length (zan l))/\tm[3]? = some Y/\tm[4]? = some X/\tm[7]? = some (.row l.length (zan l))/\tm[8]? = some (.i .i64 l.length)/\tm[9]? = some (.i .i64 (i:Int))) (l.length - i) [IT.blk 0,IT.code Z] (endK [SRes.tmp 2] fun r=>(∀(G:Gh) (I:Imm) (y:Value),Den G I r y->Den G I (ziF l) y)/\K objs (ziF l))):=by
   intro o' r g t hC' hbx hlen' u0 u5 u3 u4 u6 u7 u8 u9;subst hV;refine zaf fun V hV=>?_;unfold zaP at hbx;simp only[sxZ,z6,z7,z8,j4,j5,j6,j7,j8,j9,x0,x3,x4,x5,x6,x7,reduceCtorEq,↓reduceIte,za,hlen',u6,hbx];refine zgb (zkG _ ?_);have hcl:=zcS (l.take i);rw[qg] at hcl
   cases hr:zbg x.st with
   | false=>
    have hq:=hE (.inl hr);simp only[sxZ,z6,z7,z8,j4,j5,j6,j7,j8,j9,x0,x3,x4,x5,x6,x7,reduceCtorEq,↓reduceIte,za,hlen',hr,Bool.not_false];subst hV;simp only[sxZ,z6,z7,z8,j4,j5,j6,j7,j8,j9,x0,x3,x4,x5,x6,x7,reduceCtorEq,↓reduceIte,za,hlen',hr,Bool.not_false];rcases hC'.y with ⟨hy,rfl⟩|⟨r',g',rfl,hr',hne'⟩
    ·simp only[sxZ,z6,z7,z8,j4,j5,j6,j7,j8,j9,x0,x3,x4,x5,x6,x7,reduceCtorEq,↓reduceIte,za,hlen',u3,u4];rw[hy] at hC' hq;have h2:=hC'.end0;subst hW;simp only[sxZ,z6,z7,z8,j4,j5,j6,j7,j8,j9,x0,x3,x4,x5,x6,x7,reduceCtorEq,↓reduceIte,za,hlen',u9];exact⟨⟨by omega,by omega⟩,l.length - (i+1),by omega,i+1,_,_,_,by omega,rfl,by rw[hq];exact h2,u0,rfl,rfl,u7,u8,rfl⟩
    ·simp only[sxZ,z6,z7,z8,j4,j5,j6,j7,j8,j9,x0,x3,x4,x5,x6,x7,reduceCtorEq,↓reduceIte,za,hlen',u3,u4,hr'];have h2:=hC'.endS;refine⟨⟨by omega,by omega⟩,?_⟩;subst hW;simp only[sxZ,z6,z7,z8,j4,j5,j6,j7,j8,j9,x0,x3,x4,x5,x6,x7,reduceCtorEq,↓reduceIte,za,hlen',u9];exact⟨⟨by omega,by omega⟩,l.length - (i+1),by omega,i+1,_,_,_,by omega,rfl,by rw[hq];exact h2,u0,rfl,rfl,u7,u8,rfl⟩
   | true=>
    by_cases hl2:i+1=l.length
    ·have hq:=hE (.inr hl2);have hl3:(i:Int)=(l.length:Int) - 1:=by omega
     simp only[sxZ,z6,z7,z8,j4,j5,j6,j7,j8,j9,x0,x3,x4,x5,x6,x7,reduceCtorEq,↓reduceIte,za,hlen',hr,Bool.not_true,u0,u5];refine⟨by omega,?_⟩;rw[decide_eq_true hl3];subst hV;simp only[sxZ,z6,z7,z8,j4,j5,j6,j7,j8,j9,x0,x3,x4,x5,x6,x7,reduceCtorEq,↓reduceIte,za,hlen'];rcases hC'.y with ⟨hy,rfl⟩|⟨r',g',rfl,hr',hne'⟩
     ·simp only[sxZ,z6,z7,z8,j4,j5,j6,j7,j8,j9,x0,x3,x4,x5,x6,x7,reduceCtorEq,↓reduceIte,za,hlen',u3,u4];rw[hy] at hC' hq;have h2:=hC'.end0;subst hW;simp only[sxZ,z6,z7,z8,j4,j5,j6,j7,j8,j9,x0,x3,x4,x5,x6,x7,reduceCtorEq,↓reduceIte,za,hlen',u9];exact⟨⟨by omega,by omega⟩,l.length - (i+1),by omega,i+1,_,_,_,by omega,rfl,by rw[hq];exact h2,u0,rfl,rfl,u7,u8,rfl⟩
     ·simp only[sxZ,z6,z7,z8,j4,j5,j6,j7,j8,j9,x0,x3,x4,x5,x6,x7,reduceCtorEq,↓reduceIte,za,hlen',u3,u4,hr'];have h2:=hC'.endS;refine⟨⟨by omega,by omega⟩,?_⟩;subst hW;simp only[sxZ,z6,z7,z8,j4,j5,j6,j7,j8,j9,x0,x3,x4,x5,x6,x7,reduceCtorEq,↓reduceIte,za,hlen',u9];exact⟨⟨by omega,by omega⟩,l.length - (i+1),by omega,i+1,_,_,_,by omega,rfl,by rw[hq];exact h2,u0,rfl,rfl,u7,u8,rfl⟩
    ·have hq:=hM hl2 hr;have hl3:¬(i:Int)=(l.length:Int) - 1:=by omega
     simp only[sxZ,z6,z7,z8,j4,j5,j6,j7,j8,j9,x0,x3,x4,x5,x6,x7,reduceCtorEq,↓reduceIte,za,hlen',hr,Bool.not_true,u0,u5];refine⟨by omega,?_⟩;rw[decide_eq_false hl3];subst hV;simp only[sxZ,z6,z7,z8,j4,j5,j6,j7,j8,j9,x0,x3,x4,x5,x6,x7,reduceCtorEq,↓reduceIte,za,hlen'];subst hW;simp only[sxZ,z6,z7,z8,j4,j5,j6,j7,j8,j9,x0,x3,x4,x5,x6,x7,reduceCtorEq,↓reduceIte,za,hlen',u9];exact⟨⟨by omega,by omega⟩,l.length - (i+1),by omega,i+1,rs,_,Y,by omega,rfl,by rw[hq];exact hC',u0,u3,u4,u7,u8,rfl⟩
  rcases hC.x with ⟨hc,rfl⟩|⟨r,g,rfl,hr,hne,hny⟩
  ·simp only[sxZ,z6,z7,z8,j4,j5,j6,j7,j8,j9,x0,x3,x4,x5,x6,x7,reduceCtorEq,↓reduceIte,za,hlen,t4,gn1,sn1];have h1:=hC.grow (.box 31 (zaP x));rw[hc] at h1;have h2:=h1.first x;rw[qd] at h2;refine last _ _ _ _ (by rw[hc];exact h2) (zc5 (gn1 _ _)) (by simp only[zd,hlen]) ?_ ?_ ?_ ?_ ?_ ?_ ?_ ?_<;>simp only[sxZ,z6,z7,z8,j4,j5,j6,j7,j8,j9,x0,x3,x4,x5,x6,x7,reduceCtorEq,↓reduceIte,za,zd,hlen,t0,t3,t7,t8,t9]
  ·have hgx:∀z,(o++[z])[r]? = some (obx g (chS (l.take i)).2):=fun z=>zc5 hr;have hlt':=zgx hr;have hcl:=zcS (l.take i);rw[qg] at hcl;unfold obx at hgx;simp only[sxZ,z6,z7,z8,j4,j5,j6,j7,j8,j9,x0,x3,x4,x5,x6,x7,reduceCtorEq,↓reduceIte,za,hlen,t4,gn1,sn1,hgx];have h2:=(hC.grow (.box 31 (zaP x))).more x;unfold obx at h2;rw[zdi,qd] at h2;refine⟨⟨by omega,by omega⟩,last _ _ _ _ h2 (by rw[zf (by omega)];exact gn1 _ _) (by simp only[zd,hlen]) ?_ ?_ ?_ ?_ ?_ ?_ ?_ ?_⟩<;>simp only[sxZ,z6,z7,z8,j4,j5,j6,j7,j8,j9,x0,x3,x4,x5,x6,x7,reduceCtorEq,↓reduceIte,za,zd,hlen,t0,t3,t7,t8,t9]
 ·have hil:i=l.length:=by omega
  subst hil;have hP:chP l l.length=(chE l,[]):=if_neg (by omega);rw[hP] at hC;simp only[sxZ,z6,z7,z8,j4,j5,j6,j7,j8,j9,x0,x3,x4,x5,x6,x7,reduceCtorEq,↓reduceIte,za,hlen,t8,t9,hlt];subst hW;refine zaf fun W hW=>?_;simp only[sxZ,z6,z7,z8,j4,j5,j6,j7,j8,j9,x0,x3,x4,x5,x6,x7,reduceCtorEq,↓reduceIte,za,hlen];subst hZ;simp only[sxZ,z6,z7,z8,j4,j5,j6,j7,j8,j9,x0,x3,x4,x5,x6,x7,reduceCtorEq,↓reduceIte,za,hlen,t3];rcases hC.pub with ⟨h1,rfl⟩|h1
  ·have e:∀d,Sx.pub o (d+1) AV.nil=some .nil:=fun d=>by simp[Sx.pub,AV.plain]
   rw[e 4];refine⟨fun G I y h=>?_,hk⟩;unfold ziF;have h1:chE l=[]:=h1;rw[h1];exact zdA (by simpa[Den] using h)
  ·rw[h1];exact⟨fun _ _ _ h=>h,hk⟩
end
end
section
attribute [local irreducible] run
section
variable [Tabs Tryz.prog] {objs:List OB} {K:List OB->AV->Prop}
theorem zf1 (l:List ExP) (hl:l.length<=1000000) (hk:K objs (.b true)):zai Tryz.prog 8 [.row l.length (zan l),.row l.length (zan l)] objs K:=by
 have hpl:zak [AV.row l.length (zan l),AV.row l.length (zan l)]=true:=by simp only[zak,AV.plain,zbN,Bool.and_self]
 refine zgo is_ref26_SameTrace hpl fun C _=>?_;rw[c_ref26_SameTrace];refine zaf fun Z hZ=>?_;simp only[sxZ,z6,z7,z8,j4,j5,j6,j7,j8,j9,x0,x3,x4,x5,x6,x7,reduceCtorEq,↓reduceIte];subst hZ;refine zaf fun Z hZ=>?_;simp only[sxZ,z6,z7,z8,j4,j5,j6,j7,j8,j9,x0,x3,x4,x5,x6,x7,reduceCtorEq,↓reduceIte];subst hZ;refine zaf fun Z hZ=>?_;simp only[sxZ,z6,z7,z8,j4,j5,j6,j7,j8,j9,x0,x3,x4,x5,x6,x7,reduceCtorEq,↓reduceIte];refine zcI (fun m o tm=>∃i:Nat,i<=l.length/\m=l.length - i/\tm.length=26/\tm[0]? = some (.row l.length (zan l))/\tm[1]? = some (.row l.length (zan l))/\tm[12]? = some (.i .i64 l.length)/\tm[13]? = some (.i .i64 (i:Int))) l.length ⟨0,zt _,rfl,rfl,rfl,rfl,rfl,rfl⟩ ?_;rintro m o tm ⟨i,hi,rfl,hlen,t0,t1,t12,t13⟩;have hxl:=zbb l;refine zaf fun W hW=>?_
 by_cases hlt:(i:Int)<(l.length:Int)
 ·have hi':i<l.length:=by omega
  have hat:=ziS l i hi';generalize l[i]=x at hat;unfold zaP at hat;simp only[sxZ,z6,z7,z8,j4,j5,j6,j7,j8,j9,x0,x3,x4,x5,x6,x7,reduceCtorEq,↓reduceIte,za,hlen,t12,t13,hlt];subst hW;refine zaf fun W hW=>?_;simp only[sxZ,z6,z7,z8,j4,j5,j6,j7,j8,j9,x0,x3,x4,x5,x6,x7,reduceCtorEq,↓reduceIte,za,hlen];subst hW;refine zaf fun W hW=>?_;rw[zcc];refine zaf fun V hV=>?_;simp only[sxZ,z6,z7,z8,j4,j5,j6,j7,j8,j9,x0,x3,x4,x5,x6,x7,reduceCtorEq,↓reduceIte,za,hlen,t13];subst hV;refine zaf fun V hV=>?_;simp only[sxZ,z6,z7,z8,j4,j5,j6,j7,j8,j9,x0,x3,x4,x5,x6,x7,reduceCtorEq,↓reduceIte,za,hlen,t0,t1,hat,decide_true,beq_self_eq_true,Bool.and_self,Bool.not_true,eq_self];refine⟨by omega,by omega,by omega,by omega,?_⟩;subst hV;simp only[sxZ,z6,z7,z8,j4,j5,j6,j7,j8,j9,x0,x3,x4,x5,x6,x7,reduceCtorEq,↓reduceIte,za,hlen];subst hW;simp only[sxZ,z6,z7,z8,j4,j5,j6,j7,j8,j9,x0,x3,x4,x5,x6,x7,reduceCtorEq,↓reduceIte,za,hlen,t13];exact⟨⟨by omega,by omega⟩,l.length - (i+1),by omega,i+1,by omega,rfl,t0,t1,t12,rfl⟩
 ·simp only[sxZ,z6,z7,z8,j4,j5,j6,j7,j8,j9,x0,x3,x4,x5,x6,x7,reduceCtorEq,↓reduceIte,za,hlen,t12,t13,hlt];subst hW;refine zaf fun W hW=>?_;simp only[sxZ,z6,z7,z8,j4,j5,j6,j7,j8,j9,x0,x3,x4,x5,x6,x7,reduceCtorEq,↓reduceIte,za,hlen];subst hZ;simp only[sxZ,z6,z7,z8,j4,j5,j6,j7,j8,j9,x0,x3,x4,x5,x6,x7,reduceCtorEq,↓reduceIte,za,hlen];exact hk
theorem zga (l:List ExP) (hl:l.length<=140737488351232) (hw:∀x∈l,x.url.host.length<=140737488351232/\x.url.path.length<=140737488351232/\x.url.query.length<=140737488351232/\x.url.frag.length<=140737488351232) (hk:∀b,(b=true->l.length<=60)->K objs (.b b)):zai Tryz.prog 5 [.row l.length (zan l)] objs K:=by
 have hpl:zak [AV.row l.length (zan l)]=true:=by simp only[zak,AV.plain,zbN,Bool.and_self]
 refine zgo is_keep_Trace hpl fun C _=>?_;rw[c_keep_Trace];refine zaf fun Z hZ=>?_;simp only[sxZ,z6,z7,z8,j4,j5,j6,j7,j8,j9,x0,x3,x4,x5,x6,x7,reduceCtorEq,↓reduceIte];subst hZ;refine zaf fun Z hZ=>?_
 by_cases c:(60:Int)<(l.length:Int)
 ·simp only[sxZ,z6,z7,z8,j4,j5,j6,j7,j8,j9,x0,x3,x4,x5,x6,x7,reduceCtorEq,↓reduceIte,c];exact hk false (by simp)
 simp only[sxZ,z6,z7,z8,j4,j5,j6,j7,j8,j9,x0,x3,x4,x5,x6,x7,reduceCtorEq,↓reduceIte,c];subst hZ;refine zaf fun Z hZ=>?_;simp only[sxZ,z6,z7,z8,j4,j5,j6,j7,j8,j9,x0,x3,x4,x5,x6,x7,reduceCtorEq,↓reduceIte];refine zcI (fun m o tm=>∃i:Nat,i<=l.length/\m=l.length - i/\tm.length=19/\tm[8]? = some (.row l.length (zan l))/\tm[9]? = some (.i .i64 l.length)/\tm[10]? = some (.i .i64 (i:Int))) l.length ⟨0,zt _,rfl,rfl,rfl,rfl,rfl⟩ ?_;rintro m o tm ⟨i,hi,rfl,hlen,t8,t9,t10⟩;have hxl:=zbb l;refine zaf fun W hW=>?_
 by_cases hlt:(i:Int)<(l.length:Int)
 ·have hi':i<l.length:=by omega
  have hat:=ziS l i hi';have hx:=hw l[i] (List.getElem_mem hi');simp only[sxZ,z6,z7,z8,j4,j5,j6,j7,j8,j9,x0,x3,x4,x5,x6,x7,reduceCtorEq,↓reduceIte,za,hlen,t9,t10,hlt];subst hW;refine zaf fun W hW=>?_;simp only[sxZ,z6,z7,z8,j4,j5,j6,j7,j8,j9,x0,x3,x4,x5,x6,x7,reduceCtorEq,↓reduceIte,za,hlen];subst hW;refine zaf fun W hW=>?_;rw[zcc];refine zaf fun V hV=>?_;simp only[sxZ,z6,z7,z8,j4,j5,j6,j7,j8,j9,x0,x3,x4,x5,x6,x7,reduceCtorEq,↓reduceIte,za,hlen,t8,t10,hat];refine⟨by omega,?_⟩;generalize l[i]=x at hx ⊢;unfold zaP;simp only[sxZ,z6,z7,z8,j4,j5,j6,j7,j8,j9,x0,x3,x4,x5,x6,x7,reduceCtorEq,↓reduceIte,gn1,sn1];refine⟨by omega,?_⟩;subst hV;refine zaf fun V hV=>?_;simp only[sxZ,z6,z7,z8,j4,j5,j6,j7,j8,j9,x0,x3,x4,x5,x6,x7,reduceCtorEq,↓reduceIte,za,hlen,gn1];refine zgb (keepU_k x.url hx.1 hx.2.1 hx.2.2.1 hx.2.2.2 ?_);simp only[sxZ,z6,z7,z8,j4,j5,j6,j7,j8,j9,x0,x3,x4,x5,x6,x7,reduceCtorEq,↓reduceIte,za,hlen];subst hV
  cases keepU x.url with
  | true=>
   simp only[sxZ,z6,z7,z8,j4,j5,j6,j7,j8,j9,x0,x3,x4,x5,x6,x7,reduceCtorEq,↓reduceIte,za,hlen,Bool.not_true];subst hW;simp only[sxZ,z6,z7,z8,j4,j5,j6,j7,j8,j9,x0,x3,x4,x5,x6,x7,reduceCtorEq,↓reduceIte,za,hlen,t10];exact⟨⟨by omega,by omega⟩,l.length - (i+1),by omega,i+1,by omega,rfl,t8,t9,rfl⟩
  | false=>
   simp only[sxZ,z6,z7,z8,j4,j5,j6,j7,j8,j9,x0,x3,x4,x5,x6,x7,reduceCtorEq,↓reduceIte,za,hlen,Bool.not_false];exact hk false (by simp)
 ·simp only[sxZ,z6,z7,z8,j4,j5,j6,j7,j8,j9,x0,x3,x4,x5,x6,x7,reduceCtorEq,↓reduceIte,za,hlen,t9,t10,hlt];subst hW;refine zaf fun W hW=>?_;simp only[sxZ,z6,z7,z8,j4,j5,j6,j7,j8,j9,x0,x3,x4,x5,x6,x7,reduceCtorEq,↓reduceIte,za,hlen];subst hZ;simp only[sxZ,z6,z7,z8,j4,j5,j6,j7,j8,j9,x0,x3,x4,x5,x6,x7,reduceCtorEq,↓reduceIte,za,hlen];exact hk true (fun _=>by omega)
end
end
end Go.Proofs.YtcpldfimbhdfdaaGreatDoor
namespace Go.Proofs.YtcpldfimbhdfdaaGreatDoor.Sx
open Go.RowKit
open Int renaming natCast_nonneg->jj, ofNat->qb
open List renaming getElem?_eq_getElem->zq, getElem?_eq_none->zk, length_append->qd, length_cons->qk, replicate->zu
open Nat renaming beq->zv, ble->qc
open Option renaming map_eq_some_iff->qe, map_some->qy
inductive XV where
 | ok (o:List OB) (r:AV)
 | bad (op:SOp)
inductive T8 where
 | lf (v:AV)
 | nd (l r:T8)
noncomputable def T8.get (t:T8):Nat->AV :=
 T8.rec (motive:=fun _=>Nat->AV) (fun v _=>v) (fun _ _ gl gr n=>Bool.rec (motive:=fun _=>AV) (gr (Nat.div n 2)) (gl (Nat.div n 2)) (zv (Nat.mod n 2) 0)) t
noncomputable def T8.setK (t:T8):Nat->AV->(T8->XV)->XV :=
 T8.rec (motive:=fun _=>Nat->AV->(T8->XV)->XV) (fun _ _ v k=>k (.lf v)) (fun l r sl sr n v k=>Bool.rec (motive:=fun _=>XV) (sr (Nat.div n 2) v fun r'=>k (.nd l r')) (sl (Nat.div n 2) v fun l'=>k (.nd l' r)) (zv (Nat.mod n 2) 0)) t
def T8.put:T8->Nat->AV->T8
 | .lf _,_,v=>.lf v
 | .nd l r,n,v=>if n % 2=0 then .nd (l.put (n / 2) v) r else .nd l (r.put (n / 2) v)
def T8.full:Nat->T8->Prop
 | 0,.lf _=>True
 | D+1,.nd l r=>T8.full D l/\T8.full D r
 | _,_=>False
noncomputable def T8.mk (D:Nat):T8:=Nat.rec (motive:=fun _=>T8) (.lf (.o undef)) (fun _ t=>.nd t t) D
theorem zlE (n:Nat):zv (Nat.mod n 2) 0=decide (n % 2=0):=by
 rw[Bool.eq_iff_iff,Nat.beq_eq,decide_eq_true_eq];rfl
theorem zhx (l r:T8) (n:Nat):(T8.nd l r).get n=if n % 2=0 then l.get (n / 2) else r.get (n / 2):=by
 show (Bool.rec (motive:=fun _=>AV) (r.get (Nat.div n 2)) (l.get (Nat.div n 2)) (zv (Nat.mod n 2) 0))=_;rw[zlE]
 by_cases h:n % 2=0
 ·rw[decide_eq_true h,if_pos h];rfl
 ·rw[decide_eq_false h,if_neg h];rfl
theorem zbP:∀(t:T8) (n:Nat) (v:AV) (k:T8->XV),t.setK n v k=k (t.put n v)
 | .lf _,n,v,k=>rfl
 | .nd l r,n,v,k=>by
  show (Bool.rec (motive:=fun _=>XV) (r.setK (Nat.div n 2) v fun r'=>k (.nd l r')) (l.setK (Nat.div n 2) v fun l'=>k (.nd l' r)) (zv (Nat.mod n 2) 0))=_;rw[zlE,zbP,zbP,T8.put]
  by_cases h:n % 2=0
  ·rw[decide_eq_true h,if_pos h];rfl
  ·rw[decide_eq_false h,if_neg h];rfl
theorem zeQ:∀{D:Nat} {t:T8} (n:Nat) (v:AV),T8.full D t->T8.full D (t.put n v)
 | 0,.lf _,n,v,h=>trivial
 | D+1,.nd l r,n,v,h=>by
  rw[T8.put]
  split
  ·exact⟨zeQ _ _ h.1,h.2⟩
  ·exact⟨h.1,zeQ _ _ h.2⟩
 | 0,.nd _ _,_,_,h=>h.elim
 | D+1,.lf _,_,_,h=>h.elim
theorem zgk:∀{D:Nat} {t:T8} {n m:Nat} (v:AV),T8.full D t->n<2 ^ D->m<2 ^ D->(t.put n v).get m=if n=m then v else t.get m
 | 0,.lf x,n,m,v,h,hn,hm=>by
  obtain rfl:n=0:=by simpa using hn
  obtain rfl:m=0:=by simpa using hm
  rfl
 | D+1,.nd l r,n,m,v,h,hn,hm=>by
  rw[Nat.pow_succ] at hn hm;rw[T8.put,zhx]
  by_cases h1:n % 2=0
  ·rw[if_pos h1,zhx,zgk v h.1 (by omega) (by omega)]
   by_cases h2:m % 2=0
   ·rw[if_pos h2,if_pos h2]
    by_cases h3:n=m
    ·rw[if_pos h3,if_pos (by omega)]
    ·rw[if_neg h3,if_neg (by omega)]
   ·rw[if_neg h2,if_neg h2,if_neg (by omega)]
  ·rw[if_neg h1,zhx,zgk v h.2 (by omega) (by omega)]
   by_cases h2:m % 2=0
   ·rw[if_pos h2,if_pos h2,if_neg (by omega)]
   ·rw[if_neg h2,if_neg h2]
    by_cases h3:n=m
    ·rw[if_pos h3,if_pos (by omega)]
    ·rw[if_neg h3,if_neg (by omega)]
 | 0,.nd _ _,_,_,_,h,_,_=>h.elim
 | D+1,.lf _,_,_,_,h,_,_=>h.elim
theorem zgm:∀D,T8.full D (T8.mk D)
 | 0=>trivial
 | D+1=>⟨zgm D,zgm D⟩
theorem get_mk:∀(D n:Nat),(T8.mk D).get n=.o undef
 | 0,n=>rfl
 | D+1,n=>by
  show (T8.nd (T8.mk D) (T8.mk D)).get n=_;rw[zhx,get_mk];exact ite_self _
def Rep (w:Nat) (t:T8) (tm:List AV):Prop:=tm.length=w/\∃D,T8.full D t/\w<=2 ^ D/\∀n,n<w->t.get n=(tm[n]?).getD .u
theorem Rep.put {w n:Nat} {t:T8} {tm:List AV} {v:AV} (h:Rep w t tm) (hn:n<w):Rep w (t.put n v) (tm.set n v):=by
 obtain⟨h1,D,h2,h3,h4⟩:=h;refine⟨by rw[List.length_set];exact h1,D,zeQ _ _ h2,h3,fun m hm=>?_⟩;rw[zgk v h2 (by omega) (by omega),List.getElem?_set]
 by_cases e:n=m
 ·subst e;rw[if_pos rfl,if_pos rfl,if_pos (by omega)];rfl
 ·rw[if_neg e,if_neg e];exact h4 m hm
noncomputable def evT (w:Nat) (t:T8) (x:SV):AV :=
 SV.rec (motive:=fun _=>AV) (fun n=>Bool.rec (motive:=fun _=>AV) .u (t.get n) (Nat.blt n w)) (fun v=>v) x
theorem zbZ (n w:Nat):Nat.blt n w=decide (n<w):=by
 rw[Bool.eq_iff_iff,decide_eq_true_eq];exact iff_of_eq Nat.ble_eq
theorem Rep.ev {w:Nat} {t:T8} {tm:List AV} (h:Rep w t tm):evT w t=fun x=>x.ev tm:=by
 funext x
 cases x with
 | c v=>rfl
 | t n=>
  show (Bool.rec (motive:=fun _=>AV) .u (t.get n) (Nat.blt n w))=(tm[n]?).getD .u;obtain⟨h1,D,h2,h3,h4⟩:=h;rw[zbZ]
  by_cases e:n<w
  ·rw[decide_eq_true e];exact h4 n e
  ·rw[decide_eq_false e,zk (by omega)];rfl
noncomputable def zhA (n:Nat) (k:Nat->XV):XV:=Nat.rec (motive:=fun _=>XV) (k 0) (fun m _=>k (Nat.succ m)) n
theorem zgn (n:Nat) (k:Nat->XV):zhA n k=k n:=by cases n<;>rfl
noncomputable def zcO {β:Type} (l:List β):(List β->XV)->XV :=
 List.rec (motive:=fun _=>(List β->XV)->XV) (fun k=>k []) (fun c _ ih k=>ih fun t=>k (c::t)) l
theorem zcN {β:Type}:∀(l:List β) (k:List β->XV),zcO l k=k l
 | [],k=>rfl
 | c::l,k=>zcN l fun t=>k (c::t)
noncomputable def frc (v:AV) (k:AV->XV):XV :=
 match v with
 | .s l=>k (.s l)
 | .i kd (.ofNat n)=>zhA n fun n=>k (.i kd (.ofNat n))
 | .b true=>k (.b true)
 | .b false=>k (.b false)
 | .p b o=>zhA b fun b=>zhA o fun o=>k (.p b o)
 | .orow b g=>zhA b fun b=>zhA g fun g=>k (.orow b g)
 | .prow xs j=>zhA j fun j=>k (.prow xs j)
 | .porow b g j=>zhA b fun b=>zhA g fun g=>zhA j fun j=>k (.porow b g j)
 | .i kd (.negSucc n)=>k (.i kd (.negSucc n))
 | .agg cs=>k (.agg cs)
 | .tup cs=>k (.tup cs)
 | .row n xs=>zhA n fun n=>k (.row n xs)
 | .crow n xs=>k (.crow n xs)
 | .bsl a b c=>k (.bsl a b c)
 | .m b=>k (.m b)
 | .zn b=>k (.zn b)
 | .nil=>k .nil
 | .fn f a b=>k (.fn f a b)
 | .o v=>k (.o v)
 | .u=>k .u
theorem zhz (v:AV) (k:AV->XV):frc v k=k v:=by
 unfold frc
 split<;>simp only[zgn]
noncomputable def zdF (l:List AV):(List AV->XV)->XV :=
 List.rec (motive:=fun _=>(List AV->XV)->XV) (fun k=>k []) (fun c _ ih k=>frc c fun c=>ih fun t=>k (c::t)) l
theorem zbh:∀(l:List AV) (k:List AV->XV),zdF l k=k l
 | [],k=>rfl
 | c::l,k=>by
  show frc c (fun c=>zdF l fun t=>k (c::t))=_;rw[zhz,zbh]
def unA:List AV->Option (List UInt8)
 | []=>some []
 | .i .u8 (.ofNat n)::l=>if n<256 then (unA l).map (UInt8.ofNat n::·) else none
 | _=>none
theorem zi1:∀{xs:List AV} {l:List UInt8},unA xs=some l->xs=byA l
 | [],l,h=>by
  unfold unA at h;injection h with h;subst h;rfl
 | x::xs,l,h=>by
  unfold unA at h
  split at h
  ·rename_i e;cases e
  ·rename_i n r e;injection e with e1 e2
   subst e1 e2
   split at h
   ·rename_i hn;obtain⟨r',hr,rfl⟩:=qe.1 h;rw[zi1 hr];have:(UInt8.ofNat n).toNat=n:=by rw[UInt8.toNat_ofNat'];omega
    show _=AV.i .u8 _::byA r';rw[this];rfl
   ·cases h
  ·cases h
def exAr (k:IntKind) (r:Int):Option Int :=
 match k with
 | .i64=>if -9223372036854775808<=r/\r<=9223372036854775807 then some r else none
 | k=>some (k.wrap r)
theorem zgq {k:IntKind} {r n:Int} {K:Int->Prop} (h:exAr k r=some n) (hk:K n):arK k r K:=by
 cases k<;>simp only[exAr] at h<;>simp only[arK]
 all_goals first
  | (injection h with h;subst h;exact hk)
  | (split at h<;>first|(rename_i c;injection h with h;subst h;exact⟨c,hk⟩)|cases h)
noncomputable def eqB (l:List UInt8):List UInt8->Bool :=
 List.rec (motive:=fun _=>List UInt8->Bool) (fun m=>List.rec (motive:=fun _=>Bool) true (fun _ _ _=>false) m) (fun c _ ih m=>List.rec (motive:=fun _=>Bool) false (fun d m' _=>Bool.rec (motive:=fun _=>Bool) false (ih m') (zv c.toNat d.toNat)) m) l
theorem zk7:∀(l m:List UInt8),eqB l m=decide (l=m)
 | [],[]=>by rw[decide_eq_true rfl];rfl
 | [],_::_=>by rw[decide_eq_false (by simp)];rfl
 | _::_,[]=>by rw[decide_eq_false (by simp)];rfl
 | c::l,d::m=>by
  show (Bool.rec (motive:=fun _=>Bool) false (eqB l m) (zv c.toNat d.toNat))=_
  by_cases e:c=d
  ·subst e;rw[Nat.beq_refl,zk7]
   by_cases e2:l=m
   ·subst e2;simp
   ·rw[decide_eq_false e2,decide_eq_false (by simp[e2])]
  ·rw[show zv c.toNat d.toNat=false from by
    rw[Bool.eq_false_iff];intro h;exact e (UInt8.toNat_inj.1 (Nat.eq_of_beq_eq_true h)),decide_eq_false (by simp[e])]
def zbk (op:BinOp):AV->AV->Option AV
 | .i k m,.i k' n=>if k=k' then
   match op with
   | .add=>(exAr k (m+n)).map (.i k)
   | .sub=>(exAr k (m - n)).map (.i k)
   | .mul=>(exAr k (m*n)).map (.i k)
   | .quo=>if n≠0 then (exAr k (m.tdiv n)).map (.i k) else none
   | .rem=>if n≠0 then some (.i k (m.tmod n)) else none
   | .eql=>some (.b (decide (m=n)))
   | .neq=>some (.b (decide (¬m=n)))
   | .lss=>some (.b (decide (m<n)))
   | .leq=>some (.b (decide (m<=n)))
   | .gtr=>some (.b (decide (n<m)))
   | .geq=>some (.b (decide (n<=m)))
   | _=>none
  else none
 | .s l,.s m=>
  match op with
  | .add=>if l.length+m.length<=9223372036854775807 then some (.s (l++m)) else none
  | .eql=>some (.b (decide (l=m)))
  | .neq=>some (.b (decide (¬l=m)))
  | _=>none
 | _,_=>none
theorem zhE {op:BinOp} {x y v:AV} {K:AV->Prop} (h:zbk op x y=some v) (hk:K v):binK op x y K:=by
 unfold zbk at h;unfold binK
 split at h
 ·split at h
  ·rename_i c;refine⟨c,?_⟩
   cases op<;>dsimp only at h ⊢
   all_goals first
    | (injection h with h;subst h;exact hk)
    | (obtain⟨n,hn,rfl⟩:=qe.1 h;exact zgq hn hk)
    | (split at h<;>first|(rename_i c2;obtain⟨n,hn,rfl⟩:=qe.1 h;exact⟨c2,zgq hn hk⟩)|(rename_i c2;injection h with h;subst h;exact⟨c2,hk⟩)|cases h)
    | cases h
  ·cases h
 ·cases op<;>dsimp only at h ⊢
  all_goals first
   | (injection h with h;subst h;exact hk)
   | (split at h<;>first|(rename_i c2;injection h with h;subst h;exact⟨c2,hk⟩)|cases h)
   | cases h
 ·cases h
noncomputable def quC (op:BinOp) (k:IntKind) (m n:Nat):Option AV :=
 match op with
 | .eql=>some (.b (zv m n))
 | .neq=>some (.b (!(zv m n)))
 | .lss=>some (.b (Nat.blt m n))
 | .leq=>some (.b (qc m n))
 | .gtr=>some (.b (Nat.blt n m))
 | .geq=>some (.b (qc n m))
 | op=>zbk op (.i k (.ofNat m)) (.i k (.ofNat n))
noncomputable def quN (op:BinOp) (m n:Nat):Option AV :=
 match op with
 | .add=>Bool.rec (motive:=fun _=>Option AV) (zbk .add (.i .i64 (.ofNat m)) (.i .i64 (.ofNat n))) (some (.i .i64 (.ofNat (Nat.add m n)))) (qc (Nat.add m n) 9223372036854775807)
 | .sub=>Bool.rec (motive:=fun _=>Option AV) (zbk .sub (.i .i64 (.ofNat m)) (.i .i64 (.ofNat n))) (some (.i .i64 (.ofNat (Nat.sub m n)))) (qc n m&&qc m 9223372036854775807)
 | op=>quC op .i64 m n
noncomputable def quK (op:BinOp) (k k':IntKind) (m n:Nat):Option AV :=
 match k with
 | .i64=>(match k' with
  | .i64=>quN op m n
  | k'=>zbk op (.i .i64 (.ofNat m)) (.i k' (.ofNat n)))
 | .u8=>(match k' with
  | .u8=>quC op .u8 m n
  | k'=>zbk op (.i .u8 (.ofNat m)) (.i k' (.ofNat n)))
 | k=>zbk op (.i k (.ofNat m)) (.i k' (.ofNat n))
noncomputable def quI (op:BinOp) (k:IntKind) (m:Int) (y:AV):Option AV :=
 match y with
 | .i k' n=>(match m with
  | .ofNat m=>(match n with
   | .ofNat n=>quK op k k' m n
   | n=>zbk op (.i k (.ofNat m)) (.i k' n))
  | m=>zbk op (.i k m) (.i k' n))
 | y=>zbk op (.i k m) y
noncomputable def quS (op:BinOp) (l:List UInt8) (y:AV):Option AV :=
 match y with
 | .s m=>(match op with
  | .eql=>some (.b (eqB l m))
  | .neq=>some (.b (!(eqB l m)))
  | op=>zbk op (.s l) (.s m))
 | y=>zbk op (.s l) y
noncomputable def quB (op:BinOp) (x y:AV):Option AV :=
 match x with
 | .i k m=>quI op k m y
 | .s l=>quS op l y
 | x=>zbk op x y
theorem beq_dec (m n:Nat):zv m n=decide ((qb m)=qb n):=by
 rw[Bool.eq_iff_iff,decide_eq_true_eq,Nat.beq_eq];exact⟨fun h=>by rw[h],fun h=>qb.inj h⟩
theorem blt_decI (m n:Nat):Nat.blt m n=decide ((qb m)<qb n):=by
 rw[zbZ,Bool.eq_iff_iff,decide_eq_true_eq,decide_eq_true_eq];exact⟨fun h=>Int.ofNat_lt.2 h,fun h=>Int.ofNat_lt.1 h⟩
theorem ble_decI (m n:Nat):qc m n=decide ((qb m)<=qb n):=by
 rw[Bool.eq_iff_iff,decide_eq_true_eq,Nat.ble_eq];exact⟨fun h=>Int.ofNat_le.2 h,fun h=>Int.ofNat_le.1 h⟩
theorem quC_eq (op:BinOp) (k:IntKind) (m n:Nat):quC op k m n=zbk op (.i k (.ofNat m)) (.i k (.ofNat n)):=by
 cases op<;>simp only[quC,zbk,if_true,beq_dec,blt_decI,ble_decI,decide_not]
theorem quN_eq (op:BinOp) (m n:Nat):quN op m n=zbk op (.i .i64 (.ofNat m)) (.i .i64 (.ofNat n)):=by
 unfold quN
 split
 ·cases h:qc (Nat.add m n) 9223372036854775807 with
  | false=>rfl
  | true=>
   have h2:m+n<=9223372036854775807:=Nat.le_of_ble_eq_true h;have h3:-9223372036854775808<=qb m+qb n/\qb m+qb n<=9223372036854775807:=by
    have e:qb m+qb n=((m+n:Nat):Int):=rfl;rw[e];omega
   simp only[zbk,if_true,exAr,if_pos h3,qy]
   rfl
 ·cases h:(qc n m&&qc m 9223372036854775807) with
  | false=>rfl
  | true=>
   rw[Bool.and_eq_true,Nat.ble_eq,Nat.ble_eq] at h;have e:qb m - qb n=((m - n:Nat):Int):=by
    show (m:Int) - (n:Int)=_;omega
   have h3:-9223372036854775808<=qb m - qb n/\qb m - qb n<=9223372036854775807:=by rw[e];omega
   simp only[zbk,if_true,exAr,if_pos h3,qy];rw[e];rfl
 ·exact quC_eq _ _ _ _
theorem quB_eq (op:BinOp) (x y:AV):quB op x y=zbk op x y:=by
 unfold quB
 split
 ·unfold quI
  split
  ·split
   ·split
    ·unfold quK
     split
     ·split
      ·exact quN_eq _ _ _
      ·rfl
     ·split
      ·exact quC_eq _ _ _ _
      ·rfl
     ·rfl
    ·rfl
   ·rfl
  ·rfl
 ·unfold quS
  split
  ·split
   ·simp only[zbk,zk7]
   ·simp only[zbk,zk7,decide_not]
   ·rfl
  ·rfl
 ·rfl
noncomputable def wrF (k:IntKind) (n:Int):Int :=
 match n with
 | .ofNat m=>Bool.rec (motive:=fun _=>Int) (match k with
  | .i64=>Bool.rec (motive:=fun _=>Int) (IntKind.i64.wrap (.ofNat m)) (.ofNat m) (qc m 9223372036854775807)
  | k=>k.wrap (.ofNat m)) (.ofNat m) (qc m 127)
 | n=>k.wrap n
theorem wrF_eq (k:IntKind) (n:Int):wrF k n=k.wrap n:=by
 unfold wrF
 split
 ·rename_i m
  cases h:qc m 127 with
  | true=>
   have h2:m<=127:=Nat.le_of_ble_eq_true h;have h3:(0:Int)<=qb m/\qb m<=127:=⟨jj m,Int.ofNat_le.2 h2⟩;show qb m=_;generalize qb m=z at h3
   cases k
   all_goals first
    | exact(IntWalk.i8_in z (by omega)).symm
    | exact(IntWalk.i16_in z (by omega)).symm
    | exact(IntWalk.i32_in z (by omega)).symm
    | exact(IntWalk.i64_in z (by omega)).symm
    | exact(IntWalk.u8_in z (by omega)).symm
    | exact(IntWalk.u16_in z (by omega)).symm
    | exact(IntWalk.u32_in z (by omega)).symm
    | exact(IntWalk.u64_in z (by omega)).symm
    | (unfold IntKind.wrap;simp[IntKind.bits,IntKind.signed];omega)
  | false=>
   dsimp only
   split
   ·cases h2:qc m 9223372036854775807 with
    | false=>rfl
    | true=>
     have h3:m<=9223372036854775807:=Nat.le_of_ble_eq_true h2;exact(IntWalk.i64_in (qb m) ⟨Int.le_trans (by decide) (jj m),Int.ofNat_le.2 h3⟩).symm
   ·rfl
 ·rfl
noncomputable def idxK (l:List UInt8):Nat->Option Nat :=
 List.rec (motive:=fun _=>Nat->Option Nat) (fun _=>none) (fun c _ ih n=>Nat.rec (motive:=fun _=>Option Nat) (some c.toNat) (fun m _=>ih m) n) l
theorem zkI:∀{l:List UInt8} {n c:Nat},idxK l n=some c->n<l.length/\(l.getD n 0).toNat=c
 | [],n,c,h=>by cases h
 | d::l,0,c,h=>by
  have h2:some d.toNat=some c:=h;injection h2 with h2
  exact⟨Nat.succ_pos _,h2⟩
 | d::l,n+1,c,h=>by
  have h2:idxK l n=some c:=h;obtain⟨h3,h4⟩:=zkI h2;exact⟨Nat.succ_lt_succ h3,h4⟩
def svbF (ev:SV->AV) (d:Int):Option SV->Option Int
 | none=>some d
 | some x=>match ev x with
  | .i _ n=>some n
  | _=>none
theorem svbF_eq (tm:List AV) (d:Int):∀x,svbF (fun x=>x.ev tm) d x=zfQ tm d x
 | none=>rfl
 | some _=>rfl
def isM:SOp->Bool
 | .mkm0=>true
 | _=>false
structure Qls where
 cp:Nat->List AV->XV
 ci:Nat->List AV->List OB->XV
 has:Nat->Bool
 inn:Nat->Bool
 ln:Nat->List AV->List OB->XV
structure QlsOk (P:Program) [Tabs P] (c:Qls):Prop where
 cp:∀f args o r,c.cp f args=.ok o r->∀(objs:List OB) (K:List OB->AV->Prop),K objs r->zai P f args objs K
 pl:∀f args o r,c.cp f args=.ok o r->r.plain=true
 ci:∀f args objs o r,c.ci f args objs=.ok o r->∀(K:List OB->AV->Prop),K o r->zai P f args objs K
 ln:∀f args objs o r,c.ln f args objs=.ok o r->∀(K:List OB->AV->Prop),K objs r->zai P f args objs K
 has : ∀ f, c.has f = true → ∃ fn, P.funcs[f]? = some fn ∧ fn.body.isSome = true ∧ fn.name ≠ "runtime.NumGoroutine"
noncomputable def h_mv (x:SV) (Q:Qls) (objs:List OB) (ev:SV->AV) (k:List OB->AV->XV):XV:=k objs (ev x)
noncomputable def zkP (c:SV) (x:SV) (y:SV) (Q:Qls) (objs:List OB) (ev:SV->AV) (k:List OB->AV->XV):XV:=match ev c with
  | .b true=>k objs (ev x)
  | .b false=>k objs (ev y)
  | _=>.bad (.pick c x y)
noncomputable def zkY (T:Nat) (z:List AV) (Q:Qls) (objs:List OB) (ev:SV->AV) (k:List OB->AV->XV):XV:=zcO (objs++[.box T z]) fun o=>k o (.p objs.length 0)
noncomputable def h_box (T:Nat) (x:SV) (Q:Qls) (objs:List OB) (ev:SV->AV) (k:List OB->AV->XV):XV:=if (ev x).flat=true then zcO (objs++[.box T (ev x).cells]) fun o=>k o (.p objs.length 0) else .bad (.box T x)
noncomputable def zkX (z:List AV) (ps:List (Nat×Nat×SV)) (Q:Qls) (objs:List OB) (ev:SV->AV) (k:List OB->AV->XV):XV:=match za2 z (ps.map fun p=>(p.1,p.2.1,ev p.2.2)) with
  | some cs=>zdF cs fun cs=>k objs (.agg cs)
  | none=>.bad (.build z ps)
noncomputable def zhu (len:Nat) (z:List AV) (ps:List (Nat×Nat×SV)) (Q:Qls) (objs:List OB) (ev:SV->AV) (k:List OB->AV->XV):XV:=match za2 z (ps.map fun p=>(p.1,p.2.1,ev p.2.2)) with
  | some cs=>zdF cs fun cs=>k objs (.row len cs)
  | none=>.bad (.bslice len z ps)
noncomputable def h_bslo (E:Nat) (sz:Nat) (len:Nat) (z:List AV) (ps:List (Nat×Nat×SV)) (Q:Qls) (objs:List OB) (ev:SV->AV) (k:List OB->AV->XV):XV:=match za2 z (ps.map fun p=>(p.1,p.2.1,ev p.2.2)) with
  | some cs=>if cs.length=len*sz then zdF cs fun cs=>zcO (objs++[.orow E sz 0 len cs]) fun o=>k o (.orow objs.length 0) else .bad (.bslo E sz len z ps)
  | none=>.bad (.bslo E sz len z ps)
noncomputable def zkR (x:SV) (Q:Qls) (objs:List OB) (ev:SV->AV) (k:List OB->AV->XV):XV:=match ev x with
  | .p b off=>match objs[b]? with
   | some (.box _ cs)=>match cs[off]? with
    | some v=>k objs v
    | none=>.bad (.load1 x)
   | _=>.bad (.load1 x)
  | .prow xs j=>match xs[j]? with
   | some v=>k objs v
   | none=>.bad (.load1 x)
  | .porow b gen j=>match objs[b]? with
   | some (.orow _ _ gen' _ xs)=>if gen'=gen then (match xs[j]? with
    | some v=>k objs v
    | none=>.bad (.load1 x)) else .bad (.load1 x)
   | _=>.bad (.load1 x)
  | _=>.bad (.load1 x)
noncomputable def zkQ (sz:Nat) (x:SV) (Q:Qls) (objs:List OB) (ev:SV->AV) (k:List OB->AV->XV):XV:=match ev x with
  | .p b off=>match objs[b]? with
   | some (.box _ cs)=>if off+sz<=cs.length then zdF ((cs.drop off).take sz) fun cs=>k objs (.agg cs) else .bad (.loadn sz x)
   | _=>.bad (.loadn sz x)
  | .prow xs j=>if j+sz<=xs.length then zdF ((xs.drop j).take sz) fun cs=>k objs (.agg cs) else .bad (.loadn sz x)
  | .porow b gen j=>match objs[b]? with
   | some (.orow _ _ gen' _ xs)=>if gen'=gen/\j+sz<=xs.length then zdF ((xs.drop j).take sz) fun cs=>k objs (.agg cs) else .bad (.loadn sz x)
   | _=>.bad (.loadn sz x)
  | _=>.bad (.loadn sz x)
noncomputable def zkN (sz:Nat) (x:SV) (y:SV) (Q:Qls) (objs:List OB) (ev:SV->AV) (k:List OB->AV->XV):XV:=match ev x with
  | .p b off=>match objs[b]? with
   | some (.box T cs)=>if (ev y).flat=true/\(ev y).cells.length=sz/\off+sz<=cs.length then zdF (zav cs off (ev y).cells) fun cs=>zcO (objs.set b (.box T cs)) fun o=>k o .u else .bad (.store sz x y)
   | _=>.bad (.store sz x y)
  | .porow b gen j=>match objs[b]? with
   | some (.orow E s gen' n xs)=>if gen'=gen/\(ev y).flat=true/\(ev y).cells.length=sz/\j+sz<=xs.length then zdF (zav xs j (ev y).cells) fun cs=>zcO (objs.set b (.orow E s gen' n cs)) fun o=>k o .u else .bad (.store sz x y)
   | _=>.bad (.store sz x y)
  | _=>.bad (.store sz x y)
noncomputable def h_nck (x:SV) (Q:Qls) (objs:List OB) (ev:SV->AV) (k:List OB->AV->XV):XV:=match ev x with
  | .p b o=>k objs (.p b o)
  | .prow xs j=>k objs (.prow xs j)
  | .fn f fs cs=>k objs (.fn f fs cs)
  | .porow b gen j=>k objs (.porow b gen j)
  | _=>.bad (.nck x)
noncomputable def h_bin (op:BinOp) (x:SV) (y:SV) (Q:Qls) (objs:List OB) (ev:SV->AV) (k:List OB->AV->XV):XV:=match quB op (ev x) (ev y) with
  | some (.s l)=>zcO l fun l=>k objs (.s l)
  | some v=>k objs v
  | none=>.bad (.bin op x y)
noncomputable def h_beq (ne:Bool) (x:SV) (y:SV) (Q:Qls) (objs:List OB) (ev:SV->AV) (k:List OB->AV->XV):XV:=match ev x,ev y with
  | .b l,.b m=>k objs (.b (if ne then !(l==m) else (l==m)))
  | _,_=>.bad .mkm0
noncomputable def h_eqs (ne:Bool) (et:ET) (x:SV) (y:SV) (Q:Qls) (objs:List OB) (ev:SV->AV) (k:List OB->AV->XV):XV:=match ev x,ev y with
  | .agg xs,.agg ys=>match eqA et (.agg xs) (.agg ys) with
   | some r=>k objs (.b (if ne then !r else r))
   | none=>.bad (.eqs ne et x y)
  | _,_=>.bad (.eqs ne et x y)
noncomputable def h_not (x:SV) (Q:Qls) (objs:List OB) (ev:SV->AV) (k:List OB->AV->XV):XV:=match ev x with
  | .b t=>k objs (.b (!t))
  | _=>.bad (.not x)
noncomputable def h_neg (x:SV) (Q:Qls) (objs:List OB) (ev:SV->AV) (k:List OB->AV->XV):XV:=match ev x with
  | .i kd n=>match exAr kd (0 - n) with
   | some r=>k objs (.i kd r)
   | none=>.bad (.neg x)
  | _=>.bad (.neg x)
noncomputable def h_cvi (kd:IntKind) (x:SV) (Q:Qls) (objs:List OB) (ev:SV->AV) (k:List OB->AV->XV):XV:=match ev x with
  | .i _ n=>k objs (.i kd (wrF kd n))
  | _=>.bad (.cvi kd x)
noncomputable def h_cvs (x:SV) (Q:Qls) (objs:List OB) (ev:SV->AV) (k:List OB->AV->XV):XV:=match ev x with
  | .s l=>k objs (.s l)
  | _=>.bad (.cvs x)
noncomputable def zkU (x:SV) (Q:Qls) (objs:List OB) (ev:SV->AV) (k:List OB->AV->XV):XV:=match ev x with
  | .orow b gen=>match objs[b]? with
   | some (.orow _ sz gen' _ xs)=>if gen'=gen/\sz=1 then (match unA xs with
    | some l=>zcO l fun l=>k objs (.s l)
    | none=>.bad (.cvbs x)) else .bad (.cvbs x)
   | _=>.bad (.cvbs x)
  | .row n xs=>match unA xs with
   | some l=>if n=l.length then zcO l fun l=>k objs (.s l) else .bad (.cvbs x)
   | none=>.bad (.cvbs x)
  | .nil=>k objs (.s [])
  | _=>.bad (.cvbs x)
noncomputable def zkO (x:SV) (lo:Option SV) (hi:Option SV) (Q:Qls) (objs:List OB) (ev:SV->AV) (k:List OB->AV->XV):XV:=match ev x with
  | .s l=>match svbF ev 0 lo,svbF ev l.length hi with
   | some (.ofNat i),some (.ofNat j)=>Bool.rec (motive:=fun _=>XV) (.bad (.slcs x lo hi)) (zcO ((l.take j).drop i) fun l=>k objs (.s l)) (qc i j&&qc j l.length)
   | _,_=>.bad (.slcs x lo hi)
  | _=>.bad (.slcs x lo hi)
noncomputable def h_fad (off:Nat) (x:SV) (Q:Qls) (objs:List OB) (ev:SV->AV) (k:List OB->AV->XV):XV:=match ev x with
  | .p b o=>k objs (.p b (o+off))
  | .prow xs j=>k objs (.prow xs (j+off))
  | .porow b gen j=>k objs (.porow b gen (j+off))
  | _=>.bad (.fad off x)
noncomputable def h_fld1 (off:Nat) (x:SV) (Q:Qls) (objs:List OB) (ev:SV->AV) (k:List OB->AV->XV):XV:=match ev x with
  | .agg cs=>match cs[off]? with
   | some v=>k objs (v)
   | none=>.bad (.fld1 off x)
  | _=>.bad (.fld1 off x)
noncomputable def h_fldn (off:Nat) (sz:Nat) (x:SV) (Q:Qls) (objs:List OB) (ev:SV->AV) (k:List OB->AV->XV):XV:=match ev x with
  | .agg cs=>zdF ((cs.drop off).take sz) fun cs=>k objs (.agg cs)
  | _=>.bad (.fldn off sz x)
noncomputable def h_iad (sz:Nat) (x:SV) (y:SV) (Q:Qls) (objs:List OB) (ev:SV->AV) (k:List OB->AV->XV):XV:=match ev x,ev y with
  | .row n xs,.i _ (.ofNat i)=>Bool.rec (motive:=fun _=>XV) (.bad (.iad sz x y)) (k objs (.prow xs (Nat.mul i sz))) (Nat.blt i n&&qc (Nat.mul n sz) xs.length)
  | .orow b gen,.i _ (.ofNat i)=>match objs[b]? with
   | some (.orow _ s gen' n _)=>Bool.rec (motive:=fun _=>XV) (.bad (.iad sz x y)) (k objs (.porow b gen (Nat.mul i sz))) (zv gen' gen&&zv s sz&&Nat.blt i n)
   | _=>.bad (.iad sz x y)
  | _,_=>.bad (.iad sz x y)
noncomputable def h_iada (sz:Nat) (len:Nat) (x:SV) (y:SV) (Q:Qls) (objs:List OB) (ev:SV->AV) (k:List OB->AV->XV):XV:=match ev x,ev y with
  | .p b off,.i _ i=>if 0<=i/\i<len then k objs (.p b (off+i.toNat*sz)) else .bad (.iada sz len x y)
  | _,_=>.bad (.iada sz len x y)
noncomputable def zkT (sz:Nat) (x:SV) (y:SV) (Q:Qls) (objs:List OB) (ev:SV->AV) (k:List OB->AV->XV):XV:=match ev x,ev y with
  | .row n xs,.i _ (.ofNat i)=>Bool.rec (motive:=fun _=>XV) (.bad (.iadr sz x y)) (k objs (.prow xs (Nat.mul i sz))) (Nat.blt i n&&qc (Nat.mul n sz) xs.length)
  | _,_=>.bad (.iadr sz x y)
noncomputable def h_idx (x:SV) (y:SV) (Q:Qls) (objs:List OB) (ev:SV->AV) (k:List OB->AV->XV):XV:=match ev x,ev y with
  | .s l,.i _ (.ofNat n)=>match idxK l n with
   | some c=>k objs (.i .u8 (.ofNat c))
   | none=>.bad (.idx x y)
  | _,_=>.bad (.idx x y)
noncomputable def h_ext (x:SV) (j:Nat) (Q:Qls) (objs:List OB) (ev:SV->AV) (k:List OB->AV->XV):XV:=match ev x with
  | .tup vs=>match vs[j]? with
   | some v=>k objs (v)
   | none=>.bad (.ext x j)
  | _=>.bad (.ext x j)
noncomputable def zkW (f:Nat) (args:List SV) (Q:Qls) (objs:List OB) (ev:SV->AV) (k:List OB->AV->XV):XV:=zdF (args.map ev) fun ag=>Bool.rec (motive:=fun _=>XV) (match Q.ln f ag objs with
   | .ok _ v=>k objs v
   | .bad _=>match Q.ci f ag objs with
    | .ok o v=>k o v
    | .bad e=>.bad e) (match Q.cp f ag with
   | .ok _ v=>k objs v
   | .bad e=>Bool.rec (motive:=fun _=>XV) (.bad e) (match Q.ci f ag objs with
    | .ok o v=>k o v
    | .bad e=>.bad e) (isM e)) (zak ag&&!(Q.inn f))
noncomputable def zgf (f:Nat) (args:List SV) (Q:Qls) (objs:List OB) (ev:SV->AV) (k:List OB->AV->XV):XV:=zdF (args.map ev) fun ag=>Bool.rec (motive:=fun _=>XV) (.bad (.pcall f args)) (match Q.cp f ag with
   | .ok _ v=>k objs v
   | .bad e=>.bad e) (zak ag)
noncomputable def zgg (x:SV) (args:List SV) (Q:Qls) (objs:List OB) (ev:SV->AV) (k:List OB->AV->XV):XV:=match ev x with
  | .fn f fs cs=>zdF (fs++args.map ev++cs) fun ag=>Bool.rec (motive:=fun _=>XV) (.bad (.callv x args)) (Bool.rec (motive:=fun _=>XV) (match Q.ci f ag objs with
   | .ok o v=>k o v
   | .bad e=>.bad e) (match Q.cp f ag with
   | .ok _ v=>k objs v
   | .bad e=>Bool.rec (motive:=fun _=>XV) (.bad e) (match Q.ci f ag objs with
    | .ok o v=>k o v
    | .bad e=>.bad e) (isM e)) (zak ag)) (Q.has f)
  | _=>.bad (.callv x args)
noncomputable def h_app (E:Nat) (sz:Nat) (bytes:Nat) (x:SV) (y:SV) (Q:Qls) (objs:List OB) (ev:SV->AV) (k:List OB->AV->XV):XV:=match zaU objs (ev y) with
  | some (m,ys)=>match ev x with
   | .orow b gen=>match objs[b]? with
    | some (.orow E' sz' gen' n xs)=>if (E'=E/\sz'=sz/\gen'=gen)/\ys.length=m*sz/\(n+m)*bytes<=140737488355328/\n+m<=140737488355328 then zhA (n+m) fun nm=>zcO (objs.set b (.orow E sz (gen+1) nm (xs++ys))) fun o=>k o (.orow b (gen+1)) else .bad (.app E sz bytes x y)
    | _=>.bad (.app E sz bytes x y)
   | .nil=>if ys.length=m*sz/\m*bytes<=140737488355328/\m<=140737488355328 then zcO (objs++[.orow E sz 0 m ys]) fun o=>k o (.orow objs.length 0) else .bad (.app E sz bytes x y)
   | _=>.bad (.app E sz bytes x y)
  | none=>.bad (.app E sz bytes x y)
noncomputable def h_apps (E:Nat) (x:SV) (y:SV) (Q:Qls) (objs:List OB) (ev:SV->AV) (k:List OB->AV->XV):XV:=match ev y with
  | .s l=>match ev x with
   | .orow b gen=>match objs[b]? with
    | some (.orow E' sz' gen' n xs)=>if (E'=E/\sz'=1/\gen'=gen)/\n+l.length<=140737488355328 then zhA (n+l.length) fun nm=>zcO (objs.set b (.orow E 1 (gen+1) nm (xs++byA l))) fun o=>k o (.orow b (gen+1)) else .bad (.apps E x y)
    | _=>.bad (.apps E x y)
   | .nil=>if l.length<=140737488355328 then zcO (objs++[.orow E 1 0 l.length (byA l)]) fun o=>k o (.orow objs.length 0) else .bad (.apps E x y)
   | _=>.bad (.apps E x y)
  | _=>.bad (.apps E x y)
noncomputable def zkS (x:SV) (Q:Qls) (objs:List OB) (ev:SV->AV) (k:List OB->AV->XV):XV:=match ev x with
  | .s l=>zhA l.length fun n=>k objs (.i .i64 (.ofNat n))
  | _=>.bad (.lens x)
noncomputable def h_lenr (x:SV) (Q:Qls) (objs:List OB) (ev:SV->AV) (k:List OB->AV->XV):XV:=match ev x with
  | .row n _=>k objs (.i .i64 n)
  | .nil=>k objs (.i .i64 0)
  | .zn _=>k objs (.i .i64 0)
  | .orow b gen=>match objs[b]? with
   | some (.orow _ _ gen' n _)=>if gen'=gen then k objs (.i .i64 n) else .bad (.lenr x)
   | _=>.bad (.lenr x)
  | _=>.bad (.lenr x)
noncomputable def h_mks (E:Nat) (sz:Nat) (bytes:Nat) (x:SV) (y:SV) (Q:Qls) (objs:List OB) (ev:SV->AV) (k:List OB->AV->XV):XV:=match ev x,ev y with
  | .i _ l,.i _ c=>if l=0/\0<=c/\(bytes:Int)*c<=281474976710656/\c<=140737488355328 then zcO (objs++[.orow E sz 0 0 []]) fun o=>k o (.orow objs.length 0) else .bad (.mks E sz bytes x y)
  | _,_=>.bad (.mks E sz bytes x y)
noncomputable def h_mkz (E:Nat) (bytes:Nat) (kd:IntKind) (z:Int) (x:SV) (Q:Qls) (objs:List OB) (ev:SV->AV) (k:List OB->AV->XV):XV:=match ev x with
  | .i _ l=>if 0<=l/\(bytes:Int)*l<=281474976710656/\l<=140737488355328 then zcO (objs++[.orow E 1 0 l.toNat (zu l.toNat (.i kd z))]) fun o=>k o (.orow objs.length 0) else .bad (.mkz E bytes kd z x)
  | _=>.bad (.mkz E bytes kd z x)
noncomputable def h_capp (sz:Nat) (bytes:Nat) (x:SV) (y:SV) (Q:Qls) (objs:List OB) (ev:SV->AV) (k:List OB->AV->XV):XV:=match ev x,zaU [] (ev y) with
  | .crow n xs,some (m,ys)=>if (xs.length=n*sz/\ys.length=m*sz)/\0<m/\(n+m)*bytes<=140737488355328/\n+m<=140737488355328 then zcO (xs++ys) fun cs=>k objs (.row (n+m) cs) else .bad (.capp sz bytes x y)
  | _,_=>.bad (.capp sz bytes x y)
noncomputable def zkV (E:Nat) (sz:Nat) (bytes:Nat) (x:SV) (y:SV) (Q:Qls) (objs:List OB) (ev:SV->AV) (k:List OB->AV->XV):XV:=match ev x,zaU objs (ev y) with
  | .crow n xs,some (m,ys)=>if (xs.length=n*sz/\ys.length=m*sz)/\0<m/\(n+m)*bytes<=140737488355328/\n+m<=140737488355328 then zcO (objs++[.orow E sz 0 (n+m) (xs++ys)]) fun o=>k o (.orow objs.length 0) else .bad (.cappo E sz bytes x y)
  | _,_=>.bad (.cappo E sz bytes x y)
noncomputable def h_trn (sz:Nat) (x:SV) (y:SV) (Q:Qls) (objs:List OB) (ev:SV->AV) (k:List OB->AV->XV):XV:=match ev x,ev y with
  | .row n xs,.i _ j=>if 0<=j/\j<=n then zcO (xs.take (j.toNat*sz)) fun xs=>k objs (.row j.toNat xs) else .bad (.trn sz x y)
  | .nil,.i _ j=>if j=0 then k objs .nil else .bad (.trn sz x y)
  | .orow b gen,.i _ j=>match objs[b]? with
   | some (.orow E s gen' n xs)=>if gen'=gen/\s=sz/\0<=j/\j<=n then zcO (objs.set b (.orow E s (gen+1) j.toNat (xs.take (j.toNat*s)))) fun o=>k o (.orow b (gen+1)) else .bad (.trn sz x y)
   | _=>.bad (.trn sz x y)
  | _,_=>.bad (.trn sz x y)
noncomputable def h_mkf (f:Nat) (fs:List SV) (cs:List SV) (Q:Qls) (objs:List OB) (ev:SV->AV) (k:List OB->AV->XV):XV:=zdF (fs.map ev) fun fs=>zdF (cs.map ev) fun cs=>k objs (.fn f fs cs)
noncomputable def h_pu (q:PQ) (xs:List SV) (Q:Qls) (objs:List OB) (ev:SV->AV) (k:List OB->AV->XV):XV:=match pq q (xs.map ev) with
  | some v=>k objs (v)
  | none=>.bad (.pu q xs)
noncomputable def h_mkm0 (Q:Qls) (objs:List OB) (ev:SV->AV) (k:List OB->AV->XV):XV:=zcO (objs++[.mp []]) fun o=>k o (.m objs.length)
noncomputable def h_mkm1 (x:SV) (Q:Qls) (objs:List OB) (ev:SV->AV) (k:List OB->AV->XV):XV:=match ev x with
  | .i _ _=>zcO (objs++[.mp []]) fun o=>k o (.m objs.length)
  | _=>.bad (.mkm1 x)
noncomputable def h_lk (z:AV) (ok:Bool) (x:SV) (y:SV) (Q:Qls) (objs:List OB) (ev:SV->AV) (k:List OB->AV->XV):XV:=match ev x,ev y with
  | .m b,.s l=>match objs[b]? with
   | some (.mp es)=>k objs (lkA z ok (zde l es))
   | _=>.bad (.lk z ok x y)
  | _,_=>.bad (.lk z ok x y)
noncomputable def h_mup (x:SV) (y:SV) (v:SV) (Q:Qls) (objs:List OB) (ev:SV->AV) (k:List OB->AV->XV):XV:=match ev x,ev y with
  | .m b,.s l=>match objs[b]? with
   | some (.mp es)=>if (ev v).one=true then zcO (objs.set b (.mp (zcD l (ev v) es))) fun o=>k o (.u) else .bad (.mup x y v)
   | _=>.bad (.mup x y v)
  | _,_=>.bad (.mup x y v)
noncomputable def h_mph (q:Nat) (z:AV) (x:SV) (y:SV) (v:SV) (Q:Qls) (objs:List OB) (ev:SV->AV) (k:List OB->AV->XV):XV:=match q with
  | 0=>zcO (objs++[.mpk true []]) fun o=>k o (.m objs.length)
  | 1=>(match ev x,hpc (ev y) with
   | .m b,some l=>(match objs[b]? with
    | some (.mpk true es)=>if (ev v).one=true then zcO (objs.set b (.mpk true (zcD l (ev v) es))) fun o=>k o (.u) else .bad (.mph q z x y v)
    | _=>.bad (.mph q z x y v))
   | _,_=>.bad (.mph q z x y v))
  | q+2=>(match ev x,hpc (ev y) with
   | .m b,some l=>(match objs[b]? with
    | some (.mpk true es)=>k objs (lkA z (q==1) (zde l es))
    | _=>.bad (.mph q z x y v))
   | _,_=>.bad (.mph q z x y v))
noncomputable def gS (c:Qls) (op:SOp) (objs:List OB) (ev:SV->AV) (k:List OB->AV->XV):XV :=
 SOp.rec (motive:=fun _=>Qls->List OB->(SV->AV)->(List OB->AV->XV)->XV) h_mv zkP zkY h_box zkX zhu h_bslo zkR zkQ zkN h_nck h_bin h_beq h_eqs h_not h_neg h_cvi h_cvs zkU zkO h_fad h_fld1 h_fldn h_iad h_iada zkT h_idx h_ext zkW zgf zgg h_app h_apps zkS h_lenr h_mks h_mkz h_capp zkV h_trn h_mkf h_pu h_mkm0 h_mkm1 h_lk h_mup h_mph op c objs ev k
theorem gS_ok {P:Program} [Tabs P] {c:Qls} (hc:QlsOk P c) {op:SOp} {objs ro:List OB} {tm:List AV} {r:AV} {k:List OB->AV->XV} {K:List OB->AV->Prop} (h:gS c op objs (fun x=>x.ev tm) k=.ok ro r) (hk:∀o v,k o v=.ok ro r->K o v):wpS P op objs tm K:=by
 cases op
 case call f args=>
  simp only[gS,zkW,zbh] at h;simp only[wpS]
  cases hp:(zak (args.map fun x=>x.ev tm)&&!(c.inn f)) with
  | true=>
   rw[hp] at h;dsimp only at h
   split at h
   ·rename_i o v hv;exact hc.cp _ _ _ _ hv _ _ (hk _ _ h)
   ·rename_i e _
    cases he:isM e with
    | false=>rw[he] at h;cases h
    | true=>
     rw[he] at h;dsimp only at h
     split at h
     ·rename_i o v hv;exact hc.ci _ _ _ _ _ hv _ (hk _ _ h)
     ·cases h
  | false=>
   rw[hp] at h;dsimp only at h
   split at h
   ·rename_i o v hv;exact hc.ln _ _ _ _ _ hv _ (hk _ _ h)
   ·split at h
    ·rename_i o v hv;exact hc.ci _ _ _ _ _ hv _ (hk _ _ h)
    ·cases h
 case pcall f args=>
  simp only[gS,zgf,zbh] at h;simp only[wpS]
  cases hp:zak (args.map fun x=>x.ev tm) with
  | true=>
   rw[hp] at h;dsimp only at h
   split at h
   ·rename_i o v hv;exact⟨rfl,hc.cp _ _ _ _ hv [] (fun _ r=>r.plain=true/\K objs r) ⟨hc.pl _ _ _ _ hv,hk _ _ h⟩⟩
   ·cases h
  | false=>rw[hp] at h;cases h
 case callv x args=>
  simp only[gS,zgg,zbh] at h;simp only[wpS]
  split at h
  ·rename_i f fs cs hx;rw[hx];dsimp only
   cases hh:c.has f with
   | false=>rw[hh] at h;cases h
   | true=>
    rw[hh] at h;dsimp only at h;refine⟨hc.has _ hh,?_⟩
    cases hp:zak (fs++(args.map fun x=>x.ev tm)++cs) with
    | true=>
     rw[hp] at h;dsimp only at h
     split at h
     ·rename_i o v hv;exact hc.cp _ _ _ _ hv _ _ (hk _ _ h)
     ·rename_i e _
      cases he:isM e with
      | false=>rw[he] at h;cases h
      | true=>
       rw[he] at h;dsimp only at h
       split at h
       ·rename_i o v hv;exact hc.ci _ _ _ _ _ hv _ (hk _ _ h)
       ·cases h
    | false=>
     rw[hp] at h;dsimp only at h
     split at h
     ·rename_i o v hv;exact hc.ci _ _ _ _ _ hv _ (hk _ _ h)
     ·cases h
  ·cases h
 case bin op x y=>
  simp only[gS,h_bin,zcN,quB_eq] at h;simp only[wpS]
  split at h
  ·rename_i l hl;exact zhE hl (hk _ _ h)
  ·rename_i v hv _;exact zhE (by assumption) (hk _ _ h)
  ·cases h
 case neg x=>
  simp only[gS,h_neg] at h;simp only[wpS]
  split at h
  ·rename_i kd n hx;rw[hx];dsimp only
   split at h
   ·rename_i m hm;exact zgq hm (hk _ _ h)
   ·cases h
  ·cases h
 case idx x y=>
  simp only[gS,h_idx] at h;simp only[wpS]
  split at h
  ·rename_i l kd n hx hy;rw[hx,hy];dsimp only
   split at h
   ·rename_i m hm;obtain⟨h1,h2⟩:=zkI hm;refine⟨⟨jj n,Int.ofNat_lt.2 h1⟩,?_⟩;have:=hk _ _ h;rw[<-h2] at this;exact this
   ·cases h
  ·cases h
 case lens x=>
  simp only[gS,zkS,zgn] at h;simp only[wpS]
  split at h
  ·rename_i l hx;rw[hx];exact hk _ _ h
  ·cases h
 case slcs x lo hi=>
  simp only[gS,zkO,zcN,svbF_eq] at h;simp only[wpS]
  split at h
  ·rename_i l hx;rw[hx];dsimp only
   split at h
   ·rename_i i j h1 h2;rw[h1,h2];dsimp only
    cases hb:(qc i j&&qc j l.length) with
    | false=>rw[hb] at h;cases h
    | true=>
     rw[hb] at h;dsimp only at h;rw[Bool.and_eq_true,Nat.ble_eq,Nat.ble_eq] at hb;exact⟨⟨jj i,Int.ofNat_le.2 hb.1,Int.ofNat_le.2 hb.2⟩,hk _ _ h⟩
   ·cases h
  ·cases h
 case cvbs x=>
  simp only[gS,zkU,zcN] at h;simp only[wpS]
  split at h
  ·rename_i b gen hx;rw[hx];dsimp only
   split at h
   ·rename_i T sz gen' n xs hb;rw[hb];dsimp only
    split at h
    ·rename_i c
     split at h
     ·rename_i l hl;exact⟨c,l,zi1 hl,hk _ _ h⟩
     ·cases h
    ·cases h
   ·cases h
  ·rename_i n xs hx;rw[hx];dsimp only
   split at h
   ·rename_i l hl
    split at h
    ·rename_i c;exact⟨l,⟨zi1 hl,c⟩,hk _ _ h⟩
    ·cases h
   ·cases h
  ·rename_i hx;rw[hx];exact hk _ _ h
  ·cases h
 case pick c x y=>
  simp only[gS,zkP] at h;simp only[wpS]
  split at h
  ·rename_i hx;rw[hx];exact⟨fun _=>hk _ _ h,(fun e=>by cases e)⟩
  ·rename_i hx;rw[hx];exact⟨(fun e=>by cases e),fun _=>hk _ _ h⟩
  ·cases h
 case iad sz x y=>
  simp only[gS,h_iad] at h;simp only[wpS]
  split at h
  ·rename_i n xs kd i hx hy;rw[hx,hy];dsimp only
   cases hb:(Nat.blt i n&&qc (Nat.mul n sz) xs.length) with
   | false=>rw[hb] at h;cases h
   | true=>
    rw[hb] at h;dsimp only at h;rw[Bool.and_eq_true,zbZ,decide_eq_true_eq,Nat.ble_eq] at hb;exact⟨⟨jj i,Int.ofNat_lt.2 hb.1,hb.2⟩,hk _ _ h⟩
  ·rename_i b gen kd i hx hy;rw[hx,hy];dsimp only
   split at h
   ·rename_i E s gen' n xs hb2;rw[hb2];dsimp only
    cases hb:(zv gen' gen&&zv s sz&&Nat.blt i n) with
    | false=>rw[hb] at h;cases h
    | true=>
     rw[hb] at h;dsimp only at h;rw[Bool.and_eq_true,Bool.and_eq_true,zbZ,decide_eq_true_eq,Nat.beq_eq,Nat.beq_eq] at hb;exact⟨⟨hb.1.1,hb.1.2,jj i,Int.ofNat_lt.2 hb.2⟩,hk _ _ h⟩
   ·cases h
  ·cases h
 case iadr sz x y=>
  simp only[gS,zkT] at h;simp only[wpS]
  split at h
  ·rename_i n xs kd i hx hy;rw[hx,hy];dsimp only
   cases hb:(Nat.blt i n&&qc (Nat.mul n sz) xs.length) with
   | false=>rw[hb] at h;cases h
   | true=>
    rw[hb] at h;dsimp only at h;rw[Bool.and_eq_true,zbZ,decide_eq_true_eq,Nat.ble_eq] at hb;exact⟨⟨jj i,Int.ofNat_lt.2 hb.1,hb.2⟩,hk _ _ h⟩
  ·cases h
 all_goals simp only[gS,h_mv,zkP,zkY,h_box,zkX,zhu,h_bslo,zkR,zkQ,zkN,h_nck,h_bin,h_beq,h_eqs,h_not,h_neg,h_cvi,h_cvs,zkU,zkO,h_fad,h_fld1,h_fldn,h_iad,h_iada,zkT,h_idx,h_ext,zkW,zgf,zgg,h_app,h_apps,zkS,h_lenr,h_mks,h_mkz,h_capp,zkV,h_trn,h_mkf,h_pu,h_mkm0,h_mkm1,h_lk,h_mup,h_mph,wrF_eq,zcN,zbh,zgn,reduceCtorEq] at h
 all_goals simp only[wpS]
 all_goals first
  | exact hk _ _ h
  | ((repeat' split at h)<;>first|(cases h;done)|(have h9:=hk _ _ h;simp_all;done))
noncomputable def ze3 (w:Nat) (t:T8) (dst:Option Nat) (v:AV) (op:SOp) (k:T8->XV):XV :=
 match dst with
 | none=>k t
 | some d=>Bool.rec (motive:=fun _=>XV) (k t) (frc v fun v=>t.setK d v k) (Nat.blt d w)
theorem zbQ {w:Nat} {t:T8} {tm:List AV} {dst:Option Nat} {v:AV} {op:SOp} {k:T8->XV} {o:List OB} {r:AV} (hr:Rep w t tm) (h:ze3 w t dst v op k=.ok o r):∃t',Rep w t' (zah tm dst v)/\k t'=.ok o r:=by
 unfold ze3 at h
 split at h
 ·exact⟨t,hr,h⟩
 ·rename_i d;rw[zbZ] at h
  by_cases e:d<w
  ·rw[decide_eq_true e] at h;have h:(frc v fun v=>t.setK d v k)=.ok o r:=h;rw[zhz,zbP] at h;exact⟨_,hr.put e,h⟩
  ·rw[decide_eq_false e] at h;have e2:tm.set d v=tm:=List.set_eq_of_length_le (by rw[hr.1];omega);exact⟨t,by show Rep w t (tm.set d v);rw[e2];exact hr,h⟩
noncomputable def gR (c:Qls) (w:Nat) (l:List SO):List OB->T8->(List OB->T8->XV)->XV :=
 List.rec (motive:=fun _=>List OB->T8->(List OB->T8->XV)->XV) (fun o t k=>k o t)
  (fun a _ ih o t k=>match a with
   | ⟨dst,op,none⟩=>gS c op o (evT w t) fun o v=>ze3 w t dst v op fun t=>ih o t k
   | ⟨dst,op,some (g,want)⟩=>match evT w t (.t g) with
    | .b x=>Bool.rec (motive:=fun _=>XV) (ze3 w t dst (.o undef) op fun t=>ih o t k) (gS c op o (evT w t) fun o v=>ze3 w t dst v op fun t=>ih o t k) (x==want)
    | .o (.tuple _)=>ze3 w t dst (.o undef) op fun t=>ih o t k
    | _=>.bad op) l
theorem zgK {tm:List AV} {g:Nat} {x:Bool} (h:(tm[g]?).getD .u=.b x):tm.set g (.b x)=tm:=by
 cases e:tm[g]? with
 | none=>rw[e] at h;cases h
 | some y=>rw[e] at h;exact set_same (e.trans (congrArg some h))
theorem zbM {P:Program} [Tabs P] {c:Qls} (hc:QlsOk P c) {w:Nat} {ro:List OB} {r:AV}:∀(l:List SO) {objs:List OB} {t:T8} {tm:List AV} {k:List OB->T8->XV} {K:List OB->List AV->Prop},Rep w t tm->gR c w l objs t k=.ok ro r->(∀o' t' tm',Rep w t' tm'->k o' t'=.ok ro r->K o' tm')->wpR P l objs tm K
 | [],objs,t,tm,k,K,hr,h,hk=>hk _ _ _ hr h
 | ⟨dst,op,none⟩::l,objs,t,tm,k,K,hr,h,hk=>by
  have h:(gS c op objs (evT w t) fun o v=>ze3 w t dst v op fun t=>gR c w l o t k)=.ok ro r:=h;rw[hr.ev] at h;simp only[wpR];refine gS_ok hc h fun o v h=>?_;obtain⟨t',hr',h⟩:=zbQ hr h;exact zbM hc l hr' h hk
 | ⟨dst,op,some (g,want)⟩::l,objs,t,tm,k,K,hr,h0,hk=>by
  have h:(match evT w t (.t g) with
    | .b x=>Bool.rec (motive:=fun _=>XV) (ze3 w t dst (.o undef) op fun t=>gR c w l objs t k) (gS c op objs (evT w t) fun o v=>ze3 w t dst v op fun t=>gR c w l o t k) (x==want)
    | .o (.tuple _)=>ze3 w t dst (.o undef) op fun t=>gR c w l objs t k
    | _=>.bad op)=.ok ro r:=h0
  clear h0;rw[hr.ev] at h;simp only[wpR]
  split at h
  ·rename_i x hx;have hx:(tm[g]?).getD .u=.b x:=hx;rw[hx];dsimp only
   cases hw:(x==want) with
   | true=>
    rw[hw] at h;have e:x=want:=by simpa using hw
    subst e;refine⟨fun _=>?_,(fun e=>by cases x<;>cases e)⟩
    rw[zgK hx];refine gS_ok hc h fun o v h=>?_;obtain⟨t',hr',h⟩:=zbQ hr h;exact zbM hc l hr' h hk
   | false=>
    rw[hw] at h;have e:x=!want:=by cases x<;>cases want<;>first|rfl|cases hw
    subst e;refine⟨(fun e=>by cases want<;>cases e),fun _=>?_⟩
    rw[zgK hx];obtain⟨t',hr',h⟩:=zbQ hr h;exact zbM hc l hr' h hk
  ·rename_i vs hx;have hx:(tm[g]?).getD .u=.o (.tuple vs):=hx;rw[hx];obtain⟨t',hr',h⟩:=zbQ hr h;exact zbM hc l hr' h hk
  ·cases h
noncomputable def gOD (c:Qls) (op:SOp) (objs:List OB) (ev:SV->AV) (k:List OB->AV->XV):XV :=
 Bool.rec (motive:=fun _=>XV) (gS c op objs ev k) (match op with
  | .call f args=>zdF (args.map ev) fun ag=>Bool.rec (motive:=fun _=>XV) (match c.ln f ag objs with
   | .ok _ v=>k objs v
   | .bad e=>.bad e) (match c.cp f ag with
   | .ok _ v=>k objs v
   | .bad e=>.bad e) (zak ag)
  | .pcall f args=>zdF (args.map ev) fun ag=>Bool.rec (motive:=fun _=>XV) (.bad op) (match c.cp f ag with
   | .ok _ v=>k objs v
   | .bad e=>.bad e) (zak ag)
  | _=>.bad op) op.isCall
theorem gOD_ok {P:Program} [Tabs P] {c:Qls} (hc:QlsOk P c) {op:SOp} {objs ro:List OB} {tm:List AV} {r:AV} {k:List OB->AV->XV} {K:List OB->AV->Prop} (h:gOD c op objs (fun x=>x.ev tm) k=.ok ro r) (hk:∀o v,k o v=.ok ro r->K o v):if op.isCall=true then ∃v,wpS P op objs tm (fun o x=>o=objs/\x=v)/\K objs v else wpS P op objs tm K:=by
 unfold gOD at h
 cases hi:op.isCall with
 | false=>rw[hi] at h;rw[if_neg (by decide)];exact gS_ok hc h hk
 | true=>
  rw[hi] at h;rw[if_pos rfl];dsimp only at h
  split at h
  ·rename_i f args;rw[zbh] at h
   cases hp:zak (args.map fun x=>x.ev tm) with
   | true=>
    rw[hp] at h;dsimp only at h
    split at h
    ·rename_i o v hv;exact⟨v,hc.cp _ _ _ _ hv _ _ ⟨rfl,rfl⟩,hk _ _ h⟩
    ·cases h
   | false=>
    rw[hp] at h;dsimp only at h
    split at h
    ·rename_i o v hv;exact⟨v,hc.ln _ _ _ _ _ hv _ ⟨rfl,rfl⟩,hk _ _ h⟩
    ·cases h
  ·rename_i f args;rw[zbh] at h
   cases hp:zak (args.map fun x=>x.ev tm) with
   | true=>
    rw[hp] at h;dsimp only at h
    split at h
    ·rename_i o v hv;exact⟨v,⟨hp,hc.cp _ _ _ _ hv [] (fun _ r=>r.plain=true/\(objs=objs/\r=v)) ⟨hc.pl _ _ _ _ hv,rfl,rfl⟩⟩,hk _ _ h⟩
    ·cases h
   | false=>rw[hp] at h;cases h
  ·cases h
noncomputable def gD (c:Qls) (w:Nat) (l:List SO):List OB->T8->(List OB->T8->XV)->XV :=
 List.rec (motive:=fun _=>List OB->T8->(List OB->T8->XV)->XV) (fun o t k=>k o t)
  (fun a _ ih o t k=>match a with
   | ⟨dst,op,none⟩=>gOD c op o (evT w t) fun o v=>ze3 w t dst v op fun t=>ih o t k
   | ⟨dst,op,some (g,want)⟩=>match evT w t (.t g) with
    | .b x=>Bool.rec (motive:=fun _=>XV) (ze3 w t dst (.o undef) op fun t=>ih o t k) (gOD c op o (evT w t) fun o v=>ze3 w t dst v op fun t=>ih o t k) (x==want)
    | .o (.tuple _)=>ze3 w t dst (.o undef) op fun t=>ih o t k
    | _=>.bad op) l
theorem zk2 {P:Program} [Tabs P] {c:Qls} (hc:QlsOk P c) {w:Nat} {ro:List OB} {r:AV}:∀(l:List SO) {objs:List OB} {t:T8} {tm:List AV} {k:List OB->T8->XV} {K:List OB->List AV->Prop},Rep w t tm->gD c w l objs t k=.ok ro r->(∀o' t' tm',Rep w t' tm'->k o' t'=.ok ro r->K o' tm')->wpD P l objs tm K
 | [],objs,t,tm,k,K,hr,h,hk=>hk _ _ _ hr h
 | ⟨dst,op,none⟩::l,objs,t,tm,k,K,hr,h,hk=>by
  have h:(gOD c op objs (evT w t) fun o v=>ze3 w t dst v op fun t=>gD c w l o t k)=.ok ro r:=h;rw[hr.ev] at h;simp only[wpD];refine gOD_ok hc (K:=fun o v=>wpD P l o (zah tm dst v) K) h fun o v h=>?_;obtain⟨t',hr',h⟩:=zbQ hr h;exact zk2 hc l hr' h hk
 | ⟨dst,op,some (g,want)⟩::l,objs,t,tm,k,K,hr,h0,hk=>by
  have h:(match evT w t (.t g) with
    | .b x=>Bool.rec (motive:=fun _=>XV) (ze3 w t dst (.o undef) op fun t=>gD c w l objs t k) (gOD c op objs (evT w t) fun o v=>ze3 w t dst v op fun t=>gD c w l o t k) (x==want)
    | .o (.tuple _)=>ze3 w t dst (.o undef) op fun t=>gD c w l objs t k
    | _=>.bad op)=.ok ro r:=h0
  clear h0;rw[hr.ev] at h;simp only[wpD]
  split at h
  ·rename_i x hx;have hx:(tm[g]?).getD .u=.b x:=hx;rw[hx];dsimp only
   cases hw:(x==want) with
   | true=>
    rw[hw] at h;have e:x=want:=by simpa using hw
    subst e;refine⟨fun _=>?_,(fun e=>by cases x<;>cases e)⟩
    rw[zgK hx];refine gOD_ok hc (K:=fun o v=>wpD P l o (zah tm dst v) K) h fun o v h=>?_;obtain⟨t',hr',h⟩:=zbQ hr h;exact zk2 hc l hr' h hk
   | false=>
    rw[hw] at h;have e:x=!want:=by cases x<;>cases want<;>first|rfl|cases hw
    subst e;refine⟨(fun e=>by cases want<;>cases e),fun _=>?_⟩
    rw[zgK hx];obtain⟨t',hr',h⟩:=zbQ hr h;exact zk2 hc l hr' h hk
  ·rename_i vs hx;have hx:(tm[g]?).getD .u=.o (.tuple vs):=hx;rw[hx];obtain⟨t',hr',h⟩:=zbQ hr h;exact zk2 hc l hr' h hk
  ·cases h
def udA:Value->Bool
 | .tuple a=>decide (a=#[])
 | _=>false
mutual
def samA:Nat->AV->AV->Bool
 | 0,_,_=>false
 | _+1,.s l,.s m=>decide (l=m)
 | _+1,.i a n,.i b m=>decide (a=b)&&decide (n=m)
 | _+1,.b x,.b y=>x==y
 | k+1,.agg xs,.agg ys=>zfh k xs ys
 | k+1,.tup xs,.tup ys=>zfh k xs ys
 | _+1,.p a b,.p c d=>decide (a=c)&&decide (b=d)
 | k+1,.row n xs,.row m ys=>decide (n=m)&&zfh k xs ys
 | k+1,.prow xs n,.prow ys m=>decide (n=m)&&zfh k xs ys
 | k+1,.crow n xs,.crow m ys=>decide (n=m)&&zfh k xs ys
 | _+1,.orow a b,.orow c d=>decide (a=c)&&decide (b=d)
 | _+1,.porow a b e,.porow c d f=>decide (a=c)&&(decide (b=d)&&decide (e=f))
 | _+1,.m a,.m b=>decide (a=b)
 | _+1,.zn a,.zn b=>a==b
 | _+1,.nil,.nil=>true
 | _+1,.u,.u=>true
 | k+1,.fn f a b,.fn g c d=>decide (f=g)&&(zfh k a c&&zfh k b d)
 | _+1,.o v,.o w=>udA v&&udA w
 | _+1,_,_=>false
def zfh:Nat->List AV->List AV->Bool
 | 0,_,_=>false
 | _+1,[],[]=>true
 | k+1,x::xs,y::ys=>samA k x y&&zfh k xs ys
 | _+1,_,_=>false
end
theorem udA_ok {v:Value} (h:udA v=true):v=.tuple #[]:=by
 unfold udA at h
 split at h
 ·rw[of_decide_eq_true h]
 ·cases h
mutual
theorem zf3:∀{k:Nat} {x y:AV},samA k x y=true->x=y
 | 0,x,y,h=>by rw[samA] at h;cases h
 | k+1,x,y,h=>by
  cases x<;>cases y<;>simp only[samA,Bool.and_eq_true,decide_eq_true_eq,beq_iff_eq,reduceCtorEq,Bool.false_eq_true] at h
  case s.s=>rw[h]
  case i.i=>rw[h.1,h.2]
  case b.b=>rw[h]
  case agg.agg=>rw[za4 h]
  case tup.tup=>rw[za4 h]
  case p.p=>rw[h.1,h.2]
  case row.row=>rw[h.1,za4 h.2]
  case prow.prow=>rw[h.1,za4 h.2]
  case crow.crow=>rw[h.1,za4 h.2]
  case orow.orow=>rw[h.1,h.2]
  case porow.porow=>rw[h.1,h.2.1,h.2.2]
  case m.m=>rw[h]
  case zn.zn=>rw[h]
  case nil.nil=>rfl
  case u.u=>rfl
  case fn.fn=>rw[h.1,za4 h.2.1,za4 h.2.2]
  case o.o=>rw[udA_ok h.1,udA_ok h.2]
theorem za4:∀{k:Nat} {x y:List AV},zfh k x y=true->x=y
 | 0,x,y,h=>by rw[zfh] at h;cases h
 | k+1,[],[],h=>rfl
 | k+1,[],_::_,h=>by simp only[zfh,Bool.false_eq_true] at h
 | k+1,_::_,[],h=>by simp only[zfh,Bool.false_eq_true] at h
 | k+1,x::xs,y::ys,h=>by
  simp only[zfh,Bool.and_eq_true] at h;rw[zf3 h.1,za4 h.2]
end
def zjd:T8->T8->Bool
 | .lf x,.lf y=>samA 200 x y
 | .nd a b,.nd c d=>zjd a c&&zjd b d
 | _,_=>false
theorem zf2:∀{x y:T8},zjd x y=true->x=y
 | .lf x,.lf y,h=>by rw[zjd] at h;rw[zf3 h]
 | .nd a b,.nd c d,h=>by rw[zjd,Bool.and_eq_true] at h;rw[zf2 h.1,zf2 h.2]
 | .lf x,.nd _ _,h=>by simp[zjd] at h
 | .nd _ _,.lf _,h=>by simp[zjd] at h
theorem Rep.inj {w:Nat} {t:T8} {tm tm':List AV} (h:Rep w t tm) (h':Rep w t tm'):tm=tm':=by
 obtain⟨h1,D,_,_,h2⟩:=h;obtain⟨h1',D',_,_,h2'⟩:=h'
 apply List.ext_getElem (h1.trans h1'.symm)
 intro n hn hn';have e1:=h2 n (by omega);have e2:=h2' n (by omega);rw[zq hn] at e1;rw[zq hn'] at e2;exact e1.symm.trans e2
abbrev HsT:=List (List SO×T8×T8)
noncomputable def gRe (c:Qls) (w:Nat):HsT->List OB->XV
 | [],o=>.ok o .u
 | e::r,o=>match gR c w e.1 o e.2.1 (fun _ x=>Bool.rec (motive:=fun _=>XV) (.bad .mkm0) (.ok [] .u) (zjd x e.2.2)) with
  | .ok _ _=>gRe c w r o
  | .bad e=>.bad e
def ze5 (w:Nat):HsT->Hst->Prop
 | [],[]=>True
 | a::r,b::s=>(a.1=b.1/\Rep w a.2.1 b.2.1/\Rep w a.2.2 b.2.2)/\ze5 w r s
 | _,_=>False
theorem ze5.cons {w:Nat} {l:List SO} {t u:T8} {tm um:List AV} {h:HsT} {hs:Hst} (h1:Rep w t tm) (h2:Rep w u um) (h3:ze5 w h hs):ze5 w ((l,t,u)::h) ((l,tm,um)::hs):=⟨⟨rfl,h1,h2⟩,h3⟩
theorem ze5.nil {w:Nat}:ze5 w [] []:=trivial
theorem zhy {P:Program} [Tabs P] {c:Qls} (hc:QlsOk P c) {w:Nat} {l:List SO} {objs ro:List OB} {t u:T8} {tm um:List AV} {r:AV} (hr:Rep w t tm) (hu:Rep w u um) (h:gR c w l objs t (fun _ x=>Bool.rec (motive:=fun _=>XV) (.bad .mkm0) (.ok [] .u) (zjd x u))=.ok ro r):wpR P l objs tm (fun _ x=>x=um):=by
 refine zbM hc l hr h fun o' t' tm' hr' h=>?_
 cases e:zjd t' u with
 | false=>rw[e] at h;cases h
 | true=>
  have:=zf2 e;subst this;exact hr'.inj hu
theorem zeh {P:Program} [Tabs P] {c:Qls} (hc:QlsOk P c) {w:Nat}:∀{h:HsT} {hs:Hst} {o ro:List OB} {r:AV},ze5 w h hs->gRe c w h o=.ok ro r->zaI P hs o
 | [],[],o,ro,r,hr,h=>trivial
 | a::l,b::s,o,ro,r,hr,h=>by
  rw[gRe] at h
  split at h
  ·rename_i x y hx;obtain⟨⟨h1,h2,h3⟩,h4⟩:=hr;rw[h1] at hx;exact⟨zhy hc h2 h3 hx,zeh hc h4 h⟩
  ·cases h
 | [],_::_,_,_,_,hr,h=>hr.elim
 | _::_,[],_,_,_,hr,h=>hr.elim
noncomputable def gT (c:Qls) (w:Nat):List (List SO×SO)->HsT->List SO->List OB->T8->(List OB->T8->XV)->XV
 | [],_,last,o,t,k=>gR c w last o t k
 | (L,cl)::r,hist,last,o,t,k=>gR c w L o t fun _ u=>gR c w [cl] o u fun o' t'=>match gRe c w ((L,t,u)::hist) o' with
  | .ok _ _=>gT c w r ((L,t,u)::hist) last o' t' k
  | .bad e=>.bad e
theorem gT_ok {P:Program} [Tabs P] {c:Qls} (hc:QlsOk P c) {w:Nat} {ro:List OB} {r:AV}:∀{st:List (List SO×SO)} {h:HsT} {hs:Hst} {last:List SO} {o:List OB} {t:T8} {tm:List AV} {k:List OB->T8->XV} {K:List OB->List AV->Prop},ze5 w h hs->Rep w t tm->gT c w st h last o t k=.ok ro r->(∀o' t' tm',Rep w t' tm'->k o' t'=.ok ro r->K o' tm')->wpT P st hs last o tm K
 | [],h,hs,last,o,t,tm,k,K,hh,hr,he,hk=>by
  rw[gT] at he;exact zbM hc _ hr he hk
 | (L,cl)::st,h,hs,last,o,t,tm,k,K,hh,hr,he,hk=>by
  rw[gT] at he;rw[wpT];refine zbM hc _ hr he fun _ u um hu he=>?_;refine zbM hc _ hu he fun o' t' tm' hr' he=>?_
  split at he
  ·rename_i x y hx;have h2:ze5 w ((L,t,u)::h) ((L,tm,um)::hs):=ze5.cons hr hu hh;exact⟨zeh hc h2 hx,gT_ok hc h2 hr' he hk⟩
  ·cases he
noncomputable def both (x y:XV):XV :=
 match x with
 | .ok [] r=>(match y with
  | .ok [] r'=>Bool.rec (motive:=fun _=>XV) (.bad .mkm0) (.ok [] r) (samA 200 r r')
  | .ok _ _=>.bad .mkm0
  | .bad e=>.bad e)
 | .ok _ _=>.bad .mkm0
 | .bad e=>.bad e
theorem both_ok {x y:XV} {o:List OB} {r:AV} (h:both x y=.ok o r):x=.ok o r/\y=.ok o r:=by
 cases x with
 | bad e=>cases h
 | ok ox rx=>
  cases ox with
  | cons _ _=>cases h
  | nil=>
   cases y with
   | bad e=>cases h
   | ok oy ry=>
    cases oy with
    | cons _ _=>cases h
    | nil=>
     have h:(Bool.rec (motive:=fun _=>XV) (.bad .mkm0) (.ok [] rx) (samA 200 rx ry):XV)=.ok o r:=h
     cases e:samA 200 rx ry with
     | false=>rw[e] at h;cases h
     | true=>rw[e] at h;rw[<-zf3 e];exact⟨h,h⟩
noncomputable def hsT (w d:Nat) (p:AV):HsT->(HsT->XV)->XV
 | [],k=>k []
 | e::r,k=>e.2.1.setK d p fun a=>e.2.2.setK d p fun b=>hsT w d p r fun r=>k ((e.1,a,b)::r)
theorem zkJ {w d:Nat} (hd:d<w) {p:AV}:∀{h:HsT} {hs:Hst} {k:HsT->XV} {o:List OB} {r:AV},ze5 w h hs->hsT w d p h k=.ok o r->∃h',ze5 w h' (hsV d p hs)/\k h'=.ok o r
 | [],[],k,o,r,hh,h=>⟨[],trivial,h⟩
 | a::l,b::s,k,o,r,hh,h=>by
  rw[hsT,zbP,zbP] at h;obtain⟨⟨h1,h2,h3⟩,h4⟩:=hh;obtain⟨h',e1,e2⟩:=zkJ hd h4 h;refine⟨_,?_,e2⟩;exact⟨⟨h1,h2.put hd,h3.put hd⟩,e1⟩
 | [],_::_,_,_,_,hr,h=>hr.elim
 | _::_,[],_,_,_,hr,h=>hr.elim
noncomputable def gB (c:Qls) (w d T:Nat) (z:List AV):List (List SO×SO)->HsT->List SO->List OB->T8->(List OB->T8->XV)->XV
 | [],hist,last,o,t,k=>gR c w last o t fun _ u=>hsT w d (.p o.length 0) ((last,t,u)::hist) fun h=>match gRe c w h (o++[.box T z]) with
  | .ok _ _=>u.setK d (.p o.length 0) fun u=>k (o++[.box T z]) u
  | .bad e=>.bad e
 | (L,cl)::r,hist,last,o,t,k=>gR c w L o t fun _ u=>both
  (hsT w d (.p o.length 0) ((L,t,u)::hist) fun h=>match gRe c w h (o++[.box T z]) with
   | .ok _ _=>u.setK d (.p o.length 0) fun u=>gR c w [cl] (o++[.box T z]) u fun o' t'=>(match gRe c w h o' with
    | .ok _ _=>gT c w r h last o' t' k
    | .bad e=>.bad e)
   | .bad e=>.bad e)
  (gR c w [cl] o u fun o' t'=>match gRe c w ((L,t,u)::hist) o' with
   | .ok _ _=>gB c w d T z r ((L,t,u)::hist) last o' t' k
   | .bad e=>.bad e)
theorem gB_ok {P:Program} [Tabs P] {c:Qls} (hc:QlsOk P c) {w d T:Nat} {z:List AV} (hd:d<w) {ro:List OB} {r:AV}:∀{st:List (List SO×SO)} {h:HsT} {hs:Hst} {last:List SO} {o:List OB} {t:T8} {tm:List AV} {k:List OB->T8->XV} {K:List OB->List AV->Prop},ze5 w h hs->Rep w t tm->gB c w d T z st h last o t k=.ok ro r->(∀o' t' tm',Rep w t' tm'->k o' t'=.ok ro r->K o' tm')->wpB P d T z st hs last o tm K
 | [],h,hs,last,o,t,tm,k,K,hh,hr,he,hk=>by
  rw[gB] at he;rw[wpB];refine zbM hc _ hr he fun _ u um hu he=>?_;obtain⟨h',hh',he⟩:=zkJ hd (hs:=(last,tm,um)::hs) (ze5.cons hr hu hh) he
  split at he
  ·rename_i x y hx;rw[zbP] at he;exact⟨zeh hc hh' hx,hk _ _ _ (hu.put hd) he⟩
  ·cases he
 | (L,cl)::st,h,hs,last,o,t,tm,k,K,hh,hr,he,hk=>by
  rw[gB] at he;rw[wpB];refine zbM hc _ hr he fun _ u um hu he=>?_;obtain⟨he1,he2⟩:=both_ok he;have h2:ze5 w ((L,t,u)::h) ((L,tm,um)::hs):=ze5.cons hr hu hh
  constructor
  ·obtain⟨h',hh',he⟩:=zkJ hd h2 he1
   split at he
   ·rename_i x y hx;rw[zbP] at he;refine⟨zeh hc hh' hx,zbM hc _ (hu.put hd) he fun o' t' tm' hr' he=>?_⟩
    split at he
    ·rename_i x y hx;exact⟨zeh hc hh' hx,gT_ok hc hh' hr' he hk⟩
    ·cases he
   ·cases he
  ·refine zbM hc _ hu he2 fun o' t' tm' hr' he=>?_
   split at he
   ·rename_i x y hx;exact⟨zeh hc h2 hx,gB_ok hc hd h2 hr' he hk⟩
   ·cases he
theorem samB {x:XV} {o ro:List OB} {r:AV} {b:Bool} {e:SOp} (h:(Bool.rec (motive:=fun _=>XV) (.bad e) x b:XV)=.ok ro r):b=true/\x=.ok ro r:=by
 cases b with
 | false=>cases h
 | true=>exact⟨rfl,h⟩
instance (x y:Option AV):Decidable (zbA x y):=by unfold zbA;split<;>infer_instance
instance (x y:Option AV):Decidable (apS x y):=by unfold apS;split<;>infer_instance
instance (x:Option AV) (b:Bool) (p:Prop) [Decidable p]:Decidable (apB x b p):=by unfold apB;split<;>infer_instance
noncomputable def slT (w:Nat) (t:T8) (n:Nat):Option AV:=Bool.rec (motive:=fun _=>Option AV) none (some (t.get n)) (Nat.blt n w)
theorem slT_eq {w:Nat} {t:T8} {tm:List AV} (h:Rep w t tm) (n:Nat):slT w t n=tm[n]?:=by
 obtain⟨h1,D,h2,h3,h4⟩:=h;unfold slT;rw[zbZ]
 by_cases e:n<w
 ·rw[decide_eq_true e];have:=h4 n e;rw[zq (by omega)] at this ⊢;exact congrArg some this
 ·rw[decide_eq_false e,zk (by omega)]
noncomputable def apT (w:Nat) (t:T8):List (Nat×Nat×Option (Nat×Bool))->Bool
 | []=>true
 | (s,s',g)::r=>(if s'<1000000 then (match g with
   | none=>decide (zbA (slT w t s) (slT w t s'))
   | some (g,want)=>decide (apB (slT w t g) want (zbA (slT w t s) (slT w t s')))) else decide (apS (slT w t s) (slT w t (s' - 1000000))))&&apT w t r
theorem apT_ok {w:Nat} {t:T8} {tm:List AV} (hr:Rep w t tm):∀{l:List (Nat×Nat×Option (Nat×Bool))},apT w t l=true->zdP l tm
 | [],h=>trivial
 | (s,s',g)::r,h=>by
  simp only[apT,Bool.and_eq_true] at h;refine⟨?_,apT_ok hr h.2⟩;have h1:=h.1;simp only[slT_eq hr] at h1
  split at h1
  ·rename_i hs;rw[if_pos hs]
   cases g with
   | none=>show zbA _ _;exact of_decide_eq_true h1
   | some g=>obtain⟨g,want⟩:=g;show apB _ _ _;exact of_decide_eq_true h1
  ·rename_i hs;rw[if_neg hs];exact of_decide_eq_true h1
noncomputable def gC (c:Qls) (w F:Nat) (sc:SCode):List OB->T8->(List OB->T8->XV)->(Nat->List OB->T8->XV)->(List OB->T8->XV)->XV :=
 SCode.rec (motive:=fun _=>List OB->T8->(List OB->T8->XV)->(Nat->List OB->T8->XV)->(List OB->T8->XV)->XV)
  (fun o t kn kx kr=>kn o t)
  (fun l o t kn kx kr=>gR c w l o t kn)
  (fun l k ap o t kn kx kr=>gD c w (l.take k) o t fun o t=>Bool.rec (motive:=fun _=>XV) (.bad .mkm0) (gR c w (l.drop k) o t kn) (apT w t ap))
  (fun pre cl post o t kn kx kr=>gR c w pre o t fun _ t1=>gR c w [cl] o t1 fun o2 t2=>match gR c w pre o2 t (fun _ x=>Bool.rec (motive:=fun _=>XV) (.bad .mkm0) (.ok [] .u) (zjd x t1)) with
   | .ok _ _=>gR c w post o2 t2 kn
   | .bad e=>.bad e)
  (fun st last o t kn kx kr=>gT c w st [] last o t kn)
  (fun d T z st last sr o t kn kx kr=>Bool.rec (motive:=fun _=>XV) (.bad .mkm0) (gB c w d T z st [] last o t fun o t=>gR c w [sr] o t kn) (qc w 1000003&&Nat.blt d w))
  (fun _ _ fx fy o t kn kx kr=>fx o t (fun o t=>fy o t kn kx kr) kx kr)
  (fun b _ _ fx fy o t kn kx kr=>match evT w t b with
   | .b true=>fx o t kn kx kr
   | .b false=>fy o t kn kx kr
   | _=>.bad (.mv b))
  (fun id _ fx o t kn kx kr=>fx o t kn (fun i o t=>Bool.rec (motive:=fun _=>XV) (kx i o t) (kn o t) (zv i id)) kr)
  (fun _ fx o t kn kx kr=>Nat.rec (motive:=fun _=>List OB->T8->XV) (fun _ _=>.bad .mkm0) (fun _ ih o t=>fx o t ih kx kr) F o t)
  (fun id o t kn kx kr=>kx id o t)
  (fun o t kn kx kr=>kr o t)
  (fun _ _ _ _ _=>.bad .mkm0) sc
theorem zgl {P:Program} [Tabs P] {C:Cx} [On P C] {c:Qls} (hc:QlsOk P c) {w F:Nat} {ro:List OB} {r:AV}:∀(sc:SCode) {o:List OB} {t:T8} {tm:List AV} {kn:List OB->T8->XV} {kx:Nat->List OB->T8->XV} {kr:List OB->T8->XV} {K:zat},Rep w t tm->gC c w F sc o t kn kx kr=.ok ro r ->
  (∀o' t' tm',Rep w t' tm'->kn o' t'=.ok ro r->K .normal o' tm')->(∀i o' t' tm',Rep w t' tm'->kx i o' t'=.ok ro r->K (.exit i) o' tm')->(∀o' t' tm',Rep w t' tm'->kr o' t'=.ok ro r->K .ret o' tm')->wpC P C sc K o tm
 | .skip,o,t,tm,kn,kx,kr,K,hr,h,h1,h2,h3=>h1 _ _ _ hr h
 | .reg l,o,t,tm,kn,kx,kr,K,hr,h,h1,h2,h3=>by
  simp only[wpC];exact zbM hc l hr h h1
 | .drw l k ap,o,t,tm,kn,kx,kr,K,hr,h,h1,h2,h3=>by
  simp only[wpC];refine zk2 hc _ hr h fun o' t' tm' hr' h=>?_;obtain⟨ha,h⟩:=samB (o:=o) h;exact⟨apT_ok hr' ha,zbM hc _ hr' h h1⟩
 | .crg pre cl post,o,t,tm,kn,kx,kr,K,hr,h,h1,h2,h3=>by
  simp only[wpC];refine zbM hc _ hr h fun _ t1 tm1 hr1 h=>?_;refine zbM hc _ hr1 h fun o2 t2 tm2 hr2 h=>?_
  split at h
  ·rename_i x y hx;exact⟨zhy hc hr hr1 hx,zbM hc _ hr2 h h1⟩
  ·cases h
 | .crs st last,o,t,tm,kn,kx,kr,K,hr,h,h1,h2,h3=>by
  simp only[wpC];exact gT_ok hc (hs:=[]) ze5.nil hr h h1
 | .cra d T z st last sr,o,t,tm,kn,kx,kr,K,hr,h,h1,h2,h3=>by
  simp only[wpC];obtain⟨ha,h⟩:=samB (o:=o) h;rw[Bool.and_eq_true,Nat.ble_eq,zbZ,decide_eq_true_eq] at ha;refine⟨by rw[hr.1];exact ha.1,gB_ok hc ha.2 (hs:=[]) ze5.nil hr h fun o' t' tm' hr' h=>zbM hc _ hr' h h1⟩
 | .seq x y,o,t,tm,kn,kx,kr,K,hr,h,h1,h2,h3=>by
  simp only[wpC];exact zgl hc x hr h (fun o' t' tm' hr' h=>zgl hc y hr' h h1 h2 h3) h2 h3
 | .cond b x y,o,t,tm,kn,kx,kr,K,hr,h,h1,h2,h3=>by
  simp only[wpC];have h:(match evT w t b with
   | .b true=>gC c w F x o t kn kx kr
   | .b false=>gC c w F y o t kn kx kr
   | _=>.bad (.mv b))=.ok ro r:=h
  rw[hr.ev] at h
  split at h
  ·rename_i hb;have hb:b.ev tm=_:=hb;rw[hb];exact⟨fun _=>zgl hc x hr h h1 h2 h3,(fun e=>by cases e)⟩
  ·rename_i hb;have hb:b.ev tm=_:=hb;rw[hb];exact⟨(fun e=>by cases e),fun _=>zgl hc y hr h h1 h2 h3⟩
  ·cases h
 | .blk id x,o,t,tm,kn,kx,kr,K,hr,h,h1,h2,h3=>by
  simp only[wpC];refine zgl hc x hr h h1 (fun i o' t' tm' hr' h=>?_) h3;show if i=id then _ else _
  by_cases e:i=id
  ·subst e;rw[if_pos rfl];rw[Nat.beq_refl] at h;exact h1 _ _ _ hr' h
  ·rw[if_neg e];rw[show zv i id=false from by rw[Bool.eq_false_iff];intro h;exact e (Nat.eq_of_beq_eq_true h)] at h;exact h2 _ _ _ _ hr' h
 | .loop x,o,t,tm,kn,kx,kr,K,hr,h,h1,h2,h3=>by
  refine zgI (fun m o tm=>∃t,Rep w t tm/\(Nat.rec (motive:=fun _=>List OB->T8->XV) (fun _ _=>.bad .mkm0) (fun _ ih o t=>gC c w F x o t ih kx kr) m:List OB->T8->XV) o t=.ok ro r) F ⟨t,hr,h⟩ ?_;rintro m o tm ⟨t,hr,h⟩
  cases m with
  | zero=>cases h
  | succ m=>
   exact zgl hc x hr h (fun o' t' tm' hr' h=>⟨m,Nat.lt_succ_self m,t',hr',h⟩) h2 h3
 | .exit id,o,t,tm,kn,kx,kr,K,hr,h,h1,h2,h3=>h2 _ _ _ _ hr h
 | .ret,o,t,tm,kn,kx,kr,K,hr,h,h1,h2,h3=>h3 _ _ _ hr h
 | .dead,o,t,tm,kn,kx,kr,K,hr,h,h1,h2,h3=>by cases h
mutual
/-- the value as it is given away, k steps -/
def zdW:Nat->List OB->Nat->AV->Option AV
 | 0,_,_,_=>none
 | k+1,objs,d,.agg cs=>(zc3 k objs d cs).map .agg
 | k+1,objs,d,.tup cs=>(zc3 k objs d cs).map .tup
 | k+1,objs,0,.orow _ _=>none
 | k+1,objs,d+1,.orow b gen=>match objs[b]? with
  | some (.orow _ _ gen' n xs)=>if gen'=gen then (zc3 k objs d xs).map (.row n) else none
  | _=>none
 | k+1,objs,d,x=>if x.plain=true then some x else none
def zc3:Nat->List OB->Nat->List AV->Option (List AV)
 | 0,_,_,_=>none
 | k+1,_,_,[]=>some []
 | k+1,objs,d,x::xs=>match zdW k objs d x,zc3 k objs d xs with
  | some y,some ys=>some (y::ys)
  | _,_=>none
end
mutual
theorem zhD:∀{k:Nat} {objs:List OB} {d:Nat} {x r:AV},zdW k objs d x=some r->pub objs d x=some r
 | 0,objs,d,x,r,h=>by rw[zdW] at h;cases h
 | k+1,objs,d,x,r,h=>by
  cases x with
  | agg cs=>
   cases d<;>(simp only[zdW] at h;simp only[pub];obtain⟨ys,hy,rfl⟩:=qe.1 h;rw[zcw hy];rfl)
  | tup cs=>
   cases d<;>(simp only[zdW] at h;simp only[pub];obtain⟨ys,hy,rfl⟩:=qe.1 h;rw[zcw hy];rfl)
  | orow b gen=>
   cases d with
   | zero=>simp only[zdW,reduceCtorEq] at h
   | succ d=>
    simp only[zdW] at h;simp only[pub]
    split at h
    ·rename_i E sz gen' n xs hb;rw[hb];dsimp only
     split at h
     ·rename_i hg;rw[if_pos hg];obtain⟨ys,hy,rfl⟩:=qe.1 h;rw[zcw hy];rfl
     ·cases h
    ·cases h
  | _=>cases d<;>(simp only[zdW] at h;simp only[pub];exact h)
theorem zcw:∀{k:Nat} {objs:List OB} {d:Nat} {xs rs:List AV},zc3 k objs d xs=some rs->zc7 objs d xs=some rs
 | 0,objs,d,xs,rs,h=>by rw[zc3] at h;cases h
 | k+1,objs,d,[],rs,h=>by
  simp only[zc3] at h;rw[zc7];exact h
 | k+1,objs,d,x::xs,rs,h=>by
  simp only[zc3] at h;rw[zc7]
  split at h
  ·rename_i y ys h1 h2;rw[zhD h1,zcw h2];exact h
  ·cases h
end
noncomputable def resT (objs:List OB) (w:Nat) (t:T8):SRes->Option AV
 | .tmp n=>slT w t n
 | .cell1 n=>match slT w t n with
  | some (.p b off)=>match objs[b]? with
   | some (.box _ cs)=>cs[off]?
   | _=>none
  | _=>none
 | .celln n sz=>match slT w t n with
  | some (.p b off)=>match objs[b]? with
   | some (.box _ cs)=>if off+sz<=cs.length then some (.agg ((cs.drop off).take sz)) else none
   | _=>none
  | _=>none
noncomputable def zjA (objs:List OB) (w:Nat) (t:T8):List SRes->Option (List AV)
 | []=>some []
 | r::rs=>match resT objs w t r,zjA objs w t rs with
  | some x,some xs=>some (x::xs)
  | _,_=>none
theorem zeE {objs:List OB} {w:Nat} {t:T8} {tm:List AV} (h:Rep w t tm):∀ss,zjA objs w t ss=zbK objs tm ss
 | []=>rfl
 | r::rs=>by
  rw[zjA,zbK,zeE h rs];have e:resT objs w t r=zik objs tm r:=by
   cases r<;>simp only[resT,zik,slT_eq h]<;>rfl
  rw[e];rfl
noncomputable def setA (l:List AV):Nat->T8->(T8->XV)->XV :=
 List.rec (motive:=fun _=>Nat->T8->(T8->XV)->XV) (fun _ t k=>k t) (fun a _ ih i t k=>t.setK i a fun t=>ih (Nat.succ i) t k) l
theorem zjb {o:List OB} {r:AV} {w:Nat}:∀{l:List AV} {pre:List AV} {t:T8} {k:T8->XV},pre.length+l.length<=w->Rep w t (pre++zu (w - pre.length) (.o undef))->setA l pre.length t k=.ok o r->∃t',Rep w t' (pre++l++zu (w - (pre.length+l.length)) (.o undef))/\k t'=.ok o r
 | [],pre,t,k,hl,hr,h=>⟨t,by simpa using hr,h⟩
 | a::l,pre,t,k,hl,hr,h=>by
  have h:(t.setK pre.length a fun t=>setA l (Nat.succ pre.length) t k)=.ok o r:=h;rw[zbP] at h;rw[qk] at hl;have h2:=hr.put (n:=pre.length) (v:=a) (by omega);have e:(pre++zu (w - pre.length) (AV.o undef)).set pre.length a=(pre++[a])++zu (w - (pre++[a]).length) (.o undef):=by
   rw[List.set_append_right _ _ (Nat.le_refl _),Nat.sub_self,show w - pre.length=(w - (pre++[a]).length)+1 from by rw[qd,List.length_singleton];omega,List.replicate_succ,List.set_cons_zero,List.append_assoc];rfl
  rw[e] at h2;have e3:Nat.succ pre.length=(pre++[a]).length:=by simp
  rw[e3] at h;obtain⟨t',h3,h4⟩:=zjb (by rw[qd,List.length_singleton];omega) h2 h;refine⟨t',?_,h4⟩;rw[qd,List.length_singleton] at h3;rw[qk,show pre.length+(l.length+1)=pre.length+1+l.length from by omega,show pre++a::l=pre++[a]++l from by simp];exact h3
theorem rep_mk {w:Nat}:Rep w (T8.mk (Nat.succ (Nat.log2 w))) (zu w (.o undef)):=by
 refine⟨List.length_replicate,_,zgm _,?_,fun n hn=>?_⟩
 ·have:=@Nat.lt_log2_self w;exact Nat.le_of_lt this
 ·rw[get_mk,List.getElem?_replicate,if_pos hn];rfl
structure Ent (P:Program) where
 f:Nat
 n:Nat
 ss:List SRes
 sc:SCode
 is:FnIs P f n ss sc
inductive TB (P:Program) where
 | e
 | lf (x:Ent P)
 | nd (l r:TB P)
noncomputable def TB.get {P:Program} (t:TB P):Nat->Option (Ent P) :=
 TB.rec (motive:=fun _=>Nat->Option (Ent P)) (fun _=>none) (fun x _=>some x) (fun _ _ gl gr n=>Bool.rec (motive:=fun _=>Option (Ent P)) (gr (Nat.div n 2)) (gl (Nat.div n 2)) (zv (Nat.mod n 2) 0)) t
noncomputable def gF {P:Program} (c:Qls) (F:Nat) (e:Ent P) (args:List AV) (objs:List OB) (k:List OB->AV->XV):XV :=
 Bool.rec (motive:=fun _=>XV) (.bad (.call e.f [])) (setA args 0 (T8.mk (Nat.succ (Nat.log2 e.n))) fun t=>gC c e.n F e.sc objs t (fun o t=>match zjA o e.n t e.ss with
   | some xs=>zdF xs fun xs=>frc (zfP xs) fun x=>k o x
   | none=>.bad (.call e.f [])) (fun _ _ _=>.bad (.call e.f [])) (fun o t=>match zjA o e.n t e.ss with
   | some xs=>zdF xs fun xs=>frc (zfP xs) fun x=>k o x
   | none=>.bad (.call e.f []))) (qc args.length e.n)
theorem gF_ok {P:Program} [Tabs P] {C:Cx} [On P C] {c:Qls} (hc:QlsOk P c) {F:Nat} {e:Ent P} {args:List AV} {objs ro:List OB} {r:AV} {k:List OB->AV->XV} {K:zat} (h:gF c F e args objs k=.ok ro r) (hk:∀o tm xs,zbK o tm e.ss=some xs->k o (zfP xs)=.ok ro r->K .normal o tm/\K .ret o tm):wpC P C e.sc K objs (args++zu (e.n - args.length) (.o undef)):=by
 obtain⟨ha,h⟩:=samB (o:=objs) h;rw[Nat.ble_eq] at ha;obtain⟨t,hr,h⟩:=zjb (pre:=[]) (by simpa using ha) (by simpa using rep_mk) h;have hr:Rep e.n t (args++zu (e.n - args.length) (.o undef)):=by simpa using hr
 refine zgl hc e.sc hr h (fun o' t' tm' hr' h=>?_) (fun i o' t' tm' hr' h=>by cases h) (fun o' t' tm' hr' h=>?_)
 ·rw[zeE hr'] at h
  split at h
  ·rename_i xs hx;rw[zbh,zhz] at h;exact(hk _ _ _ hx h).1
  ·cases h
 ·rw[zeE hr'] at h
  split at h
  ·rename_i xs hx;rw[zbh,zhz] at h;exact(hk _ _ _ hx h).2
  ·cases h
noncomputable def gN {P:Program} (tbl:TB P) (lib:Nat->List AV->Option AV) (has inn:Nat->Bool) (F:Nat) (q:Qls):Qls :=
 ⟨fun f args=>match lib f args with
   | some r=>Bool.rec (motive:=fun _=>XV) (.bad (.call f [])) (.ok [] r) r.plain
   | none=>match tbl.get f with
    | none=>.bad (.call f [])
    | some e=>Bool.rec (motive:=fun _=>XV) (.bad (.call f [])) (match gF q F e args [] (fun o r=>match zdW F o 5 r with
      | some r=>.ok [] r
      | none=>.bad .mkm0) with
     | .ok _ r=>Bool.rec (motive:=fun _=>XV) (.bad .mkm0) (.ok [] r) r.plain
     | .bad e=>.bad e) (zv e.f f&&zak args),
  fun f args objs=>match tbl.get f with
   | none=>.bad (.call f [])
   | some e=>Bool.rec (motive:=fun _=>XV) (.bad (.call f [])) (gF q F e args objs fun o r=>.ok o r) (zv e.f f),has,inn,fun f _ _=>.bad (.call f [])⟩
noncomputable def gT2 {P:Program} (tr:Qls->Qls) (tbl:TB P) (lib:Nat->List AV->Option AV) (has inn:Nat->Bool) (F:Nat) (k:Nat):Qls :=
 Nat.rec (motive:=fun _=>Qls) ⟨fun f _=>.bad (.call f []),fun f _ _=>.bad (.call f []),fun _=>false,fun _=>false,fun f _ _=>.bad (.call f [])⟩ (fun _ q=>tr (gN tbl lib has inn F q)) k
theorem gN_ok {P : Program} [Tabs P] (tbl : TB P) (lib : Nat → List AV → Option AV) (has inn : Nat → Bool) (hl : ∀ f args r, lib f args = some r → ∀ (objs : List OB) (K : List OB → AV → Prop), K objs r → zai P f args objs K) (hh : ∀ f, has f = true → ∃ fn, P.funcs[f]? = some fn ∧ fn.body.isSome = true ∧ fn.name ≠ "runtime.NumGoroutine") (F : Nat) {q : Qls} (ih : QlsOk P q) : QlsOk P (gN tbl lib has inn F q) := by
 have hcp:∀f args o r,(gN tbl lib has inn F q).cp f args=.ok o r->r.plain=true/\∀(objs:List OB) (K:List OB->AV->Prop),K objs r->zai P f args objs K:=by
  intro f args o r h;have h:(match lib f args with
  | some r=>Bool.rec (motive:=fun _=>XV) (.bad (.call f [])) (.ok [] r) r.plain
  | none=>match tbl.get f with
   | none=>.bad (.call f [])
   | some e=>Bool.rec (motive:=fun _=>XV) (.bad (.call f [])) (match gF q F e args [] (fun o r=>match zdW F o 5 r with
     | some r=>.ok [] r
     | none=>.bad .mkm0) with
    | .ok _ r=>Bool.rec (motive:=fun _=>XV) (.bad .mkm0) (.ok [] r) r.plain
    | .bad e=>.bad e) (zv e.f f&&zak args))=.ok o r:=h
  split at h
  ·rename_i x hx;obtain⟨hp,h⟩:=samB (o:=o) h;injection h with h1 h2
   subst h2;exact⟨hp,fun objs K hk=>hl _ _ _ hx objs K hk⟩
  ·split at h
   ·cases h
   ·rename_i e he;obtain⟨hb,h5⟩:=samB (o:=o) h;clear h;rw[Bool.and_eq_true,Nat.beq_eq] at hb;obtain⟨hf,hp⟩:=hb;subst hf
    split at h5
    ·rename_i o1 r1 hg;obtain⟨hr,h6⟩:=samB (o:=o) h5;injection h6 with h1 h2
     subst h2;refine⟨hr,fun objs K hk=>fn_ok e.is hp fun C _=>gF_ok ih hg fun o tm xs hx h=>?_⟩;have hq:ziN e.ss (fun r=>K objs r) o tm:=by
      unfold ziN;rw[hx,Option.bind_some]
      split at h
      ·rename_i z hz;injection h with h3 h4
       subst h4;rw[zhD hz];exact hk
      ·cases h
     exact⟨hq,hq⟩
    ·cases h5
 refine⟨fun f args o r h=>(hcp f args o r h).2,fun f args o r h=>(hcp f args o r h).1,fun f args objs o r h K hk=>?_,(fun _ _ _ _ _ h=>by cases h),hh⟩;have h:(match tbl.get f with
  | none=>.bad (.call f [])
  | some e=>Bool.rec (motive:=fun _=>XV) (.bad (.call f [])) (gF q F e args objs fun o r=>.ok o r) (zv e.f f))=XV.ok o r:=h
 split at h
 ·cases h
 ·rename_i e he;obtain⟨hf,h9⟩:=samB (o:=o) h;clear h;rw[Nat.beq_eq] at hf;subst hf;refine fn_in e.is fun C _=>gF_ok ih h9 fun o1 tm xs hx h=>?_;injection h with h3 h4
  subst h3 h4;have hq:outI e.ss K o1 tm:=by unfold outI;rw[hx];exact hk
  exact⟨hq,hq⟩
theorem zeg {P : Program} [Tabs P] {tr : Qls → Qls} (ht : ∀ q, QlsOk P q → QlsOk P (tr q)) (tbl : TB P) (lib : Nat → List AV → Option AV) (has inn : Nat → Bool) (hl : ∀ f args r, lib f args = some r → ∀ (objs : List OB) (K : List OB → AV → Prop), K objs r → zai P f args objs K) (hh : ∀ f, has f = true → ∃ fn, P.funcs[f]? = some fn ∧ fn.body.isSome = true ∧ fn.name ≠ "runtime.NumGoroutine") (F : Nat) : ∀ k, QlsOk P (gT2 tr tbl lib has inn F k)
 | 0=>⟨(fun _ _ _ _ h=>by cases h),(fun _ _ _ _ h=>by cases h),(fun _ _ _ _ _ h=>by cases h),(fun _ _ _ _ _ h=>by cases h),(fun _ h=>by cases h)⟩
 | k+1=>ht _ (gN_ok tbl lib has inn hl hh F (zeg ht tbl lib has inn hl hh F k))
def zic (b gen n:Nat) (xs:List AV):AV->AV
 | .agg cs=>.agg (cs.map (zcE b gen n xs))
 | x=>zcE b gen n xs x
theorem den_sub2 {G:Gh} {I:Imm} {objs:List OB} {w:World} (hm:MemOk G I objs w) {b E sz gen n:Nat} {xs:List AV} (hb:objs[b]? = some (.orow E sz gen n xs)) (x:AV) (y:Value) (h:Den G I x y):Den (zfo G b gen) (ziM I G b w) (zic b gen n xs x) y:=by
 cases x with
 | agg cs=>
  simp only[Den,zic] at h ⊢;obtain⟨ys,h1,h2,h3⟩:=h;exact⟨ys,h1,zdh hm hb cs ys h2,h3⟩
 | _=>exact zlv hm hb _ y h
theorem zfH {G:Gh} {I:Imm} {objs:List OB} {w:World} (hm:MemOk G I objs w) {b E sz gen n:Nat} {xs:List AV} (hb:objs[b]? = some (.orow E sz gen n xs)):∀(l:List AV) (ys:List Value),zab G I l ys->zab (zfo G b gen) (ziM I G b w) (l.map (zic b gen n xs)) ys
 | [],ys,h=>by simpa[zab] using h
 | x::l,ys,h=>by
  simp only[zab,List.map_cons] at h ⊢;obtain⟨y,ys',h1,h2,h3⟩:=h;exact⟨y,ys',h1,den_sub2 hm hb x y h2,zfH hm hb l ys' h3⟩
theorem zgy {P:Program} [Tabs P] {f:FuncId} {args:List AV} {objs:List OB} {K:List OB->AV->Prop} {b E sz gen n:Nat} {xs:List AV} (hb:objs[b]? = some (.orow E sz gen n xs)) (hc:zai P f (args.map (zic b gen n xs)) (pubO objs b gen n xs) K):zai P f args objs K:=by
 intro C _ G I w hin hm ys hd;obtain⟨v',vs,m1,m2,m3,m4,m5⟩:=hm.row b E sz gen n xs hb;have hG:=zf7 m1;have hI:Imm.le I (ziM I G b w):=fun _ _ _ h=>.inl h;obtain⟨hin',hm'⟩:=zkb (P:=P) hb hin hm;refine(hc C _ _ w hin' hm' ys (zfH hm hb _ _ hd)).mono ?_;rintro e w' ⟨y,objs',r,G',I',he,hk,h1,h2,h3,h4,hy⟩;exact⟨y,objs',r,G',I',he,hk,hG.trans h1,fun g o v h=>h2 g o v (hI g o v h),h3,h4,hy⟩
end Go.Proofs.YtcpldfimbhdfdaaGreatDoor.Sx
namespace Go.Proofs.YtcpldfimbhdfdaaGreatDoor
open Go.RowKit Sx
open List renaming eq_nil_of_length_eq_zero->qq
open Nat renaming le_refl->zg
def allJ (w:World):Imm:=fun g o v=>w.cell? ⟨g,o,none⟩=some v
theorem zgA {P:Program} [Tabs P] {f:FuncId} {rest:List AV} {objs:List OB} {K:List OB->AV->Prop} (h:zai P f (.row 0 []::rest) objs K):zai P f (.nil::rest) objs K:=by
 intro C _ G I w hin hm ys hd;refine h C G I w hin hm ys ?_;simp only[zab] at hd ⊢;obtain⟨y,ys',rfl,h1,h2⟩:=hd;refine⟨y,ys',rfl,?_,h2⟩;simp only[zab,Den] at h1 ⊢;exact⟨none,0,[],h1,⟨zg _,fun ad h=>by cases h⟩,rfl,by simp,by simp⟩
mutual
/-- what is known of a value without its rows -/
def zaG:AV->AV
 | .agg cs=>.agg (zcF cs)
 | .tup cs=>.tup (zcF cs)
 | .row n _=>.row n []
 | .s l=>.s l
 | .i k n=>.i k n
 | .b x=>.b x
 | .nil=>.nil
 | _=>.u
def zcF:List AV->List AV
 | []=>[]
 | x::xs=>zaG x::zcF xs
end
mutual
theorem zem {G G':Gh} {I I':Imm}:∀(x:AV) (y:Value),Den G I x y->Den G' I' (zaG x) y
 | .agg cs,y,h=>by
  simp only[Den,zaG] at h ⊢;obtain⟨ys,h1,h2,h3⟩:=h;exact⟨ys,h1,zcj cs ys h2,h3⟩
 | .tup cs,y,h=>by
  simp only[Den,zaG] at h ⊢;obtain⟨ys,h1,h2⟩:=h;exact⟨ys,h1,zcj cs ys h2⟩
 | .row n xs,y,h=>by
  simp only[Den,zaG] at h ⊢;obtain⟨a,c,ys,h1,h2,_⟩:=h;exact⟨a,c,[],h1,h2,by simp[zab],by simp,by simp⟩
 | .s l,y,h=>by simpa[Den,zaG] using h
 | .i k n,y,h=>by simpa[Den,zaG] using h
 | .b x,y,h=>by simpa[Den,zaG] using h
 | .nil,y,h=>by simpa[Den,zaG] using h
 | .p _ _,y,h=>by simp[Den,zaG]
 | .prow _ _,y,h=>by simp[Den,zaG]
 | .crow _ _,y,h=>by simp[Den,zaG]
 | .orow _ _,y,h=>by simp[Den,zaG]
 | .porow _ _ _,y,h=>by simp[Den,zaG]
 | .bsl _ _ _,y,h=>by simp[Den,zaG]
 | .m _,y,h=>by simp[Den,zaG]
 | .zn _,y,h=>by simp[Den,zaG]
 | .fn _ _ _,y,h=>by simp[Den,zaG]
 | .o _,y,h=>by simp[Den,zaG]
 | .u,y,h=>by simp[Den,zaG]
theorem zcj {G G':Gh} {I I':Imm}:∀(xs:List AV) (ys:List Value),zab G I xs ys->zab G' I' (zcF xs) ys
 | [],ys,h=>by simpa[zab,zcF] using h
 | x::xs,ys,h=>by
  simp only[zab,zcF] at h ⊢;obtain⟨y,ys',h0,h1,h2⟩:=h;exact⟨y,ys',h0,zem x y h1,zcj xs ys' h2⟩
end
inductive Lrs (objs:List OB):AV->AV->Prop
 | pl (x:AV):x.plain=true->Lrs objs x x
 | nil:Lrs objs .nil (.row 0 [])
 | agg (cs ds:List AV):cs.length=ds.length->(∀(i:Nat) (x x':AV),cs[i]? = some x->ds[i]? = some x'->Lrs objs x x')->Lrs objs (.agg cs) (.agg ds)
 | row (n:Nat) (cs ds:List AV):cs.length=ds.length->(∀(i:Nat) (x x':AV),cs[i]? = some x->ds[i]? = some x'->Lrs objs x x')->Lrs objs (.row n cs) (.row n ds)
 | orow (b g E sz n:Nat) (cs ds:List AV):objs[b]? = some (.orow E sz g n cs)->cs.length=ds.length->(∀(i:Nat) (x x':AV),cs[i]? = some x->ds[i]? = some x'->Lrs objs x x')->Lrs objs (.orow b g) (.row n ds)
theorem zdL {G G':Gh} {I I':Imm}:∀(cs ds:List AV) (ys:List Value),cs.length=ds.length->(∀(i:Nat) (x x':AV),cs[i]? = some x->ds[i]? = some x'->∀y,Den G I x y->Den G' I' x' y)->zab G I cs ys->zab G' I' ds ys
 | [],[],ys,_,_,h=>by simpa[zab] using h
 | [],_::_,ys,hl,_,h=>by simp at hl
 | _::_,[],ys,hl,_,h=>by simp at hl
 | c::cs,d::ds,ys,hl,hi,h=>by
  simp only[zab] at h ⊢;obtain⟨y,ys',h0,h1,h2⟩:=h;exact⟨y,ys',h0,hi 0 c d rfl rfl y h1,zdL cs ds ys' (by simpa using hl) (fun i x x' hx hx'=>hi (i+1) x x' (by simpa using hx) (by simpa using hx')) h2⟩
theorem lrs_den {G:Gh} {I:Imm} {w:World} {objs:List OB} (hm:MemOk G I objs w) {x x':AV} (h:Lrs objs x x'):∀y,Den G I x y->Den Gh.none (allJ w) x' y:=by
 have hI:Imm.le I (allJ w):=fun g o v hi=>hm.imm g o v hi
 induction h with
 | pl x hp=>exact fun y hy=>Den.plain hI _ _ hp hy
 | nil=>exact fun y hy=>zdA (by simpa[Den] using hy)
 | agg cs ds hl _ ih=>
  intro y hy;simp only[Den] at hy ⊢;obtain⟨ys,h1,h2,h3⟩:=hy;exact⟨ys,h1,zdL cs ds ys hl ih h2,h3⟩
 | row n cs ds hl _ ih=>
  intro y hy;simp only[Den] at hy ⊢;obtain⟨a,c,ys,h1,h2,h3,h4,h5⟩:=hy;refine⟨a,c,ys,h1,h2,zdL cs ds ys hl ih h3,h4,fun j u hj=>?_⟩;obtain⟨g,off,e,hi⟩:=h5 j u hj;exact⟨g,off,e,hI _ _ _ hi⟩
 | orow b gen E sz n cs ds hb hl _ ih=>
  intro y hy;obtain⟨v',vs,m1,m2,m3,m4,m5⟩:=hm.row b E sz gen n cs hb;simp only[Den] at hy ⊢;obtain⟨g0,v,k1,k2,k3,_⟩:=hy;rw[k1] at m1;injection m1 with m1;injection m1 with m1 m6
  have hv:=k3 m1.symm;subst m1 m6 hv;have q1:zab Gh.none (allJ w) ds vs:=zdL cs ds vs hl ih m3;rcases m2.2 with ⟨rfl,rfl⟩|⟨g,cap,cur,rfl,hx1,hx2,hx3,hx4⟩
  ·have hvs:vs=[]:=qq (by simpa using m2.1);subst hvs;have hds:ds=[]:=qq (by have:=q1.length;simpa using this);subst hds;exact⟨none,0,[],rfl,⟨zg _,by intro _ e;cases e⟩,q1,by simp,by simp⟩
  ·refine⟨some ⟨g,0,none⟩,cap,vs,rfl,⟨hx3,by rintro _ ⟨⟩ _;rfl⟩,q1,m4,fun j u hj=>⟨g,0,rfl,?_⟩⟩;have:=m2.cells (g:=g) rfl j u hj;rw[zal] at this;rw[Nat.zero_add];exact this
def All2 (objs:List OB):List AV->List AV->Prop
 | [],[]=>True
 | x::xs,y::ys=>Lrs objs x y/\All2 objs xs ys
 | _,_=>False
theorem zbI {objs:List OB}:∀{cs ds:List AV},All2 objs cs ds->cs.length=ds.length/\∀(i:Nat) (x x':AV),cs[i]? = some x->ds[i]? = some x'->Lrs objs x x'
 | [],[],_=>⟨rfl,fun i x x' h=>by simp at h⟩
 | [],_::_,h=>h.elim
 | _::_,[],h=>h.elim
 | c::cs,d::ds,h=>by
  obtain⟨h1,h2⟩:=h;obtain⟨h3,h4⟩:=zbI h2;refine⟨by simp[h3],fun i x x' hx hx'=>?_⟩
  cases i with
  | zero=>
   simp only[List.getElem?_cons_zero,Option.some.injEq] at hx hx';subst hx hx';exact h1
  | succ i=>exact h4 i x x' (by simpa using hx) (by simpa using hx')
theorem lrs_agg {objs:List OB} {cs ds:List AV} (h:All2 objs cs ds):Lrs objs (.agg cs) (.agg ds):=.agg _ _ (zbI h).1 (zbI h).2
theorem lrs_row {objs:List OB} {n:Nat} {cs ds:List AV} (h:All2 objs cs ds):Lrs objs (.row n cs) (.row n ds):=.row _ _ _ (zbI h).1 (zbI h).2
theorem lrs_orow {objs:List OB} {b g n:Nat} {E:TypeId} {sz:Nat} {cs ds:List AV} (hb:objs[b]? = some (.orow E sz g n cs)) (h:All2 objs cs ds):Lrs objs (.orow b g) (.row n ds):=.orow _ _ _ _ _ _ _ hb (zbI h).1 (zbI h).2
theorem zgz {P:Program} [Tabs P] {f:FuncId} {args args':List AV} {objs:List OB} {K:List OB->AV->Prop} (r:AV) (hl:All2 objs args args') (hk:K objs (zaG r))
  (h:zai P f args' [] (fun _ r'=>r'=r)):zai P f args objs K:=by
 intro C _ G I w hin hm ys hd;have hd':zab Gh.none (allJ w) args' ys:=zdL args args' ys (zbI hl).1 (fun i x x' hx hx' y=>lrs_den hm ((zbI hl).2 i x x' hx hx') y) hd
 haveI:On P ⟨w,fun _=>False,allJ w,Gh.none⟩:=⟨hin.tab (P:=P),fun _ h=>h⟩
 have hc:=h ⟨w,fun _=>False,allJ w,Gh.none⟩ Gh.none (allJ w) w
  ⟨rfl,rfl,rfl,zg _,fun _ _ _=>rfl,fun _ _ _ h=>h,fun _ _ _ h=>.inl h,fun b g hb=>by simp[Gh.own,Gh.none] at hb,Gh.le.refl _⟩
  ⟨fun _ _ _ h=>h,by simp,by simp,by simp,fun b b' g hb=>by simp[Gh.own,Gh.none] at hb,fun b g hb=>by simp[Gh.own,Gh.none] at hb,fun b g o v hb=>by simp[Gh.own,Gh.none] at hb,fun b _=>⟨rfl,rfl⟩⟩ ys hd'
 refine hc.mono ?_;rintro e w' ⟨y,objs',r',G',I',rfl,rfl,_,_,hin',_,hy⟩;have hg:w.grownBy w' none:=⟨hin'.os,hin'.tape,hin'.output,hin'.size,fun k hk _=>hin'.block k hk (fun h=>h)⟩;exact⟨y,objs,_,G,I,rfl,hk,Gh.le.refl G,Imm.le.refl I,hin.evolve hg (by simp),hm.evolve hg,zem _ y hy⟩
end Go.Proofs.YtcpldfimbhdfdaaGreatDoor
namespace Go.Proofs.YtcpldfimbhdfdaaGreatDoor.Sx
open Go.RowKit
open Option renaming map_eq_some_iff->qe
def ownA:AV->Option (Nat×Nat)
 | .orow b g=>some (b,g)
 | .agg cs=>cs.findSome? fun x=>match x with
  | .orow b g=>some (b,g)
  | _=>none
 | _=>none
def freeA:AV->Bool
 | .orow _ _=>true
 | .agg cs=>cs.all fun x=>match x with
  | .orow _ _=>true
  | x=>x.plain
 | x=>x.plain
noncomputable def pubN (q:Qls) (f:Nat) (n:Nat):List AV->List OB->XV :=
 Nat.rec (motive:=fun _=>List AV->List OB->XV) (fun _ _=>.bad (.call f [])) (fun _ ih args objs=>match args.findSome? ownA with
  | none=>Bool.rec (motive:=fun _=>XV) (q.ci f args objs) (match q.cp f args with
   | .ok _ r=>.ok objs r
   | .bad e=>Bool.rec (motive:=fun _=>XV) (.bad e) (q.ci f args objs) (isM e)) (zak args)
  | some (b,g)=>match objs[b]? with
   | some (.orow _ _ gen n xs)=>if gen=g then zdF (args.map (zic b gen n xs)) fun args=>zcO (pubO objs b gen n xs) fun objs=>ih args objs else .bad (.call f [])
   | _=>.bad (.call f [])) n
theorem zjD {P:Program} [Tabs P] {q:Qls} (hq:QlsOk P q) {f:Nat}:∀(n:Nat) {args:List AV} {objs o:List OB} {r:AV},pubN q f n args objs=.ok o r->∀(K:List OB->AV->Prop),K o r->zai P f args objs K
 | 0,args,objs,o,r,h,K,hk=>by cases h
 | n+1,args,objs,o,r,h,K,hk=>by
  have h:(match args.findSome? ownA with
  | none=>Bool.rec (motive:=fun _=>XV) (q.ci f args objs) (match q.cp f args with
   | .ok _ r=>.ok objs r
   | .bad e=>Bool.rec (motive:=fun _=>XV) (.bad e) (q.ci f args objs) (isM e)) (zak args)
  | some (b,g)=>match objs[b]? with
   | some (.orow _ _ gen n' xs)=>if gen=g then zdF (args.map (zic b gen n' xs)) fun args=>zcO (pubO objs b gen n' xs) fun objs=>pubN q f n args objs else .bad (.call f [])
   | _=>.bad (.call f []))=.ok o r:=h
  split at h
  ·cases e:zak args with
   | false=>rw[e] at h;exact hq.ci _ _ _ _ _ h K hk
   | true=>
    rw[e] at h;dsimp only at h
    split at h
    ·rename_i o' r' hc;injection h with h1 h2
     subst h1 h2;exact hq.cp _ _ _ _ hc _ _ hk
    ·obtain⟨_,h⟩:=samB (o:=o) h;exact hq.ci _ _ _ _ _ h K hk
  ·split at h
   ·rename_i E sz gen n' xs hb
    split at h
    ·rename_i b g _ hg;subst hg;rw[zbh,zcN] at h;exact zgy hb (zjD hq n h K hk)
    ·cases h
   ·cases h
mutual
/-- the value, its rows laid open -/
def exL:Nat->List OB->AV->Option AV
 | 0,_,_=>none
 | k+1,objs,.agg cs=>(exLs k objs cs).map .agg
 | k+1,objs,.orow b gen=>match objs[b]? with
  | some (.orow _ _ gen' n xs)=>if gen'=gen then (exLs k objs xs).map (.row n) else none
  | _=>none
 | k+1,objs,.row n xs=>(exLs k objs xs).map (.row n)
 | k+1,objs,x=>if x.plain=true then some x else none
def exLs:Nat->List OB->List AV->Option (List AV)
 | 0,_,_=>none
 | k+1,_,[]=>some []
 | k+1,objs,x::xs=>match exL k objs x,exLs k objs xs with
  | some y,some ys=>some (y::ys)
  | _,_=>none
end
mutual
theorem exL_ok:∀{k:Nat} {objs:List OB} {x r:AV},exL k objs x=some r->Lrs objs x r
 | 0,objs,x,r,h=>by rw[exL] at h;cases h
 | k+1,objs,x,r,h=>by
  cases x with
  | agg cs=>
   simp only[exL] at h;obtain⟨ys,hy,rfl⟩:=qe.1 h;exact lrs_agg (zdJ hy)
  | row n cs=>
   simp only[exL] at h;obtain⟨ys,hy,rfl⟩:=qe.1 h;exact lrs_row (zdJ hy)
  | orow b gen=>
   simp only[exL] at h
   split at h
   ·rename_i E sz gen' n xs hb
    split at h
    ·rename_i hg;subst hg;obtain⟨ys,hy,rfl⟩:=qe.1 h;exact lrs_orow hb (zdJ hy)
    ·cases h
   ·cases h
  | _=>
   simp only[exL] at h
   split at h
   ·rename_i hp;injection h with h;subst h;exact .pl _ hp
   ·cases h
theorem zdJ:∀{k:Nat} {objs:List OB} {xs rs:List AV},exLs k objs xs=some rs->All2 objs xs rs
 | 0,objs,xs,rs,h=>by rw[exLs] at h;cases h
 | k+1,objs,[],rs,h=>by
  simp only[exLs] at h;injection h with h;subst h;trivial
 | k+1,objs,x::xs,rs,h=>by
  simp only[exLs] at h
  split at h
  ·rename_i y ys h1 h2;injection h with h;subst h
   exact⟨exL_ok h1,zdJ h2⟩
  ·cases h
end
noncomputable def pubQ (lnd:Nat->Bool) (q:Qls):Qls:=⟨q.cp,fun f args objs=>Bool.rec (motive:=fun _=>XV) (q.ci f args objs) (pubN q f 20 args objs) (args.all freeA&&!(q.inn f)),q.has,q.inn,fun f args objs=>Bool.rec (motive:=fun _=>XV) (.bad (.call f [])) (match exLs 2000 objs args with
 | some args'=>zdF args' fun args'=>(match q.cp f args' with
  | .ok _ r=>.ok objs (zaG r)
  | .bad e=>.bad e)
 | none=>.bad (.call f [])) (lnd f)⟩
theorem zdv {P:Program} [Tabs P] (lnd:Nat->Bool) (q:Qls) (hq:QlsOk P q):QlsOk P (pubQ lnd q):=by
 refine⟨hq.cp,hq.pl,fun f args objs o r h K hk=>?_,fun f args objs o r h K hk=>?_,hq.has⟩
 ·have h:(Bool.rec (motive:=fun _=>XV) (q.ci f args objs) (pubN q f 20 args objs) (args.all freeA&&!(q.inn f)):XV)=.ok o r:=h
  cases e:(args.all freeA&&!(q.inn f)) with
  | false=>rw[e] at h;exact hq.ci _ _ _ _ _ h K hk
  | true=>rw[e] at h;exact zjD hq 20 h K hk
 ·obtain⟨_,h⟩:=samB (o:=o) h
  split at h
  ·rename_i args' ha;rw[zbh] at h
   split at h
   ·rename_i o' r' hc;injection h with h1 h2
    subst h1 h2;exact zgz r' (zdJ ha) hk (hq.cp _ _ _ _ hc [] (fun _ x=>x=r') rfl)
   ·cases h
  ·cases h
noncomputable abbrev gH {P:Program} (tbl:TB P) (lib:Nat->List AV->Option AV) (has inn lnd:Nat->Bool) (F:Nat) (k:Nat):Qls:=gT2 (pubQ lnd) tbl lib has inn F k
end Go.Proofs.YtcpldfimbhdfdaaGreatDoor.Sx
namespace Go.Proofs.YtcpldfimbhdfdaaGreatDoor
def cpB (r:Int):Bool:=decide (0<=r/\r<=1114111/\(r<55296\/57343<r))
def zb7 (c:UInt8):Bool:=decide (128<=c.toNat/\c.toNat<192)
def r2 (c a:UInt8):Nat:=(c.toNat - 192)*64+(a.toNat - 128)
def r3 (c a b:UInt8):Nat:=(c.toNat - 224)*4096+(a.toNat - 128)*64+(b.toNat - 128)
def r4 (c a b d:UInt8):Nat:=(c.toNat - 240)*262144+(a.toNat - 128)*4096+(b.toNat - 128)*64+(d.toNat - 128)
def dec2 (c:UInt8):List UInt8->Option (Nat×Nat)
 | []=>none
 | a::_=>if zb7 a=true/\128<=r2 c a then some (r2 c a,2) else none
def dec3 (c:UInt8):List UInt8->Option (Nat×Nat)
 | []=>none
 | [_]=>none
 | a::b::_=>if zb7 a=true/\zb7 b=true/\2048<=r3 c a b/\cpB (r3 c a b:Int)=true then some (r3 c a b,3) else none
def dec4 (c:UInt8):List UInt8->Option (Nat×Nat)
 | []=>none
 | [_]=>none
 | [_,_]=>none
 | a::b::d::_=>if zb7 a=true/\zb7 b=true/\zb7 d=true/\65536<=r4 c a b d/\r4 c a b d<=1114111 then some (r4 c a b d,4) else none
def zfS:List UInt8->Option (Nat×Nat)
 | []=>none
 | c::t=>
  if c.toNat<128 then some (c.toNat,1)
  else if c.toNat<192 then none
  else if c.toNat<224 then dec2 c t
  else if c.toNat<240 then dec3 c t
  else if c.toNat<248 then dec4 c t
  else none
open Go.RowKit
theorem zcv (a:Nat) (ha:a<9223372036854775808):(BitVec.ofInt 64 (a:Int)).toNat=a:=by
 rw[BitVec.ofInt_natCast,BitVec.toNat_ofNat];exact Nat.mod_eq_of_lt (by omega)
theorem zci (a b:Nat) (ha:a<9223372036854775808) (hb:b<9223372036854775808):bits .and .i64 (a:Int) (b:Int)=((a &&& b:Nat):Int):=by
 have hx:a &&& b<2 ^ 63:=Nat.and_lt_two_pow _ (by omega);show IntKind.i64.wrap ((BitVec.ofInt 64 (a:Int) &&& BitVec.ofInt 64 (b:Int)).toNat:Int)=_;rw[BitVec.toNat_and,zcv a ha,zcv b hb,IntKind.wrap_i64];omega
theorem ziv (a b:Nat) (ha:a<9223372036854775808) (hb:b<9223372036854775808):bits .or .i64 (a:Int) (b:Int)=((a ||| b:Nat):Int):=by
 have hx:a ||| b<2 ^ 63:=Nat.or_lt_two_pow (by omega) (by omega);show IntKind.i64.wrap ((BitVec.ofInt 64 (a:Int) ||| BitVec.ofInt 64 (b:Int)).toNat:Int)=_;rw[BitVec.toNat_or,zcv a ha,zcv b hb,IntKind.wrap_i64];omega
theorem or_mul (a b i:Nat) (h:b<2 ^ i):2 ^ i*a ||| b=2 ^ i*a+b:=(Nat.two_pow_add_eq_or_of_lt h a).symm
theorem zbU (r:Int) (w:World) :
  Calls Tryz.prog 505 #[.int .i64 r] w fun e w'=>e=.returned (.bool (cpB r))/\w=w':=by
 go_enter Tryz.func505,Tryz.ntmps505
 go_wp2
 all_goals go_ret
 all_goals exact⟨ret_bool (by unfold cpB;first|exact dt (by omega)|exact df (by omega)|(rw[Bool.eq_iff_iff];simp only[Bool.or_eq_true,Bool.and_eq_true,decide_eq_true_eq];omega)),rfl⟩
theorem or64 (r x:Nat) (hr:r<=4503599627370496) (h:x<64):bits .or .i64 ((r:Int)*64) (x:Int)=((r*64+x:Nat):Int):=by
 have h2:=ziv (r*64) x (by omega) (by omega);have h3:=or_mul r x 6 (by omega);rw[show r*64 ||| x=r*64+x from by rw[Nat.mul_comm];exact h3] at h2;rw[<-h2,Int.natCast_mul];rfl
theorem u8and63:∀n:Fin 256,bits .and .u8 ((n.val:Nat):Int) 63=((n.val % 64:Nat):Int):=by decide +kernel
def lensT:List Int:=[1,1,1,1,1,1,1,1,1,1,1,1,1,1,1,1,0,0,0,0,0,0,0,0,2,2,2,2,3,3,4,0]
def mostT:List Int:=[-1,127,2047,65535,1114111]
structure UTabs (w:World):Prop where
 lens:∀i,i<32->w.cell? ⟨4,i,none⟩=some (.int .i64 (lensT.getD i 0))
 most:∀i,i<5->w.cell? ⟨5,i,none⟩=some (.int .i64 (mostT.getD i 0))
theorem zd9 {w:World} {p:Addr} {v:Value} (h:w.cell? p=some v):p.block<w.heap.size:=by
 rcases Nat.lt_or_ge p.block w.heap.size with h1|h1
 ·exact h1
 ·unfold World.cell? at h;rw[Array.getElem?_eq_none h1] at h;cases h
theorem UTabs.keep {w w':World} (h:UTabs w) (hq:Qb w w'):UTabs w' :=
 ⟨fun i hi=>(hq.below.cell (zd9 (h.lens i hi))).trans (h.lens i hi),fun i hi=>(hq.below.cell (zd9 (h.most i hi))).trans (h.most i hi)⟩
end Go.Proofs.YtcpldfimbhdfdaaGreatDoor
