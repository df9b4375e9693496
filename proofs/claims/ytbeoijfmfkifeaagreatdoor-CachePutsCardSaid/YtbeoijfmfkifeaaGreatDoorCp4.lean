/- The texts that the proofs of these statements reach, in their order, as few files. -/
import Derived.Deep.RegionLaw
import Derived.Deep.RegionHeldLaw
import Derived.Deep.DrawnRows
import Derived.Lib.Join
import Derived.Lib.LastIndexByte
import Derived.Lib.Replace
import Derived.Lib.CountLaws
import Derived.Test.YtbeoijfmfkifeaaGreatDoorProg
import Derived.Test.YtbeoijfmfkifeaaGreatDoorCp3
set_option linter.unusedVariables false
set_option linter.unusedSimpArgs false
set_option maxRecDepth 100000
namespace Go.Proofs.YtbeoijfmfkifeaaGreatDoor
open Go.RowKit
open Lib renaming hasPrefix->zk, hid->za
open List renaming eq_nil_of_length_eq_zero->qh, length_cons->zl, length_take->zh
open Nat renaming le_refl->zd
def GK:List UInt8->List UInt8
 | []=>[]
 | x::t=>if x=47 then t else GK t
def BM (l:List UInt8):List UInt8:=(GK l.reverse).reverse
theorem Oh (l:List UInt8) (x:UInt8):BM (l++[x])=if x=47 then l else BM l:=by
 unfold BM;rw[List.reverse_append,List.reverse_singleton,List.singleton_append,GK]
 split
 ·simp
 ·rfl
theorem Ly (l:List UInt8):(BM l).length<=l.length:=by
 have:∀m:List UInt8,(GK m).length<=m.length:=by
  intro m
  induction m with
  | nil=>exact zd _
  | cons x t ih=>rw[GK];split<;>simp<;>omega
 unfold BM;rw[List.length_reverse];have:=this l.reverse;rw[List.length_reverse] at this;exact this
def C4 (l:List UInt8):Nat:=1+(Ba (l.drop 1)).length
def BD (i o:List UInt8):List UInt8×List UInt8 :=
 if zk i [46,46,47]=true then (i.drop 3,o)
 else if zk i [46,47]=true then (i.drop 2,o)
 else if zk i [47,46,47]=true then (i.drop 2,o)
 else if i=[47,46] then ([47],o)
 else if zk i [47,46,46,47]=true then (i.drop 3,BM o)
 else if i=[47,46,46] then ([47],BM o)
 else if i=[46]\/i=[46,46] then ([],o)
 else (i.drop (C4 i),o++i.take (C4 i))
def F1:Nat->List UInt8->List UInt8->List UInt8
 | 0,i,o=>o
 | n+1,i,o=>if i=[] then o else F1 n (BD i o).1 (BD i o).2
def CU (i o:List UInt8):List UInt8:=F1 i.length i o
def BL (l:List UInt8):List UInt8:=CU l []
theorem F8 {s p:List UInt8} (h:zk s p=true):p.length<=s.length:=(List.isPrefixOf_iff_prefix.1 h).length_le
theorem MS {l:List UInt8} (h:l≠[]):C4 l<=l.length/\1<=C4 l:=by
 have:=(FK (l.drop 1)).2;rw[List.length_drop] at this;have h2:l.length≠0:=fun e=>h (qh e);unfold C4;omega
theorem E1 {i o:List UInt8} (h:i≠[]):(BD i o).1.length<i.length:=by
 have h0:i.length≠0:=fun e=>h (qh e);have hs:=MS h;unfold BD
 split
 ·simp;omega
 ·split
  ·simp;omega
  ·split
   ·simp;omega
   ·split
    ·rename_i h4;rw[h4];simp
    ·split
     ·simp;omega
     ·split
      ·rename_i h6;rw[h6];simp
      ·split
       ·simp;omega
       ·simp;omega
theorem Fp {i o:List UInt8}:(BD i o).2.length+(BD i o).1.length<=o.length+i.length:=by
 have h1:=Ly o;unfold BD
 split
 ·simp
 ·split
  ·simp
  ·split
   ·simp
   ·split
    ·rename_i h4;rw[h4];simp
    ·split
     ·simp;omega
     ·split
      ·rename_i h6;rw[h6];simp;omega
      ·split
       ·simp
       ·simp;omega
theorem bJ:∀(n:Nat) (i o:List UInt8),i.length<=n->F1 n i o=F1 i.length i o:=by
 intro n
 induction n using Nat.strongRecOn with
 | _ n ih=>
  intro i o hi;rcases i with _|⟨c,t⟩
  ·cases n with
   | zero=>rfl
   | succ n=>rfl
  ·cases n with
   | zero=>simp at hi
   | succ n=>
    have hl:=E1 (i:=c::t) (o:=o) (by simp);simp only[zl] at hi hl ⊢;rw[F1,F1,if_neg (by simp),if_neg (by simp),ih n (by omega) _ _ (by omega)]
    by_cases e:t.length=n
    ·subst e;rw[ih t.length (by omega) _ _ (by omega)]
    ·rw[ih t.length (by omega) _ _ (by omega)]
theorem JC (o:List UInt8):CU [] o=o:=rfl
theorem EH {i o:List UInt8} (h:i≠[]):CU i o=CU (BD i o).1 (BD i o).2:=by
 have hl:=E1 (o:=o) h;unfold CU;rcases i with _|⟨c,t⟩
 ·exact absurd rfl h
 ·simp only[zl] at hl;rw[zl,F1,if_neg h,bJ t.length _ _ (by omega)]
theorem fI (s:ByteArray) (w:World) (hs:s.size<=maxLen) :
  Calls Tryz.prog 131 #[.string s] w fun e w'=>e=.returned (.string (S (BM s.data.toList)))/\w=w':=by
 unfold maxLen at hs
 go_enter Tryz.func131,Tryz.ntmps131
 go_wp2_with fail
 go_loop [3] (fun i=>∃k:Nat,k<=s.size/\i=.int .i64 ((k:Int) - 1)/\Hid (BM s.data.toList=BM (s.data.toList.take k))) (fun i=>(intOf i+1).toNat)
 case atStart=>exact⟨s.size,zd _,rfl,za (by rw[List.take_of_length_le (by rw[At];omega)])⟩
 case round=>
  obtain⟨k,hk,rfl,HT⟩:=hrel;rcases k with _|k
  ·go_wp2_with fail
   go_ret
   exact⟨K4 (by rw[HT.out];rfl),rfl⟩
  ·have hlt:k<s.size:=by omega
   have hst:=Oh (s.data.toList.take k) s[k];rw[<-Gj s k hlt] at hst;have e1:(((k+1:Nat):Int) - 1)=(k:Int):=by omega
   by_cases hc:s[k]=47
   ·have hb:((s[k].toNat:Int)==47)=true:=by rw[hc];rfl
    have HN:Hid (BM s.data.toList=s.data.toList.take k):=za (by rw[HT.out,hst,if_pos hc]);have HX:=za (FJ s k);clear hst hc;rw[e1];clear e1
    go_wp2_with fail
    go_ret
    exact⟨GN (by rw[HX.out,HN.out]),rfl⟩
   ·have hb:((s[k].toNat:Int)==47)=false:=by
     rw[beq_eq_false_iff_ne];intro e;exact hc (UInt8.toNat_inj.1 (by show s[k].toNat=47;omega))
    have HN:Hid (BM s.data.toList=BM (s.data.toList.take k)):=za (by rw[HT.out,hst,if_neg hc]);clear hst hc;rw[e1];clear e1
    go_wp2_with fail
    go_round
    case rel=>exact⟨k,by omega,rfl,HN⟩
    case measure=>simp[intOf]
theorem iX {w:World} {ops:Array Oper} {o:Oper} {a:Act} {K:Act->World->Prop} {Q:Exit->Act->World->Prop} {E:Prop} (hgd:o.guard=none) (sl x:Operand)
  (ho:o.op=.call { callee:=.builtin .append,args:=#[sl,x],argTypes:=#[25,9] })
  (B:Nat) (v:Value) (l:List UInt8) (hs:a.eval sl=v) (hrow:AX w B v l) (s:ByteArray) (hx:a.eval x=.string s)
  (hlen:l.length+s.size<=140737488355328) (hB:B<=w.heap.size)
  (h:∀v' w',AX w' B v' (l++s.data.toList)->Below B w w'->K (a.put o.dst v') w'):if Region.wanted o (yielded ops a.tmps)=true then Oper.wp Tryz.prog o a w K Q else E:=by
 have hw:Region.wanted o (yielded ops a.tmps)=true:=by simp[Region.wanted,hgd]
 rw[if_pos hw];obtain⟨i0,hi,hz0,hz1,hz2⟩:=info_parts Je;obtain⟨v',w',hrun,h1,h2,_⟩:=Lib.run_append_own_string (P:=Tryz.prog) w B 25 9 o.type 5 i0 Tryz.underlying25 Tryz.underlying9 hi hz0 hz1 hz2 v l.length (bv l) hrow s (by simp only[maxLen];omega) hlen hB;unfold Oper.wp execOp;simp only[ho,resolve,invoke,builtin,Sem.run_bind,Sem.run_pure,Result.andThen_ok,List.map_toArray,List.map_cons,List.map_nil,hs,hx,hrun];exact h v' w' (AX.appended h1 (by rw[TA,Lk]) (by rw[List.length_append,At])) (Lz hrow hB h2)
theorem AX.form {w:World} {B:Nat} {v:Value} {l:List UInt8} (h:AX w B v l) (hl:0<l.length):∃g cap,v=.slice (some ⟨g,0,none⟩) l.length cap/\B<=g/\g<w.heap.size/\l.length<=cap:=by
 rcases h.2 with ⟨rfl,hn⟩|⟨g,cap,cur,rfl,hb,hg,hnc,_⟩
 ·omega
 ·refine⟨g,cap,rfl,hb,?_,hnc⟩;rcases Nat.lt_or_ge g w.heap.size with h1|h1
  ·exact h1
  ·rw[Array.getElem?_eq_none h1] at hg;cases hg
theorem AX.cap {w:World} {B g n cap:Nat} {l:List UInt8} (h:AX w B (.slice (some ⟨g,0,none⟩) n cap) l):n=l.length/\n<=cap/\cap<=maxLen:=by
 rcases h.2 with ⟨e,_⟩|⟨g',cap',cur,e,hb,hg,hnc,hcm,_⟩
 ·simp at e
 ·simp only[Value.slice.injEq] at e;obtain⟨_,rfl,rfl⟩:=e;exact⟨rfl,hnc,hcm⟩
theorem AX.pre {w:World} {B g n cap:Nat} {l:List UInt8} (h:AX w B (.slice (some ⟨g,0,none⟩) n cap) l) (k:Nat) (hk:k<=l.length):AX w B (.slice (some ⟨g,0,none⟩) k cap) (l.take k):=by
 rcases h.2 with ⟨e,_⟩|⟨g',cap',cur,e,hb,hg,hnc,hcm,hcs,ht⟩
 ·simp at e
 ·simp only[Value.slice.injEq] at e;obtain⟨hgg,rfl,rfl⟩:=e;obtain rfl:g=g':=by simpa using hgg
  have hlen:(l.take k).length=k:=by rw[zh];omega
  refine⟨by rw[JK];simp,.inr ⟨g,cap,cur,by rw[hlen],hb,hg,by rw[hlen];omega,hcm,hcs,?_⟩⟩;rw[hlen];have:=congrArg (List.take k) ht;rw[Nat.mul_one] at this ⊢;rw[List.take_take,Nat.min_eq_left hk] at this;rw[this];simp[bv,List.map_take]
theorem Ty (l:List UInt8):BM l=l.take (BM l).length:=by
 have:∀(n:Nat) (l:List UInt8),l.length<=n->BM l=l.take (BM l).length:=by
  intro n
  induction n with
  | zero=>
   intro l hl;obtain rfl:l=[]:=qh (by omega)
   rfl
  | succ n ih=>
   intro l hl;rcases List.eq_nil_or_concat l with rfl|⟨t,x,rfl⟩
   ·rfl
   ·rw[List.concat_eq_append] at hl ⊢;rw[Oh]
    by_cases hx:x=47
    ·rw[if_pos hx];simp
    ·rw[if_neg hx];have h1:=ih t (by simp at hl;omega);have h2:=Ly t;rw[List.take_append_of_le_length h2];exact h1
 exact this _ l (zd _)
theorem Ur (g cap B:Nat) (l:List UInt8) (w:World) (hrow:AX w B (.slice (some ⟨g,0,none⟩) l.length cap) l) (hl:l.length<=1000000) :
  Calls Tryz.prog 209 #[.slice (some ⟨g,0,none⟩) l.length cap] w fun e w'=>e=.returned (.slice (some ⟨g,0,none⟩) (BM l).length cap)/\w=w':=by
 obtain⟨_,hc1,hc2⟩:=hrow.cap;unfold maxLen at hc2;have HR:=za hrow;clear hrow
 go_enter Tryz.func209,Tryz.ntmps209
 go_wp2_with fail
 go_loop [3] (fun i=>∃k:Nat,k<=l.length/\i=.int .i64 ((k:Int) - 1)/\Hid (BM l=BM (l.take k))) (fun i=>(intOf i+1).toNat)
 case atStart=>exact⟨l.length,zd _,rfl,za (by rw[List.take_length])⟩
 case round=>
  obtain⟨k,hk,rfl,HT⟩:=hrel;rcases k with _|k
  ·go_wp2_with fail
   go_ret
   exact⟨by rw[HT.out];rfl,rfl⟩
  ·have hlt:k<l.length:=by omega
   have hst:=Oh (l.take k) l[k];rw[<-List.take_succ_eq_append_getElem hlt] at hst;have hcell:=HR.out.cell k hlt;have e1:(((k+1:Nat):Int) - 1)=(k:Int):=by omega
   have hkl:(l.take k).length=k:=by rw[zh];omega
   generalize l[k]=x at *
   by_cases hc:x=47
   ·have hb:((x.toNat:Int)==47)=true:=by rw[hc];rfl
    have HN:Hid ((BM l).length=k):=za (by rw[HT.out,hst,if_pos hc,hkl]);clear hst hc hkl;rw[e1];clear e1
    go_wp2_with fail
    go_ret
    exact⟨by rw[HN.out];rfl,rfl⟩
   ·have hb:((x.toNat:Int)==47)=false:=by
     rw[beq_eq_false_iff_ne];intro e;exact hc (UInt8.toNat_inj.1 (by show x.toNat=47;omega))
    have HN:Hid (BM l=BM (l.take k)):=za (by rw[HT.out,hst,if_neg hc]);clear hst hc hkl;rw[e1];clear e1
    go_wp2_with fail
    go_round
    case rel=>exact⟨k,by omega,rfl,HN⟩
    case measure=>simp[intOf]
theorem FM {l m:List UInt8} (h:(l==m)=false):¬l=m:=by rw[beq_eq_false_iff_ne] at h;exact h
end Go.Proofs.YtbeoijfmfkifeaaGreatDoor
namespace Go.Proofs.YtbeoijfmfkifeaaGreatDoor
open Go.RowKit
open Lib renaming hasPrefix->zk, hid->za
attribute [local go_sem ↓] Go.wp_at_zero Go.wp_at_succ
set_option maxHeartbeats 8000000 in
theorem aV (s:ByteArray) (w:World) (hs:s.size<=1000000) :
  Calls Tryz.prog 174 #[.string s] w fun e w'=>e=.returned (.string (S (BL s.data.toList)))/\Qb w w':=by
 have hmk:=fun W=>Lc s.size (by omega) W
 go_enter Tryz.func174,Tryz.ntmps174
 go_wp2_with fail
 go_region
 go_wp2_with fail
 clear hmk
 go_loopw [3,4,5] (fun x y _ wr=>∃(i o:List UInt8) (g cap:Nat),o.length+i.length<=s.size/\x=.string (S i)/\y=.slice (some ⟨g,0,none⟩) o.length cap/\AX wr w.heap.size (.slice (some ⟨g,0,none⟩) o.length cap) o/\Hid (BL s.data.toList=CU i o)/\Qb w wr) (fun x _ _ _=>Ph x)
 case atStart=>exact⟨s.data.toList,[],w.heap.size,s.size,by rw[At];simp,rfl,rfl,(JJ w _ 0 _ (Nat.le_refl _) (Nat.zero_le _) (by omega)).drew,za rfl,((Qb.refl w).alloc _).drew⟩
 case round=>
  obtain⟨i,o,g,cap,hl,rfl,rfl,hrow,HD,hq⟩:=hrel;have hB:w.heap.size<=wr.heap.size:=hq.size;rcases i with _|⟨c,t⟩
  ·have hst:=Hk hrow;clear hrow
   go_wp2_with fail
   go_ret
   exact⟨K4 (by rw[HD.out,JC]),hq⟩
  ·generalize hi:c::t=i at *;have hi0:i≠[]:=by rw[<-hi];simp
   have hne:i.isEmpty=false:=by rw[<-hi];rfl
   clear hi;have hml:(S i).size<=maxLen:=by unfold maxLen;rw[Am];omega
   have hil:i.length<=1000000:=by omega
   have hol:o.length<=1000000:=by omega
   rcases p1:zk i [46,46,47] with _|_
   ·rcases p2:zk i [46,47] with _|_
    ·rcases p3:zk i [47,46,47] with _|_
     ·rcases e4:(i==[47,46]) with _|_
      ·rcases p5:zk i [47,46,46,47] with _|_
       ·rcases e6:(i==[47,46,46]) with _|_
        ·rcases e7:(i==[46]) with _|_
         ·rcases e8:(i==[46,46]) with _|_
          ·have HS:Hid (BD i o=(i.drop (C4 i),o++i.take (C4 i))):=za (by unfold BD;rw[if_neg (by rw[p1];exact Bool.false_ne_true),if_neg (by rw[p2];exact Bool.false_ne_true),if_neg (by rw[p3];exact Bool.false_ne_true),if_neg (FM e4),if_neg (by rw[p5];exact Bool.false_ne_true),if_neg (FM e6),if_neg (fun h=>h.elim (FM e7) (FM e8))]);have hlt:=E1 (o:=o) hi0;have hout:=Fp (i:=i) (o:=o);rw[HS.out] at hlt hout;simp only at hlt hout;have HN:Hid (BL s.data.toList=CU (i.drop (C4 i)) (o++i.take (C4 i))):=za (by rw[HD.out,EH hi0,HS.out]);have hseg:=MS hi0;have hx1:=EI (S i) 1;rw[Am,Ao] at hx1;have HX1:=za hx1;have hx2:=EI (S i) (C4 i);rw[Am,Ao] at hx2;have hx3:=FJ (S i) (C4 i);rw[Ao] at hx3;have HXS:=za hx2;have HXP:=za hx3;have hdl:(i.drop 1).length<=1000000:=by rw[List.length_drop];omega
           have hsg:(1:Int)+((Ba (i.drop 1)).length:Int)=(C4 i:Int):=by unfold C4;omega
           have HSG:=za hsg;clear hx1 hx2 hx3 hsg;have Hp1:=za p1;have Hp2:=za p2;have Hp3:=za p3;have Hp5:=za p5;clear p1 p2 p3 p5
           go_wp2_with fail
           refine(Tryz.strings_HasPrefix _ _ _).mono ?_;rintro e w1 ⟨rfl,rfl⟩;rw[Ao,show zk i ({ data:=#[46,46,47] }:ByteArray).data.toList=false from Hp1.out]
           go_wp2_with fail
           refine(Tryz.strings_HasPrefix _ _ _).mono ?_;rintro e w1 ⟨rfl,rfl⟩;rw[Ao,show zk i ({ data:=#[46,47] }:ByteArray).data.toList=false from Hp2.out]
           go_wp2_with fail
           refine(Tryz.strings_HasPrefix _ _ _).mono ?_;rintro e w1 ⟨rfl,rfl⟩;rw[Ao,show zk i ({ data:=#[47,46,47] }:ByteArray).data.toList=false from Hp3.out]
           go_wp2_with fail
           refine(Tryz.strings_HasPrefix _ _ _).mono ?_;rintro e w1 ⟨rfl,rfl⟩;rw[Ao,show zk i ({ data:=#[47,46,46,47] }:ByteArray).data.toList=false from Hp5.out]
           go_wp2_with fail
           rw[HX1.out];refine(OC _ _ (by unfold maxLen;rw[Am];omega)).mono ?_;rintro e w1 ⟨rfl,hq1⟩;rw[Ao];have hrow1:=hrow.below hq1;have hB1:w.heap.size<=w1.heap.size:=Nat.le_trans hB hq1.size;have hfl:=(FK (i.drop 1)).2;generalize hfa:Ba (i.drop 1)=fa at *;have HFA:=za hfa;clear hfa;have q0:(1:Int)+(fa.length:Int)=(C4 i:Int):=HSG.out;generalize hsn:C4 i=sg at *;clear hsn;have q1:(0:Int)<=(sg:Int):=by omega
           have q2:(sg:Int)<=(i.length:Int):=by omega
           have q3:(i.take sg).length<=sg:=List.length_take_le _ _
           go_wp2_with fail
           go_region_held_law (fun w'=>True) (first|trivial|go_keep) ((refine iX (o:=⟨some 24,_,_,_,_,_⟩) (by rfl) (.tmp 20) (.tmp 23) (by rfl) w.heap.size _ o (by rfl) (AX.drew hrow1) _ (by rfl) (by rw[HXP.out,Am];omega) (by simp;omega) ?_;intro v1 w2 hr1 hb1))
           rw[HXP.out,Ao] at hr1;obtain⟨oo,hoo⟩:∃oo,oo=o++i.take sg:=⟨_,rfl⟩;rw[<-hoo] at hr1;have HN2:Hid (BL s.data.toList=CU (i.drop sg) oo):=za (by rw[hoo];exact HN.out);have hoo1:oo.length+(i.drop sg).length<=s.size:=by rw[hoo];omega
           have hoo2:0<oo.length:=by rw[hoo,List.length_append,List.length_take];omega
           clear hoo HN hout;obtain⟨g1,cap1,rfl,_⟩:=hr1.form hoo2
           go_wp2_with fail
           go_roundw
           case rel=>exact⟨_,_,_,_,hoo1,congrArg Value.string HXS.out,rfl,hr1,HN2,Below.trans ((hq.trans hq1).drew) hb1⟩
           case measure=>rw[HXS.out,Dw,Dw,Am,Am];exact hlt
          ·have HS:Hid (BD i o=([],o)):=za (by unfold BD;rw[if_neg (by rw[p1];exact Bool.false_ne_true),if_neg (by rw[p2];exact Bool.false_ne_true),if_neg (by rw[p3];exact Bool.false_ne_true),if_neg (FM e4),if_neg (by rw[p5];exact Bool.false_ne_true),if_neg (FM e6),if_pos (.inr (eq_of_beq e8))]);have hlt:=E1 (o:=o) hi0;have hout:=Fp (i:=i) (o:=o);rw[HS.out] at hlt hout;simp only at hlt hout;have HN:Hid (BL s.data.toList=CU ([]) (o)):=za (by rw[HD.out,EH hi0,HS.out]);have Hp1:=za p1;have Hp2:=za p2;have Hp3:=za p3;have Hp5:=za p5;clear p1 p2 p3 p5
           go_wp2_with fail
           refine(Tryz.strings_HasPrefix _ _ _).mono ?_;rintro e w1 ⟨rfl,rfl⟩;rw[Ao,show zk i ({ data:=#[46,46,47] }:ByteArray).data.toList=false from Hp1.out]
           go_wp2_with fail
           refine(Tryz.strings_HasPrefix _ _ _).mono ?_;rintro e w1 ⟨rfl,rfl⟩;rw[Ao,show zk i ({ data:=#[46,47] }:ByteArray).data.toList=false from Hp2.out]
           go_wp2_with fail
           refine(Tryz.strings_HasPrefix _ _ _).mono ?_;rintro e w1 ⟨rfl,rfl⟩;rw[Ao,show zk i ({ data:=#[47,46,47] }:ByteArray).data.toList=false from Hp3.out]
           go_wp2_with fail
           refine(Tryz.strings_HasPrefix _ _ _).mono ?_;rintro e w1 ⟨rfl,rfl⟩;rw[Ao,show zk i ({ data:=#[47,46,46,47] }:ByteArray).data.toList=false from Hp5.out]
           go_wp2_with fail
           go_roundw
           case rel=>exact⟨_,_,_,_,by omega,rfl,rfl,hrow,HN,hq⟩
           case measure=>rw[Dw,Dw,Am];exact hlt
         ·have HS:Hid (BD i o=([],o)):=za (by unfold BD;rw[if_neg (by rw[p1];exact Bool.false_ne_true),if_neg (by rw[p2];exact Bool.false_ne_true),if_neg (by rw[p3];exact Bool.false_ne_true),if_neg (FM e4),if_neg (by rw[p5];exact Bool.false_ne_true),if_neg (FM e6),if_pos (.inl (eq_of_beq e7))]);have hlt:=E1 (o:=o) hi0;have hout:=Fp (i:=i) (o:=o);rw[HS.out] at hlt hout;simp only at hlt hout;have HN:Hid (BL s.data.toList=CU ([]) (o)):=za (by rw[HD.out,EH hi0,HS.out]);have Hp1:=za p1;have Hp2:=za p2;have Hp3:=za p3;have Hp5:=za p5;clear p1 p2 p3 p5
          go_wp2_with fail
          refine(Tryz.strings_HasPrefix _ _ _).mono ?_;rintro e w1 ⟨rfl,rfl⟩;rw[Ao,show zk i ({ data:=#[46,46,47] }:ByteArray).data.toList=false from Hp1.out]
          go_wp2_with fail
          refine(Tryz.strings_HasPrefix _ _ _).mono ?_;rintro e w1 ⟨rfl,rfl⟩;rw[Ao,show zk i ({ data:=#[46,47] }:ByteArray).data.toList=false from Hp2.out]
          go_wp2_with fail
          refine(Tryz.strings_HasPrefix _ _ _).mono ?_;rintro e w1 ⟨rfl,rfl⟩;rw[Ao,show zk i ({ data:=#[47,46,47] }:ByteArray).data.toList=false from Hp3.out]
          go_wp2_with fail
          refine(Tryz.strings_HasPrefix _ _ _).mono ?_;rintro e w1 ⟨rfl,rfl⟩;rw[Ao,show zk i ({ data:=#[47,46,46,47] }:ByteArray).data.toList=false from Hp5.out]
          go_wp2_with fail
          go_roundw
          case rel=>exact⟨_,_,_,_,by omega,rfl,rfl,hrow,HN,hq⟩
          case measure=>rw[Dw,Dw,Am];exact hlt
        ·have HS:Hid (BD i o=([47],BM o)):=za (by unfold BD;rw[if_neg (by rw[p1];exact Bool.false_ne_true),if_neg (by rw[p2];exact Bool.false_ne_true),if_neg (by rw[p3];exact Bool.false_ne_true),if_neg (FM e4),if_neg (by rw[p5];exact Bool.false_ne_true),if_pos (eq_of_beq e6)]);have hlt:=E1 (o:=o) hi0;have hout:=Fp (i:=i) (o:=o);rw[HS.out] at hlt hout;simp only at hlt hout;have HN:Hid (BL s.data.toList=CU ([47]) (BM o)):=za (by rw[HD.out,EH hi0,HS.out]);have Hp1:=za p1;have Hp2:=za p2;have Hp3:=za p3;have Hp5:=za p5;clear p1 p2 p3 p5
         go_wp2_with fail
         refine(Tryz.strings_HasPrefix _ _ _).mono ?_;rintro e w1 ⟨rfl,rfl⟩;rw[Ao,show zk i ({ data:=#[46,46,47] }:ByteArray).data.toList=false from Hp1.out]
         go_wp2_with fail
         refine(Tryz.strings_HasPrefix _ _ _).mono ?_;rintro e w1 ⟨rfl,rfl⟩;rw[Ao,show zk i ({ data:=#[46,47] }:ByteArray).data.toList=false from Hp2.out]
         go_wp2_with fail
         refine(Tryz.strings_HasPrefix _ _ _).mono ?_;rintro e w1 ⟨rfl,rfl⟩;rw[Ao,show zk i ({ data:=#[47,46,47] }:ByteArray).data.toList=false from Hp3.out]
         go_wp2_with fail
         refine(Tryz.strings_HasPrefix _ _ _).mono ?_;rintro e w1 ⟨rfl,rfl⟩;rw[Ao,show zk i ({ data:=#[47,46,46,47] }:ByteArray).data.toList=false from Hp5.out];have hrow1:=hrow.pre (BM o).length (Ly o);rw[<-Ty] at hrow1
         go_wp2_with fail
         refine(Ur g cap _ o _ hrow (by omega)).mono ?_;rintro e w1 ⟨rfl,rfl⟩
         go_wp2_with fail
         go_roundw
         case rel=>exact⟨_,_,_,_,by omega,rfl,rfl,hrow1,HN,hq⟩
         case measure=>rw[Dw,Dw,Am];exact hlt
       ·have HS:Hid (BD i o=(i.drop 3,BM o)):=za (by unfold BD;rw[if_neg (by rw[p1];exact Bool.false_ne_true),if_neg (by rw[p2];exact Bool.false_ne_true),if_neg (by rw[p3];exact Bool.false_ne_true),if_neg (FM e4),if_pos p5]);have hlt:=E1 (o:=o) hi0;have hout:=Fp (i:=i) (o:=o);rw[HS.out] at hlt hout;simp only at hlt hout;have HN:Hid (BL s.data.toList=CU (i.drop 3) (BM o)):=za (by rw[HD.out,EH hi0,HS.out]);have hp3:3<=i.length:=by have:=F8 p5;simp at this;omega
        have hx:=EI (S i) 3;rw[Am,Ao] at hx;have HX:=za hx;clear hx;have Hp1:=za p1;have Hp2:=za p2;have Hp3:=za p3;have Hp5:=za p5;clear p1 p2 p3 p5
        go_wp2_with fail
        refine(Tryz.strings_HasPrefix _ _ _).mono ?_;rintro e w1 ⟨rfl,rfl⟩;rw[Ao,show zk i ({ data:=#[46,46,47] }:ByteArray).data.toList=false from Hp1.out]
        go_wp2_with fail
        refine(Tryz.strings_HasPrefix _ _ _).mono ?_;rintro e w1 ⟨rfl,rfl⟩;rw[Ao,show zk i ({ data:=#[46,47] }:ByteArray).data.toList=false from Hp2.out]
        go_wp2_with fail
        refine(Tryz.strings_HasPrefix _ _ _).mono ?_;rintro e w1 ⟨rfl,rfl⟩;rw[Ao,show zk i ({ data:=#[47,46,47] }:ByteArray).data.toList=false from Hp3.out]
        go_wp2_with fail
        refine(Tryz.strings_HasPrefix _ _ _).mono ?_;rintro e w1 ⟨rfl,rfl⟩;rw[Ao,show zk i ({ data:=#[47,46,46,47] }:ByteArray).data.toList=true from Hp5.out];have hrow1:=hrow.pre (BM o).length (Ly o);rw[<-Ty] at hrow1
        go_wp2_with fail
        go_quiet ((go_at_call 209;exact JN (Ur g cap _ o _ (hrow.drewN _) (by omega))))
        go_wp2_with fail
        go_roundw
        case rel=>exact⟨_,_,_,_,by omega,congrArg Value.string HX.out,rfl,hrow1.drewN _,HN,hq.drewN _⟩
        case measure=>rw[HX.out,Dw,Dw,Am,Am];exact hlt
      ·have HS:Hid (BD i o=([47],o)):=za (by unfold BD;rw[if_neg (by rw[p1];exact Bool.false_ne_true),if_neg (by rw[p2];exact Bool.false_ne_true),if_neg (by rw[p3];exact Bool.false_ne_true),if_pos (eq_of_beq e4)]);have hlt:=E1 (o:=o) hi0;have hout:=Fp (i:=i) (o:=o);rw[HS.out] at hlt hout;simp only at hlt hout;have HN:Hid (BL s.data.toList=CU ([47]) (o)):=za (by rw[HD.out,EH hi0,HS.out]);have Hp1:=za p1;have Hp2:=za p2;have Hp3:=za p3;clear p1 p2 p3
       go_wp2_with fail
       refine(Tryz.strings_HasPrefix _ _ _).mono ?_;rintro e w1 ⟨rfl,rfl⟩;rw[Ao,show zk i ({ data:=#[46,46,47] }:ByteArray).data.toList=false from Hp1.out]
       go_wp2_with fail
       refine(Tryz.strings_HasPrefix _ _ _).mono ?_;rintro e w1 ⟨rfl,rfl⟩;rw[Ao,show zk i ({ data:=#[46,47] }:ByteArray).data.toList=false from Hp2.out]
       go_wp2_with fail
       refine(Tryz.strings_HasPrefix _ _ _).mono ?_;rintro e w1 ⟨rfl,rfl⟩;rw[Ao,show zk i ({ data:=#[47,46,47] }:ByteArray).data.toList=false from Hp3.out]
       go_wp2_with fail
       go_roundw
       case rel=>exact⟨_,_,_,_,by omega,rfl,rfl,hrow,HN,hq⟩
       case measure=>rw[Dw,Dw,Am];exact hlt
     ·have HS:Hid (BD i o=(i.drop 2,o)):=za (by unfold BD;rw[if_neg (by rw[p1];exact Bool.false_ne_true),if_neg (by rw[p2];exact Bool.false_ne_true),if_pos p3]);have hlt:=E1 (o:=o) hi0;have hout:=Fp (i:=i) (o:=o);rw[HS.out] at hlt hout;simp only at hlt hout;have HN:Hid (BL s.data.toList=CU (i.drop 2) (o)):=za (by rw[HD.out,EH hi0,HS.out]);have hp2:2<=i.length:=by have:=F8 p3;simp at this;omega
      have hx:=EI (S i) 2;rw[Am,Ao] at hx;have HX:=za hx;clear hx;have Hp1:=za p1;have Hp2:=za p2;have Hp3:=za p3;clear p1 p2 p3
      go_wp2_with fail
      refine(Tryz.strings_HasPrefix _ _ _).mono ?_;rintro e w1 ⟨rfl,rfl⟩;rw[Ao,show zk i ({ data:=#[46,46,47] }:ByteArray).data.toList=false from Hp1.out]
      go_wp2_with fail
      refine(Tryz.strings_HasPrefix _ _ _).mono ?_;rintro e w1 ⟨rfl,rfl⟩;rw[Ao,show zk i ({ data:=#[46,47] }:ByteArray).data.toList=false from Hp2.out]
      go_wp2_with fail
      refine(Tryz.strings_HasPrefix _ _ _).mono ?_;rintro e w1 ⟨rfl,rfl⟩;rw[Ao,show zk i ({ data:=#[47,46,47] }:ByteArray).data.toList=true from Hp3.out]
      go_wp2_with fail
      go_roundw
      case rel=>exact⟨_,_,_,_,by omega,congrArg Value.string HX.out,rfl,hrow,HN,hq⟩
      case measure=>rw[HX.out,Dw,Dw,Am,Am];exact hlt
    ·have HS:Hid (BD i o=(i.drop 2,o)):=za (by unfold BD;rw[if_neg (by rw[p1];exact Bool.false_ne_true),if_pos p2]);have hlt:=E1 (o:=o) hi0;have hout:=Fp (i:=i) (o:=o);rw[HS.out] at hlt hout;simp only at hlt hout;have HN:Hid (BL s.data.toList=CU (i.drop 2) (o)):=za (by rw[HD.out,EH hi0,HS.out]);have hp2:2<=i.length:=by have:=F8 p2;simp at this;omega
     have hx:=EI (S i) 2;rw[Am,Ao] at hx;have HX:=za hx;clear hx;have Hp1:=za p1;have Hp2:=za p2;clear p1 p2
     go_wp2_with fail
     refine(Tryz.strings_HasPrefix _ _ _).mono ?_;rintro e w1 ⟨rfl,rfl⟩;rw[Ao,show zk i ({ data:=#[46,46,47] }:ByteArray).data.toList=false from Hp1.out]
     go_wp2_with fail
     refine(Tryz.strings_HasPrefix _ _ _).mono ?_;rintro e w1 ⟨rfl,rfl⟩;rw[Ao,show zk i ({ data:=#[46,47] }:ByteArray).data.toList=true from Hp2.out]
     go_wp2_with fail
     go_roundw
     case rel=>exact⟨_,_,_,_,by omega,congrArg Value.string HX.out,rfl,hrow,HN,hq⟩
     case measure=>rw[HX.out,Dw,Dw,Am,Am];exact hlt
   ·have HS:Hid (BD i o=(i.drop 3,o)):=za (by unfold BD;rw[if_pos p1]);have hlt:=E1 (o:=o) hi0;have hout:=Fp (i:=i) (o:=o);rw[HS.out] at hlt hout;simp only at hlt hout;have HN:Hid (BL s.data.toList=CU (i.drop 3) (o)):=za (by rw[HD.out,EH hi0,HS.out]);have hp3:3<=i.length:=by have:=F8 p1;simp at this;omega
    have hx:=EI (S i) 3;rw[Am,Ao] at hx;have HX:=za hx;clear hx;have Hp1:=za p1;clear p1
    go_wp2_with fail
    refine(Tryz.strings_HasPrefix _ _ _).mono ?_;rintro e w1 ⟨rfl,rfl⟩;rw[Ao,show zk i ({ data:=#[46,46,47] }:ByteArray).data.toList=true from Hp1.out]
    go_wp2_with fail
    go_roundw
    case rel=>exact⟨_,_,_,_,by omega,congrArg Value.string HX.out,rfl,hrow,HN,hq⟩
    case measure=>rw[HX.out,Dw,Dw,Am,Am];exact hlt
end Go.Proofs.YtbeoijfmfkifeaaGreatDoor
namespace Go.Proofs.YtbeoijfmfkifeaaGreatDoor
open Go.RowKit Sx
open Int renaming toNat_natCast->zm
open Lib renaming hasPrefix->zk
open List renaming getD_eq_getElem?_getD->jz, getElem?_eq_getElem->zq, getElem?_set->zb, length_drop->zt, length_take->zh, take_length->qc
section
attribute [local irreducible] run
theorem Yo {s i r i' r':List UInt8} (hi:i≠[]) (hl:r.length+i.length<=s.length) (hd:BL s=CU i r) (h:BD i r=(i',r')):i'.length<i.length/\BL s=CU i' r'/\r'.length+i'.length<=s.length:=by
 have h1:=E1 (o:=r) hi;have h2:=Fp (i:=i) (o:=r);have h3:=EH (o:=r) hi;rw[h] at h1 h2 h3;exact⟨h1,by rw[hd,h3],by dsimp only at h2;omega⟩
section
variable [Tabs Tryz.prog] {objs:List OB} {K:List OB->AV->Prop}
theorem Rv (s:List UInt8) (hs:s.length<=maxLen) (hk:K objs (.s (BM s))):Ai Tryz.prog 131 [.s s] objs K :=
 FY (vs:=[.string (S s)]) rfl rfl (fun w=>fI (S s) w (by rw[Am];exact hs)) hk
theorem Zj (s:List UInt8) (hs:s.length<=1000000) (hk:K objs (.s (BL s))):Ai Tryz.prog 100 [.s s] objs K:=by
 have hm:maxLen=2 ^ 63 - 1:=rfl;refine AI kF rfl fun C _=>?_;rw[UK];simp only[Aa,simprocAttr];refine BI (fun n o t=>∃i r,o=[]/\n=i.length/\BL s=CU i r/\r.length+i.length<=s.length/\t.length=59/\t[3]? = some (.s i)/\t[4]? = some (.s r)) s.length ⟨s,[],rfl,rfl,rfl,by simp,rfl,rfl,rfl⟩ ?_;rintro n _ t ⟨i,r,rfl,rfl,hd,hl,hlen,t3,t4⟩
 by_cases hi:i=[]
 ·subst hi;rw[hd,JC] at hk;simp only[Aa,simprocAttr,zb,hlen,t3,t4];exact hk
 have hq:=fun {i' r'}=>Yo (i':=i') (r':=r') hi hl hd;unfold BD at hq;simp only[Aa,simprocAttr,zb,hlen,t3,t4,hi];refine Ag (ID i [46,46,47] (by omega) ?_)
 cases p1:zk i [46,46,47] with
 | true=>
  rw[if_pos p1] at hq;have hn:=F8 p1;obtain⟨q1,q2,q3⟩:=hq rfl;simp only[Aa,simprocAttr,zb,hlen,t3,t4,qc];exact⟨⟨by simp at hn;omega,Int.le_refl _⟩,_,q1,_,_,rfl,q2,q3,rfl,rfl⟩
 | false=>
 rw[if_neg (by rw[p1];exact Bool.false_ne_true)] at hq;simp only[Aa,simprocAttr,zb,hlen,t3,t4];refine Ag (ID i [46,47] (by omega) ?_)
 cases p2:zk i [46,47] with
 | true=>
  rw[if_pos p2] at hq;have hn:=F8 p2;obtain⟨q1,q2,q3⟩:=hq rfl;simp only[Aa,simprocAttr,zb,hlen,t3,t4,qc];exact⟨⟨by simp at hn;omega,Int.le_refl _⟩,_,q1,_,_,rfl,q2,q3,rfl,rfl⟩
 | false=>
 rw[if_neg (by rw[p2];exact Bool.false_ne_true)] at hq;simp only[Aa,simprocAttr,zb,hlen,t3,t4];refine Ag (ID i [47,46,47] (by omega) ?_)
 cases p3:zk i [47,46,47] with
 | true=>
  rw[if_pos p3] at hq;have hn:=F8 p3;obtain⟨q1,q2,q3⟩:=hq rfl;simp only[Aa,simprocAttr,zb,hlen,t3,t4,qc];exact⟨⟨by simp at hn;omega,Int.le_refl _⟩,_,q1,_,_,rfl,q2,q3,rfl,rfl⟩
 | false=>
 rw[if_neg (by rw[p3];exact Bool.false_ne_true)] at hq
 by_cases e4:i=[47,46]
 ·subst e4;rw[if_pos rfl] at hq;obtain⟨q1,q2,q3⟩:=hq rfl;simp only[Aa,simprocAttr,zb,hlen,t3,t4];exact⟨_,q1,_,_,rfl,q2,q3,rfl,rfl⟩
 rw[if_neg e4] at hq;simp only[Aa,simprocAttr,zb,hlen,t3,t4,e4];refine Ag (ID i [47,46,46,47] (by omega) ?_)
 cases p5:zk i [47,46,46,47] with
 | true=>
  rw[if_pos p5] at hq;have hn:=F8 p5;obtain⟨q1,q2,q3⟩:=hq rfl;simp only[Aa,simprocAttr,zb,hlen,t3,t4,qc];refine⟨⟨by simp at hn;omega,Int.le_refl _⟩,Br (Rv r (by omega) ⟨rfl,rfl⟩) ?_⟩;simp only[Aa,simprocAttr,zb,hlen,t3,t4];exact⟨_,q1,_,_,rfl,q2,q3,rfl,rfl⟩
 | false=>
 rw[if_neg (by rw[p5];exact Bool.false_ne_true)] at hq
 by_cases e6:i=[47,46,46]
 ·subst e6;rw[if_pos rfl] at hq;obtain⟨q1,q2,q3⟩:=hq rfl;simp only[Aa,simprocAttr,zb,hlen,t3,t4];refine Ag (Rv r (by omega) ?_);simp only[Aa,simprocAttr,zb,hlen,t3,t4];exact⟨_,q1,_,_,rfl,q2,q3,rfl,rfl⟩
 rw[if_neg e6] at hq
 by_cases e7:i=[46]\/i=[46,46]
 ·rw[if_pos e7] at hq;obtain⟨q1,q2,q3⟩:=hq rfl;rcases e7 with rfl|rfl
  all_goals
   simp only[Aa,simprocAttr,zb,hlen,t3,t4,e6,show ¬([46,46]:List UInt8)=[46] by decide];exact⟨_,q1,_,_,rfl,q2,q3,rfl,rfl⟩
 rw[if_neg e7] at hq;obtain⟨q1,q2,q3⟩:=hq rfl;obtain⟨h1,h2⟩:=MS hi;have e8:¬i=[46]:=fun e=>e7 (.inl e);have e9:¬i=[46,46]:=fun e=>e7 (.inr e);have hf:=(FK (i.drop 1)).2;have hg:(i.drop 1).length=i.length - 1:=zt ..;simp only[Aa,simprocAttr,zb,hlen,t3,t4,e6,e8,e9,qc];refine⟨⟨by omega,Int.le_refl _⟩,Ag (Gc (i.drop 1) [47] (by omega) (by simp;omega) ?_)⟩;rw[show Au (i.drop 1) [47]=(Ba (i.drop 1)).length from Iw 47 _];have e0:((1:Int)+((Ba (i.drop 1)).length:Int))=(C4 i:Nat):=by unfold C4;omega
 simp only[Aa,simprocAttr,zb,hlen,t3,t4,e0,zm,qc];exact⟨⟨by omega,by omega⟩,⟨by omega,by omega,by omega⟩,⟨by omega,by omega⟩,by rw[zh];omega,_,q1,_,_,rfl,q2,q3,rfl,rfl⟩
end
end
section
variable [Tabs Tryz.prog] {objs:List OB} {K:List OB->AV->Prop}
theorem XD (s:List UInt8) (hs:s.length<=1000000) (hk:K objs (.s (BL s))):Ai Tryz.prog 174 [.s s] objs K :=
 conv (vs:=[.string (S s)]) rfl rfl (fun w=>aV (S s) w (by rw[Am];exact hs)) hk
theorem aF (s:List UInt8) (hs:s.length<=maxLen) (hk:K objs (.b (Ed s))):Ai Tryz.prog 129 [.s s] objs K :=
 FY (vs:=[.string (S s)]) rfl rfl (fun w=>eX (S s) w (by rw[Am];exact hs)) hk
end
theorem Lm (x:UInt8) (t set:List UInt8):Au (x::t) set=if Aw x set=true then 0 else Au t set+1:=by
 unfold Au;rw[List.findIdx_cons]
 cases Aw x set<;>rfl
theorem Ho (c:UInt8):∀l:List UInt8,(Au l [c]<l.length->Af c l=(l.take (Au l [c]),l.drop (Au l [c]+1),true))/\(¬Au l [c]<l.length->Af c l=(l,[],false))
 | []=>⟨fun h=>absurd h (by simp),fun _=>rfl⟩
 | x::t=>by
  have ih:=Ho c t;rw[Lm,Gf]
  by_cases hx:x=c
  ·subst hx;have:Aw x [x]=true:=by simp[Aw]
   rw[if_pos this,if_pos rfl];exact⟨fun _=>by simp,fun h=>absurd (by simp) h⟩
  ·have:¬Aw x [c]=true:=by simp[Aw,hx]
   rw[if_neg this,if_neg hx];refine⟨fun h=>?_,fun h=>?_⟩
   ·rw[ih.1 (by simp at h;omega)];simp
   ·rw[ih.2 (by simp at h ⊢;omega)]
theorem bL (x:UInt8) (t:List UInt8):Ba (x::t)=if x=47 then [] else x::Ba t:=by
 unfold Ba;rw[Gf]
 split<;>rfl
theorem MR:∀l:List UInt8,(∀h:Au l [58,47]<l.length,l[Au l [58,47]]=58->(Af 58 (Ba l)).1=l.take (Au l [58,47])/\(Af 58 (Ba l)).1.length=Au l [58,47]/\(Af 58 (Ba l)).2.2=true) /\
  ((∀h:Au l [58,47]<l.length,l[Au l [58,47]]≠58)->(Af 58 (Ba l)).2.2=false)
 | []=>⟨fun h=>absurd h (by simp),fun _=>rfl⟩
 | x::t=>by
  have ih:=MR t;rw[bL]
  by_cases h47:x=47
  ·subst h47;have e:Au (47::t) [58,47]=0:=by rw[Lm,if_pos (by decide)]
   rw[if_pos rfl];refine⟨fun h he=>?_,fun _=>rfl⟩;simp only[e] at he;exact absurd he (by simp)
  ·rw[if_neg h47,Gf]
   by_cases h58:x=58
   ·subst h58;have e:Au (58::t) [58,47]=0:=by rw[Lm,if_pos (by decide)]
    rw[if_pos rfl];refine⟨fun h he=>by simp[e],fun h=>?_⟩;exact absurd (by simp[e]) (h (by simp[e]))
   ·have e:Au (x::t) [58,47]=Au t [58,47]+1:=by rw[Lm,if_neg (by simp[Aw,h47,h58])]
    rw[if_neg h58];simp only[e];refine⟨fun h he=>?_,fun h=>?_⟩
    ·obtain⟨h1,h2,h3⟩:=ih.1 (by simp at h;omega) (by simpa using he);exact⟨by simp[h1],by simp[h2],h3⟩
    ·exact ih.2 (fun h'=>by have:=h (by simp;omega);simpa using this)
theorem XV (R:List UInt8):(R.take (2+(((Ba (R.drop 2)).length:Nat):Int)).toNat).drop 2=Ba (R.drop 2):=by
 have hfe:=(FK (R.drop 2)).1;rw[show (2+(((Ba (R.drop 2)).length:Nat):Int)).toNat=2+(Ba (R.drop 2)).length by omega,<-List.take_drop,<-hfe]
theorem Z2 (R:List UInt8):R.drop (2+(((Ba (R.drop 2)).length:Nat):Int)).toNat=(R.drop 2).drop (Ba (R.drop 2)).length:=by
 rw[show (2+(((Ba (R.drop 2)).length:Nat):Int)).toNat=2+(Ba (R.drop 2)).length by omega,List.drop_drop]
def uJ (sc au fr qu:List UInt8) (hs ha hq hf:Bool) (r:List UInt8) (o:List OB) (t:List AV):Prop :=
 o=[.box 150 [.s [],.s [],.s [],.s [],.s [],.b false,.b false,.b false,.b false],.box 150 [.s sc,.s au,.s [],.s qu,.s fr,.b hs,.b ha,.b hq,.b hf]]/\t.length=87/\t[0]? = some (.s r)/\t[2]? = some (.p 0 0)/\t[4]? = some (.p 1 0)
section
variable [Tabs Tryz.prog] {objs:List OB} {K:List OB->AV->Prop}
theorem aG (s:List UInt8) (hs:s.length<=140737488351232) (hk:K objs (.tup [DF (AQ s).2,.i .i64 (AQ s).1])):Ai Tryz.prog 98 [.s s] objs K:=by
 have hm:maxLen=2 ^ 63 - 1:=rfl;refine AI gY rfl fun C _=>?_;rw[T6];refine Ae fun Z hZ=>?_;simp only[Aa,simprocAttr];subst hZ;refine Ae fun Z hZ=>?_
 by_cases hb:16384<s.length
 ·have hb':(16384:Int)<s.length:=by omega
  unfold AQ at hk;rw[if_pos hb] at hk;simp only[Aa,simprocAttr,hb'];exact hk
 have hb':¬(16384:Int)<s.length:=by omega
 simp only[Aa,simprocAttr,hb'];subst hZ;refine Ae fun Z hZ=>?_;simp only[Aa,simprocAttr];subst hZ;refine Ae fun Z hZ=>?_;refine CV (fun o t=>∃(l1 fr:List UInt8) (bf:Bool),Af 35 s=(l1,fr,bf)/\l1.length<=s.length/\uJ [] [] fr [] false false false bf l1 o t) ?_ ?_
 ·refine Ae fun Y hY=>?_;simp only[Aa,simprocAttr];refine Ag (Gc s [35] (by omega) (by simp;omega) ?_);simp only[Aa,simprocAttr];subst hY;have c:=Ho 35 s
  by_cases h:Au s [35]<s.length
  ·have h':((Au s [35]:Nat):Int)<s.length:=by omega
   have e1:((Au s [35]:Int)+1).toNat=Au s [35]+1:=by omega
   simp only[Aa,simprocAttr,h',c.1 h,Bw,zm,e1,qc];exact⟨⟨by omega,by omega⟩,⟨by omega,by omega,by omega⟩,⟨by omega,by omega⟩,_,_,_,rfl,by rw[zh];omega,rfl,rfl,rfl,rfl,rfl⟩
  ·have h':¬((Au s [35]:Nat):Int)<s.length:=by omega
   simp only[Aa,simprocAttr,h',c.2 h,Bw];exact⟨_,_,_,rfl,Nat.le_refl _,rfl,rfl,rfl,rfl,rfl⟩
 rintro _ t ⟨l1,fr,bf,e35,hl1,rfl,hlen,t0,t2,t4⟩;subst hZ;refine Ae fun Z hZ=>?_;refine CV (fun o t=>∃(l2 qu:List UInt8) (bq:Bool),Af 63 l1=(l2,qu,bq)/\l2.length<=s.length/\uJ [] [] fr qu false false bq bf l2 o t) ?_ ?_
 ·refine Ae fun Y hY=>?_;simp only[Aa,simprocAttr,zb,hlen,t0,t2,t4];refine Ag (Gc l1 [63] (by omega) (by simp;omega) ?_);simp only[Aa,simprocAttr,zb,hlen,t0,t2,t4];subst hY;have c:=Ho 63 l1
  by_cases h:Au l1 [63]<l1.length
  ·have h':((Au l1 [63]:Nat):Int)<l1.length:=by omega
   have e1:((Au l1 [63]:Int)+1).toNat=Au l1 [63]+1:=by omega
   simp only[Aa,simprocAttr,zb,hlen,t0,t2,t4,h',c.1 h,Bw,zm,e1,qc,uJ];exact⟨⟨by omega,by omega⟩,⟨by omega,by omega,by omega⟩,⟨by omega,by omega⟩,_,_,_,rfl,by rw[zh];omega,rfl,rfl⟩
  ·have h':¬((Au l1 [63]:Nat):Int)<l1.length:=by omega
   simp only[Aa,simprocAttr,zb,hlen,t0,t2,t4,h',c.2 h,Bw,uJ];exact⟨_,_,_,rfl,hl1,rfl,rfl⟩
 clear hlen t0 t2 t4;rintro _ t ⟨l2,qu,bq,e63,hl2,rfl,hlen,t0,t2,t4⟩;rw[Tz hb e35 e63] at hk;subst hZ;refine Ae fun Z hZ=>?_;refine CV (fun o t=>∃(r sc:List UInt8) (hs:Bool),r.length<=s.length/\K objs (.tup [DF ⟨sc,Db r,D8 r,qu,fr,hs,DV r,bq,bf⟩,.i .i64 0])/\uJ sc [] fr qu hs false bq bf r o t) ?_ ?_
 ·refine Ae fun Y hY=>?_;simp only[Aa,simprocAttr,zb,hlen,t0,t2,t4];refine Ag (Gc l2 [58,47] (by omega) (by simp;omega) ?_);simp only[Aa,simprocAttr,zb,hlen,t0,t2,t4];subst hY;refine Ae fun Y hY=>?_;have c:=MR l2;unfold Ku at hk
  by_cases h:∃h:Au l2 [58,47]<l2.length,l2[Au l2 [58,47]]=58
  ·obtain⟨h,hc⟩:=h;obtain⟨q1,q2,q3⟩:=c.1 h hc;have h':((Au l2 [58,47]:Nat):Int)<l2.length:=by omega
   have e1:((Au l2 [58,47]:Int)+1).toNat=Au l2 [58,47]+1:=by omega
   have e2:l2.getD (Au l2 [58,47]) 0=58:=by rw[jz,zq h,hc];rfl
   have e3:((58:UInt8).toNat:Int)=58:=rfl;rw[q2,q1,q3] at hk;simp only[Aa,simprocAttr,zb,hlen,t0,t2,t4,h',zm,e2,e3];subst hY;simp only[Aa,simprocAttr,zb,hlen,t0,t2,t4,h',zm,qc];refine⟨by omega,⟨by omega,by omega⟩,Ag (aF (l2.take (Au l2 [58,47])) (by rw[zh];omega) ?_)⟩
   cases hsb:Ed (l2.take (Au l2 [58,47])) with
   | false=>
    rw[hsb] at hk;simp only[Aa,simprocAttr,zb,hlen,t0,t2,t4,Jw];exact hk
   | true=>
    rw[hsb] at hk;simp only[Aa,simprocAttr,zb,hlen,t0,t2,t4,Bw,zm,e1,qc,uJ];exact⟨⟨by omega,by omega⟩,⟨by omega,by omega⟩,⟨by omega,by omega,by omega⟩,l2.drop (Au l2 [58,47]+1),l2.take (Au l2 [58,47]),true,by rw[zt];omega,hk,rfl,rfl⟩
  ·have q3:=c.2 fun h' e=>h ⟨h',e⟩;rw[q3] at hk
   by_cases h1:Au l2 [58,47]<l2.length
   ·have h':((Au l2 [58,47]:Nat):Int)<l2.length:=by omega
    have e2:¬((l2.getD (Au l2 [58,47]) 0).toNat:Int)=58:=fun e=>h ⟨h1,by
     rw[jz,zq h1] at e;exact UInt8.toNat_inj.1 (by have:(58:UInt8).toNat=58:=rfl;simp only[Option.getD_some] at e;omega)⟩
    simp only[Aa,simprocAttr,zb,hlen,t0,t2,t4,h',zm,e2];subst hY;simp only[Aa,simprocAttr,zb,hlen,t0,t2,t4,h',Bw,uJ];exact⟨by omega,l2,[],false,hl2,hk,rfl,rfl⟩
   ·have h':¬((Au l2 [58,47]:Nat):Int)<l2.length:=by omega
    simp only[Aa,simprocAttr,zb,hlen,t0,t2,t4,h'];subst hY;simp only[Aa,simprocAttr,zb,hlen,t0,t2,t4,Bw,uJ];exact⟨l2,[],false,hl2,hk,rfl,rfl⟩
 clear hk hlen t0 t2 t4;rintro _ t ⟨r,sc,hs,hr,hk,rfl,hlen,t0,t2,t4⟩;subst hZ;refine Ae fun Z hZ=>?_;refine CV (uJ sc (Db r) fr qu hs (DV r) bq bf (D8 r)) ?_ ?_
 ·refine Ae fun Y hY=>?_;simp only[Aa,simprocAttr,zb,hlen,t0,t2,t4];refine Ag (ID r [47,47] (by omega) ?_);unfold D8 Db
  cases h:DV r with
  | false=>
   rw[show zk r [47,47]=false from h];subst hY;simp only[Aa,simprocAttr,zb,hlen,t0,t2,t4,Bw,uJ]
  | true=>
   have h2:=cI h;have hd:(r.drop 2).length=r.length - 2:=zt ..;have hf:=(FK (r.drop 2)).2;rw[show zk r [47,47]=true from h];subst hY;simp only[Aa,simprocAttr,zb,hlen,t0,t2,t4,zm];refine⟨by omega,Ag (Gc (r.drop 2) [47] (by omega) (by simp;omega) ?_)⟩;rw[show Au (r.drop 2) [47]=(Ba (r.drop 2)).length from Iw 47 _];simp only[Aa,simprocAttr,zb,hlen,t0,t2,t4,zm,Bw,uJ];rw[XV,Z2];exact⟨⟨by omega,by omega⟩,⟨by omega,by omega⟩,⟨by omega,by omega,by omega⟩,rfl,rfl⟩
 ·clear hlen t0 t2 t4;rintro _ t ⟨rfl,hlen,t0,t2,t4⟩;subst hZ;simp only[Aa,simprocAttr,zb,hlen,t0,t2,t4];exact hk
end
end Go.Proofs.YtbeoijfmfkifeaaGreatDoor
namespace Go.Proofs.YtbeoijfmfkifeaaGreatDoor
open Lib renaming hid->za
open List renaming all_append->xx, all_cons->jd, getElem?_eq_getElem->zq, getElem_mem->qe, mem_cons->zv, take_length->qc
open Nat renaming le_refl->zd, zero_le->ze
def B1 (c:UInt8):Bool:=Ca c||AC c||(c.toNat==45)
def BS (c:UInt8):Bool:=c.toNat==45
def B4 (l:List UInt8):Bool:=!l.isEmpty&&decide (l.length<=63)&&!((l.head?.map BS).getD false)&&!((l.getLast?.map BS).getD false)&&l.all B1
def Ce (l:List UInt8):Bool:=(Ap 46 l).all B4&&!Es ((Ap 46 l).getLastD [])
def DW (l:List UInt8):Bool:=decide ((BR 255 l).1=0)
def DR (n:Nat) (l:List UInt8):Bool:=decide ((Ap 46 l).length=n)&&(Ap 46 l).all DW
def B8 (l:List UInt8):Bool:=DR 4 l
def AK (l:List UInt8):Int×List UInt8:=if l=[] then (3,[]) else if 253<l.length then (5,[]) else if (Ce l||B8 l)=true then (0,Ay l) else (50,[])
def CB (l:List UInt8):Int×Nat:=if (BR 65535 l).1=0/\(BR 65535 l).2≠0 then (0,(BR 65535 l).2) else (51,0)
def I8 (r:Int×Nat):Value:=.tuple #[.int .i64 r.2,.int .i64 r.1]
theorem Sk (s:ByteArray) (h:0<s.size):B4 s.data.toList=(decide (s.size<=63)&&!BS s[0]&&!BS s[s.size - 1]&&s.data.toList.all B1):=by
 have e:=Df s 0 h;rw[List.drop_zero] at e;have e1:s.data.toList.isEmpty=false:=by rw[e];rfl
 have e2:s.data.toList.head? = some s[0]:=by rw[e];rfl
 have e3:s.data.toList.getLast? = some s[s.size - 1]:=by
  rw[List.getLast?_eq_getElem?,At,zq (by rw[At];omega)];rfl
 unfold B4;rw[e1,e2,e3,At];simp only[Option.map_some,Option.getD_some]
 rfl
theorem SG {l:List UInt8} (h:(Af 46 l).2.2=true):Ce l=(B4 (Af 46 l).1&&Ce (Af 46 l).2.1):=by
 unfold Ce;rw[DM 46 l,if_pos h];obtain⟨p,ps,e⟩:=Cp 46 (Af 46 l).2.1;rw[e,jd,Bool.and_assoc]
 rfl
theorem SF {l:List UInt8} (h:(Af 46 l).2.2=false):Ce l=(B4 l&&!Es l):=by
 unfold Ce;rw[DM 46 l,if_neg (by rw[h];exact Bool.false_ne_true)];simp[List.getLastD]
theorem Sy {l:List UInt8} {n:Nat} (h:(Af 46 l).2.2=true):DR (n+1) l=(DW (Af 46 l).1&&DR n (Af 46 l).2.1):=by
 unfold DR;rw[DM 46 l,if_pos h,List.length_cons,jd];have:decide ((Ap 46 (Af 46 l).2.1).length+1=n+1)=decide ((Ap 46 (Af 46 l).2.1).length=n):=decide_eq_decide.2 (by omega);rw[this];rcases DW (Af 46 l).1<;>simp
theorem YL {l:List UInt8} (h:(Af 46 l).2.2=false):DR 1 l=DW l:=by
 unfold DR;rw[DM 46 l,if_neg (by rw[h];exact Bool.false_ne_true)];simp
theorem ZO {l:List UInt8} {n:Nat} (h:(Af 46 l).2.2=false):DR (n+2) l=false:=by
 unfold DR;rw[DM 46 l,if_neg (by rw[h];exact Bool.false_ne_true)];simp
theorem ZN {l:List UInt8} (h:(Af 46 l).2.2=true):DR 1 l=false:=by
 rw[Sy h];have:DR 0 (Af 46 l).2.1=false:=by
  unfold DR;have:=E4 46 (Af 46 l).2.1;rw[decide_eq_false (by omega)];rfl
 rw[this,Bool.and_false]
theorem bQ {l:List UInt8} (h:B4 l=true):1<=l.length:=by
 rcases l with _|⟨c,t⟩
 ·cases h
 ·simp
open Go.RowKit
theorem VA {c:UInt8} (h:BS c=true):((c.toNat:Int)==45)=true:=by
 have:c.toNat=45:=by simpa[BS] using h
 rw[this];rfl
theorem OS {c:UInt8} (h:BS c=false):((c.toNat:Int)==45)=false:=by
 have:c.toNat≠45:=by simpa[BS] using h
 rw[beq_eq_false_iff_ne];omega
theorem LW {c:UInt8} (h:BS c=true):((c.toNat:Int) != 45)=false:=by
 have:c.toNat=45:=by simpa[BS] using h
 rw[this];rfl
theorem JY {c:UInt8} (h:BS c=false):((c.toNat:Int) != 45)=true:=by
 have:c.toNat≠45:=by simpa[BS] using h
 rw[bne_iff_ne];omega
theorem GF (c:UInt8):B1 c=(Ca c||AC c||BS c):=rfl
set_option maxHeartbeats 1000000 in
theorem Oa (s:ByteArray) (w:World) (hs:s.size<=maxLen) :
  Calls Tryz.prog 197 #[.string s] w fun e w'=>e=.returned (.bool (B4 s.data.toList))/\w=w':=by
 unfold maxLen at hs
 by_cases h0:s.size=0
 ·obtain rfl:s=S []:=Gd h0;clear h0 hs
  go_enter Tryz.func197,Tryz.ntmps197
  go_wp2_with fail
  go_ret
  exact⟨rfl,rfl⟩
 have hpos:0<s.size:=by omega
 have HL:=za (Sk s hpos);have he1:s.toList.isEmpty=false:=by
  rw[ByteArray.toList_eq];rcases hl:s.data.toList with _|⟨c,t⟩
  ·have:=At s;rw[hl] at this;simp at this;omega
  ·rfl
 clear h0
 by_cases h63:63<s.size
 ·go_enter Tryz.func197,Tryz.ntmps197
  go_wp2_with fail
  go_ret
  exact⟨AO (by rw[HL.out,decide_eq_false (by omega)];rfl),rfl⟩
 have h63':s.size<=63:=by omega
 have hidx:s.size - 1<s.size:=by omega
 clear h63;rcases hy0:BS s[0] with _|_
 ·rcases hy1:BS s[s.size - 1] with _|_
  ·have b0:=OS hy0;have b1:=OS hy1;have HA:Hid (B4 s.data.toList=s.data.toList.all B1):=za (by rw[HL.out,hy0,hy1,decide_eq_true h63'];simp);clear hy0 hy1
   go_enter Tryz.func197,Tryz.ntmps197
   go_wp2_with fail
   clear b0 b1
   go_loop [26] (fun i=>∃k:Nat,k<=s.size/\i=.int .i64 k/\Hid ((s.data.toList.take k).all B1=true)) (fun i=>s.size - (intOf i).toNat)
   case atStart=>exact⟨0,ze _,rfl,za rfl⟩
   case round=>
    obtain⟨k,hk,rfl,HT⟩:=hrel
    by_cases hlt:k<s.size
    ·have hst:B1 s[k]=true->Hid ((s.data.toList.take (k+1)).all B1=true):=fun h=>za (by rw[ES _ _ _ hlt,h,HT.out];rfl);have hbad:B1 s[k]=false->Hid (s.data.toList.all B1=false):=fun h=>za (GV _ _ (k+1) (by rw[ES _ _ _ hlt,h,Bool.and_false]));rcases ha:Ca s[k] with _|_
     ·rcases hd:AC s[k] with _|_
      ·rcases hy:BS s[k] with _|_
       ·have HB:=hbad (by rw[GF,ha,hd,hy];rfl);have b:=JY hy;have H1:=za ha;have H2:=za hd;clear ha hd hy hst hbad
        go_wp2_with fail
        refine(EW _ _).mono ?_;rintro e w' ⟨rfl,rfl⟩;rw[H1.out]
        go_wp2_with fail
        refine(Eg _ _).mono ?_;rintro e w' ⟨rfl,rfl⟩;rw[H2.out]
        go_wp2_with fail
        go_ret
        exact⟨AO (by rw[HA.out,HB.out]),rfl⟩
       ·have HB:=hst (by rw[GF,ha,hd,hy];rfl);have b:=LW hy;have H1:=za ha;have H2:=za hd;clear ha hd hy hst hbad
        go_wp2_with fail
        refine(EW _ _).mono ?_;rintro e w' ⟨rfl,rfl⟩;rw[H1.out]
        go_wp2_with fail
        refine(Eg _ _).mono ?_;rintro e w' ⟨rfl,rfl⟩;rw[H2.out]
        go_wp2_with fail
        go_round
        case rel=>exact⟨k+1,by omega,by go_num,HB⟩
        case measure=>simp[intOf];omega
      ·have HB:=hst (by rw[GF,ha,hd];rfl);have H1:=za ha;have H2:=za hd;clear ha hd hst hbad
       go_wp2_with fail
       refine(EW _ _).mono ?_;rintro e w' ⟨rfl,rfl⟩;rw[H1.out]
       go_wp2_with fail
       refine(Eg _ _).mono ?_;rintro e w' ⟨rfl,rfl⟩;rw[H2.out]
       go_wp2_with fail
       go_round
       case rel=>exact⟨k+1,by omega,by go_num,HB⟩
       case measure=>simp[intOf];omega
     ·have HB:=hst (by rw[GF,ha];rfl);have H1:=za ha;clear ha hst hbad
      go_wp2_with fail
      refine(EW _ _).mono ?_;rintro e w' ⟨rfl,rfl⟩;rw[H1.out]
      go_wp2_with fail
      go_round
      case rel=>exact⟨k+1,by omega,by go_num,HB⟩
      case measure=>simp[intOf];omega
    ·have HB:Hid (s.data.toList.all B1=true):=za (by rw[<-Ee s k hlt];exact HT.out)
     go_wp2_with fail
     go_ret
     exact⟨AO (by rw[HA.out,HB.out]),rfl⟩
  ·have b0:=OS hy0;have b1:=VA hy1;have HA:Hid (B4 s.data.toList=false):=za (by rw[HL.out,hy0,hy1];simp);clear hy0 hy1
   go_enter Tryz.func197,Tryz.ntmps197
   go_wp2_with fail
   go_ret
   exact⟨AO (by rw[HA.out]),rfl⟩
 ·have b0:=VA hy0;have HA:Hid (B4 s.data.toList=false):=za (by rw[HL.out,hy0];simp);clear hy0
  go_enter Tryz.func197,Tryz.ntmps197
  go_wp2_with fail
  go_ret
  exact⟨AO (by rw[HA.out]),rfl⟩
theorem NT (s:ByteArray) (w:World) (hs:s.size<=maxLen) :
  Calls Tryz.prog 163 #[.string s] w fun e w'=>e=.returned (.bool (Ce s.data.toList))/\Qb w w':=by
 unfold maxLen at hs
 go_enter Tryz.func163,Tryz.ntmps163
 go_wp2_with fail
 go_loopw [3,4,5,6,10] (fun r _ _ _ i wr=>∃(k:Nat) (c:ByteArray),k<=s.size/\c.size+k<=s.size/\i=.int .i64 k/\r=.string c/\Hid (Ce s.data.toList=Ce c.data.toList)/\Qb w wr) (fun _ _ _ _ i _=>s.size - (intOf i).toNat)
 case atStart=>exact⟨0,s,ze _,by omega,rfl,rfl,za rfl,Qb.refl w⟩
 case round=>
  obtain⟨k,c,hk,hck,rfl,rfl,HN,hq⟩:=hrel
  by_cases hlt:k<s.size
  ·have hl:=EU 46 c.data.toList;have hlens:=Dn 46 c.data.toList;obtain⟨p,q,b,hcut⟩:∃p q b,Af 46 c.data.toList=(p,q,b):=⟨_,_,_,rfl⟩;have HC:=za hcut;have hsp:(S p).size<=maxLen:=by unfold maxLen;rw[Am];rw[hcut] at hlens;have:=hlens.1;rw[At] at this;simp at this;omega
   rcases hlb:B4 p with _|_
   ·have HF:Hid (Ce c.data.toList=false):=za (by
     rcases hb:b with _|_
     ·subst hb;have h2:(Af 46 c.data.toList).2.2=false:=by rw[hcut]
      have h3:=(hl.2.2 h2).1;rw[hcut] at h3;rw[SF h2,<-h3,hlb];rfl
     ·subst hb;rw[SG (by rw[hcut]),hcut,hlb];rfl)
    have H1:=za hlb;clear hl hlens hcut hlb
    go_wp2_with fail
    refine(CD c 46 _ (by unfold maxLen;omega)).mono ?_;rintro e w1 ⟨rfl,hq1⟩;rw[HC.out];unfold BO
    go_wp2_with fail
    refine(Oa _ _ hsp).mono ?_;rintro e w2 ⟨rfl,rfl⟩;rw[Ao,H1.out]
    go_wp2_with fail
    go_ret
    exact⟨AO (by rw[HN.out,HF.out]),hq.trans hq1⟩
   ·have H1:=za hlb;rcases hb:b with _|_
    ·subst hb;have h2:(Af 46 c.data.toList).2.2=false:=by rw[hcut]
     have h3:=(hl.2.2 h2).1;rw[hcut] at h3;have HF:Hid (Ce c.data.toList=!Es p):=za (by rw[SF h2,<-h3,hlb,Bool.true_and]);clear hl hlens hcut hlb h2 h3
     go_wp2_with fail
     refine(CD c 46 _ (by unfold maxLen;omega)).mono ?_;rintro e w1 ⟨rfl,hq1⟩;rw[HC.out];unfold BO
     go_wp2_with fail
     refine(Oa _ _ hsp).mono ?_;rintro e w2 ⟨rfl,rfl⟩;rw[Ao,H1.out]
     go_wp2_with fail
     refine(cN _ _ hsp).mono ?_;rintro e w2 ⟨rfl,rfl⟩;rw[Ao]
     go_wp2_with fail
     go_ret
     exact⟨AO (by rw[HN.out,HF.out]),hq.trans hq1⟩
    ·subst hb;have h2:(Af 46 c.data.toList).2.2=true:=by rw[hcut]
     have h3:=hl.2.1 h2;rw[hcut,At] at h3;simp only at h3;have h4:=bQ hlb;have HF:Hid (Ce c.data.toList=Ce (S q).data.toList):=za (by rw[SG h2,hcut,hlb,Bool.true_and]);have h5:(S q).size+(k+1)<=s.size:=by rw[Am];omega
     clear hl hlens hcut hlb h2 h3 h4
     go_wp2_with fail
     refine(CD c 46 _ (by unfold maxLen;omega)).mono ?_;rintro e w1 ⟨rfl,hq1⟩;rw[HC.out];unfold BO
     go_wp2_with fail
     refine(Oa _ _ hsp).mono ?_;rintro e w2 ⟨rfl,rfl⟩;rw[Ao,H1.out]
     go_wp2_with fail
     go_roundw
     case rel=>exact⟨k+1,S q,by omega,h5,by go_num,rfl,za (by rw[HN.out,HF.out]),hq.trans hq1⟩
     case measure=>simp[intOf];omega
  ·have hc0:c.size=0:=by omega
   obtain rfl:c=S []:=Gd hc0;clear hc0
   go_wp2_with fail
   go_ret
   exact⟨AO (by rw[HN.out];decide),hq⟩
theorem SB (l:List UInt8):DW l=decide ((BR (255:Int).toNat l).1=0):=rfl
theorem Lv (s:ByteArray) (w:World) (hs:s.size<=maxLen) :
  Calls Tryz.prog 140 #[.string s] w fun e w'=>e=.returned (.bool (B8 s.data.toList))/\Qb w w':=by
 unfold maxLen at hs
 go_enter Tryz.func140,Tryz.ntmps140
 go_wp2_with fail
 go_loopw [3,4,5,6,7,8,9,10,12] (fun r _ _ _ _ _ _ _ i wr=>∃(k:Nat) (c:ByteArray),k<=4/\c.size<=s.size/\i=.int .i64 k/\r=.string c/\Hid (B8 s.data.toList=if k=4 then true else DR (4 - k) c.data.toList)/\Qb w wr) (fun _ _ _ _ _ _ _ _ i _=>4 - (intOf i).toNat)
 case atStart=>exact⟨0,s,by omega,zd _,rfl,rfl,za rfl,Qb.refl w⟩
 case round=>
  obtain⟨k,c,hk,hck,rfl,rfl,HN,hq⟩:=hrel
  by_cases hlt:k<4
  ·have hl:=EU 46 c.data.toList;have hlens:=Dn 46 c.data.toList;obtain⟨p,q,b,hcut⟩:∃p q b,Af 46 c.data.toList=(p,q,b):=⟨_,_,_,rfl⟩;have HC:=za hcut;have hsp:(S p).size<=maxLen:=by unfold maxLen;rw[Am];rw[hcut] at hlens;have:=hlens.1;rw[At] at this;simp at this;omega
   have hsq:(S q).size<=s.size:=by rw[Am];rw[hcut] at hlens;have:=hlens.2;rw[At] at this;simp at this;omega
   have HN':Hid (B8 s.data.toList=DR (4 - k) c.data.toList):=za (by rw[HN.out,if_neg (by omega)]);clear HN;obtain⟨er,v,hst⟩:∃er v,BR (255:Int).toNat p=(er,v):=⟨_,_,rfl⟩;have HS:=za hst;have hok:DW p=decide (er=0):=by rw[SB,hst]
   by_cases hk3:k=3
   ·subst hk3;rcases hb:b with _|_
    ·subst hb;have h2:(Af 46 c.data.toList).2.2=false:=by rw[hcut]
     have h3:=(hl.2.2 h2).1;rw[hcut] at h3;have HF:Hid (B8 s.data.toList=decide (er=0)):=za (by rw[HN'.out,show 4 - 3=1 from rfl,YL h2,<-h3,hok]);clear hl hlens hcut h2 h3 hok hst
     by_cases he:er=0
     ·subst he
      go_wp2_with fail
      refine(CD c 46 _ (by unfold maxLen;omega)).mono ?_;rintro e w1 ⟨rfl,hq1⟩;rw[HC.out];unfold BO
      go_wp2_with fail
      refine(H0 _ _ _ hsp (by decide) (by decide)).mono ?_;rintro e w2 ⟨rfl,rfl⟩;rw[Ao,HS.out];unfold CQ
      go_wp2_with fail
      go_roundw
      case rel=>exact⟨4,S q,by omega,hsq,by go_num,rfl,za (by rw[HF.out];rfl),hq.trans hq1⟩
      case measure=>simp[intOf]
     ·have he1:(er != 0)=true:=bne_iff_ne.2 he;have HF2:Hid (B8 s.data.toList=false):=za (by rw[HF.out,decide_eq_false he]);clear he HF
      go_wp2_with fail
      refine(CD c 46 _ (by unfold maxLen;omega)).mono ?_;rintro e w1 ⟨rfl,hq1⟩;rw[HC.out];unfold BO
      go_wp2_with fail
      refine(H0 _ _ _ hsp (by decide) (by decide)).mono ?_;rintro e w2 ⟨rfl,rfl⟩;rw[Ao,HS.out];unfold CQ
      go_wp2_with fail
      go_ret
      exact⟨AO (by rw[HF2.out]),hq.trans hq1⟩
    ·subst hb;have HF:Hid (B8 s.data.toList=false):=za (by rw[HN'.out,show 4 - 3=1 from rfl,ZN (by rw[hcut])]);clear hl hlens hcut hok hst
     go_wp2_with fail
     refine(CD c 46 _ (by unfold maxLen;omega)).mono ?_;rintro e w1 ⟨rfl,hq1⟩;rw[HC.out];unfold BO
     go_wp2_with fail
     go_ret
     exact⟨AO (by rw[HF.out]),hq.trans hq1⟩
   ·have hk2:k<=2:=by omega
    have hkb:((k:Int)==3)=false:=by rw[beq_eq_false_iff_ne];omega
    clear hk3;rcases hb:b with _|_
    ·subst hb;have HF:Hid (B8 s.data.toList=false):=za (by rw[HN'.out,show 4 - k=(2 - k)+2 from by omega,ZO (by rw[hcut])]);clear hl hlens hcut hok hst
     go_wp2_with fail
     refine(CD c 46 _ (by unfold maxLen;omega)).mono ?_;rintro e w1 ⟨rfl,hq1⟩;rw[HC.out];unfold BO
     go_wp2_with fail
     go_ret
     exact⟨AO (by rw[HF.out]),hq.trans hq1⟩
    ·subst hb;have HF:Hid (B8 s.data.toList=(decide (er=0)&&DR (4 - (k+1)) (S q).data.toList)):=za (by rw[HN'.out,show 4 - k=(4 - (k+1))+1 from by omega,Sy (by rw[hcut]),hcut,hok]);clear hl hlens hcut hok hst
     by_cases he:er=0
     ·subst he
      go_wp2_with fail
      refine(CD c 46 _ (by unfold maxLen;omega)).mono ?_;rintro e w1 ⟨rfl,hq1⟩;rw[HC.out];unfold BO
      go_wp2_with fail
      refine(H0 _ _ _ hsp (by decide) (by decide)).mono ?_;rintro e w2 ⟨rfl,rfl⟩;rw[Ao,HS.out];unfold CQ
      go_wp2_with fail
      go_roundw
      case rel=>exact⟨k+1,S q,by omega,hsq,by go_num,rfl,za (by rw[HF.out,if_neg (by omega)];rfl),hq.trans hq1⟩
      case measure=>simp[intOf];omega
     ·have he1:(er != 0)=true:=bne_iff_ne.2 he;have HF2:Hid (B8 s.data.toList=false):=za (by rw[HF.out,decide_eq_false he];rfl);clear he HF
      go_wp2_with fail
      refine(CD c 46 _ (by unfold maxLen;omega)).mono ?_;rintro e w1 ⟨rfl,hq1⟩;rw[HC.out];unfold BO
      go_wp2_with fail
      refine(H0 _ _ _ hsp (by decide) (by decide)).mono ?_;rintro e w2 ⟨rfl,rfl⟩;rw[Ao,HS.out];unfold CQ
      go_wp2_with fail
      go_ret
      exact⟨AO (by rw[HF2.out]),hq.trans hq1⟩
  ·obtain rfl:k=4:=by omega
   go_wp2_with fail
   go_ret
   exact⟨AO (by rw[HN.out];rfl),hq⟩
theorem Lu {s:ByteArray} (h:0<s.size):s.toList.isEmpty=false:=by
 rw[ByteArray.toList_eq];rcases hl:s.data.toList with _|⟨c,t⟩
 ·have:=At s;rw[hl] at this;simp at this;omega
 ·rfl
theorem QI {s:ByteArray} (h:0<s.size):s.data.toList≠[]:=fun e=>by have:=At s;rw[e] at this;simp at this;omega
theorem FG (s:ByteArray) (w:World) (hs:s.size<=maxLen) :
  Calls Tryz.prog 137 #[.string s] w fun e w'=>e=.returned (Bi (AK s.data.toList))/\Qb w w':=by
 by_cases h0:s.size=0
 ·obtain rfl:s=S []:=Gd h0;clear h0 hs
  go_enter Tryz.func137,Tryz.ntmps137
  go_wp2_with fail
  go_ret2
  exact⟨rfl,Qb.refl _⟩
 have hpos:0<s.size:=by omega
 have he1:=Lu hpos;have hne:=za (QI hpos);clear h0
 by_cases h253:253<s.size
 ·have HE:Hid (AK s.data.toList=(5,[])):=za (by unfold AK;rw[if_neg hne.out,if_pos (by rw[At];exact h253)])
  go_enter Tryz.func137,Tryz.ntmps137
  go_wp2_with fail
  go_ret2
  exact⟨by rw[HE.out];rfl,Qb.refl _⟩
 have h253':s.size<=253:=by omega
 have hml:s.size<=maxLen:=by unfold maxLen;omega
 have HE:Hid (AK s.data.toList=if (Ce s.data.toList||B8 s.data.toList)=true then (0,Ay s.data.toList) else (50,[])):=za (by unfold AK;rw[if_neg hne.out,if_neg (by rw[At];omega)]);clear h253;rcases h1:Ce s.data.toList with _|_
 ·rcases h2:B8 s.data.toList with _|_
  ·have HF:Hid (AK s.data.toList=(50,[])):=za (by rw[HE.out,h1,h2];rfl);have H1:=za h1;have H2:=za h2;clear h1 h2
   go_enter Tryz.func137,Tryz.ntmps137
   go_wp2_with fail
   refine(NT s _ hml).mono ?_;rintro e w1 ⟨rfl,hq1⟩;rw[H1.out]
   go_wp2_with fail
   refine(Lv s _ hml).mono ?_;rintro e w2 ⟨rfl,hq2⟩;rw[H2.out]
   go_wp2_with fail
   go_ret2
   exact⟨by rw[HF.out];rfl,hq1.trans hq2⟩
  ·have HF:Hid (AK s.data.toList=(0,Ay s.data.toList)):=za (by rw[HE.out,h1,h2];rfl);have H1:=za h1;have H2:=za h2;clear h1 h2
   go_enter Tryz.func137,Tryz.ntmps137
   go_wp2_with fail
   refine(NT s _ hml).mono ?_;rintro e w1 ⟨rfl,hq1⟩;rw[H1.out]
   go_wp2_with fail
   refine(Lv s _ hml).mono ?_;rintro e w2 ⟨rfl,hq2⟩;rw[H2.out]
   go_wp2_with fail
   refine(NF s _ (by omega)).mono ?_;rintro e w3 ⟨rfl,hq3⟩
   go_wp2_with fail
   go_ret2
   exact⟨by rw[HF.out];rfl,(hq1.trans hq2).trans hq3⟩
 ·have HF:Hid (AK s.data.toList=(0,Ay s.data.toList)):=za (by rw[HE.out,h1];simp);have H1:=za h1;clear h1
  go_enter Tryz.func137,Tryz.ntmps137
  go_wp2_with fail
  refine(NT s _ hml).mono ?_;rintro e w1 ⟨rfl,hq1⟩;rw[H1.out]
  go_wp2_with fail
  refine(NF s _ (by omega)).mono ?_;rintro e w3 ⟨rfl,hq3⟩
  go_wp2_with fail
  go_ret2
  exact⟨by rw[HF.out];rfl,hq1.trans hq3⟩
theorem M2 (s:ByteArray) (w:World) (hs:s.size<=maxLen) :
  Calls Tryz.prog 188 #[.string s] w fun e w'=>e=.returned (I8 (CB s.data.toList))/\w=w':=by
 obtain⟨er,v,hst⟩:∃er v,BR (65535:Int).toNat s.data.toList=(er,v):=⟨_,_,rfl⟩;have HS:=za hst;have hle:=Oi 65535 s.data.toList;rw[show BR 65535 s.data.toList=(er,v) from hst] at hle;have HP:Hid (CB s.data.toList=if er=0/\v≠0 then (0,v) else (51,0)):=za (by
  unfold CB;rw[show BR 65535 s.data.toList=(er,v) from hst])
 simp only at hle;clear hst
 by_cases he:er=0
 ·subst he
  by_cases hv:v=0
  ·subst hv
   go_enter Tryz.func188,Tryz.ntmps188
   go_wp2_with fail
   refine(H0 _ _ _ hs (by decide) (by decide)).mono ?_;rintro e w2 ⟨rfl,rfl⟩;rw[HS.out];unfold CQ
   go_wp2_with fail
   go_ret2
   exact⟨by rw[HP.out];rfl,rfl⟩
  ·have hb:((v:Int)==0)=false:=by rw[beq_eq_false_iff_ne];omega
   have HF:Hid (CB s.data.toList=(0,v)):=za (by rw[HP.out,if_pos ⟨rfl,hv⟩]);clear hv
   go_enter Tryz.func188,Tryz.ntmps188
   go_wp2_with fail
   refine(H0 _ _ _ hs (by decide) (by decide)).mono ?_;rintro e w2 ⟨rfl,rfl⟩;rw[HS.out];unfold CQ
   go_wp2_with fail
   go_ret2
   exact⟨by rw[HF.out];rfl,rfl⟩
 ·have hb:(er != 0)=true:=bne_iff_ne.2 he;have HF:Hid (CB s.data.toList=(51,0)):=za (by rw[HP.out,if_neg (fun h=>he h.1)]);clear he
  go_enter Tryz.func188,Tryz.ntmps188
  go_wp2_with fail
  refine(H0 _ _ _ hs (by decide) (by decide)).mono ?_;rintro e w2 ⟨rfl,rfl⟩;rw[HS.out];unfold CQ
  go_wp2_with fail
  go_ret2
  exact⟨by rw[HF.out];rfl,rfl⟩
theorem Z8 (s:ByteArray) (w:World) (hs:s.size<=maxLen) :
  Calls Tryz.prog 130 #[.string s] w fun e w'=>e=.returned (I8 (CB s.data.toList))/\w=w':=by
 obtain⟨er,v,hst⟩:∃er v,BR (65535:Int).toNat s.data.toList=(er,v):=⟨_,_,rfl⟩;have HS:=za hst;have hle:=Oi 65535 s.data.toList;rw[show BR 65535 s.data.toList=(er,v) from hst] at hle;have HP:Hid (CB s.data.toList=if er=0/\v≠0 then (0,v) else (51,0)):=za (by
  unfold CB;rw[show BR 65535 s.data.toList=(er,v) from hst])
 simp only at hle;clear hst
 by_cases he:er=0
 ·subst he
  by_cases hv:v=0
  ·subst hv
   go_enter Tryz.func130,Tryz.ntmps130
   go_wp2_with fail
   refine(JT _ _ _ hs (by decide) (by decide)).mono ?_;rintro e w2 ⟨rfl,rfl⟩;rw[HS.out];unfold CQ
   go_wp2_with fail
   go_ret2
   exact⟨by rw[HP.out];rfl,rfl⟩
  ·have hb:((v:Int)==0)=false:=by rw[beq_eq_false_iff_ne];omega
   have HF:Hid (CB s.data.toList=(0,v)):=za (by rw[HP.out,if_pos ⟨rfl,hv⟩]);clear hv
   go_enter Tryz.func130,Tryz.ntmps130
   go_wp2_with fail
   refine(JT _ _ _ hs (by decide) (by decide)).mono ?_;rintro e w2 ⟨rfl,rfl⟩;rw[HS.out];unfold CQ
   go_wp2_with fail
   go_ret2
   exact⟨by rw[HF.out];rfl,rfl⟩
 ·have hb:(er != 0)=true:=bne_iff_ne.2 he;have HF:Hid (CB s.data.toList=(51,0)):=za (by rw[HP.out,if_neg (fun h=>he h.1)]);clear he
  go_enter Tryz.func130,Tryz.ntmps130
  go_wp2_with fail
  refine(JT _ _ _ hs (by decide) (by decide)).mono ?_;rintro e w2 ⟨rfl,rfl⟩;rw[HS.out];unfold CQ
  go_wp2_with fail
  go_ret2
  exact⟨by rw[HF.out];rfl,rfl⟩
theorem SP (s:ByteArray) (h:0<s.size):B4 s.data.toList=(s.data.toList.all B1&&decide (s.size<=63)&&!BS s[0]&&!BS s[s.size - 1]):=by
 rw[Sk s h];rcases decide (s.size<=63)<;>rcases BS s[0]<;>rcases BS s[s.size - 1]<;>rcases s.data.toList.all B1<;>rfl
set_option maxHeartbeats 1000000 in
theorem SN (s:ByteArray) (w:World) (hs:s.size<=maxLen) :
  Calls Tryz.prog 126 #[.string s] w fun e w'=>e=.returned (.bool (B4 s.data.toList))/\w=w':=by
 unfold maxLen at hs
 go_enter Tryz.func126,Tryz.ntmps126
 go_wp2_with fail
 go_loop [3] (fun i=>∃k:Nat,k<=s.size/\i=.int .i64 k/\Hid ((s.data.toList.take k).all B1=true)) (fun i=>s.size - (intOf i).toNat)
 case atStart=>exact⟨0,ze _,rfl,za rfl⟩
 case round=>
  obtain⟨k,hk,rfl,HT⟩:=hrel
  by_cases hlt:k<s.size
  ·have hpos:0<s.size:=by omega
   have HL:=za (SP s hpos);have hst:B1 s[k]=true->Hid ((s.data.toList.take (k+1)).all B1=true):=fun h=>za (by rw[ES _ _ _ hlt,h,HT.out];rfl);have hbad:B1 s[k]=false->Hid (B4 s.data.toList=false):=fun h=>za (by rw[HL.out,GV _ _ (k+1) (by rw[ES _ _ _ hlt,h,Bool.and_false])];rfl);rcases ha:Ca s[k] with _|_
   ·rcases hd:AC s[k] with _|_
    ·rcases hy:BS s[k] with _|_
     ·have HB:=hbad (by rw[GF,ha,hd,hy];rfl);have b:=JY hy;have H1:=za ha;have H2:=za hd;clear ha hd hy hst hbad
      go_wp2_with fail
      refine(EY _ _).mono ?_;rintro e w' ⟨rfl,rfl⟩;rw[H1.out]
      go_wp2_with fail
      refine(EZ _ _).mono ?_;rintro e w' ⟨rfl,rfl⟩;rw[H2.out]
      go_wp2_with fail
      go_ret
      exact⟨AO (by rw[HB.out]),rfl⟩
     ·have HB:=hst (by rw[GF,ha,hd,hy];rfl);have b:=LW hy;have H1:=za ha;have H2:=za hd;clear ha hd hy hst hbad
      go_wp2_with fail
      refine(EY _ _).mono ?_;rintro e w' ⟨rfl,rfl⟩;rw[H1.out]
      go_wp2_with fail
      refine(EZ _ _).mono ?_;rintro e w' ⟨rfl,rfl⟩;rw[H2.out]
      go_wp2_with fail
      go_round
      case rel=>exact⟨k+1,by omega,by go_num,HB⟩
      case measure=>simp[intOf];omega
    ·have HB:=hst (by rw[GF,ha,hd];rfl);have H1:=za ha;have H2:=za hd;clear ha hd hst hbad
     go_wp2_with fail
     refine(EY _ _).mono ?_;rintro e w' ⟨rfl,rfl⟩;rw[H1.out]
     go_wp2_with fail
     refine(EZ _ _).mono ?_;rintro e w' ⟨rfl,rfl⟩;rw[H2.out]
     go_wp2_with fail
     go_round
     case rel=>exact⟨k+1,by omega,by go_num,HB⟩
     case measure=>simp[intOf];omega
   ·have HB:=hst (by rw[GF,ha];rfl);have H1:=za ha;clear ha hst hbad
    go_wp2_with fail
    refine(EY _ _).mono ?_;rintro e w' ⟨rfl,rfl⟩;rw[H1.out]
    go_wp2_with fail
    go_round
    case rel=>exact⟨k+1,by omega,by go_num,HB⟩
    case measure=>simp[intOf];omega
  ·have HA:Hid (s.data.toList.all B1=true):=za (by rw[<-Ee s k hlt];exact HT.out);obtain rfl:k=s.size:=by omega
   clear HT hlt
   by_cases h0:s.size=0
   ·obtain rfl:s=S []:=Gd h0;clear h0 hs hk HA
    go_wp2_with fail
    go_ret
    exact⟨rfl,rfl⟩
   have hpos:0<s.size:=by omega
   have he1:=Lu hpos;have HL:Hid (B4 s.data.toList=(decide (s.size<=63)&&!BS s[0]&&!BS s[s.size - 1])):=za (by rw[SP s hpos,HA.out,Bool.true_and]);have hidx:s.size - 1<s.size:=by omega
   clear h0
   by_cases h63:s.size<=63
   ·rcases hy0:BS s[0] with _|_
    ·rcases hy1:BS s[s.size - 1] with _|_
     ·have b0:=JY hy0;have b1:=JY hy1;have HF:Hid (B4 s.data.toList=true):=za (by rw[HL.out,hy0,hy1,decide_eq_true h63];rfl);clear hy0 hy1
      go_wp2_with fail
      go_ret
      exact⟨AO (by rw[HF.out]),rfl⟩
     ·have b0:=JY hy0;have b1:=LW hy1;have HF:Hid (B4 s.data.toList=false):=za (by rw[HL.out,hy0,hy1];simp);clear hy0 hy1
      go_wp2_with fail
      go_ret
      exact⟨AO (by rw[HF.out]),rfl⟩
    ·have b0:=LW hy0;have HF:Hid (B4 s.data.toList=false):=za (by rw[HL.out,hy0];simp);clear hy0
     go_wp2_with fail
     go_ret
     exact⟨AO (by rw[HF.out]),rfl⟩
   ·have HF:Hid (B4 s.data.toList=false):=za (by rw[HL.out,decide_eq_false h63];rfl)
    go_wp2_with fail
    go_ret
    exact⟨AO (by rw[HF.out]),rfl⟩
theorem Gb (c:UInt8):∀(l x:List UInt8),x∈Ap c l->x.length<=l.length
 | [],x,h=>by simp[Ap] at h;subst h;simp
 | y::t,x,h=>by
  rw[C7] at h
  by_cases hy:y=c
  ·rw[if_pos hy] at h;rcases zv.1 h with rfl|h
   ·simp
   ·have:=Gb c t x h;simp;omega
  ·obtain⟨p,ps,e⟩:=Cp c t;have ih:=Gb c t;rw[if_neg hy,e] at h;rw[e] at ih;rcases zv.1 h with rfl|h
   ·have:=ih p (by simp);simp;omega
   ·have:=ih x (List.mem_cons_of_mem _ h);simp;omega
theorem JI {α:Type} (p:α->Bool) (l:List α) (k:Nat) (h:k<l.length):(l.take (k+1)).all p=((l.take k).all p&&p l[k]):=by
 rw[List.take_succ_eq_append_getElem h,xx];simp
theorem JP {α:Type} (p:α->Bool) (l:List α) (k:Nat) (h:(l.take k).all p=false):l.all p=false:=by
 rw[<-List.take_append_drop k l,xx,h,Bool.false_and]
theorem Ux {α:Type} (l:List α) (d:α) (h:0<l.length):l.getLastD d=l[l.length - 1]:=by
 rw[List.getLastD_eq_getLast?,List.getLast?_eq_getElem?,zq (by omega)];rfl
theorem R9 (s:ByteArray) (w:World) (hs:s.size<=1000000) :
  Calls Tryz.prog 92 #[.string s] w fun e w'=>e=.returned (.bool (Ce s.data.toList))/\Qb w w':=by
 have hpos:=E4 46 s.data.toList;have hlen:=IM 46 s.data.toList;have hparts:∀k (h:k<(Ap 46 s.data.toList).length),(S (Ap 46 s.data.toList)[k]).size<=maxLen:=fun k h=>by
  have:=Gb 46 s.data.toList _ (qe h);unfold maxLen;rw[Am];rw[At] at this;omega
 have HB:Hid (Ce s.data.toList=((Ap 46 s.data.toList).all B4&&!Es ((Ap 46 s.data.toList).getLastD []))):=za rfl;rw[At] at hlen;have HP:=za hparts;clear hparts
 go_enter Tryz.func92,Tryz.ntmps92
 go_wp2_with fail
 refine(Lx s 46 _ hs).mono ?_;rintro e w1 ⟨v,rfl,hrow,hq1⟩;generalize Ap 46 s.data.toList=ls at *;obtain⟨g,cap,rfl,hg0,hg1,hcap⟩:=hrow.form hpos;have HR:=za hrow;clear hrow
 go_wp2_with fail
 go_loop [5,10] (fun _ i=>∃k:Nat,k<=ls.length/\i=.int .i64 k/\Hid ((ls.take k).all B4=true)) (fun _ i=>ls.length - (intOf i).toNat)
 case atStart=>exact⟨0,ze _,rfl,za rfl⟩
 case round=>
  obtain⟨k,hk,rfl,HT⟩:=hrel
  by_cases hlt:k<ls.length
  ·have hcell:=HR.out.cell k hlt;have hsz:=HP.out k hlt;have HS:=za (JI B4 ls k hlt);have HF:=JP B4 ls (k+1);generalize ls[k]=x at *;rcases hx:B4 x with _|_
   ·have HB2:Hid (Ce s.data.toList=false):=za (by rw[HB.out,HF (by rw[HS.out,hx,Bool.and_false])];rfl);have H1:=za hx;clear hx HF
    go_wp2_with fail
    refine(SN _ _ hsz).mono ?_;rintro e w2 ⟨rfl,rfl⟩;rw[Ao,H1.out]
    go_wp2_with fail
    go_ret
    exact⟨AO (by rw[HB2.out]),hq1⟩
   ·have HT2:Hid ((ls.take (k+1)).all B4=true):=za (by rw[HS.out,hx,HT.out];rfl);have H1:=za hx;clear hx HF
    go_wp2_with fail
    refine(SN _ _ hsz).mono ?_;rintro e w2 ⟨rfl,rfl⟩;rw[Ao,H1.out]
    go_wp2_with fail
    go_round
    case rel=>exact⟨k+1,by omega,by go_num,HT2⟩
    case measure=>simp[intOf];omega
  ·obtain rfl:k=ls.length:=by omega
   have hidx:ls.length - 1<ls.length:=by omega
   have hcell:=HR.out.cell (ls.length - 1) hidx;have hsz:=HP.out _ hidx;have HD:Hid (Ce s.data.toList=!Es ls[ls.length - 1]):=za (by
    have:=HT.out;rw[qc] at this;rw[HB.out,this,Bool.true_and,Ux _ _ hpos])
   generalize ls[ls.length - 1]=x at *;clear hlt
   go_wp2_with fail
   refine(eS _ _ hsz).mono ?_;rintro e w2 ⟨rfl,rfl⟩
   go_wp2_with fail
   go_ret
   exact⟨AO (by rw[HD.out]),hq1⟩
theorem JG (s:ByteArray) (w:World) (hs:s.size<=1000000) :
  Calls Tryz.prog 73 #[.string s] w fun e w'=>e=.returned (.bool (B8 s.data.toList))/\Qb w w':=by
 have hpos:=E4 46 s.data.toList;have hlen:=IM 46 s.data.toList;have hparts:∀k (h:k<(Ap 46 s.data.toList).length),(S (Ap 46 s.data.toList)[k]).size<=maxLen:=fun k h=>by
  have:=Gb 46 s.data.toList _ (qe h);unfold maxLen;rw[Am];rw[At] at this;omega
 have HB:Hid (B8 s.data.toList=(decide ((Ap 46 s.data.toList).length=4)&&(Ap 46 s.data.toList).all DW)):=za rfl;rw[At] at hlen;have HP:=za hparts;clear hparts
 go_enter Tryz.func73,Tryz.ntmps73
 go_wp2_with fail
 refine(Lx s 46 _ hs).mono ?_;rintro e w1 ⟨v,rfl,hrow,hq1⟩;generalize Ap 46 s.data.toList=ls at *;obtain⟨g,cap,rfl,hg0,hg1,hcap⟩:=hrow.form hpos;have HR:=za hrow;clear hrow
 go_wp2_with fail
 go_loop [5,6,7,12] (fun _ _ _ i=>∃k:Nat,k<=ls.length/\i=.int .i64 k/\Hid ((ls.take k).all DW=true)) (fun _ _ _ i=>ls.length - (intOf i).toNat)
 case atStart=>exact⟨0,ze _,rfl,za rfl⟩
 case round=>
  obtain⟨k,hk,rfl,HT⟩:=hrel
  by_cases hlt:k<ls.length
  ·have hcell:=HR.out.cell k hlt;have hsz:=HP.out k hlt;have HS:=za (JI DW ls k hlt);have HF:=JP DW ls (k+1);generalize ls[k]=x at *;obtain⟨er,v,hst⟩:∃er v,BR (255:Int).toNat x=(er,v):=⟨_,_,rfl⟩;have HS1:=za hst;have hok:DW x=decide (er=0):=by rw[SB,hst]
   clear hst
   by_cases he:er=0
   ·subst he;have HT2:Hid ((ls.take (k+1)).all DW=true):=za (by rw[HS.out,hok,HT.out];rfl);clear hok HF
    go_wp2_with fail
    refine(JT _ _ _ hsz (by decide) (by decide)).mono ?_;rintro e w2 ⟨rfl,rfl⟩;rw[Ao,HS1.out];unfold CQ
    go_wp2_with fail
    go_round
    case rel=>exact⟨k+1,by omega,by go_num,HT2⟩
    case measure=>simp[intOf];omega
   ·have he1:(er != 0)=true:=bne_iff_ne.2 he;have HB2:Hid (B8 s.data.toList=false):=za (by rw[HB.out,HF (by rw[HS.out,hok,decide_eq_false he,Bool.and_false]),Bool.and_false]);clear hok HF he
    go_wp2_with fail
    refine(JT _ _ _ hsz (by decide) (by decide)).mono ?_;rintro e w2 ⟨rfl,rfl⟩;rw[Ao,HS1.out];unfold CQ
    go_wp2_with fail
    go_ret
    exact⟨AO (by rw[HB2.out]),hq1⟩
  ·obtain rfl:k=ls.length:=by omega
   have HD:Hid (B8 s.data.toList=decide ((ls.length:Int)=4)):=za (by
    have:=HT.out;rw[qc] at this;rw[HB.out,this,Bool.and_true];exact decide_eq_decide.2 (by omega))
   clear hlt
   go_wp2_with fail
   go_ret
   exact⟨AO (by rw[HD.out];try rfl),hq1⟩
theorem IB (s:ByteArray) (w:World) (hs:s.size<=1000000) :
  Calls Tryz.prog 69 #[.string s] w fun e w'=>e=.returned (Bi (AK s.data.toList))/\Qb w w':=by
 by_cases h0:s.size=0
 ·obtain rfl:s=S []:=Gd h0;clear h0 hs
  go_enter Tryz.func69,Tryz.ntmps69
  go_wp2_with fail
  go_ret2
  exact⟨rfl,Qb.refl _⟩
 have hpos:0<s.size:=by omega
 have he1:=Lu hpos;have hne:=za (QI hpos);clear h0
 by_cases h253:253<s.size
 ·have HE:Hid (AK s.data.toList=(5,[])):=za (by unfold AK;rw[if_neg hne.out,if_pos (by rw[At];exact h253)])
  go_enter Tryz.func69,Tryz.ntmps69
  go_wp2_with fail
  go_ret2
  exact⟨by rw[HE.out];rfl,Qb.refl _⟩
 have h253':s.size<=253:=by omega
 have hml:s.size<=maxLen:=by unfold maxLen;omega
 have HE:Hid (AK s.data.toList=if (Ce s.data.toList||B8 s.data.toList)=true then (0,Ay s.data.toList) else (50,[])):=za (by unfold AK;rw[if_neg hne.out,if_neg (by rw[At];omega)]);clear h253;rcases h1:B8 s.data.toList with _|_
 ·rcases h2:Ce s.data.toList with _|_
  ·have HF:Hid (AK s.data.toList=(50,[])):=za (by rw[HE.out,h1,h2];rfl);have H1:=za h1;have H2:=za h2;clear h1 h2
   go_enter Tryz.func69,Tryz.ntmps69
   go_wp2_with fail
   refine(JG s _ (by omega)).mono ?_;rintro e w1 ⟨rfl,hq1⟩;rw[H1.out]
   go_wp2_with fail
   refine(R9 s _ (by omega)).mono ?_;rintro e w2 ⟨rfl,hq2⟩;rw[H2.out]
   go_wp2_with fail
   go_ret2
   exact⟨by rw[HF.out];rfl,hq1.trans hq2⟩
  ·have HF:Hid (AK s.data.toList=(0,Ay s.data.toList)):=za (by rw[HE.out,h1,h2];rfl);have H1:=za h1;have H2:=za h2;clear h1 h2
   go_enter Tryz.func69,Tryz.ntmps69
   go_wp2_with fail
   refine(JG s _ (by omega)).mono ?_;rintro e w1 ⟨rfl,hq1⟩;rw[H1.out]
   go_wp2_with fail
   refine(R9 s _ (by omega)).mono ?_;rintro e w2 ⟨rfl,hq2⟩;rw[H2.out]
   go_wp2_with fail
   refine(JO s _ (by omega)).mono ?_;rintro e w3 ⟨rfl,hq3⟩
   go_wp2_with fail
   go_ret2
   exact⟨by rw[HF.out];rfl,(hq1.trans hq2).trans hq3⟩
 ·have HF:Hid (AK s.data.toList=(0,Ay s.data.toList)):=za (by rw[HE.out,h1];simp);have H1:=za h1;clear h1
  go_enter Tryz.func69,Tryz.ntmps69
  go_wp2_with fail
  refine(JG s _ (by omega)).mono ?_;rintro e w1 ⟨rfl,hq1⟩;rw[H1.out]
  go_wp2_with fail
  refine(JO s _ (by omega)).mono ?_;rintro e w3 ⟨rfl,hq3⟩
  go_wp2_with fail
  go_ret2
  exact⟨by rw[HF.out];rfl,hq1.trans hq3⟩
def BU (l:List UInt8):Int×List UInt8×Nat :=
 if (AK (Af 58 l).1).1≠0 then ((AK (Af 58 l).1).1,[],0)
 else if (Af 58 l).2.2=false then (0,(AK (Af 58 l).1).2,0)
 else if (CB (Af 58 l).2.1).1≠0 then ((CB (Af 58 l).2.1).1,[],0)
 else (0,(AK (Af 58 l).1).2,if (CB (Af 58 l).2.1).2=443 then 0 else (CB (Af 58 l).2.1).2)
def Fu (r:Int×List UInt8×Nat):Value:=.tuple #[.agg #[.string (S r.2.1),.int .i64 r.2.2],.int .i64 r.1]
theorem Y3 (s:ByteArray) (w:World) (hs:s.size<=maxLen) :
  Calls Tryz.prog 154 #[.string s] w fun e w'=>e=.returned (Fu (BU s.data.toList))/\Qb w w':=by
 obtain⟨p,q,b,hcut⟩:∃p q b,Af 58 s.data.toList=(p,q,b):=⟨_,_,_,rfl⟩;obtain⟨he,h,hh⟩:∃he h,AK p=(he,h):=⟨_,_,rfl⟩;obtain⟨pe,pn,hp⟩:∃pe pn,CB q=(pe,pn):=⟨_,_,rfl⟩;have HC:=za hcut;have HH:=za hh;have HP:=za hp;have hsp:(S p).size<=maxLen:=by
  have:=(Dn 58 s.data.toList).1;rw[hcut,At] at this;rw[Am];simp at this;omega
 have hsq:(S q).size<=maxLen:=by
  have:=(Dn 58 s.data.toList).2;rw[hcut,At] at this;rw[Am];simp at this;omega
 have HE:Hid (BU s.data.toList=if he≠0 then (he,[],0) else if b=false then (0,h,0) else if pe≠0 then (pe,[],0) else (0,h,if pn=443 then 0 else pn)):=za (by
  unfold BU;rw[hcut];simp only;rw[hh,hp])
 clear hcut hh hp
 by_cases hee:he=0
 ·subst hee;rcases b with _|_
  ·have HF:Hid (BU s.data.toList=(0,h,0)):=za (by rw[HE.out,if_neg (by simp),if_pos rfl])
   go_enter Tryz.func154,Tryz.ntmps154
   go_wp2_with fail
   refine(CD s 58 _ hs).mono ?_;rintro e w1 ⟨rfl,hq1⟩;rw[HC.out];unfold BO
   go_wp2_with fail
   refine(FG _ _ hsp).mono ?_;rintro e w2 ⟨rfl,hq2⟩;rw[Ao,HH.out];unfold Bi;have hk:=(AH.new w _ _).qb (hq1.trans hq2);have hc0:=hk.cell 0;have hc1:=hk.cell 1;have hf0:=hk.frozen 0;have hf1:=hk.frozen 1;simp at hc0 hc1
   go_wp2_with fail
   exact bodyPost_ret (v:=Fu (0,h,0)) (by simp[results,Tryz.results154,go_sem,hc0,hc1,hf0,hf1,Fu]) rfl ⟨by rw[HF.out],((((Qb.refl w).alloc _).trans (hq1.trans hq2)).set (zd _) _).set (zd _) _⟩
  ·by_cases hpe:pe=0
   ·subst hpe
    by_cases h443:pn=443
    ·subst h443;have HF:Hid (BU s.data.toList=(0,h,0)):=za (by rw[HE.out,if_neg (by simp),if_neg (by simp),if_neg (by simp),if_pos rfl])
     go_enter Tryz.func154,Tryz.ntmps154
     go_wp2_with fail
     refine(CD s 58 _ hs).mono ?_;rintro e w1 ⟨rfl,hq1⟩;rw[HC.out];unfold BO
     go_wp2_with fail
     refine(FG _ _ hsp).mono ?_;rintro e w2 ⟨rfl,hq2⟩;rw[Ao,HH.out];unfold Bi
     go_wp2_with fail
     refine(M2 _ _ hsq).mono ?_;rintro e w3 ⟨rfl,rfl⟩;rw[Ao,HP.out];unfold I8;have hk:=(AH.new w _ _).qb (hq1.trans hq2);have hc0:=hk.cell 0;have hc1:=hk.cell 1;have hf0:=hk.frozen 0;have hf1:=hk.frozen 1;simp at hc0 hc1
     go_wp2_with fail
     exact bodyPost_ret (v:=Fu (0,h,0)) (by simp[results,Tryz.results154,go_sem,hc0,hc1,hf0,hf1,Fu]) rfl ⟨by rw[HF.out],((((Qb.refl w).alloc _).trans (hq1.trans hq2)).set (zd _) _).set (zd _) _⟩
    ·have HF:Hid (BU s.data.toList=(0,h,pn)):=za (by rw[HE.out,if_neg (by simp),if_neg (by simp),if_neg (by simp),if_neg h443]);have hb4:((pn:Int)==443)=false:=by rw[beq_eq_false_iff_ne];omega
     go_enter Tryz.func154,Tryz.ntmps154
     go_wp2_with fail
     refine(CD s 58 _ hs).mono ?_;rintro e w1 ⟨rfl,hq1⟩;rw[HC.out];unfold BO
     go_wp2_with fail
     refine(FG _ _ hsp).mono ?_;rintro e w2 ⟨rfl,hq2⟩;rw[Ao,HH.out];unfold Bi
     go_wp2_with fail
     refine(M2 _ _ hsq).mono ?_;rintro e w3 ⟨rfl,rfl⟩;rw[Ao,HP.out];unfold I8;have hk:=(AH.new w _ _).qb (hq1.trans hq2);have hc0:=hk.cell 0;have hc1:=hk.cell 1;have hf0:=hk.frozen 0;have hf1:=hk.frozen 1;simp at hc0 hc1
     go_wp2_with fail
     exact bodyPost_ret (v:=Fu (0,h,pn)) (by simp[results,Tryz.results154,go_sem,hc0,hc1,hf0,hf1,Fu]) rfl ⟨by rw[HF.out],((((Qb.refl w).alloc _).trans (hq1.trans hq2)).set (zd _) _).set (zd _) _⟩
   ·have HF:Hid (BU s.data.toList=(pe,[],0)):=za (by rw[HE.out,if_neg (by simp),if_neg (by simp),if_pos hpe]);have hb:=bne_iff_ne.2 hpe
    go_enter Tryz.func154,Tryz.ntmps154
    go_wp2_with fail
    refine(CD s 58 _ hs).mono ?_;rintro e w1 ⟨rfl,hq1⟩;rw[HC.out];unfold BO
    go_wp2_with fail
    refine(FG _ _ hsp).mono ?_;rintro e w2 ⟨rfl,hq2⟩;rw[Ao,HH.out];unfold Bi
    go_wp2_with fail
    refine(M2 _ _ hsq).mono ?_;rintro e w3 ⟨rfl,rfl⟩;rw[Ao,HP.out];unfold I8;have hk:=(AH.new w _ _).qb (hq1.trans hq2);have hc0:=hk.cell 0;have hc1:=hk.cell 1;have hf0:=hk.frozen 0;have hf1:=hk.frozen 1;simp at hc0 hc1
    go_wp2_with fail
    exact bodyPost_ret (v:=Fu (pe,[],0)) (by simp[results,Tryz.results154,go_sem,hc0,hc1,hf0,hf1,Fu]) rfl ⟨by rw[HF.out],((((Qb.refl w).alloc _).trans (hq1.trans hq2)).set (zd _) _).set (zd _) _⟩
 ·have HF:Hid (BU s.data.toList=(he,[],0)):=za (by rw[HE.out,if_pos hee]);have hb:(he != 0)=true:=bne_iff_ne.2 hee
  go_enter Tryz.func154,Tryz.ntmps154
  go_wp2_with fail
  refine(CD s 58 _ hs).mono ?_;rintro e w1 ⟨rfl,hq1⟩;rw[HC.out];unfold BO
  go_wp2_with fail
  refine(FG _ _ hsp).mono ?_;rintro e w2 ⟨rfl,hq2⟩;rw[Ao,HH.out];unfold Bi;have hk:=(AH.new w _ _).qb (hq1.trans hq2);have hc0:=hk.cell 0;have hc1:=hk.cell 1;have hf0:=hk.frozen 0;have hf1:=hk.frozen 1;simp at hc0 hc1
  go_wp2_with fail
  exact bodyPost_ret (v:=Fu (he,[],0)) (by simp[results,Tryz.results154,go_sem,hc0,hc1,hf0,hf1,Fu]) rfl ⟨by rw[HF.out],((((Qb.refl w).alloc _).trans (hq1.trans hq2)).set (zd _) _).set (zd _) _⟩
end Go.Proofs.YtbeoijfmfkifeaaGreatDoor
namespace Go.Proofs.YtbeoijfmfkifeaaGreatDoor
open Lib renaming hid->za
open List renaming all_eq_true->zj, append_assoc->zu, append_nil->zy, eq_nil_of_length_eq_zero->qh, flatMap_cons->qq, getLastD_eq_getLast?->yk, length_append->zg, length_cons->zl, map_congr_left->xy, mem_cons_of_mem->qx
open Nat renaming le_refl->zd, sub_self->jw, zero_le->ze
theorem oF:∀n:Fin 256,Bl (Bl (UInt8.ofNat n.val))=Bl (UInt8.ofNat n.val)/\B1 (Bl (UInt8.ofNat n.val))=B1 (UInt8.ofNat n.val)/\BS (Bl (UInt8.ofNat n.val))=BS (UInt8.ofNat n.val)/\AC (Bl (UInt8.ofNat n.val))=AC (UInt8.ofNat n.val)/\(Bl (UInt8.ofNat n.val)=46↔UInt8.ofNat n.val=46)/\(AC (UInt8.ofNat n.val)=true->Bl (UInt8.ofNat n.val)=UInt8.ofNat n.val)/\(UInt8.ofNat n.val=46->Bl (UInt8.ofNat n.val)=UInt8.ofNat n.val):=by decide +kernel
theorem Gi (c:UInt8):Bl (Bl c)=Bl c/\B1 (Bl c)=B1 c/\BS (Bl c)=BS c/\AC (Bl c)=AC c/\(Bl c=46↔c=46)/\(AC c=true->Bl c=c)/\(c=46->Bl c=c):=by
 have:=oF ⟨c.toNat,c.toNat_lt⟩;simp only[UInt8.ofNat_toNat] at this;exact this
theorem bD (l:List UInt8):Ay (Ay l)=Ay l:=by
 unfold Ay;rw[List.map_map];exact xy fun c _=>(Gi c).1
theorem Ob (l:List UInt8):(Ay l).length=l.length:=by simp[Ay]
theorem SX:∀l,Ap 46 (Ay l)=(Ap 46 l).map Ay
 | []=>rfl
 | x::t=>by
  have ih:=SX t;obtain⟨p,ps,e⟩:=Cp 46 t;rw[e] at ih;show Ap 46 (Bl x::Ay t)=_;rw[C7,C7,ih,e]
  by_cases h:x=46
  ·rw[if_pos ((Gi x).2.2.2.2.1.2 h),if_pos h];rfl
  ·rw[if_neg (fun h2=>h ((Gi x).2.2.2.2.1.1 h2)),if_neg h];rfl
theorem PX (p:UInt8->Bool) (hp:∀c,p (Bl c)=p c) (l:List UInt8):(Ay l).all p=l.all p:=by
 unfold Ay;rw[List.all_map]
 congr 1;funext c;exact hp c
theorem bP (l:List UInt8):B4 (Ay l)=B4 l:=by
 unfold B4;rw[PX B1 (fun c=>(Gi c).2.1),Ob];have e1:(Ay l).isEmpty=l.isEmpty:=by cases l<;>rfl
 have e2:(Ay l).head?.map BS=l.head?.map BS:=by
  cases l with
  | nil=>rfl
  | cons c t=>simp[Ay,(Gi c).2.2.1]
 have e3:(Ay l).getLast?.map BS=l.getLast?.map BS:=by
  unfold Ay;rw[List.getLast?_map]
  cases l.getLast? with
  | none=>rfl
  | some c=>simp[(Gi c).2.2.1]
 rw[e1,e2,e3]
theorem eD (l:List UInt8):Es (Ay l)=Es l:=by
 unfold Es;rw[PX AC (fun c=>(Gi c).2.2.2.1)];have e1:(Ay l).isEmpty=l.isEmpty:=by cases l<;>rfl
 rw[e1]
theorem aL (l:List UInt8):Ce (Ay l)=Ce l:=by
 unfold Ce;rw[SX,List.all_map];have e1:((Ap 46 l).map Ay).getLastD []=Ay ((Ap 46 l).getLastD []):=by
  rw[yk,yk,List.getLast?_map]
  cases (Ap 46 l).getLast?<;>rfl
 rw[e1,eD]
 congr 1
 congr 1
 funext x
 exact bP x
theorem cP {l:List UInt8} (h:DW l=true):Ay l=l:=by
 unfold DW at h;have h1:=of_decide_eq_true h;unfold BR at h1
 split at h1
 ·rename_i h2;have h3:=(Lo h2).2;unfold Ay;rw[zj] at h3;have:l.map Bl=l.map id:=xy fun c hc=>(Gi c).2.2.2.2.2.1 (h3 c hc);rw[this,List.map_id]
 ·rename_i h2;exact absurd h1 h2
theorem Ov:∀l:List UInt8,(∀p∈Ap 46 l,Ay p=p)->Ay l=l
 | [],_=>rfl
 | x::t,h=>by
  obtain⟨p,ps,e⟩:=Cp 46 t;rw[C7,e] at h
  by_cases hx:x=46
  ·rw[if_pos hx] at h;have ih:=Ov t (by rw[e];intro q hq;exact h q (qx _ hq));show Bl x::Ay t=_;rw[ih,(Gi x).2.2.2.2.2.2 hx]
  ·rw[if_neg hx] at h;have h1:=h (x::p) (List.mem_cons_self ..);have h2:Bl x=x/\Ay p=p:=by
    have:Bl x::Ay p=x::p:=h1;injection this with a b;exact⟨a,b⟩
   have ih:=Ov t (by
    rw[e];intro q hq;rcases List.mem_cons.1 hq with rfl|hq
    ·exact h2.2
    ·exact h q (qx _ hq))
   show Bl x::Ay t=_;rw[ih,h2.1]
theorem YK {l:List UInt8} (h:B8 l=true):Ay l=l:=by
 refine Ov l fun p hp=>?_;unfold B8 DR at h;simp only[Bool.and_eq_true,zj] at h;exact cP (h.2 p hp)
theorem NR {q h:List UInt8} (hh:AK q=(0,h)):AK h=(0,h)/\h.length=q.length/\h.length<=253/\h=Ay q:=by
 unfold AK at hh
 split at hh
 ·cases hh
 ·rename_i h0
  split at hh
  ·cases hh
  ·rename_i h1
   split at hh
   ·rename_i h2;injection hh with _ hh;subst hh
    have hl:=Ob q;refine⟨?_,hl,by omega,rfl⟩;unfold AK;rw[if_neg (by intro e;rw[e] at hl;exact h0 (qh (by simpa using hl.symm))),if_neg (by omega),bD];rw[if_pos];rw[aL];rw[Bool.or_eq_true] at h2 ⊢;rcases h2 with h2|h2
    ·exact .inl h2
    ·exact .inr (by rw[YK h2];exact h2)
   ·cases hh
open Go.RowKit
def Eh (c:UInt8):Nat:=if c.toNat<=57 then c.toNat - 48 else if c.toNat<=70 then c.toNat - 55 else c.toNat - 87
def hv (c:UInt8):UInt8:=UInt8.ofNat (Eh c)
theorem Nu {c:UInt8} (h:Bn c=true):48<=c.toNat/\c.toNat<=57\/97<=c.toNat/\c.toNat<=102\/65<=c.toNat/\c.toNat<=70:=of_decide_eq_true h
theorem DG {c:UInt8} (h:Bn c=true):(hv c).toNat=Eh c/\Eh c<16:=by
 have:=Nu h;have h2:Eh c<16:=by unfold Eh;(repeat' split)<;>omega
 exact⟨by unfold hv;rw[UInt8.toNat_ofNat'];omega,h2⟩
theorem Wb:∀n:Fin 256,bits .and .u8 ((n.val:Nat):Int) 223=((n.val &&& 223:Nat):Int):=by decide +kernel
theorem pC:∀n:Fin 256,bits .and .u8 ((n.val:Nat):Int) 15=((n.val % 16:Nat):Int):=by decide +kernel
theorem Xc:∀n:Fin 256,(97<=n.val/\n.val<=102\/65<=n.val/\n.val<=70)->(n.val &&& 223)=(if n.val<=70 then n.val else n.val - 32):=by decide +kernel
theorem SK (c:UInt8) (h:Bn c=true) (w:World) :
  Calls Tryz.prog 194 #[.int .u8 c.toNat] w fun e w'=>e=.returned (.int .u8 (hv c).toNat)/\w=w':=by
 have H:=za h;clear h
 go_enter Tryz.func194,Tryz.ntmps194
 go_wp2_with (go_at_call 177;refine(Eg _ _).mono ?_;rintro e w' ⟨rfl,rfl⟩)
 ·have hd:AC c=true:=by assumption
  go_ret
  refine⟨EF ?_,rfl⟩;have h1:=DG H.out;have h2:48<=c.toNat/\c.toNat<=57:=of_decide_eq_true hd;rw[h1.1];unfold Eh;rw[if_pos h2.2];omega
 ·have hd:AC c=false:=by assumption
  go_ret
  refine⟨EF ?_,rfl⟩;have h1:=DG H.out;have h2:¬(48<=c.toNat/\c.toNat<=57):=of_decide_eq_false hd;have h3:=Nu H.out;rw[h1.1,Wb ⟨c.toNat,c.toNat_lt⟩,Xc ⟨c.toNat,c.toNat_lt⟩ (by show _\/_;simp only;omega)];unfold Eh;simp only
  split<;>split<;>(try split)<;>omega
theorem dL (c:UInt8) (h:Bn c=true) (w:World) :
  Calls Tryz.prog 125 #[.int .u8 c.toNat] w fun e w'=>e=.returned (.int .u8 (hv c).toNat)/\w=w':=by
 have h1:=DG h;have h3:=Nu h;have H:=za (And.intro h1 h3);clear h h1 h3
 go_enter Tryz.func125,Tryz.ntmps125
 go_wp2
 all_goals go_ret
 all_goals refine⟨EF ?_,rfl⟩
 all_goals have h1:=H.out.1
 all_goals have h3:=H.out.2
 all_goals rw[h1.1]
 all_goals unfold Eh
 all_goals (repeat' split)<;>omega
def Bo (n:Nat):UInt8:=[48,49,50,51,52,53,54,55,56,57,65,66,67,68,69,70].getD n 0
def Bk (c:UInt8):List UInt8:=[37,Bo (c.toNat / 16),Bo (c.toNat % 16)]
theorem K0 (i:Nat) (h:i<ByteArray.size { data:=#[48,49,50,51,52,53,54,55,56,57,65,66,67,68,69,70] }) :
  ({ data:=#[48,49,50,51,52,53,54,55,56,57,65,66,67,68,69,70] }:ByteArray)[i]=Bo i:=by
 have h':i<[(48:UInt8),49,50,51,52,53,54,55,56,57,65,66,67,68,69,70].length:=h;unfold Bo;rw[List.getD_eq_getElem?_getD,List.getElem?_eq_getElem h']
 rfl
theorem mV (W:World) (a b c:Value):∀j u,[a,b,c][j]? = some u->(W.alloc (.cells #[a,b,c] 5)).cell? ((⟨W.heap.size,0,none⟩:Addr).add j)=some u:=by
 intro j u hj;rw[B9,World.cell?_alloc_at _ _ _ _ rfl];simpa using hj
theorem F0 (W:World) (a:Value):∀j u,[a][j]? = some u->(W.alloc (.cells #[a] 5)).cell? ((⟨W.heap.size,0,none⟩:Addr).add j)=some u:=by
 intro j u hj;rw[B9,World.cell?_alloc_at _ _ _ _ rfl];simpa using hj
theorem bK (c:UInt8) (i j:Nat) (hi:i=c.toNat / 16) (hj:j=c.toNat % 16) (h1:i<ByteArray.size { data:=#[48,49,50,51,52,53,54,55,56,57,65,66,67,68,69,70] }) (h2:j<ByteArray.size { data:=#[48,49,50,51,52,53,54,55,56,57,65,66,67,68,69,70] }) :
  bv (Bk c)=[.int .u8 37,.int .u8 (({ data:=#[48,49,50,51,52,53,54,55,56,57,65,66,67,68,69,70] }:ByteArray)[i]).toNat,.int .u8 (({ data:=#[48,49,50,51,52,53,54,55,56,57,65,66,67,68,69,70] }:ByteArray)[j]).toNat]:=by
 rw[K0,K0,hi,hj];rfl
theorem Us (v:Value) (l:List UInt8) (c:UInt8) (B:Nat) (w:World) (h:AX w B v l) (hl:l.length<=1000000000) (hB:B<=w.heap.size) :
  Calls Tryz.prog 161 #[v,.int .u8 c.toNat] w fun e w'=>∃v',e=.returned v'/\AX w' B v' (l++Bk c)/\Below B w w':=by
 have hc:=c.toNat_lt;have a1:(0:Int)<=(c.toNat:Int) / 16:=by omega
 have a2:(c.toNat:Int) / 16<16:=by omega
 have b1:(0:Int)<=(c.toNat:Int) % 16:=by omega
 have b2:(c.toNat:Int) % 16<16:=by omega
 have hand:=pC ⟨c.toNat,c.toNat_lt⟩;simp only at hand;have hcells:=za (bK c ((c.toNat:Int) / 16).toNat ((c.toNat:Int) % 16).toNat (by omega) (by omega) (by show _<16;omega) (by show _<16;omega))
 go_enter Tryz.func161,Tryz.ntmps161
 go_wp2_with fail
 go_region_law (first|(refine iW rfl (.tmp 5) (.tmp 12) rfl B v l (Bk c) rfl (AX.drew (h.alloc _)) _ _ _ rfl rfl (by rw[hcells.out];exact mV _ _ _ _) (by simp[Bk];omega) (by simp;omega) ?_;intro v1 w1 hr1 hb1)|fail)
 all_goals have hb2:Below B w w1:=(((Below.refl B w).alloc hB _).drew).trans hb1
 all_goals (try go_wp2_with fail)
 all_goals go_ret
 all_goals exact⟨_,rfl,hr1,hb2⟩
theorem nE (W:World) (x y z:UInt8):FS ((W.alloc (.cells #[.int .u8 x.toNat,.int .u8 y.toNat,.int .u8 z.toNat] 5)).drew) W.heap.size [x,y,z]:=by
 intro j hj;refine⟨?_,World.frozen?_alloc_at _ _ _ _ rfl⟩;show (W.alloc _).cell? _=_;rw[World.cell?_alloc_at _ _ _ _ rfl]
 match j,hj with
 | 0,_=>rfl
 | 1,_=>rfl
 | 2,_=>rfl
theorem LB (c:UInt8) (w:World) :
  Calls Tryz.prog 91 #[.int .u8 c.toNat] w fun e w'=>e=.returned (.string (S (Bk c)))/\Qb w w':=by
 have hc:=c.toNat_lt;have e1:=K0 (c.toNat / 16) (by show _<16;omega);have e2:=K0 (c.toNat % 16) (by show _<16;omega);have hst:(convert 25 9 (.slice (some ⟨w.heap.size,0,none⟩) 3 3)).run Tryz.prog ((w.alloc (.cells #[.int .u8 37,.int .u8 (Bo (c.toNat / 16)).toNat,.int .u8 (Bo (c.toNat % 16)).toNat] 5)).drew)=.ok (.string ⟨[37,Bo (c.toNat / 16),Bo (c.toNat % 16)].toArray⟩) _:=(nE w 37 (Bo (c.toNat / 16)) (Bo (c.toNat % 16))).str 3 3 rfl;rw[<-e1,<-e2] at hst;have H:=za (And.intro e1 e2);clear e1 e2;have a1:(0:Int)<=(c.toNat:Int) / 16:=by omega
 have a2:(c.toNat:Int) / 16<16:=by omega
 have b1:(0:Int)<=(c.toNat:Int) % 16:=by omega
 have b2:(c.toNat:Int) % 16<16:=by omega
 go_enter Tryz.func91,Tryz.ntmps91
 go_wp2_with fail
 go_region
 all_goals (try go_wp2_with fail)
 all_goals go_ret
 all_goals refine⟨GN ?_,((Qb.refl w).alloc _).drew⟩
 all_goals rw[H.out.1,H.out.2]
 all_goals rfl
def Bx (c:UInt8) (also:List UInt8):Bool:=A8 c||(c.toNat != 37&&Aw c also)
theorem IR (c:UInt8) (s:ByteArray) (w:World) :
  Calls Tryz.prog 162 #[.int .u8 c.toNat,.string s] w fun e w'=>e=.returned (.bool (Bx c s.data.toList))/\w=w':=by
 go_enter Tryz.func162,Tryz.ntmps162
 go_wp2_with (first|(go_at_call 160;refine(HZ _ _).mono ?_;rintro e w' ⟨rfl,rfl⟩)|(go_at_call 169;refine(Tryz.strings_IndexByte _ _ _).mono ?_;rintro e w' ⟨rfl,rfl⟩))
 ·have h1:A8 c=true:=by assumption
  go_ret
  exact⟨AO (by unfold Bx;rw[h1];rfl),rfl⟩
 ·have h1:¬A8 c=true:=by assumption
  have h2:(c.toNat:Int)=37:=by assumption
  go_ret
  refine⟨AO ?_,rfl⟩;unfold Bx;have h3:c.toNat=37:=by omega
  rw[Bool.eq_false_iff.2 h1,h3];rfl
 ·have h1:¬A8 c=true:=by assumption
  have h2:¬(c.toNat:Int)=37:=by assumption
  go_ret
  refine⟨AO ?_,rfl⟩;unfold Bx Aw;have h3:¬c.toNat=37:=by omega
  rw[Bool.eq_false_iff.2 h1,Lib.contains_iff_indexByte,bne_iff_ne.2 h3,bne_iff_ne.2 h2];rfl
def Bq:List UInt8->Bool
 | _::a::b::_=>Bn a&&Bn b
 | _=>false
def A1:List UInt8->UInt8
 | _::a::b::_=>UInt8.ofNat (16*Eh a+Eh b)
 | _=>0
theorem Mc (s:ByteArray) (k:Nat) (h:k+2<s.size):s.data.toList.drop k=s[k]::s[k+1]::s[k+2]::s.data.toList.drop (k+3):=by
 rw[Df s k (by omega),Df s (k+1) (by omega),Df s (k+2) (by omega)]
theorem Ok (s:ByteArray) (k:Nat) (h:¬k+2<s.size):Bq (s.data.toList.drop k)=false:=by
 have hl:(s.data.toList.drop k).length<=2:=by rw[List.length_drop,At];omega
 revert hl
 generalize s.data.toList.drop k=l;intro hl
 match l,hl with
 | [],_=>rfl
 | [_],_=>rfl
 | [_,_],_=>rfl
theorem LL (s:ByteArray) (k:Nat) (hk:k<=s.size) (hs:s.size<=maxLen) (w:World) :
  Calls Tryz.prog 193 #[.string s,.int .i64 k] w fun e w'=>e=.returned (.bool (Bq (s.data.toList.drop k)))/\w=w':=by
 unfold maxLen at hs
 by_cases hlt:k+2<s.size
 ·have HD:=za (Mc s k hlt)
  go_enter Tryz.func193,Tryz.ntmps193
  go_wp2_with (go_at_call 217;refine(Y2 _ _).mono ?_;rintro e w' ⟨rfl,rfl⟩)
  ·have h1:Bn s[k+1]=true:=by assumption
   go_ret
   exact⟨AO (by rw[HD.out];simp only[Bq,h1,Bool.true_and]),rfl⟩
  ·have h1:¬Bn s[k+1]=true:=by assumption
   go_ret
   exact⟨AO (by rw[HD.out];simp only[Bq,Bool.eq_false_iff.2 h1,Bool.false_and]),rfl⟩
 ·have HD:=za (Ok s k hlt)
  go_enter Tryz.func193,Tryz.ntmps193
  go_wp2_with fail
  go_ret
  exact⟨AO HD.out.symm,rfl⟩
theorem QW {a b:UInt8} (ha:Bn a=true) (hb:Bn b=true):(UInt8.ofNat (16*Eh a+Eh b)).toNat=16*(hv a).toNat+(hv b).toNat:=by
 have h1:=DG ha;have h2:=DG hb;rw[UInt8.toNat_ofNat',h1.1,h2.1];omega
def EB (l:List UInt8):UInt8:=if Bq l=true then A1 l else 0
theorem MH {l:List UInt8} (h:Bq l=false):EB l=0:=by unfold EB;rw[if_neg (by rw[h];exact Bool.false_ne_true)]
theorem Np {l:List UInt8} (h:Bq l=true):EB l=A1 l:=if_pos h
theorem JU (s:ByteArray) (k:Nat) (hk:k<s.size) (hs:s.size<=140737488351232) (h37:s[k]=37) (w:World) :
  Calls Tryz.prog 90 #[.string s,.int .i64 k] w fun e w'=>e=.returned (.tuple #[.int .u8 (EB (s.data.toList.drop k)).toNat,.bool (Bq (s.data.toList.drop k))])/\Qb w w':=by
 have hne:((s[k].toNat:Int) != 37)=false:=by rw[h37];rfl
 have H37:=za h37;clear h37
 by_cases hlt:k+2<s.size
 ·have HD:=za (Mc s k hlt);rcases ha:Bn s[k+1] with _|_
  ·have ho:Bq (s.data.toList.drop k)=false:=by rw[HD.out];simp only[Bq,ha,Bool.false_and]
   have hr:=MH ho;have HO:=za (And.intro ho hr);clear ho hr
   go_enter Tryz.func90,Tryz.ntmps90
   go_wp2_with (go_at_call 124;refine(N0 _ _).mono ?_;rintro e w' ⟨rfl,rfl⟩)
   go_ret2
   exact⟨by rw[HO.out.1,HO.out.2];rfl,Qb.refl w⟩
  ·rcases hb:Bn s[k+2] with _|_
   ·have ho:Bq (s.data.toList.drop k)=false:=by rw[HD.out];simp only[Bq,hb,Bool.and_false]
    have hr:=MH ho;have HO:=za (And.intro ho hr);clear ho hr
    go_enter Tryz.func90,Tryz.ntmps90
    go_wp2_with (go_at_call 124;refine(N0 _ _).mono ?_;rintro e w' ⟨rfl,rfl⟩)
    go_ret2
    exact⟨by rw[HO.out.1,HO.out.2];rfl,Qb.refl w⟩
   ·have n1:=(DG ha).2;rw[<-(DG ha).1] at n1;have n2:=(DG hb).2;rw[<-(DG hb).1] at n2;have ho:Bq (s.data.toList.drop k)=true:=by rw[HD.out];simp only[Bq,ha,hb,Bool.and_true]
    have hr:=Np ho;have hv2:(A1 (s.data.toList.drop k)).toNat=16*(hv s[k+1]).toNat+(hv s[k+2]).toNat:=by
     rw[HD.out];exact QW ha hb
    have HO:=za (And.intro ho (And.intro hr hv2));clear ho hr hv2
    go_enter Tryz.func90,Tryz.ntmps90
    go_wp2_with (go_at_call 124;refine(N0 _ _).mono ?_;rintro e w' ⟨rfl,rfl⟩)
    go_quiet ((go_at_call 125;exact JN (dL _ (by assumption) _)))
    go_wp2_with fail
    go_ret2
    exact⟨by rw[HO.out.1,HO.out.2.1,HO.out.2.2,Int.natCast_add,Int.natCast_mul];rfl,(Qb.refl w).drewN _⟩
 ·have ho:=Ok s k hlt;have hr:=MH ho;have HO:=za (And.intro ho hr);clear ho hr
  go_enter Tryz.func90,Tryz.ntmps90
  go_wp2_with fail
  go_ret2
  exact⟨by rw[HO.out.1,HO.out.2];rfl,Qb.refl w⟩
abbrev FA:=List UInt8->UInt8->Bool->Int×List UInt8
def Al (add:FA):Nat->List UInt8->List UInt8->Int×List UInt8
 | _,[],out=>(0,out)
 | n+1,_::l,out=>Al add n l out
 | 0,c::l,out=>
  if c=37 then
   if Bq (c::l)=true then
    if (add out (A1 (c::l)) true).1=0 then Al add 2 l (add out (A1 (c::l)) true).2 else ((add out (A1 (c::l)) true).1,[])
   else (2,[])
  else if (add out c false).1=0 then Al add 0 l (add out c false).2 else ((add out c false).1,[])
section
variable (add:FA) (s:ByteArray) (k:Nat) (out:List UInt8)
theorem KD (n:Nat) (h:¬k<s.size):Al add n (s.data.toList.drop k) out=(0,out):=by
 rw[List.drop_of_length_le (by rw[At];omega),Al]
theorem Rx (m:Nat) (h:k<s.size) (hm:k<m):Al add (m - k) (s.data.toList.drop k) out=Al add (m - (k+1)) (s.data.toList.drop (k+1)) out:=by
 rw[Df s k h,show m - k=(m - (k+1))+1 from by omega,Al]
theorem KC (h:k<s.size) (hc:s[k]=37) (he:Bq (s.data.toList.drop k)=false):Al add 0 (s.data.toList.drop k) out=(2,[]):=by
 rw[Df s k h] at he ⊢;rw[Al,if_pos hc,if_neg (by rw[he];exact Bool.false_ne_true)]
theorem Jn (h:k<s.size) (hc:s[k]=37) (he:Bq (s.data.toList.drop k)=true) (ha:(add out (A1 (s.data.toList.drop k)) true).1=0) :
  Al add 0 (s.data.toList.drop k) out=Al add (k+3 - (k+1)) (s.data.toList.drop (k+1)) (add out (A1 (s.data.toList.drop k)) true).2:=by
 rw[Df s k h] at he ha;rw[show k+3 - (k+1)=2 from by omega]
 conv=>lhs;rw[Df s k h]
 rw[Al,if_pos hc,if_pos he,if_pos ha,<-Df s k h]
theorem Tv (h:k<s.size) (hc:s[k]=37) (he:Bq (s.data.toList.drop k)=true) (ha:(add out (A1 (s.data.toList.drop k)) true).1≠0) :
  Al add 0 (s.data.toList.drop k) out=((add out (A1 (s.data.toList.drop k)) true).1,[]):=by
 rw[Df s k h] at he ha ⊢;rw[Al,if_pos hc,if_pos he,if_neg ha]
theorem KE (h:k<s.size) (hc:s[k]≠37) (ha:(add out s[k] false).1=0) :
  Al add 0 (s.data.toList.drop k) out=Al add (k+1 - (k+1)) (s.data.toList.drop (k+1)) (add out s[k] false).2:=by
 rw[jw]
 conv=>lhs;rw[Df s k h]
 rw[Al,if_neg hc,if_pos ha]
theorem Og (h:k<s.size) (hc:s[k]≠37) (ha:(add out s[k] false).1≠0) :
  Al add 0 (s.data.toList.drop k) out=((add out s[k] false).1,[]):=by
 conv=>lhs;rw[Df s k h]
 rw[Al,if_neg hc,if_neg ha]
theorem NQ (he:Bq (s.data.toList.drop k)=true):k+2<s.size:=by
 rcases Nat.lt_or_ge (k+2) s.size with h|h
 ·exact h
 ·rw[Ok s k (by omega)] at he;cases he
theorem RX (he:Bq (s.data.toList.drop k)=true):∃h:k+2<s.size,Bn s[k+1]=true/\Bn s[k+2]=true/\(A1 (s.data.toList.drop k)).toNat=16*(hv s[k+1]).toNat+(hv s[k+2]).toNat:=by
 have h:=NQ s k he;rw[Mc s k h] at he ⊢;simp only[Bq,Bool.and_eq_true] at he;exact⟨h,he.1,he.2,QW he.1 he.2⟩
end
def AS:FA:=fun out x _=>(0,out++[x])
def AR (also:List UInt8):FA:=fun out x e=>if (e&&!A8 x)=true then (0,out++Bk x) else if Bx x also=true then (0,out++[x]) else (1,[])
def B3 (r:Int×List UInt8) (n:Nat):Int×List UInt8:=if 16384<n then (5,[]) else r
def An (l:List UInt8):Int×List UInt8:=B3 (Al AS 0 l []) l.length
def Aj (l also:List UInt8):Int×List UInt8:=B3 (Al (AR also) 0 l []) l.length
def AL (l keep:List UInt8):List UInt8:=l.flatMap fun c=>if Bx c keep=true then [c] else Bk c
theorem PB:∀a b:Fin 16,bits .or .u8 (((a.val*16:Nat):Int)) ((b.val:Nat):Int)=((16*a.val+b.val:Nat):Int):=by decide +kernel
def PW (r:Int×List UInt8) (B:Nat) (w:World) (en:Ending) (w':World):Prop :=
 ∃v',en=.returned (.tuple #[v',.int .i64 r.1])/\(r.1=0->AX w' B v' r.2)/\Below B w w'
theorem S4 (v:Value) (l:List UInt8) (x:UInt8) (e:Bool) (B:Nat) (w:World) (h:AX w B v l) (hl:l.length<=1000000000) (hB:B<=w.heap.size) :
  Calls Tryz.prog 187 #[v,.int .u8 x.toNat,.bool e] w (PW (AS l x e) B w):=by
 go_enter Tryz.func187,Tryz.ntmps187
 go_wp2_with (at_builtin;refine Gl rfl (.tmp 8) (.tmp 10) rfl B v l [x] rfl (h.alloc _) _ _ _ rfl rfl (F0 _ _) (by simp;omega) (by simp;omega) ?_;intro v1 w1 hr1 hb1)
 go_ret2
 exact⟨v1,rfl,fun _=>hr1,((Below.refl B w).alloc hB _).trans hb1⟩
theorem FH {also l:List UInt8} {x:UInt8} (hu:A8 x=false):AR also l x true=(0,l++Bk x):=by unfold AR;rw[if_pos (by rw[hu];rfl)]
theorem DN {also l:List UInt8} {x:UInt8} {e:Bool} (hu:(e&&!A8 x)=false) (hp:Bx x also=true):AR also l x e=(0,l++[x]):=by
 unfold AR;rw[if_neg (by rw[hu];exact Bool.false_ne_true),if_pos hp]
theorem Jx {also l:List UInt8} {x:UInt8} {e:Bool} (hu:(e&&!A8 x)=false) (hp:Bx x also=false):AR also l x e=(1,[]):=by
 unfold AR;rw[if_neg (by rw[hu];exact Bool.false_ne_true),if_neg (by rw[hp];exact Bool.false_ne_true)]
theorem Rd {also l:List UInt8} {x:UInt8} {e:Bool}:(AR also l x e).2.length<=l.length+3:=by
 unfold AR
 repeat' split
 all_goals simp[Bk]
theorem Rc {l:List UInt8} {x:UInt8} {e:Bool}:(AS l x e).2.length<=l.length+3:=by simp[AS]
theorem TC (v:Value) (l:List UInt8) (x:UInt8) (e:Bool) (B g:Nat) (also:ByteArray) (w:World) (h:AX w B v l) (hl:l.length<=1000000000) (hB:B<=w.heap.size) (hc:w.cell? ⟨g,0,none⟩=some (.string also)) :
  Calls Tryz.prog 159 #[v,.int .u8 x.toNat,.bool e,.pointer (some ⟨g,0,none⟩)] w (PW (AR also.data.toList l x e) B w):=by
 rcases hu:(e&&!A8 x) with _|_
 ·rcases hp:Bx x also.data.toList with _|_
  ·rw[Jx hu hp]
   cases e
   ·clear hu
    go_enter Tryz.func159,Tryz.ntmps159
    go_wp2_with (go_at_call 162;refine(IR _ _ _).mono ?_;rintro e w' ⟨rfl,rfl⟩)
    go_ret2
    exact⟨_,rfl,fun h=>absurd h (by decide),Below.refl _ _⟩
   ·have hu':A8 x=true:=by simpa using hu
    clear hu
    go_enter Tryz.func159,Tryz.ntmps159
    go_wp2_with (first|(go_at_call 160;refine(HZ _ _).mono ?_;rintro e w' ⟨rfl,rfl⟩)|(go_at_call 162;refine(IR _ _ _).mono ?_;rintro e w' ⟨rfl,rfl⟩))
    go_ret2
    exact⟨_,rfl,fun h=>absurd h (by decide),Below.refl _ _⟩
  ·rw[DN hu hp]
   cases e
   ·clear hu
    go_enter Tryz.func159,Tryz.ntmps159
    go_wp2_with (first|(go_at_call 162;refine(IR _ _ _).mono ?_;rintro e w' ⟨rfl,rfl⟩)|(at_builtin;refine Gl rfl (.tmp 23) (.tmp 25) rfl B v l [x] rfl (h.alloc _) _ _ _ rfl rfl (F0 _ _) (by simp;omega) (by simp;omega) ?_;intro v1 w1 hr1 hb1))
    go_ret2
    exact⟨v1,rfl,fun _=>hr1,((Below.refl B _).alloc hB _).trans hb1⟩
   ·have hu':A8 x=true:=by simpa using hu
    clear hu
    go_enter Tryz.func159,Tryz.ntmps159
    go_wp2_with (first|(go_at_call 160;refine(HZ _ _).mono ?_;rintro e w' ⟨rfl,rfl⟩)|(go_at_call 162;refine(IR _ _ _).mono ?_;rintro e w' ⟨rfl,rfl⟩)|(at_builtin;refine Gl rfl (.tmp 23) (.tmp 25) rfl B v l [x] rfl (h.alloc _) _ _ _ rfl rfl (F0 _ _) (by simp;omega) (by simp;omega) ?_;intro v1 w1 hr1 hb1))
    go_ret2
    exact⟨v1,rfl,fun _=>hr1,((Below.refl B _).alloc hB _).trans hb1⟩
 ·have he:e=true:=by cases e<;>simp_all
  subst he;have hu':A8 x=false:=by simpa using hu
  clear hu;rw[FH hu']
  go_enter Tryz.func159,Tryz.ntmps159
  go_wp2_with (first|(go_at_call 160;refine(HZ _ _).mono ?_;rintro e w' ⟨rfl,rfl⟩)|(go_at_call 161;refine(Us v l x B _ h hl hB).mono ?_;rintro e w1 ⟨v1,rfl,hr1,hb1⟩))
  go_ret2
  exact⟨v1,rfl,fun _=>hr1,hb1⟩
set_option maxHeartbeats 800000 in
theorem fS (s:ByteArray) (w:World) (hs:s.size<=16384) :
  Calls Tryz.prog 158 #[.string s,.func (.func 187) #[] #[]] w fun e w'=>e=.returned (Bi (Al AS 0 s.data.toList []))/\Qb w w':=by
 have hmk:=fun W=>Lc s.size (by omega) W
 go_enter Tryz.func158,Tryz.ntmps158
 go_wp2_with fail
 clear hmk
 go_loopw [6,7,8,9,10,11,20] (fun v m _ _ _ _ i wr=>∃k j:Nat,∃l,k<=s.size/\k<=j/\j<=s.size/\m=.int .i64 j/\i=.int .i64 k/\AX wr w.heap.size v l/\l.length<=3*k/\Hid (Al AS 0 s.data.toList []=Al AS (j - k) (s.data.toList.drop k) l)/\Qb w wr) (fun _ _ _ _ _ _ i _=>s.size - (intOf i).toNat)
 case atStart=>exact⟨0,0,[],ze _,zd _,ze _,rfl,rfl,JJ w _ 0 _ (zd _) (ze _) (by omega),ze _,za rfl,(Qb.refl w).alloc _⟩
 case round=>
  obtain⟨k,j,l,hk,hkj,hj,rfl,rfl,hrow,hlen,HR,hq⟩:=hrel
  by_cases hlt:k<s.size
  ·by_cases hskip:k<j
   ·have HS:=za (Rx AS s k l j hlt hskip)
    go_wp2_with fail
    go_roundw
    case rel=>exact⟨k+1,j,l,by omega,by omega,hj,rfl,by go_num,hrow,by omega,za (HR.out.trans HS.out),hq⟩
    case measure=>simp[intOf];omega
   ·obtain rfl:k=j:=by omega
    rw[jw] at HR;have hB:w.heap.size<=wr.heap.size:=hq.size
    by_cases hc:s[k]=37
    ·have h37:((s[k].toNat:Int)==37)=true:=by rw[hc];rfl
     have HC:=za hc;clear hc;rcases he:Bq (s.data.toList.drop k) with _|_
     ·have HE:=za (KC AS s k l hlt HC.out he)
      go_wp2_with (go_at_call 193;refine(LL s k (by omega) (by unfold maxLen;omega) _).mono ?_;rintro e w' ⟨rfl,rfl⟩)
      go_ret2
      exact⟨by rw[HR.out,HE.out];rfl,hq⟩
     ·obtain⟨h2,ha,hb,hv2⟩:=RX s k he;have n1:=(DG ha).2;rw[<-(DG ha).1] at n1;have n2:=(DG hb).2;rw[<-(DG hb).1] at n2;have hor:bits .or .u8 (((hv s[k+1]).toNat:Int)*16) ((hv s[k+2]).toNat:Int)=((A1 (s.data.toList.drop k)).toNat:Int):=by
       rw[hv2,<-PB ⟨_,n1⟩ ⟨_,n2⟩];rfl
      have HV:=za hor;have HE0:=za he;clear hv2 hor;have q1:IntKind.i64.wrap ((k:Int)+1)=(k:Int)+1:=IntWalk.i64_in _ (by omega);have q2:(0:Int)<=(k:Int)+1:=by omega
      have q3:((k:Int)+1).toNat=k+1:=by omega
      have q4:(k:Int)+1<s.size:=by omega
      have q5:IntKind.i64.wrap ((k:Int)+2)=(k:Int)+2:=IntWalk.i64_in _ (by omega);have q6:(0:Int)<=(k:Int)+2:=by omega
      have q7:((k:Int)+2).toNat=k+2:=by omega
      have q8:(k:Int)+2<s.size:=by omega
      go_wp2_with (go_at_call 193;refine(LL s k (by omega) (by unfold maxLen;omega) _).mono ?_;rintro e w' ⟨rfl,rfl⟩)
      go_quiet ((go_at_call 194;exact JN (SK _ (by assumption) _)))
      clear he
      go_wp2_with fail
      rw[HV.out];refine(S4 _ l (A1 (s.data.toList.drop k)) true w.heap.size _ (by exact hrow) (by omega) (by exact hB)).mono ?_;rintro en w2 ⟨v2,rfl,hr2,hb2⟩;have hq2:Qb w w2:=Below.trans (hq.drewN _) hb2;have hl2:=Rc (l:=l) (x:=A1 (s.data.toList.drop k)) (e:=true)
      by_cases h0:(AS l (A1 (s.data.toList.drop k)) true).1=0
      ·have hr3:=hr2 h0;have HE:=za (Jn AS s k l hlt HC.out HE0.out h0);clear hr2;generalize hout:(AS l (A1 (s.data.toList.drop k)) true).2=l2 at *;have HO:=za hout;clear hout
       go_wp2_with fail
       go_roundw
       case rel=>exact⟨k+1,k+3,l2,by omega,by omega,by omega,by go_num,by go_num,hr3,by omega,za (HR.out.trans HE.out),hq2⟩
       case measure=>simp[intOf];omega
      ·have HE:=za (Tv AS s k l hlt HC.out HE0.out h0);have h1:(((AS l (A1 (s.data.toList.drop k)) true).1) != 0)=true:=bne_iff_ne.2 h0;clear h0 hr2
       go_wp2_with fail
       go_ret2
       exact⟨by rw[HR.out,HE.out];rfl,hq2⟩
    ·have h37:((s[k].toNat:Int)==37)=false:=by
      rw[beq_eq_false_iff_ne];intro e;exact hc (UInt8.toNat_inj.1 (show s[k].toNat=37 from by omega))
     have HC:=za hc;clear hc
     all_goals
      go_wp2_with fail
      refine(S4 _ l (s[k]) false w.heap.size _ (by exact hrow) (by omega) (by exact hB)).mono ?_;rintro en w2 ⟨v2,rfl,hr2,hb2⟩;have hq2:Qb w w2:=Below.trans hq hb2;have hl2:=Rc (l:=l) (x:=s[k]) (e:=false)
      by_cases h0:(AS l (s[k]) false).1=0
      ·have hr3:=hr2 h0;have HE:=za (KE AS s k l hlt HC.out h0);clear hr2;generalize hout:(AS l (s[k]) false).2=l2 at *;have HO:=za hout;clear hout
       go_wp2_with fail
       go_roundw
       case rel=>exact⟨k+1,k+1,l2,by omega,by omega,by omega,by go_num,by go_num,hr3,by omega,za (HR.out.trans HE.out),hq2⟩
       case measure=>simp[intOf];omega
      ·have HE:=za (Og AS s k l hlt HC.out h0);have h1:(((AS l (s[k]) false).1) != 0)=true:=bne_iff_ne.2 h0;clear h0 hr2
       go_wp2_with fail
       go_ret2
       exact⟨by rw[HR.out,HE.out];rfl,hq2⟩
  ·have HE:=za (KD AS s k l (j - k) hlt);have hst:=Hk hrow
   go_wp2_with fail
   go_ret2
   exact⟨by rw[HR.out,HE.out];rfl,hq⟩
set_option maxHeartbeats 800000 in
theorem fT (s:ByteArray) (g:Nat) (also:ByteArray) (w:World) (hs:s.size<=16384) (hg:g<w.heap.size) (hc0:w.cell? ⟨g,0,none⟩=some (.string also)) :
  Calls Tryz.prog 158 #[.string s,.func (.func 159) #[] #[.pointer (some ⟨g,0,none⟩)]] w fun e w'=>e=.returned (Bi (Al (AR also.data.toList) 0 s.data.toList []))/\Qb w w':=by
 have hmk:=fun W=>Lc s.size (by omega) W
 go_enter Tryz.func158,Tryz.ntmps158
 go_wp2_with fail
 clear hmk
 go_loopw [6,7,8,9,10,11,20] (fun v m _ _ _ _ i wr=>∃k j:Nat,∃l,k<=s.size/\k<=j/\j<=s.size/\m=.int .i64 j/\i=.int .i64 k/\AX wr w.heap.size v l/\l.length<=3*k/\Hid (Al (AR also.data.toList) 0 s.data.toList []=Al (AR also.data.toList) (j - k) (s.data.toList.drop k) l)/\Qb w wr) (fun _ _ _ _ _ _ i _=>s.size - (intOf i).toNat)
 case atStart=>exact⟨0,0,[],ze _,zd _,ze _,rfl,rfl,JJ w _ 0 _ (zd _) (ze _) (by omega),ze _,za rfl,(Qb.refl w).alloc _⟩
 case round=>
  obtain⟨k,j,l,hk,hkj,hj,rfl,rfl,hrow,hlen,HR,hq⟩:=hrel
  by_cases hlt:k<s.size
  ·by_cases hskip:k<j
   ·have HS:=za (Rx (AR also.data.toList) s k l j hlt hskip)
    go_wp2_with fail
    go_roundw
    case rel=>exact⟨k+1,j,l,by omega,by omega,hj,rfl,by go_num,hrow,by omega,za (HR.out.trans HS.out),hq⟩
    case measure=>simp[intOf];omega
   ·obtain rfl:k=j:=by omega
    rw[jw] at HR;have hB:w.heap.size<=wr.heap.size:=hq.size;have hcw:wr.cell? ⟨g,0,none⟩=some (.string also):=(hq.below.cell (p:=⟨g,0,none⟩) hg).trans hc0
    by_cases hc:s[k]=37
    ·have h37:((s[k].toNat:Int)==37)=true:=by rw[hc];rfl
     have HC:=za hc;clear hc;rcases he:Bq (s.data.toList.drop k) with _|_
     ·have HE:=za (KC (AR also.data.toList) s k l hlt HC.out he)
      go_wp2_with (go_at_call 193;refine(LL s k (by omega) (by unfold maxLen;omega) _).mono ?_;rintro e w' ⟨rfl,rfl⟩)
      go_ret2
      exact⟨by rw[HR.out,HE.out];rfl,hq⟩
     ·obtain⟨h2,ha,hb,hv2⟩:=RX s k he;have n1:=(DG ha).2;rw[<-(DG ha).1] at n1;have n2:=(DG hb).2;rw[<-(DG hb).1] at n2;have hor:bits .or .u8 (((hv s[k+1]).toNat:Int)*16) ((hv s[k+2]).toNat:Int)=((A1 (s.data.toList.drop k)).toNat:Int):=by
       rw[hv2,<-PB ⟨_,n1⟩ ⟨_,n2⟩];rfl
      have HV:=za hor;have HE0:=za he;clear hv2 hor;have q1:IntKind.i64.wrap ((k:Int)+1)=(k:Int)+1:=IntWalk.i64_in _ (by omega);have q2:(0:Int)<=(k:Int)+1:=by omega
      have q3:((k:Int)+1).toNat=k+1:=by omega
      have q4:(k:Int)+1<s.size:=by omega
      have q5:IntKind.i64.wrap ((k:Int)+2)=(k:Int)+2:=IntWalk.i64_in _ (by omega);have q6:(0:Int)<=(k:Int)+2:=by omega
      have q7:((k:Int)+2).toNat=k+2:=by omega
      have q8:(k:Int)+2<s.size:=by omega
      go_wp2_with (go_at_call 193;refine(LL s k (by omega) (by unfold maxLen;omega) _).mono ?_;rintro e w' ⟨rfl,rfl⟩)
      go_quiet ((go_at_call 194;exact JN (SK _ (by assumption) _)))
      clear he
      go_wp2_with fail
      rw[HV.out];refine(TC _ l (A1 (s.data.toList.drop k)) true w.heap.size g also _ (by exact hrow) (by omega) (by exact hB) (by exact hcw)).mono ?_;rintro en w2 ⟨v2,rfl,hr2,hb2⟩;have hq2:Qb w w2:=Below.trans (hq.drewN _) hb2;have hl2:=Rd (also:=also.data.toList) (l:=l) (x:=A1 (s.data.toList.drop k)) (e:=true)
      by_cases h0:((AR also.data.toList) l (A1 (s.data.toList.drop k)) true).1=0
      ·have hr3:=hr2 h0;have HE:=za (Jn (AR also.data.toList) s k l hlt HC.out HE0.out h0);clear hr2;generalize hout:((AR also.data.toList) l (A1 (s.data.toList.drop k)) true).2=l2 at *;have HO:=za hout;clear hout
       go_wp2_with fail
       go_roundw
       case rel=>exact⟨k+1,k+3,l2,by omega,by omega,by omega,by go_num,by go_num,hr3,by omega,za (HR.out.trans HE.out),hq2⟩
       case measure=>simp[intOf];omega
      ·have HE:=za (Tv (AR also.data.toList) s k l hlt HC.out HE0.out h0);have h1:((((AR also.data.toList) l (A1 (s.data.toList.drop k)) true).1) != 0)=true:=bne_iff_ne.2 h0;clear h0 hr2
       go_wp2_with fail
       go_ret2
       exact⟨by rw[HR.out,HE.out];rfl,hq2⟩
    ·have h37:((s[k].toNat:Int)==37)=false:=by
      rw[beq_eq_false_iff_ne];intro e;exact hc (UInt8.toNat_inj.1 (show s[k].toNat=37 from by omega))
     have HC:=za hc;clear hc
     all_goals
      go_wp2_with fail
      refine(TC _ l (s[k]) false w.heap.size g also _ (by exact hrow) (by omega) (by exact hB) (by exact hcw)).mono ?_;rintro en w2 ⟨v2,rfl,hr2,hb2⟩;have hq2:Qb w w2:=Below.trans hq hb2;have hl2:=Rd (also:=also.data.toList) (l:=l) (x:=s[k]) (e:=false)
      by_cases h0:((AR also.data.toList) l (s[k]) false).1=0
      ·have hr3:=hr2 h0;have HE:=za (KE (AR also.data.toList) s k l hlt HC.out h0);clear hr2;generalize hout:((AR also.data.toList) l (s[k]) false).2=l2 at *;have HO:=za hout;clear hout
       go_wp2_with fail
       go_roundw
       case rel=>exact⟨k+1,k+1,l2,by omega,by omega,by omega,by go_num,by go_num,hr3,by omega,za (HR.out.trans HE.out),hq2⟩
       case measure=>simp[intOf];omega
      ·have HE:=za (Og (AR also.data.toList) s k l hlt HC.out h0);have h1:((((AR also.data.toList) l (s[k]) false).1) != 0)=true:=bne_iff_ne.2 h0;clear h0 hr2
       go_wp2_with fail
       go_ret2
       exact⟨by rw[HR.out,HE.out];rfl,hq2⟩
  ·have HE:=za (KD (AR also.data.toList) s k l (j - k) hlt);have hst:=Hk hrow
   go_wp2_with fail
   go_ret2
   exact⟨by rw[HR.out,HE.out];rfl,hq⟩
theorem TX (s:ByteArray) (f:Value) (w:World) (hs:¬s.size<=16384) :
  Calls Tryz.prog 158 #[.string s,f] w fun e w'=>e=.returned (Bi (5,[]))/\w=w':=by
 go_enter Tryz.func158,Tryz.ntmps158
 go_wp2_with fail
 go_ret2
 exact⟨rfl,rfl⟩
theorem TE (s:ByteArray) (w:World) :
  Calls Tryz.prog 153 #[.string s] w fun e w'=>e=.returned (Bi (An s.data.toList))/\Qb w w':=by
 have hmf:∀(fn:Fn) (first cap:Array Value) (w:World),(Instr.makeFunc fn first cap).run Tryz.prog w=.ok (.func fn first cap) w:=fun _ _ _ _=>rfl
 by_cases hs:s.size<=16384
 ·have hd:An s.data.toList=Al AS 0 s.data.toList []:=by unfold An B3;rw[if_neg (by rw[At];omega)]
  rw[hd]
  go_enter Tryz.func153,Tryz.ntmps153
  go_wp2_with fail
  refine(fS s _ hs).mono ?_;rintro e w1 ⟨rfl,hq1⟩;unfold Bi
  go_wp2_with fail
  go_ret2
  exact⟨rfl,hq1⟩
 ·have hd:An s.data.toList=(5,[]):=by unfold An B3;rw[if_pos (by rw[At];omega)]
  rw[hd]
  go_enter Tryz.func153,Tryz.ntmps153
  go_wp2_with fail
  refine(TX s _ _ hs).mono ?_;rintro e w1 ⟨rfl,rfl⟩;unfold Bi
  go_wp2_with fail
  go_ret2
  exact⟨rfl,Qb.refl _⟩
theorem IA (s a:ByteArray) (w:World) :
  Calls Tryz.prog 136 #[.string s,.string a] w fun e w'=>e=.returned (Bi (Aj s.data.toList a.data.toList))/\Qb w w':=by
 have hmf:∀(fn:Fn) (first cap:Array Value) (w:World),(Instr.makeFunc fn first cap).run Tryz.prog w=.ok (.func fn first cap) w:=fun _ _ _ _=>rfl
 by_cases hs:s.size<=16384
 ·have hd:Aj s.data.toList a.data.toList=Al (AR a.data.toList) 0 s.data.toList []:=by unfold Aj B3;rw[if_neg (by rw[At];omega)]
  rw[hd]
  go_enter Tryz.func136,Tryz.ntmps136
  go_wp2_with fail
  refine(fT s w.heap.size a _ hs (by simp) (by rw[World.cell?_alloc_at _ _ _ _ rfl];rfl)).mono ?_;rintro e w1 ⟨rfl,hq1⟩;unfold Bi
  go_wp2_with fail
  go_ret2
  exact⟨rfl,((Qb.refl w).alloc _).trans hq1⟩
 ·have hd:Aj s.data.toList a.data.toList=(5,[]):=by unfold Aj B3;rw[if_pos (by rw[At];omega)]
  rw[hd]
  go_enter Tryz.func136,Tryz.ntmps136
  go_wp2_with fail
  refine(TX s _ _ hs).mono ?_;rintro e w1 ⟨rfl,rfl⟩;unfold Bi
  go_wp2_with fail
  go_ret2
  exact⟨rfl,(Qb.refl w).alloc _⟩
theorem RW (s keep:ByteArray) (k:Nat) (h:k<s.size):AL (s.data.toList.take (k+1)) keep.data.toList=AL (s.data.toList.take k) keep.data.toList++(if Bx s[k] keep.data.toList=true then [s[k]] else Bk s[k]):=by
 rw[Gj s k h];simp[AL]
theorem Iv (c:UInt8):(Bk c).length=3:=rfl
theorem Hu (l keep:List UInt8):(AL l keep).length<=3*l.length:=by
 unfold AL
 induction l with
 | nil=>simp
 | cons c l ih=>
  rw[qq,zg,zl]
  split<;>simp only[Iv,zl,List.length_nil]<;>omega
theorem TG (s keep:ByteArray) (w:World) (hs:s.size<=300000000) :
  Calls Tryz.prog 141 #[.string s,.string keep] w fun e w'=>e=.returned (.string (S (AL s.data.toList keep.data.toList)))/\Qb w w':=by
 have hmk:=fun W=>Lc s.size (by omega) W
 go_enter Tryz.func141,Tryz.ntmps141
 go_wp2_with fail
 clear hmk
 go_loopw [5,6,12] (fun v _ i wr=>∃k:Nat,∃l,k<=s.size/\i=.int .i64 k/\AX wr w.heap.size v l/\l.length<=3*k/\Hid (l=AL (s.data.toList.take k) keep.data.toList)/\Qb w wr) (fun _ _ i _=>s.size - (intOf i).toNat)
 case atStart=>exact⟨0,[],ze _,rfl,JJ w _ 0 _ (zd _) (ze _) (by omega),ze _,za rfl,(Qb.refl w).alloc _⟩
 case round=>
  obtain⟨k,l,hk,rfl,hrow,hlen,HL,hq⟩:=hrel;have hB:w.heap.size<=wr.heap.size:=hq.size
  by_cases hlt:k<s.size
  ·have HS:=za (RW s keep k hlt);rcases hp:Bx s[k] keep.data.toList with _|_
   ·go_wp2_with (first|(go_at_call 162;refine(IR _ _ _).mono ?_;rintro e w' ⟨rfl,rfl⟩)|(go_at_call 161;refine(Us _ l s[k] w.heap.size _ hrow (by omega) hB).mono ?_;rintro e w1 ⟨v1,rfl,hr1,hb1⟩))
    go_roundw
    case rel=>exact⟨k+1,_,by omega,by go_num,hr1,by simp[Bk];omega,za (by rw[HS.out,HL.out,hp];rfl),Below.trans hq hb1⟩
    case measure=>simp[intOf];omega
   ·go_wp2_with (first|(go_at_call 162;refine(IR _ _ _).mono ?_;rintro e w' ⟨rfl,rfl⟩)|(at_builtin;refine Gl rfl (.tmp 20) (.tmp 24) rfl w.heap.size _ l [s[k]] rfl (hrow.alloc _) _ _ _ rfl rfl (F0 _ _) (by simp;omega) (by simp;omega) ?_;intro v1 w1 hr1 hb1))
    go_roundw
    case rel=>exact⟨k+1,_,by omega,by go_num,hr1,by simp;omega,za (by rw[HS.out,HL.out,hp];rfl),Below.trans (hq.alloc _) hb1⟩
    case measure=>simp[intOf];omega
  ·have HE:=za (Ee s k hlt);have hst:=Hk hrow
   go_wp2_with fail
   go_ret
   exact⟨K4 (by rw[HL.out,HE.out]),hq⟩
theorem D0 (add:FA):∀(n:Nat) (l out:List UInt8),Al add n l out=Al add 0 (l.drop n) out
 | 0,l,out=>rfl
 | n+1,[],out=>by rw[List.drop_nil,Al,Al]
 | n+1,_::l,out=>by rw[Al,List.drop_succ_cons];exact D0 add n l out
theorem Mt (add:FA) (s:ByteArray) (k j:Nat) (h:k<=j) (out:List UInt8):Al add (j - k) (s.data.toList.drop k) out=Al add 0 (s.data.toList.drop j) out:=by
 rw[D0,List.drop_drop,show k+(j - k)=j from by omega]
theorem IS (s:ByteArray) (w:World) :
  Calls Tryz.prog 71 #[.string s] w fun e w'=>e=.returned (Bi (An s.data.toList))/\Qb w w':=by
 by_cases hs:s.size<=16384
 ·have hd:An s.data.toList=Al AS 0 s.data.toList []:=by unfold An B3;rw[if_neg (by rw[At];omega)]
  rw[hd]
  go_enter Tryz.func71,Tryz.ntmps71
  go_wp2_with fail
  go_loopw [4,5,6,7,8] (fun v i _ _ _ wr=>∃k:Nat,∃l,k<=s.size/\i=.int .i64 k/\AX wr w.heap.size v l/\l.length<=k/\Hid (Al AS 0 s.data.toList []=Al AS 0 (s.data.toList.drop k) l)/\Qb w wr) (fun _ i _ _ _ _=>s.size - (intOf i).toNat)
  case atStart=>exact⟨0,[],ze _,rfl,AX.nil _ _,zd _,za rfl,Qb.refl w⟩
  case round=>
   obtain⟨k,l,hk,rfl,hrow,hlen,HR,hq⟩:=hrel;have hB:w.heap.size<=wr.heap.size:=hq.size
   by_cases hlt:k<s.size
   ·by_cases hc:s[k]=37
    ·have h37:((s[k].toNat:Int)==37)=true:=by rw[hc];rfl
     have HC:=za hc;clear hc;rcases he:Bq (s.data.toList.drop k) with _|_
     ·have HE:=za (KC AS s k l hlt HC.out he)
      go_wp2_with (go_at_call 90;refine(JU s k hlt (by omega) HC.out _).mono ?_;rintro e w1 ⟨rfl,hq1⟩)
      go_ret2
      exact⟨by rw[HR.out,HE.out];rfl,hq.trans hq1⟩
     ·have HE:=za (Jn AS s k l hlt HC.out he rfl);have HJ:=za (Mt AS s (k+1) (k+3) (by omega) (l++[EB (s.data.toList.drop k)]));have HV:=za (Np he);have h2:=NQ s k he
      go_wp2_with (first|(go_at_call 90;refine(JU s k hlt (by omega) HC.out _).mono ?_;rintro e w0 ⟨rfl,hq1⟩;have hrow0:=hrow.below hq1)|(at_builtin;refine Gl rfl (.tmp 34) (.tmp 36) rfl w.heap.size _ l [EB (s.data.toList.drop k)] rfl (hrow0.alloc _) _ _ _ rfl rfl (F0 _ _) (by simp;omega) (by have:=hq1.size;simp;omega) ?_;intro v1 w1 hr1 hb1))
      go_roundw
      case rel=>exact⟨k+3,_,by omega,by go_num,hr1,by simp;omega,za (by rw[HR.out,HE.out,<-HJ.out,HV.out];rfl),Below.trans ((hq.trans hq1).alloc _) hb1⟩
      case measure=>simp[intOf];omega
    ·have h37:((s[k].toNat:Int)==37)=false:=by
      rw[beq_eq_false_iff_ne];intro e;exact hc (UInt8.toNat_inj.1 (show s[k].toNat=37 from by omega))
     have HC:=za hc;clear hc;have HE:=za (KE AS s k l hlt HC.out rfl)
     go_wp2_with (at_builtin;refine Gl rfl (.tmp 34) (.tmp 36) rfl w.heap.size _ l [s[k]] rfl (hrow.alloc _) _ _ _ rfl rfl (F0 _ _) (by simp;omega) (by simp;omega) ?_;intro v1 w1 hr1 hb1)
     go_roundw
     case rel=>exact⟨k+1,_,by omega,by go_num,hr1,by simp;omega,za (by rw[HR.out,HE.out,jw];rfl),Below.trans (hq.alloc _) hb1⟩
     case measure=>simp[intOf];omega
   ·have HE:=za (KD AS s k l 0 hlt);have hst:=Hk hrow
    go_wp2_with fail
    go_ret2
    exact⟨by rw[HR.out,HE.out];rfl,hq⟩
 ·have hd:An s.data.toList=(5,[]):=by unfold An B3;rw[if_pos (by rw[At];omega)]
  rw[hd]
  go_enter Tryz.func71,Tryz.ntmps71
  go_wp2_with fail
  go_ret2
  exact⟨rfl,Qb.refl _⟩
theorem Vl {c:UInt8} (h:c≠37):((c.toNat:Int)==37)=false:=by
 rw[beq_eq_false_iff_ne];intro e;exact h (UInt8.toNat_inj.1 (show c.toNat=37 from by omega))
theorem Ym (s:ByteArray) (k:Nat) (h:k<s.size):(s.extract k (k+1)).data.toList=[s[k]]:=by
 rw[Lib.extract_data,Df s k h,show k+1 - k=1 from by omega];rfl
theorem Rj (a b:ByteArray):(a++b).data.toList=a.data.toList++b.data.toList:=by
 rw[ByteArray.data_append,Array.toList_append]
theorem EX {c:UInt8} {l:List UInt8} (h:A8 c=true):Bx c l=true:=by unfold Bx;rw[h];rfl
theorem Sp {l:List UInt8}:Bx 37 l=false:=by unfold Bx;rfl
theorem NP {c:UInt8} {l:List UInt8} (h:A8 c=false) (hc:c≠37):Bx c l=Aw c l:=by
 have h1:(c.toNat != 37)=true:=bne_iff_ne.2 (fun e=>hc (UInt8.toNat_inj.1 e));unfold Bx;rw[h,h1];rfl
theorem rN:A8 37=false:=by decide
theorem Tt (s keep:ByteArray) (w:World) (hs:s.size<=300000000) (ha:keep.size<=maxLen) :
  Calls Tryz.prog 74 #[.string s,.string keep] w fun e w'=>e=.returned (.string (S (AL s.data.toList keep.data.toList)))/\Qb w w':=by
 go_enter Tryz.func74,Tryz.ntmps74
 go_wp2_with fail
 go_loopw [5,6] (fun v i wr=>∃k:Nat,∃o:ByteArray,k<=s.size/\i=.int .i64 k/\v=.string o/\o.size<=3*k/\Hid (o.data.toList=AL (s.data.toList.take k) keep.data.toList)/\Qb w wr) (fun _ i _=>s.size - (intOf i).toNat)
 case atStart=>exact⟨0,⟨#[]⟩,ze _,rfl,rfl,ze _,za rfl,Qb.refl w⟩
 case round=>
  obtain⟨k,o,hk,rfl,rfl,hlen,HL,hq⟩:=hrel
  by_cases hlt:k<s.size
  ·have HS:=za (RW s keep k hlt);have hx:=size_extract s k (k+1) (by omega);have hx1:(s.extract k (k+1)).size<=1:=by omega
   have hx2:(S (Bk s[k])).size<=3:=by rw[Am];exact zd _
   clear hx;have HO:=za (Ym s k hlt);have hyes:Hid (Bx s[k] keep.data.toList=true->(o++s.extract k (k+1)).data.toList=AL (s.data.toList.take (k+1)) keep.data.toList):=za fun hp=>by
    rw[Rj,HO.out,HS.out,if_pos hp,HL.out]
   have hno:Hid (Bx s[k] keep.data.toList=false->(o++S (Bk s[k])).data.toList=AL (s.data.toList.take (k+1)) keep.data.toList):=za fun hp=>by
    rw[Rj,HS.out,if_neg (by rw[hp];exact Bool.false_ne_true),HL.out]
   have hsz:(o++s.extract k (k+1)).size<=3*(k+1):=by rw[ByteArray.size_append];omega
   have hsz2:(o++S (Bk s[k])).size<=3*(k+1):=by rw[ByteArray.size_append];omega
   have Hz:=za (And.intro hsz hsz2);clear hsz hsz2;rcases hu:A8 s[k] with _|_
   ·by_cases hc:s[k]=37
    ·have h37:((s[k].toNat:Int) != 37)=false:=by rw[hc];rfl
     have HP:Hid (Bx s[k] keep.data.toList=false):=za (by rw[hc];exact Sp);clear hc
     go_wp2_with (first|(go_at_call 70;refine(EK _ _).mono ?_;rintro e w' ⟨rfl,rfl⟩)|(go_at_call 66;refine(DY _ _ _ ha).mono ?_;rintro e w' ⟨rfl,rfl⟩)|(go_at_call 91;refine(LB _ _).mono ?_;rintro e w1 ⟨rfl,hq1⟩))
     go_roundw
     case rel=>exact⟨k+1,_,by omega,by go_num,rfl,Hz.out.2,za (hno.out HP.out),hq.trans hq1⟩
     case measure=>simp[intOf];omega
    ·have h37:((s[k].toNat:Int) != 37)=true:=by have:=Vl hc;simpa using this
     have HP:=za (NP (l:=keep.data.toList) hu hc);clear hc;rcases hi:Aw s[k] keep.data.toList with _|_
     ·go_wp2_with (first|(go_at_call 70;refine(EK _ _).mono ?_;rintro e w' ⟨rfl,rfl⟩)|(go_at_call 66;refine(DY _ _ _ ha).mono ?_;rintro e w' ⟨rfl,rfl⟩)|(go_at_call 91;refine(LB _ _).mono ?_;rintro e w1 ⟨rfl,hq1⟩))
      go_roundw
      case rel=>exact⟨k+1,_,by omega,by go_num,rfl,Hz.out.2,za (hno.out (HP.out.trans hi)),hq.trans hq1⟩
      case measure=>simp[intOf];omega
     ·go_wp2_with (first|(go_at_call 70;refine(EK _ _).mono ?_;rintro e w' ⟨rfl,rfl⟩)|(go_at_call 66;refine(DY _ _ _ ha).mono ?_;rintro e w' ⟨rfl,rfl⟩))
      go_roundw
      case rel=>exact⟨k+1,_,by omega,by go_num,rfl,Hz.out.1,za (hyes.out (HP.out.trans hi)),hq⟩
      case measure=>simp[intOf];omega
   ·have HP:=za (EX (l:=keep.data.toList) hu)
    go_wp2_with (first|(go_at_call 70;refine(EK _ _).mono ?_;rintro e w' ⟨rfl,rfl⟩)|(go_at_call 66;refine(DY _ _ _ ha).mono ?_;rintro e w' ⟨rfl,rfl⟩))
    go_roundw
    case rel=>exact⟨k+1,_,by omega,by go_num,rfl,Hz.out.1,za (hyes.out HP.out),hq⟩
    case measure=>simp[intOf];omega
  ·have HE:=za (Ee s k hlt)
   go_wp2_with fail
   go_ret
   exact⟨GN (J2 (by rw[HL.out,HE.out])),hq⟩
set_option maxHeartbeats 800000 in
theorem IC (s also:ByteArray) (w:World) (ha:also.size<=maxLen) :
  Calls Tryz.prog 68 #[.string s,.string also] w fun e w'=>e=.returned (Bi (Aj s.data.toList also.data.toList))/\Qb w w':=by
 by_cases hs:s.size<=16384
 ·have hd:Aj s.data.toList also.data.toList=Al (AR also.data.toList) 0 s.data.toList []:=by unfold Aj B3;rw[if_neg (by rw[At];omega)]
  rw[hd]
  go_enter Tryz.func68,Tryz.ntmps68
  go_wp2_with fail
  go_loopw [6,7,8,9] (fun v i _ _ wr=>∃k:Nat,∃l,k<=s.size/\i=.int .i64 k/\AX wr w.heap.size v l/\l.length<=3*k/\Hid (Al (AR also.data.toList) 0 s.data.toList []=Al (AR also.data.toList) 0 (s.data.toList.drop k) l)/\Qb w wr) (fun _ i _ _ _=>s.size - (intOf i).toNat)
  case atStart=>exact⟨0,[],ze _,rfl,AX.nil _ _,ze _,za rfl,Qb.refl w⟩
  case round=>
   obtain⟨k,l,hk,rfl,hrow,hlen,HR,hq⟩:=hrel;have hB:w.heap.size<=wr.heap.size:=hq.size
   by_cases hlt:k<s.size
   ·by_cases hc:s[k]=37
    ·have h37:((s[k].toNat:Int) != 37)=false:=by rw[hc];rfl
     have HC:=za hc;clear hc;rcases he:Bq (s.data.toList.drop k) with _|_
     ·have HE:=za (KC (AR also.data.toList) s k l hlt HC.out he)
      go_wp2_with (go_at_call 90;refine(JU s k hlt (by omega) HC.out _).mono ?_;rintro e w0 ⟨rfl,hq1⟩;have hrow0:=hrow.below hq1)
      go_ret2
      exact⟨by rw[HR.out,HE.out];rfl,hq.trans hq1⟩
     ·have HV:=za (Np he);have HE0:=za he;have h2:=NQ s k he;rcases hu:A8 (EB (s.data.toList.drop k)) with _|_
      ·have ha1:AR also.data.toList l (A1 (s.data.toList.drop k)) true=(0,l++Bk (EB (s.data.toList.drop k))):=by rw[<-HV.out];exact FH hu
       have HE:=za (Jn (AR also.data.toList) s k l hlt HC.out he (by rw[ha1]));have HJ:=za (Mt (AR also.data.toList) s (k+1) (k+3) (by omega) (l++Bk (EB (s.data.toList.drop k))));have HA:=za ha1;have hsz:(S (Bk (EB (s.data.toList.drop k)))).size<=3:=by rw[Am];exact zd _
       clear ha1
       go_wp2_with (first|(go_at_call 90;refine(JU s k hlt (by omega) HC.out _).mono ?_;rintro e w0 ⟨rfl,hq1⟩;have hrow0:=hrow.below hq1)|(go_at_call 70;refine(EK _ _).mono ?_;rintro e w' ⟨rfl,rfl⟩)|(go_at_call 91;refine(LB _ _).mono ?_;rintro e w3 ⟨rfl,hq3⟩;have hrow3:=hrow0.below hq3)|(at_builtin;refine jY rfl (.tmp 56) (.tmp 58) rfl w.heap.size _ l rfl hrow3 _ rfl (by omega) (by have:=hq1.size;have:=hq3.size;omega) ?_;intro v1 w1 hr1 hb1))
       go_roundw
       case rel=>exact⟨k+3,_,by omega,by go_num,hr1,by simp[Bk];omega,za (by rw[HR.out,HE.out,HA.out,<-HJ.out]),Below.trans ((hq.trans hq1).trans hq3) hb1⟩
       case measure=>simp[intOf];omega
      ·have ha1:AR also.data.toList l (A1 (s.data.toList.drop k)) true=(0,l++[EB (s.data.toList.drop k)]):=by
        rw[<-HV.out];exact DN (by rw[hu];rfl) (EX hu)
       have HE:=za (Jn (AR also.data.toList) s k l hlt HC.out he (by rw[ha1]));have HJ:=za (Mt (AR also.data.toList) s (k+1) (k+3) (by omega) (l++[EB (s.data.toList.drop k)]));have HA:=za ha1;clear ha1
       go_wp2_with (first|(go_at_call 90;refine(JU s k hlt (by omega) HC.out _).mono ?_;rintro e w0 ⟨rfl,hq1⟩;have hrow0:=hrow.below hq1)|(go_at_call 70;refine(EK _ _).mono ?_;rintro e w' ⟨rfl,rfl⟩)|(at_builtin;refine Gl rfl (.tmp 52) (.tmp 54) rfl w.heap.size _ l [EB (s.data.toList.drop k)] rfl (hrow0.alloc _) _ _ _ rfl rfl (F0 _ _) (by simp;omega) (by have:=hq1.size;simp;omega) ?_;intro v1 w1 hr1 hb1))
       go_roundw
       case rel=>exact⟨k+3,_,by omega,by go_num,hr1,by simp;omega,za (by rw[HR.out,HE.out,HA.out,<-HJ.out]),Below.trans ((hq.trans hq1).alloc _) hb1⟩
       case measure=>simp[intOf];omega
    ·have h37:((s[k].toNat:Int) != 37)=true:=by have:=Vl hc;simpa using this
     have HC:=za hc;clear hc;rcases hp:Bx s[k] also.data.toList with _|_
     ·have hu:A8 s[k]=false:=by
       rcases hu:A8 s[k] with _|_
       ·rfl
       ·rw[EX hu] at hp;cases hp
      have hi:Aw s[k] also.data.toList=false:=by rw[<-NP hu HC.out];exact hp
      have ha1:AR also.data.toList l s[k] false=(1,[]):=Jx rfl hp;have HE:=za (Og (AR also.data.toList) s k l hlt HC.out (by rw[ha1];decide));have HA:=za ha1;clear ha1 hp
      go_wp2_with (first|(go_at_call 70;refine(EK _ _).mono ?_;rintro e w' ⟨rfl,rfl⟩)|(go_at_call 66;refine(DY _ _ _ ha).mono ?_;rintro e w' ⟨rfl,rfl⟩))
      go_ret2
      exact⟨by rw[HR.out,HE.out,HA.out];rfl,hq⟩
     ·have ha1:AR also.data.toList l s[k] false=(0,l++[s[k]]):=DN rfl hp;have HE:=za (KE (AR also.data.toList) s k l hlt HC.out (by rw[ha1]));have HA:=za ha1;clear ha1;rcases hu:A8 s[k] with _|_
      ·have hi:Aw s[k] also.data.toList=true:=by rw[<-NP hu HC.out];exact hp
       clear hp
       go_wp2_with (first|(go_at_call 70;refine(EK _ _).mono ?_;rintro e w' ⟨rfl,rfl⟩)|(go_at_call 66;refine(DY _ _ _ ha).mono ?_;rintro e w' ⟨rfl,rfl⟩)|(at_builtin;refine Gl rfl (.tmp 36) (.tmp 40) rfl w.heap.size _ l [s[k]] rfl (hrow.alloc _) _ _ _ rfl rfl (F0 _ _) (by simp;omega) (by simp;omega) ?_;intro v1 w1 hr1 hb1))
       go_roundw
       case rel=>exact⟨k+1,_,by omega,by go_num,hr1,by simp;omega,za (by rw[HR.out,HE.out,HA.out,jw]),Below.trans (hq.alloc _) hb1⟩
       case measure=>simp[intOf];omega
      ·clear hp
       go_wp2_with (first|(go_at_call 70;refine(EK _ _).mono ?_;rintro e w' ⟨rfl,rfl⟩)|(go_at_call 66;refine(DY _ _ _ ha).mono ?_;rintro e w' ⟨rfl,rfl⟩)|(at_builtin;refine Gl rfl (.tmp 36) (.tmp 40) rfl w.heap.size _ l [s[k]] rfl (hrow.alloc _) _ _ _ rfl rfl (F0 _ _) (by simp;omega) (by simp;omega) ?_;intro v1 w1 hr1 hb1))
       go_roundw
       case rel=>exact⟨k+1,_,by omega,by go_num,hr1,by simp;omega,za (by rw[HR.out,HE.out,HA.out,jw]),Below.trans (hq.alloc _) hb1⟩
       case measure=>simp[intOf];omega
   ·have HE:=za (KD (AR also.data.toList) s k l 0 hlt);have hst:=Hk hrow
    go_wp2_with fail
    go_ret2
    exact⟨by rw[HR.out,HE.out];rfl,hq⟩
 ·have hd:Aj s.data.toList also.data.toList=(5,[]):=by unfold Aj B3;rw[if_pos (by rw[At];omega)]
  rw[hd]
  go_enter Tryz.func68,Tryz.ntmps68
  go_wp2_with fail
  go_ret2
  exact⟨rfl,Qb.refl _⟩
theorem S9:∀n:Fin 16,Bn (Bo n.val)=true/\Eh (Bo n.val)=n.val/\Bo n.val≠37:=by decide
theorem MF (c:UInt8) (r:List UInt8):Bq (Bk c++r)=true/\A1 (Bk c++r)=c:=by
 have hc:=c.toNat_lt;have h1:=S9 ⟨c.toNat / 16,by omega⟩;have h2:=S9 ⟨c.toNat % 16,by omega⟩;simp only at h1 h2
 constructor
 ·show (Bn (Bo (c.toNat / 16))&&Bn (Bo (c.toNat % 16)))=true;rw[h1.1,h2.1];rfl
 ·show UInt8.ofNat (16*Eh (Bo (c.toNat / 16))+Eh (Bo (c.toNat % 16)))=c;rw[h1.2.1,h2.2.1,show 16*(c.toNat / 16)+c.toNat % 16=c.toNat from by omega];exact UInt8.ofNat_toNat
theorem Js (add:FA) (c:UInt8) (r out:List UInt8) (o2:List UInt8) (h:add out c true=(0,o2)):Al add 0 (Bk c++r) out=Al add 0 r o2:=by
 have h1:=MF c r;show Al add 0 (37::([Bo (c.toNat / 16),Bo (c.toNat % 16)]++r)) out=_;have e:(37::([Bo (c.toNat / 16),Bo (c.toNat % 16)]++r):List UInt8)=Bk c++r:=rfl;rw[Al,if_pos rfl,e,if_pos h1.1,h1.2,h,if_pos rfl,D0]
 rfl
theorem IE (add:FA) (c:UInt8) (r out:List UInt8) (o2:List UInt8) (hc:c≠37) (h:add out c false=(0,o2)):Al add 0 ([c]++r) out=Al add 0 r o2:=by
 show Al add 0 (c::r) out=_;rw[Al,if_neg hc,h,if_pos rfl]
theorem Sq {c:UInt8} {k:List UInt8} (h:Bx c k=true):c≠37:=by
 rintro rfl;rw[Sp] at h;cases h
theorem MQ (add:FA) (f:UInt8->List UInt8) (keep:List UInt8) (h1:∀out c,Bx c keep=true->add out c false=(0,out++f c)) (h2:∀out c,Bx c keep=false->add out c true=(0,out++f c)) :
  ∀(l r out:List UInt8),Al add 0 (AL l keep++r) out=Al add 0 r (out++l.flatMap f)
 | [],r,out=>by simp[AL]
 | c::l,r,out=>by
  have e:AL (c::l) keep=(if Bx c keep=true then [c] else Bk c)++AL l keep:=rfl;rw[e,zu,qq];rcases hp:Bx c keep with _|_
  ·rw[if_neg Bool.false_ne_true,Js add c _ out _ (h2 out c hp),MQ add f keep h1 h2 l r _,zu]
  ·rw[if_pos rfl,IE add c _ out _ (Sq hp) (h1 out c hp),MQ add f keep h1 h2 l r _,zu]
theorem eF (l:List UInt8):l.flatMap (fun c=>[c])=l:=by simp
theorem VM (l keep:List UInt8) (hl:l.length<=1000):An (AL l keep)=(0,l):=by
 have hlen:=Hu l keep;unfold An B3;rw[if_neg (by omega),<-zy (AL l keep),MQ AS (fun c=>[c]) keep (fun _ _ _=>rfl) (fun _ _ _=>rfl),eF]
 rfl
theorem H4 (c:UInt8):Bx c []=A8 c:=by unfold Bx;rw[Q3,Bool.and_false,Bool.or_false]
def lO (also l y a:List UInt8):Prop :=
 (∀o r,Al (AR also) 0 (y++r) o=Al (AR also) 0 r (o++y))/\(∀o,Al AS 0 l o=(0,o++a))/\(∀o r,Al AS 0 (y++r) o=Al AS 0 r (o++a))/\y.length<=l.length
theorem Fq {c:UInt8} {t:List UInt8} (h:Bq (c::t)=true):∃a b r,t=a::b::r:=by
 match t,h with
 | a::b::r,_=>exact⟨a,b,r,rfl⟩
theorem SE {x:UInt8} (h:A8 x=true):x≠37:=by
 rintro rfl;rw[rN] at h;cases h
theorem So (also:List UInt8):∀(n:Nat) (l out x:List UInt8),l.length<=n->Al (AR also) 0 l out=(0,x)->∃y a,x=out++y/\lO also l y a:=by
 intro n
 induction n with
 | zero=>
  intro l out x hl h;have:l=[]:=qh (by omega);subst this;rw[Al] at h;obtain rfl:out=x:=by injection h
  exact⟨[],[],by simp,by simp,by intro o;rw[Al,zy],by simp,zd _⟩
 | succ n ih=>
  intro l out x hl h
  cases l with
  | nil=>
   rw[Al] at h;obtain rfl:out=x:=by injection h
   exact⟨[],[],by simp,by simp,by intro o;rw[Al,zy],by simp,zd _⟩
  | cons c t=>
   by_cases hc:c=37
   ·rcases he:Bq (c::t) with _|_
    ·rw[Al,if_pos hc,if_neg (by rw[he];exact Bool.false_ne_true)] at h;injection h with h1 _
     exact absurd h1 (by decide)
    ·obtain⟨a,b,r,rfl⟩:=Fq he;have hd:∀o,Al AS 0 (c::a::b::r) o=Al AS 0 r (o++[A1 (c::a::b::r)]):=by
      intro o;rw[Al,if_pos hc,if_pos he];show (if (0:Int)=0 then Al AS 2 (a::b::r) _ else _)=_;rw[if_pos rfl,D0]
      rfl
     rcases hu:A8 (A1 (c::a::b::r)) with _|_
     ·rw[Al,if_pos hc,if_pos he,FH hu,if_pos rfl,D0] at h;obtain⟨y,m,rfl,h1,h2,h3,h4⟩:=ih r _ x (by simp at hl ⊢;omega) h;refine⟨Bk (A1 (c::a::b::r))++y,A1 (c::a::b::r)::m,by simp,?_,?_,?_,?_⟩
      ·intro o r';rw[zu,Js _ _ _ _ _ (FH hu),h1,zu]
      ·intro o;rw[hd,h2,zu];rfl
      ·intro o r';rw[zu,Js AS _ _ _ _ rfl,h3,zu];rfl
      ·rw[zg,Iv];simp;omega
     ·rw[Al,if_pos hc,if_pos he,DN (by rw[hu];rfl) (EX hu),if_pos rfl,D0] at h;obtain⟨y,m,rfl,h1,h2,h3,h4⟩:=ih r _ x (by simp at hl ⊢;omega) h;refine⟨[A1 (c::a::b::r)]++y,A1 (c::a::b::r)::m,by simp,?_,?_,?_,?_⟩
      ·intro o r';rw[zu,IE _ _ _ _ _ (SE hu) (DN rfl (EX hu)),h1,zu]
      ·intro o;rw[hd,h2,zu];rfl
      ·intro o r';rw[zu,IE AS _ _ _ _ (SE hu) rfl,h3,zu];rfl
      ·simp;omega
   ·rcases hp:Bx c also with _|_
    ·rw[Al,if_neg hc,Jx rfl hp,if_neg (by decide)] at h;injection h with h1 _
     exact absurd h1 (by decide)
    ·rw[Al,if_neg hc,DN rfl hp,if_pos rfl] at h;obtain⟨y,m,rfl,h1,h2,h3,h4⟩:=ih t _ x (by simp at hl;omega) h;refine⟨[c]++y,c::m,by simp,?_,?_,?_,?_⟩
     ·intro o r';rw[zu,IE _ _ _ _ _ hc (DN rfl hp),h1,zu]
     ·intro o;rw[Al,if_neg hc];show (if (0:Int)=0 then Al AS 0 t _ else _)=_;rw[if_pos rfl,h2];show (0,(o++[c])++m)=_;rw[zu];rfl
     ·intro o r';rw[zu,IE AS _ _ _ _ hc rfl,h3,zu];rfl
     ·simp;omega
theorem EJ (l also x:List UInt8) (h:Aj l also=(0,x)):Aj x also=(0,x)/\(∃a,An l=(0,a)/\An x=(0,a))/\x.length<=l.length:=by
 unfold Aj B3 at h
 by_cases hlen:16384<l.length
 ·rw[if_pos hlen] at h;injection h with h1 _
  exact absurd h1 (by decide)
 ·rw[if_neg hlen] at h;obtain⟨y,a,rfl,h1,h2,h3,h4⟩:=So also l.length l [] x (zd _) h;have e1:=h1 [] [];have e3:=h3 [] [];rw[zy,Al,List.nil_append] at e1 e3;refine⟨?_,⟨a,?_,?_⟩,h4⟩
  ·unfold Aj B3;rw[if_neg (by omega),e1]
  ·unfold An B3;rw[if_neg hlen,h2];rfl
  ·unfold An B3;rw[if_neg (by omega),e3]
theorem JV (add:FA):∀(l out:List UInt8) (n:Nat),(Al add n l out).1≠0->(Al add n l out).2=[]
 | [],out,n=>by intro h;cases n<;>(rw[Al] at h;exact absurd rfl h)
 | c::l,out,n+1=>by intro h;rw[Al] at h ⊢;exact JV add l out n h
 | c::l,out,0=>by
  intro h;rw[Al] at h ⊢
  split at h
  ·rename_i hc;rw[if_pos hc]
   split at h
   ·rename_i he;rw[if_pos he]
    split at h
    ·rename_i ha;rw[if_pos ha];exact JV add l _ 2 h
    ·rename_i ha;rw[if_neg ha]
   ·rename_i he;rw[if_neg he]
  ·rename_i hc;rw[if_neg hc]
   split at h
   ·rename_i ha;rw[if_pos ha];exact JV add l _ 0 h
   ·rename_i ha;rw[if_neg ha]
theorem fO (l also:List UInt8) (h:(Aj l also).1≠0):(Aj l also).2=[]:=by
 unfold Aj B3 at h ⊢
 split
 ·rfl
 ·rename_i hl;rw[if_neg hl] at h;exact JV _ _ _ _ h
end Go.Proofs.YtbeoijfmfkifeaaGreatDoor
namespace Go.Proofs.YtbeoijfmfkifeaaGreatDoor
open List renaming mem_cons->zv
def Ew (also:List UInt8) (c:UInt8):Bool:=c==37||Bn c||Bx c also
theorem iY (also:List UInt8):∀(n:Nat) (l out x:List UInt8),l.length<=n->Al (AR also) 0 l out=(0,x)->l.all (Ew also)=true:=by
 intro n
 induction n with
 | zero=>
  intro l out x hl h;have:l=[]:=List.eq_nil_of_length_eq_zero (by omega);subst this;rfl
 | succ n ih=>
  intro l out x hl h
  cases l with
  | nil=>rfl
  | cons c t=>
   by_cases hc:c=37
   ·rcases he:Bq (c::t) with _|_
    ·rw[Al,if_pos hc,if_neg (by rw[he];exact Bool.false_ne_true)] at h;injection h with h1 _
     exact absurd h1 (by decide)
    ·obtain⟨a,b,r,rfl⟩:=Fq he;have hab:Bn a=true/\Bn b=true:=by
      have:(Bn a&&Bn b)=true:=he;simpa using this
     have hr:∃o2,Al (AR also) 0 r o2=(0,x):=by
      rcases hu:A8 (A1 (c::a::b::r)) with _|_
      ·rw[Al,if_pos hc,if_pos he,FH hu,if_pos rfl,D0] at h;exact⟨_,h⟩
      ·rw[Al,if_pos hc,if_pos he,DN (by rw[hu];rfl) (EX hu),if_pos rfl,D0] at h;exact⟨_,h⟩
     obtain⟨o2,hr⟩:=hr;have:=ih r o2 x (by simp at hl ⊢;omega) hr;simp[Ew,hc,hab.1,hab.2,this]
   ·rcases hp:Bx c also with _|_
    ·rw[Al,if_neg hc,Jx rfl hp,if_neg (by decide)] at h;injection h with h1 _
     exact absurd h1 (by decide)
    ·rw[Al,if_neg hc,DN rfl hp,if_pos rfl] at h;have:=ih t _ x (by simp at hl;omega) h;simp[Ew,hp,this]
theorem SI {l also x:List UInt8} (h:Aj l also=(0,x)):l.all (Ew also)=true:=by
 unfold Aj B3 at h
 split at h
 ·injection h with h1 _
  exact absurd h1 (by decide)
 ·exact iY also l.length l [] x (Nat.le_refl _) h
theorem Ix {l also x:List UInt8} (h:Aj l also=(0,x)):l.length<=16384:=by
 unfold Aj B3 at h
 split at h
 ·injection h with h1 _
  exact absurd h1 (by decide)
 ·omega
theorem LJ {l also x:List UInt8} (h:Aj l also=(0,x)):x.all (Ew also)=true:=SI (EJ l also x h).1
theorem Dx (c:UInt8):∀(a b:List UInt8),c∉a->Af c (a++c::b)=(a,b,true)
 | [],b,_=>by simp[Af]
 | x::a,b,h=>by
  simp only[zv,not_or] at h;rw[List.cons_append,Gf,if_neg (fun e=>h.1 e.symm),Dx c a b h.2]
theorem Fl (c:UInt8):∀(a:List UInt8),c∉a->Af c a=(a,[],false)
 | [],_=>rfl
 | x::a,h=>by
  simp only[zv,not_or] at h;rw[Gf,if_neg (fun e=>h.1 e.symm),Fl c a h.2]
open Go.RowKit Sx
def BC (h:List UInt8) (p:Int):AV:=.agg [.s h,.i .i64 p]
def DE (h:List UInt8) (p:Int):List UInt8:=if p=0 then h else h++[58]++Lib.itoa p
theorem Nr (h:List UInt8) (p:Int) (h0:-9223372036854775808<=p) (h1:p<=9223372036854775807):(DE h p).length<=h.length+22:=by
 have:=Lib.itoa_length_le p h0 h1;unfold DE
 split
 ·omega
 ·simp only[List.length_append,List.length_cons,List.length_nil];omega
theorem YD (l:List UInt8) (c:UInt8):((Au l [c]:Nat):Int)<l.length↔(Af c l).2.2=true:=by
 have h:=Ho c l
 constructor
 ·intro h1;rw[h.1 (by omega)]
 ·intro h1
  apply Classical.byContradiction
  intro h2;rw[h.2 (by omega)] at h1;cases h1
theorem Rm (l:List UInt8):(CB l).2<=65535:=by
 unfold CB
 split
 ·exact Oi 65535 l
 ·exact Nat.zero_le _
theorem YG (l:List UInt8):(BU l).2.2<=65535:=by
 have:=Rm (Af 58 l).2.1;unfold BU
 repeat' split
 all_goals simp only[Nat.zero_le]
 all_goals omega
section
variable [Tabs Tryz.prog] {objs:List OB} {K:List OB->AV->Prop}
theorem Rs (s:List UInt8) (hs:s.length<=1000000) (hk:K objs (.tup [.s (AK s).2,.i .i64 (AK s).1])):Ai Tryz.prog 69 [.s s] objs K :=
 conv (vs:=[.string (S s)]) rfl rfl (fun w=>IB (S s) w (by rw[Am];exact hs)) hk
theorem Ze (s:List UInt8) (hs:s.length<=maxLen) (hk:K objs (.tup [.i .i64 (CB s).2,.i .i64 (CB s).1])):Ai Tryz.prog 130 [.s s] objs K :=
 FY (vs:=[.string (S s)]) rfl rfl (fun w=>Z8 (S s) w (by rw[Am];exact hs)) hk
theorem Q2 (s:List UInt8) (hs:s.length<=maxLen) (hk:K objs (.tup [BC (BU s).2.1 (BU s).2.2,.i .i64 (BU s).1])):Ai Tryz.prog 154 [.s s] objs K :=
 conv (vs:=[.string (S s)]) rfl rfl (fun w=>Y3 (S s) w (by rw[Am];exact hs)) hk
theorem Jp (s also:List UInt8) (hk:K objs (.tup [.s (Aj s also).2,.i .i64 (Aj s also).1])):Ai Tryz.prog 136 [.s s,.s also] objs K :=
 conv (vs:=[.string (S s),.string (S also)]) rfl rfl (fun w=>IA (S s) (S also) w) hk
theorem M6 (s also:List UInt8) (ha:also.length<=maxLen) (hk:K objs (.tup [.s (Aj s also).2,.i .i64 (Aj s also).1])):Ai Tryz.prog 68 [.s s,.s also] objs K :=
 conv (vs:=[.string (S s),.string (S also)]) rfl rfl (fun w=>IC (S s) (S also) w (by rw[Am];exact ha)) hk
theorem NO (s:List UInt8) (hk:K objs (.tup [.s (An s).2,.i .i64 (An s).1])):Ai Tryz.prog 153 [.s s] objs K :=
 conv (vs:=[.string (S s)]) rfl rfl (fun w=>TE (S s) w) hk
theorem IK (s:List UInt8) (hk:K objs (.tup [.s (An s).2,.i .i64 (An s).1])):Ai Tryz.prog 71 [.s s] objs K :=
 conv (vs:=[.string (S s)]) rfl rfl (fun w=>IS (S s) w) hk
theorem aW (s keep:List UInt8) (hs:s.length<=300000000) (hk:K objs (.s (AL s keep))):Ai Tryz.prog 141 [.s s,.s keep] objs K :=
 conv (vs:=[.string (S s),.string (S keep)]) rfl rfl (fun w=>TG (S s) (S keep) w (by rw[Am];exact hs)) hk
theorem dU (s keep:List UInt8) (hs:s.length<=300000000) (ha:keep.length<=maxLen) (hk:K objs (.s (AL s keep))):Ai Tryz.prog 74 [.s s,.s keep] objs K :=
 conv (vs:=[.string (S s),.string (S keep)]) rfl rfl (fun w=>Tt (S s) (S keep) w (by rw[Am];exact hs) (by rw[Am];exact ha)) hk
theorem ZF [Pow Tryz.prog] (h:List UInt8) (p:Int) (hh:h.length<=200000000000000) (h0:-9223372036854775808<=p) (h1:p<=9223372036854775807) (hk:K objs (.s (DE h p))):Ai Tryz.prog 145 [BC h p] objs K:=by
 refine AI gV rfl fun C _=>?_;have hl:=Lib.itoa_length_le p h0 h1;unfold DE at hk
 by_cases hp:p=0
 ·rw[if_pos hp] at hk;simp only[BC,hp,Ol,Aa,simprocAttr];exact hk
 ·rw[if_neg hp] at hk;simp only[BC,hp,Ol,Aa,simprocAttr];refine⟨by omega,?_⟩;refine Br (PU p h0 h1 ⟨rfl,rfl⟩) ?_;simp only[Aa,simprocAttr];exact⟨by omega,hk⟩
theorem Tu (p:Int) (h0:-9223372036854775808<=p) (h1:p<=9223372036854775807) (hk:K objs (.s (Lib.itoa p))):Ai Tryz.prog 132 [.i .i64 p] objs K:=by
 refine AI jI rfl fun C _=>?_;unfold Lib.itoa at hk
 by_cases hp:p<0
 ·rw[if_pos hp] at hk;have e1:IntKind.u64.wrap (IntKind.u64.wrap (0 - (p+1))+1)=((p.natAbs:Nat):Int):=by
   rw[wrap_u64 (0 - (p+1)) (by omega) (by omega),wrap_u64 _ (by omega) (by omega)];omega
  simp only[hp,OE,Aa,simprocAttr];refine⟨⟨by omega,by omega⟩,⟨by omega,by omega⟩,?_⟩;rw[e1];refine Ag (SQ p.natAbs (by omega) ?_);have hd:=Lib.nDigits_le20 p.natAbs (by omega);have hl:=Lib.decDigits_length p.natAbs;simp only[Aa,simprocAttr];exact⟨by omega,hk⟩
 ·rw[if_neg hp] at hk;have e1:IntKind.u64.wrap p=((p.toNat:Nat):Int):=by
   rw[wrap_u64 p (by omega) (by omega)];omega
  simp only[hp,OE,Aa,simprocAttr];rw[e1];refine Ag (SQ p.toNat (by omega) ?_);simp only[Aa,simprocAttr];exact hk
theorem dO (h:List UInt8) (p:Int) (hh:h.length<=200000000000000) (h0:-9223372036854775808<=p) (h1:p<=9223372036854775807) (hk:K objs (.s (DE h p))):Ai Tryz.prog 101 [BC h p] objs K:=by
 refine AI iM rfl fun C _=>?_;have hl:=Lib.itoa_length_le p h0 h1;unfold DE at hk
 by_cases hp:p=0
 ·rw[if_pos hp] at hk;simp only[BC,hp,Oy,Aa,simprocAttr];exact hk
 ·rw[if_neg hp] at hk;simp only[BC,hp,Oy,Aa,simprocAttr];refine⟨by omega,?_⟩;refine Br (Tu p h0 h1 ⟨rfl,rfl⟩) ?_;simp only[Aa,simprocAttr];exact⟨by omega,hk⟩
theorem R8 (s:List UInt8) (hs:s.length<=1000000) (hk:K objs (.tup [BC (BU s).2.1 (BU s).2.2,.i .i64 (BU s).1])):Ai Tryz.prog 99 [.s s] objs K:=by
 have hm:maxLen=2 ^ 63 - 1:=rfl;have e443:((443:Nat):Int)=443:=rfl;have ez:((0:Nat):Int)=0:=rfl;refine AI gX rfl fun C _=>?_;simp only[BC,BU] at hk;simp only[T5,Aa,simprocAttr];refine Ag (Gc s [58] (by omega) (by simp;omega) ?_);have c58:=Ho 58 s
 by_cases h58:Au s [58]<s.length
 ·rw[c58.1 h58] at hk;simp only[Aa,simprocAttr];refine⟨⟨by omega,by omega⟩,?_⟩;have hl:(s.take (Au s [58])).length<=s.length:=by rw[List.length_take];omega
  have hd:(s.drop (Au s [58]+1)).length<=s.length:=by rw[List.length_drop];omega
  refine Ag (Rs _ (by omega) ?_);simp only[Aa,simprocAttr]
  by_cases h1:(AK (s.take (Au s [58]))).1=0
  ·have hne:¬((Au s [58]:Nat):Int)=((s.length:Nat):Int):=by omega
   simp only[h1,hne,ez,Aa,simprocAttr] at hk ⊢;refine⟨⟨by omega,by omega⟩,⟨by omega,by omega⟩,?_⟩;refine Ag (Ze _ (by omega) ?_);simp only[Aa,simprocAttr]
   by_cases h2:(CB (s.drop (Au s [58]+1))).1=0
   ·by_cases h3:(CB (s.drop (Au s [58]+1))).2=443
    ·simp only[h2,h3,e443,ez,Aa,simprocAttr] at hk ⊢;exact hk
    ·have h3':¬((((CB (s.drop (Au s [58]+1))).2:Nat):Int)=443):=by omega
     simp only[h2,h3,h3',Aa,simprocAttr] at hk ⊢;exact hk
   ·simp only[h2,ez,Aa,simprocAttr] at hk ⊢;exact hk
  ·simp only[h1,ez,Aa,simprocAttr] at hk ⊢;exact hk
 ·have hx:((Au s [58]:Nat):Int)=((s.length:Nat):Int):=by have:=KK s [58];omega
  rw[c58.2 h58] at hk;simp only[hx,Aa,simprocAttr];refine⟨⟨by omega,by omega⟩,?_⟩;refine Ag (Rs _ (by omega) ?_)
  by_cases h1:(AK s).1=0
  ·simp only[h1,ez,Aa,simprocAttr] at hk ⊢;exact hk
  ·simp only[h1,ez,Aa,simprocAttr] at hk ⊢;exact hk
end
end Go.Proofs.YtbeoijfmfkifeaaGreatDoor
namespace Go.Proofs.YtbeoijfmfkifeaaGreatDoor
open Lib renaming decDigits->qw
open List renaming all_eq_true->zj, mem_cons->zv, mem_cons_of_mem->qx, mem_cons_self->jp
theorem Nx (c x:UInt8):∀l:List UInt8,x∈l->x=c\/∃p∈Ap c l,x∈p
 | [],h=>by cases h
 | y::t,h=>by
  obtain⟨p,ps,e⟩:=Cp c t;rw[C7,e]
  by_cases hy:y=c
  ·rw[if_pos hy];rcases zv.1 h with rfl|h
   ·exact .inl hy
   ·rcases Nx c x t h with h|⟨q,hq,hx⟩
    ·exact .inl h
    ·exact .inr ⟨q,by rw[<-e];exact qx _ hq,hx⟩
  ·rw[if_neg hy];rcases zv.1 h with rfl|h
   ·exact .inr ⟨_,jp ..,jp ..⟩
   ·rcases Nx c x t h with h|⟨q,hq,hx⟩
    ·exact .inl h
    ·rw[e] at hq;rcases zv.1 hq with rfl|hq
     ·exact .inr ⟨_,jp ..,qx _ hx⟩
     ·exact .inr ⟨q,qx _ hq,hx⟩
theorem fL {l:List UInt8} (h:DW l=true):l.all AC=true:=by
 unfold DW at h;have h1:=of_decide_eq_true h;unfold BR at h1
 split at h1
 ·rename_i h2;exact(Lo h2).2
 ·rename_i h2;exact absurd h1 h2
theorem NS {h:List UInt8} (hh:(AK h).1=0):∀x∈h,x=46\/B1 x=true:=by
 intro x hx;unfold AK at hh
 split at hh
 ·cases hh
 ·split at hh
  ·cases hh
  ·split at hh
   ·rename_i h1 h2 h3;rcases Nx 46 x h hx with h4|⟨p,hp,hxp⟩
    ·exact .inl h4
    ·rw[Bool.or_eq_true] at h3;rcases h3 with h3|h3
     ·unfold Ce at h3;simp only[Bool.and_eq_true,zj] at h3;have:=h3.1 p hp;unfold B4 at this;simp only[Bool.and_eq_true,zj] at this;exact .inr (this.2 x hxp)
     ·unfold B8 DR at h3;simp only[Bool.and_eq_true,zj] at h3;have:=zj.1 (fL (h3.2 p hp)) x hxp;exact .inr (by unfold B1;rw[this];simp)
   ·cases hh
theorem nL:∀n:Fin 256,(B1 (UInt8.ofNat n.val)=true\/UInt8.ofNat n.val=46)->Aw (UInt8.ofNat n.val) [58,64,47,63,35]=false:=by decide +kernel
theorem Q4 (c:UInt8) (h:c=46\/B1 c=true):Aw c [58,64,47,63,35]=false:=by
 have:=nL ⟨c.toNat,UInt8.toNat_lt c⟩;simp only[UInt8.ofNat_toNat] at this;exact this h.symm
theorem YF {h:List UInt8} (hh:(AK h).1=0) (c:UInt8) (hc:Aw c [58,64,47,63,35]=true):c∉h:=by
 intro hm;have:=Q4 c (NS hh c hm);rw[hc] at this;cases this
theorem Nf (n:Nat):Lib.itoa (n:Int)=qw n:=by
 unfold Lib.itoa;rw[if_neg (by omega)];rfl
theorem aX (n:Nat) (h0:n≠0) (h1:n<=65535):CB (qw n)=(0,n):=by
 unfold CB;rw[dD n 65535 h1,if_pos ⟨rfl,h0⟩]
theorem PS {h:List UInt8} {n:Nat} (hh:AK h=(0,h)) (h1:n<=65535) (h2:n≠443):BU (DE h n)=(0,h,n):=by
 have hh0:(AK h).1=0:=by rw[hh]
 have h58:(58:UInt8)∉h:=YF hh0 58 (by decide);unfold DE
 by_cases h0:n=0
 ·subst h0;rw[if_pos (show ((0:Nat):Int)=0 from rfl)];unfold BU;rw[Fl 58 h h58];simp only;rw[hh];simp
 ·rw[if_neg (by omega),Nf];unfold BU;have:h++[58]++qw n=h++58::qw n:=by simp
  rw[this,Dx 58 h _ h58];simp only;rw[hh,aX n h0 h1,if_neg (by simp),if_neg (by simp),if_neg (by simp),if_neg h2]
theorem Nd {l h:List UInt8} {n:Nat} (hl:BU l=(0,h,n)):AK h=(0,h)/\n<=65535/\n≠443/\h.length<=253/\h.length<=l.length:=by
 have hcl:=(Dn 58 l).1;unfold BU at hl
 split at hl
 ·rename_i h1;injection hl with h2 _;exact absurd h2 h1
 ·rename_i h1;simp only[Decidable.not_not] at h1;have hho:AK (Af 58 l).1=(0,(AK (Af 58 l).1).2):=by rw[<-h1]
  obtain⟨k1,k2,k3,_⟩:=NR hho
  split at hl
  ·injection hl with _ hl
   injection hl with e1 e2
   subst e1 e2;exact⟨k1,by omega,by omega,k3,by omega⟩
  ·split at hl
   ·rename_i h2;injection hl with h3 _;exact absurd h3 h2
   ·injection hl with _ hl
    injection hl with e1 e2
    subst e1;have hp:=Rm (Af 58 l).2.1;refine⟨k1,?_,?_,k3,by omega⟩
    ·rw[<-e2];split<;>omega
    ·rw[<-e2];split<;>omega
theorem nR {l:List UInt8} (h:(BU l).1≠0):(BU l).2=([],0):=by
 unfold BU at h ⊢
 split
 ·rfl
 ·rename_i h1;rw[if_neg h1] at h
  split
  ·rename_i h2;rw[if_pos h2] at h;exact absurd rfl h
  ·rename_i h2;rw[if_neg h2] at h
   split
   ·rfl
   ·rename_i h3;rw[if_neg h3] at h;exact absurd rfl h
open Go.RowKit Sx
def Em (u:UriP):List UInt8:=(if u.hs=true then u.scheme++[58] else [])++(if u.ha=true then [47,47]++u.auth else [])++u.path++(if u.hq=true then [63]++u.query else [])++(if u.hf=true then [35]++u.frag else [])
section
variable [Tabs Tryz.prog] {objs:List OB} {K:List OB->AV->Prop}
end
def mR (p:List UInt8):List UInt8:=p.take (Lib.lastIndexByte (S p) 47+1).toNat
def oH (b:UriP) (r:List UInt8):List UInt8:=if b.ha=true/\b.path=[] then 47::r else mR b.path++r
section
variable [Tabs Tryz.prog] {objs:List OB} {K:List OB->AV->Prop}
end
def K3 (b r:UriP):UriP :=
 if r.hs=true then { r with path:=BL r.path }
 else if r.ha=true then { r with scheme:=b.scheme,hs:=b.hs,path:=BL r.path }
 else if r.path=[] then { scheme:=b.scheme,hs:=b.hs,auth:=b.auth,ha:=b.ha,path:=b.path,query:=if r.hq=true then r.query else b.query,hq:=if r.hq=true then r.hq else b.hq,frag:=r.frag,hf:=r.hf }
 else { scheme:=b.scheme,hs:=b.hs,auth:=b.auth,ha:=b.ha,path:=if r.path.head? = some 47 then BL r.path else BL (oH b r.path),query:=r.query,hq:=r.hq,frag:=r.frag,hf:=r.hf }
section
variable [Tabs Tryz.prog] {objs:List OB} {K:List OB->AV->Prop}
end
end Go.Proofs.YtbeoijfmfkifeaaGreatDoor
namespace Go.Proofs.YtbeoijfmfkifeaaGreatDoor
open List renaming append_assoc->zu, append_nil->zy, length_append->zg, length_cons->zl, length_nil->qp, take_append_drop->jh
theorem Hr (c:UInt8):∀l:List UInt8,l=(Af c l).1++(if (Af c l).2.2=true then [c]++(Af c l).2.1 else [])
 | []=>rfl
 | x::t=>by
  have ih:=Hr c t;rw[Gf]
  by_cases hx:x=c
  ·subst hx;simp
  ·rw[if_neg hx];show x::t=x::((Af c t).1++_);rw[<-ih]
theorem Qa (c:UInt8) (l:List UInt8):(Af c l).1.length<=l.length:=by
 have h:=congrArg List.length (Hr c l);rw[zg] at h;omega
theorem Zn (l:List UInt8) (h:(Af 58 (Ba l)).2.2=true):l=(Af 58 (Ba l)).1++[58]++l.drop ((Af 58 (Ba l)).1.length+1):=by
 have sx:=MR l
 by_cases hk:∃hk:Au l [58,47]<l.length,l[Au l [58,47]]=58
 ·obtain⟨h1,h2⟩:=hk;obtain⟨q1,q2,_⟩:=sx.1 h1 h2;rw[q2]
  conv=>lhs;rw[<-jh (Au l [58,47]) l,List.drop_eq_getElem_cons h1,h2]
  rw[<-q1];simp
 ·have:=sx.2 (fun h1 h2=>hk ⟨h1,h2⟩);rw[h] at this;cases this
theorem ZG (r:List UInt8):r=(if DV r=true then [47,47]++Db r else [])++D8 r:=by
 by_cases h:DV r=true
 ·have ea:Db r=Ba (r.drop 2):=by unfold Db;rw[if_pos h]
  have eb:D8 r=(r.drop 2).drop (Db r).length:=by unfold D8;rw[if_pos h]
  rw[if_pos h,eb];have hp:[47,47]++r.drop 2=r:=by
   have:=List.isPrefixOf_iff_prefix.1 (show Lib.hasPrefix r [47,47]=true from h);obtain⟨t,rfl⟩:=this;simp
  have hf:=(FK (r.drop 2)).1;have:Db r++(r.drop 2).drop (Db r).length=r.drop 2:=by
   rw[ea]
   conv=>lhs;lhs;rw[hf]
   exact jh _ _
  rw[zu,this,hp]
 ·unfold D8;rw[if_neg h,if_neg h];simp
theorem SY (s:List UInt8) (h:(AQ s).1=0):Em (AQ s).2=s:=by
 unfold AQ at h ⊢
 split
 ·rename_i h1;rw[if_pos h1] at h;cases h
 ·rename_i h1;rw[if_neg h1] at h
  split
  ·rename_i h2;rw[if_pos h2] at h;cases h
  ·rename_i h2;clear h h2 h1;unfold Em;simp only;have e1:=Hr 35 s;have e2:=Hr 63 (Af 35 s).1;have e3:=ZG (EP s);have e4:Ck s=(if (Dd s).2.2=true then (Dd s).1++[58] else [])++EP s:=by
    unfold EP
    by_cases h:(Dd s).2.2=true
    ·rw[if_pos h,if_pos h];exact Zn (Ck s) h
    ·rw[if_neg h,if_neg h];rfl
   have e5:(if (Dd s).2.2=true then (if (Dd s).2.2=true then (Dd s).1 else [])++[58] else [])=(if (Dd s).2.2=true then (Dd s).1++[58] else []):=by split<;>rfl
   rw[e5,zu (if (Dd s).2.2=true then (Dd s).1++[58] else []),<-e3,<-e4];show (Af 63 (Af 35 s).1).1++_++_=s;rw[<-e2,<-e1]
theorem cU (s:List UInt8) (h:(AQ s).1≠0):(AQ s).2=I3:=by
 unfold AQ at h ⊢
 split
 ·rfl
 ·rename_i h1;rw[if_neg h1] at h
  split
  ·rfl
  ·rename_i h2;rw[if_neg h2] at h;exact absurd rfl h
structure UrlP where
 host:List UInt8
 port:Int
 path:List UInt8
 query:List UInt8
 frag:List UInt8
 hq:Bool
 hf:Bool
def BH:UrlP:=⟨[],0,[],[],[],false,false⟩
def Dl:List UInt8:=[104,116,116,112,115]
def AY:List UInt8:=[33,36,38,39,40,41,42,43,44,59,61,58,64,47]
def AP:List UInt8:=[33,36,38,39,40,41,42,43,44,59,61,58,64,47,63]
def F7 (u:UrlP):List UInt8:=if u.hq=true then u.path++[63]++u.query else u.path
def Bm (u:UrlP):List UInt8:=[104,116,116,112,115,58,47,47]++DE u.host u.port++F7 u++(if u.hf=true then [35]++u.frag else [])
def Be (p:UriP):Int×List UInt8×Nat :=
 if p.hs=false then (60,[],0)
 else if AN p.scheme Dl=false then (60,[],0)
 else if p.ha=false then (71,[],0)
 else if (Af 64 p.auth).2.2=true then (70,[],0)
 else BU p.auth
def EG (l:List UInt8):List UInt8:=if BL l=[] then [47] else BL l
def BW (p:UriP):Int×UrlP :=
 if (Aj p.path AY).1≠0 then ((Aj p.path AY).1,BH)
 else if (Aj p.query AP).1≠0 then ((Aj p.query AP).1,BH)
 else if (Aj p.frag AP).1≠0 then ((Aj p.frag AP).1,BH)
 else (0,⟨[],0,EG (Aj p.path AY).2,(Aj p.query AP).2,(Aj p.frag AP).2,p.hq,p.hf⟩)
def FC (h:List UInt8) (n:Nat) (u:UrlP):UrlP:=⟨h,n,u.path,u.query,u.frag,u.hq,u.hf⟩
def Gw (u:UrlP):Int×UrlP:=if 4096<(Bm u).length then (5,BH) else (0,u)
def G8 (p:UriP):Int×UrlP :=
 if (Be p).1≠0 then ((Be p).1,BH)
 else if (BW p).1≠0 then ((BW p).1,BH)
 else Gw (FC (Be p).2.1 (Be p).2.2 (BW p).2)
def B7 (s:List UInt8):Int×UrlP :=
 if 4096<s.length then (5,BH)
 else if (AQ s).1≠0 then ((AQ s).1,BH)
 else G8 (AQ s).2
instance:DecidableEq UrlP:=fun a b=>
 decidable_of_iff (a.host=b.host/\a.port=b.port/\a.path=b.path/\a.query=b.query/\a.frag=b.frag/\a.hq=b.hq/\a.hf=b.hf) (by
  cases a;cases b;simp)
def DX (u:UrlP):Bool:=decide ((B7 (Bm u)).1=0)&&decide ((B7 (Bm u)).2=u)
def Vo (b:UrlP) (r:List UInt8):Int×UrlP :=
 if DX b=false then (8,BH)
 else if (AQ r).1≠0 then ((AQ r).1,BH)
 else if AN (K3 (AQ (Bm b)).2 (AQ r).2).scheme Dl=false then (253,BH)
 else B7 (Em (K3 (AQ (Bm b)).2 (AQ r).2))
theorem SZ (s:List UInt8):(AQ s).2.scheme.length<=s.length/\(AQ s).2.auth.length<=s.length/\(AQ s).2.path.length<=s.length/\(AQ s).2.query.length<=s.length/\(AQ s).2.frag.length<=s.length:=by
 by_cases h:(AQ s).1=0
 ·have hj:=congrArg List.length (SY s h);have hsch:(AQ s).2.hs=false->(AQ s).2.scheme=[]:=by
   unfold AQ
   split
   ·intro _;rfl
   ·split
    ·intro _;rfl
    ·intro h1;simp only at h1 ⊢;rw[if_neg (by rw[h1];exact Bool.false_ne_true)]
  have hau:(AQ s).2.ha=false->(AQ s).2.auth=[]:=by
   unfold AQ
   split
   ·intro _;rfl
   ·split
    ·intro _;rfl
    ·intro h1;simp only at h1 ⊢;unfold Db;rw[if_neg (by rw[h1];exact Bool.false_ne_true)]
  have hqu:(AQ s).2.hq=false->(AQ s).2.query=[]:=by
   unfold AQ
   split
   ·intro _;rfl
   ·split
    ·intro _;rfl
    ·intro h1;simp only at h1 ⊢;exact((EU 63 _).2.2 h1).2
  have hfr:(AQ s).2.hf=false->(AQ s).2.frag=[]:=by
   unfold AQ
   split
   ·intro _;rfl
   ·split
    ·intro _;rfl
    ·intro h1;simp only at h1 ⊢;exact((EU 35 _).2.2 h1).2
  revert hj hsch hau hqu hfr
  generalize (AQ s).2=u;obtain⟨a,b,c,d,e,b1,b2,b3,b4⟩:=u;intro hj hsch hau hqu hfr;simp only[Em] at hj hsch hau hqu hfr ⊢;simp only[zg] at hj;have e1:a.length<=(if b1=true then a++[58] else []).length:=by
   cases b1
   ·rw[hsch rfl];simp
   ·simp
  have e2:b.length<=(if b2=true then [47,47]++b else []).length:=by
   cases b2
   ·rw[hau rfl];simp
   ·simp;omega
  have e3:d.length<=(if b3=true then [63]++d else []).length:=by
   cases b3
   ·rw[hqu rfl];simp
   ·simp
  have e4:e.length<=(if b4=true then [35]++e else []).length:=by
   cases b4
   ·rw[hfr rfl];simp
   ·simp
  omega
 ·rw[cU s h];simp[I3]
theorem FF (l also:List UInt8):(Aj l also).2.length<=l.length/\(Aj l also).2.length<=16384:=by
 by_cases h:(Aj l also).1=0
 ·have e:Aj l also=(0,(Aj l also).2):=by rw[<-h]
  have h1:=(EJ l also _ e).2.2;have h2:=Ix e;omega
 ·rw[fO l also h];simp
theorem ZW:∀(n:Nat) (i o:List UInt8),(F1 n i o).length<=o.length+i.length:=by
 intro n
 induction n with
 | zero=>intro i o;show o.length<=_;omega
 | succ n ih=>
  intro i o;unfold F1
  split
  ·omega
  ·have:=ih (BD i o).1 (BD i o).2;have h2:=Fp (i:=i) (o:=o);omega
theorem aB (l:List UInt8):(BL l).length<=l.length:=by
 have h:=ZW l.length l [];rw[qp,Nat.zero_add] at h;exact h
theorem Oc (p:UriP):(Be p).2.2<=65535:=by
 have:=YG p.auth;unfold Be
 repeat' split
 all_goals first
  | exact this
  | exact Nat.zero_le _
theorem Xd (l:List UInt8):(BU l).2.1.length<=253:=by
 have hh:∀q:List UInt8,(AK q).2.length<=253:=by
  intro q;unfold AK
  repeat' split
  all_goals first
   | exact Nat.zero_le _
   | (show (Ay q).length<=253;rw[Ob];omega)
 unfold BU
 repeat' split
 all_goals first
  | exact hh _
  | simp
theorem NZ (p:UriP):(Be p).2.1.length<=253:=by
 have:=Xd p.auth;unfold Be
 repeat' split
 all_goals first
  | exact this
  | simp
theorem eZ (l:List UInt8):(EG l).length<=l.length+1:=by
 have:=aB l;unfold EG
 split
 ·simp
 ·omega
theorem NH (p:UriP):(BW p).2.path.length<=16385/\(BW p).2.query.length<=16384/\(BW p).2.frag.length<=16384:=by
 have h1:=FF p.path AY;have h2:=FF p.query AP;have h3:=FF p.frag AP;have h4:=eZ (Aj p.path AY).2;unfold BW
 repeat' split
 all_goals simp[BH]
 omega
theorem N6 (u:UrlP):(F7 u).length<=u.path.length+u.query.length+1:=by
 unfold F7
 split
 ·simp only[zg,zl,qp];omega
 ·omega
theorem Yw (u:UrlP) (h0:-9223372036854775808<=u.port) (h1:u.port<=9223372036854775807):(Bm u).length<=u.host.length+u.path.length+u.query.length+u.frag.length+40:=by
 have h2:=Nr u.host u.port h0 h1;have h3:=N6 u;unfold Bm;simp only[zg,zl,qp]
 split
 ·simp only[zg,zl,qp];omega
 ·simp only[qp];omega
open Go.RowKit Sx
def A7 (u:UrlP):AV:=.agg [.s u.host,.i .i64 u.port,.s u.path,.s u.query,.s u.frag,.b u.hq,.b u.hf]
theorem QJ:A7 BH=.agg [.s [],.i .i64 0,.s [],.s [],.s [],.b false,.b false]:=rfl
theorem Xb (l:List UInt8) (c:UInt8):decide (0<=Lib.indexByte l c)=(Af c l).2.2:=by
 rcases Du c l with ⟨h1,h2,_⟩|⟨k,h1,_,h2,_⟩
 ·rw[h1,h2];rfl
 ·rw[h1,h2];simp
section
variable [Tabs Tryz.prog] {objs:List OB} {K:List OB->AV->Prop}
theorem cJ (u:UrlP) (h1:u.path.length<=200000000000000) (h2:u.query.length<=200000000000000) (hk:K objs (.s (F7 u))):Ai Tryz.prog 147 [A7 u] objs K:=by
 refine AI jN rfl fun C _=>?_;unfold F7 at hk
 by_cases h:u.hq=true
 all_goals simp only[h,if_true,if_false,Bool.false_eq_true] at hk
 all_goals simp only[A7,h,UD,Aa,simprocAttr]
 all_goals first
  | exact hk
  | exact⟨by omega,by omega,hk⟩
theorem dW (u:UrlP) (h1:u.path.length<=200000000000000) (h2:u.query.length<=200000000000000) (hk:K objs (.s (F7 u))):Ai Tryz.prog 103 [A7 u] objs K:=by
 refine AI iP rfl fun C _=>?_;unfold F7 at hk
 by_cases h:u.hq=true
 all_goals simp only[h,if_true,if_false,Bool.false_eq_true] at hk
 all_goals simp only[A7,h,Uk,Aa,simprocAttr]
 all_goals first
  | exact hk
  | exact⟨by omega,by omega,hk⟩
theorem Si (u:UrlP) (hk:K objs (BC u.host u.port)):Ai Tryz.prog 146 [A7 u] objs K:=by
 refine AI jM rfl fun C _=>?_;simp only[A7,UC,Aa,simprocAttr];exact hk
theorem dV (u:UrlP) (hk:K objs (BC u.host u.port)):Ai Tryz.prog 102 [A7 u] objs K:=by
 refine AI iO rfl fun C _=>?_;simp only[A7,Uj,Aa,simprocAttr];exact hk
def Dr (u:UrlP):Prop:=u.host.length<=1000000/\-9223372036854775808<=u.port/\u.port<=9223372036854775807/\u.path.length<=1000000/\u.query.length<=1000000/\u.frag.length<=1000000
theorem JH [Pow Tryz.prog] (u:UrlP) (hu:Dr u) (hk:K objs (.s (Bm u))):Ai Tryz.prog 117 [A7 u] objs K:=by
 obtain⟨h1,h2,h3,h4,h5,h6⟩:=hu;have t1:=Nr u.host u.port h2 h3;have t2:=N6 u;refine AI jL rfl fun C _=>?_;unfold Bm at hk;simp only[A7,UB,Aa,simprocAttr];refine Br (Si u ⟨rfl,rfl⟩) ?_;simp only[BC,Aa,simprocAttr];refine Br (ZF u.host u.port (by omega) h2 h3 ⟨rfl,rfl⟩) ?_;simp only[Aa,simprocAttr];refine⟨by omega,?_⟩;refine Br (cJ u (by omega) (by omega) ⟨rfl,rfl⟩) ?_;simp only[Aa,simprocAttr]
 by_cases h:u.hf=true
 ·simp only[h,if_true,if_false,Bool.false_eq_true,zy] at hk;simp only[h,Aa,simprocAttr];exact⟨by omega,by omega,by omega,by simpa using hk⟩
 ·simp only[h,if_true,if_false,Bool.false_eq_true,zy] at hk;simp only[h,Aa,simprocAttr];exact⟨by omega,by simpa using hk⟩
theorem IL (u:UrlP) (hu:Dr u) (hk:K objs (.s (Bm u))):Ai Tryz.prog 76 [A7 u] objs K:=by
 obtain⟨h1,h2,h3,h4,h5,h6⟩:=hu;have t1:=Nr u.host u.port h2 h3;have t2:=N6 u;refine AI iN rfl fun C _=>?_;unfold Bm at hk;simp only[A7,Ui,Aa,simprocAttr];refine Br (dV u ⟨rfl,rfl⟩) ?_;simp only[BC,Aa,simprocAttr];refine Br (dO u.host u.port (by omega) h2 h3 ⟨rfl,rfl⟩) ?_;simp only[Aa,simprocAttr];refine⟨by omega,?_⟩;refine Br (dW u (by omega) (by omega) ⟨rfl,rfl⟩) ?_;simp only[Aa,simprocAttr]
 by_cases h:u.hf=true
 ·simp only[h,if_true,if_false,Bool.false_eq_true,zy] at hk;simp only[h,Aa,simprocAttr];exact⟨by omega,by omega,by omega,by simpa using hk⟩
 ·simp only[h,if_true,if_false,Bool.false_eq_true,zy] at hk;simp only[h,Aa,simprocAttr];exact⟨by omega,by simpa using hk⟩
theorem TR (s:List UInt8) (c:UInt8) (hk:K objs (.b (Af c s).2.2)):Ai Tryz.prog 173 [.s s,.s [c]] objs K:=by
 rw[<-Xb] at hk;exact conv (vs:=[.string (S s),.string (S [c])]) rfl rfl (fun w=>(Tryz.strings_Contains_one (S s) c w).mono fun e w' ⟨h1,h2⟩=>⟨h1,Qb.rev h2⟩) hk
theorem dI (p:UriP) (h1:p.scheme.length<=1000000) (h2:p.auth.length<=1000000) (hk:K objs (.tup [BC (Be p).2.1 (Be p).2.2,.i .i64 (Be p).1])):Ai Tryz.prog 143 [DF p] objs K:=by
 have hm:maxLen=2 ^ 63 - 1:=rfl;refine AI kV rfl fun C _=>?_;unfold Be at hk
 by_cases c1:p.hs=true
 ·by_cases c2:AN p.scheme Dl=true
  ·by_cases c3:p.ha=true
   ·by_cases c4:(Af 64 p.auth).2.2=true
    ·simp only[c1,c2,c3,c4,if_true,if_false,Bool.true_eq_false,BC] at hk;simp only[DF,c1,c3,IU,Aa,simprocAttr];refine Ag (KQ p.scheme Dl (by omega) (by decide) ?_);simp only[c2,Aa,simprocAttr];refine Ag (TR p.auth 64 ?_);simp only[c4,Aa,simprocAttr];exact hk
    ·simp only[c1,c2,c3,c4,if_true,if_false,Bool.true_eq_false,BC] at hk;simp only[DF,c1,c3,IU,Aa,simprocAttr];refine Ag (KQ p.scheme Dl (by omega) (by decide) ?_);simp only[c2,Aa,simprocAttr];refine Ag (TR p.auth 64 ?_);simp only[c4,Aa,simprocAttr];refine Ag (Q2 p.auth (by omega) ?_);simp only[BC,Aa,simprocAttr];exact hk
   ·simp only[c1,c2,c3,if_true,if_false,Bool.true_eq_false,BC] at hk;simp only[DF,c1,c3,IU,Aa,simprocAttr];refine Ag (KQ p.scheme Dl (by omega) (by decide) ?_);simp only[c2,Aa,simprocAttr];exact hk
  ·simp only[c1,c2,if_true,if_false,Bool.true_eq_false,BC] at hk;simp only[DF,c1,IU,Aa,simprocAttr];refine Ag (KQ p.scheme Dl (by omega) (by decide) ?_);simp only[c2,Aa,simprocAttr];exact hk
 ·simp only[c1,if_true,if_false,BC] at hk;simp only[DF,c1,IU,Aa,simprocAttr];exact hk
theorem XF (p:UriP) (hk:K objs (.tup [A7 (BW p).2,.i .i64 (BW p).1])):Ai Tryz.prog 144 [DF p] objs K:=by
 refine AI kH rfl fun C _=>?_;have n1:=FF p.path AY;unfold BW at hk;simp only[DF,UL,Aa,simprocAttr];refine Ag (Jp p.path AY ?_);simp only[Aa,simprocAttr]
 by_cases c1:(Aj p.path AY).1=0
 ·simp only[c1,Aa,simprocAttr] at hk ⊢;refine Ag (XD _ (by omega) ?_);have hs:EG (Aj p.path AY).2=if BL (Aj p.path AY).2=[] then [47] else BL (Aj p.path AY).2:=rfl
  by_cases c0:BL (Aj p.path AY).2=[]
  all_goals simp only[c0,Aa,simprocAttr] at hs
  all_goals rw[hs] at hk
  all_goals simp only[c0,Aa,simprocAttr]
  all_goals refine Ag (Jp p.query AP ?_)
  all_goals simp only[Aa,simprocAttr]
  all_goals by_cases c2:(Aj p.query AP).1=0
  all_goals simp only[c2,Aa,simprocAttr] at hk ⊢
  all_goals first
   | exact hk
   |refine Ag (Jp p.frag AP ?_)
    simp only[Aa,simprocAttr]
    by_cases c3:(Aj p.frag AP).1=0
    all_goals simp only[c3,Aa,simprocAttr] at hk ⊢
    all_goals exact hk
 ·simp only[c1,Aa,simprocAttr] at hk ⊢;exact hk
theorem RC [Pow Tryz.prog] (s:List UInt8) (hs:s.length<=maxLen) (hk:K objs (.tup [A7 (B7 s).2,.i .i64 (B7 s).1])):Ai Tryz.prog 116 [.s s] objs K:=by
 have hm:maxLen=2 ^ 63 - 1:=rfl;refine AI iS rfl fun C _=>?_;unfold B7 G8 at hk
 by_cases c0:(4096:Int)<↑s.length
 ·have c0':4096<s.length:=by omega
  simp only[c0',if_true,QJ] at hk;simp only[c0,Oz,Aa,simprocAttr];exact hk
 ·have c0':¬4096<s.length:=by omega
  simp only[c0',if_false] at hk;simp only[c0,Oz,Aa,simprocAttr];refine Ag (YW _ ?_);have sl:=SZ s;have op:=Oc (AQ s).2;have ol:=NZ (AQ s).2;have rl:=NH (AQ s).2;generalize hp:(AQ s).2=p at *
  by_cases c1:(AQ s).1=0
  ·simp only[c1,DF,Aa,simprocAttr] at hk ⊢;refine Ag (dI p (by omega) (by omega) ?_);simp only[Aa,simprocAttr]
   by_cases c2:(Be p).1=0
   ·simp only[c2,BC,DF,Aa,simprocAttr] at hk ⊢;refine Ag (XF p ?_)
    by_cases c3:(BW p).1=0
    ·have hsh:Dr (FC (Be p).2.1 (Be p).2.2 (BW p).2):=⟨by show (Be p).2.1.length<=_;omega,by show _<=(((Be p).2.2:Nat):Int);omega,by show (((Be p).2.2:Nat):Int)<=_;omega,by show (BW p).2.path.length<=_;omega,by show (BW p).2.query.length<=_;omega,by show (BW p).2.frag.length<=_;omega⟩;simp only[c3,Aa,simprocAttr] at hk;simp only[c3,A7,Aa,simprocAttr];refine Ag (JH (FC (Be p).2.1 (Be p).2.2 (BW p).2) hsh ?_)
     by_cases c4:4096<(Bm (FC (Be p).2.1 (Be p).2.2 (BW p).2)).length
     ·rw[Gw,if_pos c4] at hk;have c4':(4096:Int)<((Bm (FC (Be p).2.1 (Be p).2.2 (BW p).2)).length:Nat):=by omega
      simp only[A7,BH,Aa,simprocAttr] at hk;simp only[c4',Aa,simprocAttr];exact hk
     ·rw[Gw,if_neg c4] at hk;have c4':¬(4096:Int)<((Bm (FC (Be p).2.1 (Be p).2.2 (BW p).2)).length:Nat):=by omega
      simp only[A7,FC,Aa,simprocAttr] at hk;simp only[c4',Aa,simprocAttr];exact hk
    ·simp only[c3,A7,BH,Aa,simprocAttr] at hk ⊢;exact hk
   ·simp only[c2,BC,A7,BH,Aa,simprocAttr] at hk ⊢;exact hk
  ·simp only[c1,DF,A7,BH,Aa,simprocAttr] at hk ⊢;exact hk
end
end Go.Proofs.YtbeoijfmfkifeaaGreatDoor
namespace Go.Proofs.YtbeoijfmfkifeaaGreatDoor
open Lib renaming hasPrefix->zk, indexByte->jl
open List renaming eq_nil_of_length_eq_zero->qh, flatMap_cons->qq, getElem?_eq_getElem->zq, getElem?_set->zb, length_cons->zl, length_drop->zt
open Nat renaming le_refl->zd
def Cc (c:UInt8):Bool:=Ca c||AC c||Aw c [46,45,95]
def CW:List UInt8:=[46,45,95,58]
def Cw (c:UInt8):Bool:=AC c||(decide (97<=c.toNat)&&decide (c.toNat<=122))
def Dm (l:List UInt8):Bool:=l.all Cw&&!l.isEmpty
def DS (c:UInt8) (new s:List UInt8):List UInt8:=s.flatMap fun x=>if x=c then new else [x]
def DI (s:List UInt8):List UInt8:=DS 126 [37,55,69] s
def CX (c:UInt8):Bool:=c==37||Cc c||c==58
def Cr (l:List UInt8):Int×List UInt8 :=
 if (An l).1≠0 then ((An l).1,[])
 else if l.all CX=false then (1,[])
 else if l=[]\/l.getLast? = some 58 then (3,[])
 else if (Aj l CW).1≠0 then ((Aj l CW).1,[])
 else (0,DI (Aj l CW).2)
def Ch:List UInt8:=[100,105,100,58]
def A0 (s:List UInt8):Int×List UInt8×List UInt8 :=
 if 4096<s.length then (5,[],[])
 else if zk s Ch=false then (60,[],[])
 else if (Af 58 (s.drop 4)).2.2=false then (6,[],[])
 else if Dm (Af 58 (s.drop 4)).1=false then (100,[],[])
 else if (Cr (Af 58 (s.drop 4)).2.1).1≠0 then ((Cr (Af 58 (s.drop 4)).2.1).1,[],[])
 else (0,(Af 58 (s.drop 4)).1,(Cr (Af 58 (s.drop 4)).2.1).2)
structure DidU where
 meth:List UInt8
 id:List UInt8
 path:List UInt8
 query:List UInt8
 frag:List UInt8
 hq:Bool
 hf:Bool
instance:DecidableEq DidU:=fun a b=>
 decidable_of_iff (a.meth=b.meth/\a.id=b.id/\a.path=b.path/\a.query=b.query/\a.frag=b.frag/\a.hq=b.hq/\a.hf=b.hf) (by
  cases a;cases b;simp)
def J0:DidU:=⟨[],[],[],[],[],false,false⟩
def Cj (s:List UInt8):List UInt8:=Ba (Ck s)
def Kh (s:List UInt8):Int×DidU :=
 if 4096<s.length then (5,J0)
 else if (A0 (Cj s)).1≠0 then ((A0 (Cj s)).1,J0)
 else if (Aj ((Ck s).drop (Cj s).length) AY).1≠0 then ((Aj ((Ck s).drop (Cj s).length) AY).1,J0)
 else if (Aj (Af 63 (Af 35 s).1).2.1 AP).1≠0 then ((Aj (Af 63 (Af 35 s).1).2.1 AP).1,J0)
 else if (Aj (Af 35 s).2.1 AP).1≠0 then ((Aj (Af 35 s).2.1 AP).1,J0)
 else (0,⟨(A0 (Cj s)).2.1,(A0 (Cj s)).2.2,(Aj ((Ck s).drop (Cj s).length) AY).2,(Aj (Af 63 (Af 35 s).1).2.1 AP).2,(Aj (Af 35 s).2.1 AP).2,(Af 63 (Af 35 s).1).2.2,(Af 35 s).2.2⟩)
def AB (m i:List UInt8):List UInt8:=Ch++m++[58]++i
def F2 (u:DidU):List UInt8:=AB u.meth u.id++u.path++(if u.hq=true then [63]++u.query else [])++(if u.hf=true then [35]++u.frag else [])
theorem HG (c:UInt8):∀s:List UInt8,Lib.index s [c]=jl s c
 | []=>rfl
 | b::l=>by
  have ih:=HG c l;unfold Lib.index jl;rw[ih]
  by_cases h:b=c
  ·subst h;simp
  ·have h':¬c=b:=fun e=>h e.symm;simp[h,h']
theorem Lf (c:UInt8) (new:List UInt8):∀s:List UInt8,c∉s->DS c new s=s
 | [],_=>rfl
 | x::s,h=>by
  simp only[List.mem_cons,not_or] at h;unfold DS;rw[qq,if_neg (fun e=>h.1 e.symm)];show [x]++DS c new s=_;rw[Lf c new s h.2];rfl
theorem Oe (c:UInt8) (new a b:List UInt8):DS c new (a++b)=DS c new a++DS c new b:=by simp[DS]
theorem fR (c:UInt8) (new:List UInt8):∀(n:Nat) (s:List UInt8),s.length<=n->Lib.replaceK [c] new (Lib.count s [c]) s=DS c new s:=by
 intro n
 induction n with
 | zero=>
  intro s hs;obtain rfl:s=[]:=qh (by omega)
  rfl
 | succ n ih=>
  intro s hs;rcases Du c s with ⟨h1,_,h2⟩|⟨k,h1,h2,_,h3⟩
  ·rw[Lib.count_miss (by rw[HG];exact h1),Lf c new s h2];rfl
  ·have hi:Lib.index s [c]=k:=by rw[HG];exact h1
   rw[Lib.count_hit (by simp) hi,Nat.add_comm,Lib.replaceK_hit _ _ _ _ _ hi];have:=ih (s.drop (k+[c].length)) (by rw[zt];simp;omega);rw[this];have hk:s[k]=c:=by rw[zq h2] at h3;injection h3
   have hpre:c∉s.take k:=by
    intro hm;obtain⟨j,hj,hjc⟩:=List.mem_iff_getElem.1 hm;have hj':j<k:=by rw[List.length_take] at hj;omega
    have:=(Lib.indexByte_some h1).2 j hj';rw[List.getElem_take] at hjc;exact this (by rw[zq (by omega),hjc])
   conv=>rhs;rw[<-List.take_append_drop k s,List.drop_eq_getElem_cons h2,hk,Oe,Lf c new _ hpre]
   show _=s.take k++DS c new ([c]++s.drop (k+1));rw[Oe];simp[DS]
theorem iE (c:UInt8) (new s:List UInt8) (h:new≠[c]):Lib.replaceAll s [c] new=DS c new s:=by
 unfold Lib.replaceAll Lib.replace;rw[if_neg (by simp;exact fun e=>h e.symm)];unfold Lib.replaceNum;rw[if_pos (.inl (by decide))];exact fR c new s.length s (zd _)
theorem eN (c:UInt8) (s:List UInt8):Lib.count s [c]<=s.length+1:=Lib.count_le s [c]
theorem N8 (s:List UInt8):(DI s).length<=3*s.length:=by
 induction s with
 | nil=>exact zd _
 | cons x s ih=>
  unfold DI DS at ih ⊢;rw[qq,List.length_append,zl]
  split<;>simp only[zl,List.length_nil]<;>omega
def Ax (l:List UInt8):List UInt8:=l.flatMap fun c=>if Cc c=true then [c] else Bk c
def Bz (p:List UInt8):List UInt8:=Ax (An p).2
def Gp (ps:List (List UInt8)):List UInt8:=ps.flatMap fun q=>58::Bz q
theorem mI:∀n:Fin 256,(Cc (UInt8.ofNat n.val)=true->Bx (UInt8.ofNat n.val) CW=true/\UInt8.ofNat n.val≠126/\UInt8.ofNat n.val≠58/\UInt8.ofNat n.val≠37) /\
  (A8 (UInt8.ofNat n.val)=true->UInt8.ofNat n.val≠126->Cc (UInt8.ofNat n.val)=true)/\(A8 (UInt8.ofNat n.val)=false->Cc (UInt8.ofNat n.val)=false) /\
  ((Bk (UInt8.ofNat n.val)).all (fun c=>c != 126))=true/\(Bn (UInt8.ofNat n.val)=true->UInt8.ofNat n.val≠58/\Cc (UInt8.ofNat n.val)=true):=by decide +kernel
theorem Hw (c:UInt8):(Cc c=true->Bx c CW=true/\c≠126/\c≠58/\c≠37)/\(A8 c=true->c≠126->Cc c=true)/\(A8 c=false->Cc c=false)/\(Bk c).all (fun c=>c != 126)=true/\(Bn c=true->c≠58/\Cc c=true):=by
 have:=mI ⟨c.toNat,UInt8.toNat_lt c⟩;simpa using this
theorem LF (a b:List UInt8):DI (a++b)=DI a++DI b:=Oe _ _ a b
theorem N9 {c:UInt8} (h:c≠126):DI [c]=[c]:=by simp[DI,DS,h]
theorem dG (c:UInt8):DI (Bk c)=Bk c:=Lf _ _ _ (fun hm=>by
 have:=List.all_eq_true.1 (Hw c).2.2.2.1 126 hm;simp at this)
theorem Gg (c:UInt8) (l:List UInt8):Ax (c::l)=(if Cc c=true then [c] else Bk c)++Ax l:=by simp[Ax]
theorem SS:∀(n:Nat) (l o:List UInt8),l.length<=n->(Al AS 0 l o).1=(Al AS 0 l []).1/\((Al AS 0 l []).1=0->(Al AS 0 l o).2=o++(Al AS 0 l []).2):=by
 intro n
 induction n with
 | zero=>
  intro l o hl;obtain rfl:l=[]:=qh (by omega);simp[Al]
 | succ n ih=>
  intro l o hl
  cases l with
  | nil=>simp[Al]
  | cons c t=>
   by_cases hc:c=37
   ·rcases he:Bq (c::t) with _|_
    ·simp[Al,hc,he,show Bq (37::t)=false from by rw[<-hc];exact he]
    ·obtain⟨a,b,r,rfl⟩:=Fq he;have hd:∀o,Al AS 0 (c::a::b::r) o=Al AS 0 r (o++[A1 (c::a::b::r)]):=by
      intro o;rw[Al,if_pos hc,if_pos he];show (if (0:Int)=0 then Al AS 2 (a::b::r) _ else _)=_;rw[if_pos rfl,D0]
      rfl
     rw[hd,hd];have i1:=ih r (o++[A1 (c::a::b::r)]) (by simp at hl ⊢;omega);have i2:=ih r ([]++[A1 (c::a::b::r)]) (by simp at hl ⊢;omega);refine⟨by rw[i1.1,i2.1],fun h=>?_⟩;rw[i2.1] at h;rw[i1.2 h,i2.2 h];simp
   ·have hd:∀o,Al AS 0 (c::t) o=Al AS 0 t (o++[c]):=by
     intro o;rw[Al,if_neg hc];show (if (0:Int)=0 then Al AS 0 t _ else _)=_;rw[if_pos rfl];rfl
    rw[hd,hd];have i1:=ih t (o++[c]) (by simp at hl;omega);have i2:=ih t ([]++[c]) (by simp at hl;omega);refine⟨by rw[i1.1,i2.1],fun h=>?_⟩;rw[i2.1] at h;rw[i1.2 h,i2.2 h];simp
theorem Qt {c:UInt8} {t:List UInt8} (hc:c=37) (a b:UInt8) (r:List UInt8) (ht:t=a::b::r) (he:Bq (c::t)=true) (o:List UInt8):Al AS 0 (c::t) o=Al AS 0 r (o++[A1 (c::t)]):=by
 subst ht;rw[Al,if_pos hc,if_pos he];show (if (0:Int)=0 then Al AS 2 (a::b::r) _ else _)=_;rw[if_pos rfl,D0]
 rfl
theorem Qu {c:UInt8} {t:List UInt8} (hc:c≠37) (o:List UInt8):Al AS 0 (c::t) o=Al AS 0 t (o++[c]):=by
 rw[Al,if_neg hc];show (if (0:Int)=0 then Al AS 0 t _ else _)=_;rw[if_pos rfl];rfl
def A4 (l:List UInt8):Int×List UInt8:=Al AS 0 l []
theorem Et {l:List UInt8} (h:l.length<=16384):An l=A4 l:=by unfold An B3;rw[if_neg (by omega)];rfl
theorem FE {c:UInt8} {t:List UInt8} (hc:c≠37):(A4 (c::t)).1=(A4 t).1/\((A4 t).1=0->(A4 (c::t)).2=c::(A4 t).2):=by
 unfold A4;rw[Qu hc];have:=SS t.length t ([]++[c]) (zd _);exact⟨this.1,fun h=>by rw[this.2 h];rfl⟩
theorem F6 {a b:UInt8} {r:List UInt8} (he:Bq (37::a::b::r)=true):(A4 (37::a::b::r)).1=(A4 r).1/\((A4 r).1=0->(A4 (37::a::b::r)).2=A1 (37::a::b::r)::(A4 r).2):=by
 unfold A4;rw[Qt rfl a b r rfl he];have:=SS r.length r ([]++[A1 (37::a::b::r)]) (zd _);exact⟨this.1,fun h=>by rw[this.2 h];rfl⟩
theorem Io {t:List UInt8} (he:Bq (37::t)=false):(A4 (37::t)).1=2:=by
 unfold A4;rw[Al,if_pos rfl,if_neg (by rw[he];exact Bool.false_ne_true)]
theorem VK:∀(n:Nat) (l:List UInt8),l.length<=n->(A4 l).1=0\/(A4 l).1=2:=by
 intro n
 induction n with
 | zero=>
  intro l hl;obtain rfl:l=[]:=qh (by omega);exact .inl rfl
 | succ n ih=>
  intro l hl
  cases l with
  | nil=>exact .inl rfl
  | cons c t=>
   by_cases hc:c=37
   ·subst hc;rcases he:Bq (37::t) with _|_
    ·exact .inr (Io he)
    ·obtain⟨a,b,r,rfl⟩:=Fq he;rw[(F6 he).1];exact ih r (by simp at hl ⊢;omega)
   ·rw[(FE hc).1];exact ih t (by simp at hl;omega)
open Go.RowKit Sx
theorem QA (c:UInt8) (hd:AC c=false):Cw c=(decide (97<=c.toNat)&&decide (c.toNat<=122)):=by unfold Cw;rw[hd];rfl
theorem mH:∀n:Fin 256,CX (UInt8.ofNat n.val)=(UInt8.ofNat n.val==37||(Ca (UInt8.ofNat n.val)||AC (UInt8.ofNat n.val)||Aw (UInt8.ofNat n.val) [46,45,95,58])):=by decide +kernel
theorem Xf (c:UInt8):CX c=(c==37||(Ca c||AC c||Aw c [46,45,95,58])):=by
 have:=mH ⟨c.toNat,UInt8.toNat_lt c⟩;simpa using this
theorem YT {s:List UInt8} (h:zk s Ch=true):Lib.trimPrefix s Ch=s.drop 4:=by unfold Lib.trimPrefix;rw[if_pos h];rfl
theorem Yu (m i:List UInt8):(AB m i).length=m.length+i.length+5:=by simp[AB,Ch];omega
section
variable [Tabs Tryz.prog] {objs:List OB} {K:List OB->AV->Prop}
theorem Tw [Shp Tryz.prog] (s new:List UInt8) (c:UInt8) (hs:s.length<=100000) (hn:new.length<=100) (hne:new≠[c]) (hk:K objs (.s (DS c new s))):Ai Tryz.prog 179 [.s s,.s [c],.s new] objs K:=by
 have hc:Lib.countB (S s) (S [c])<=s.length+1:=eN c s;have hl:(S s).size+Lib.countB (S s) (S [c])*(S new).size<=140737488355328:=by
  have h1:Lib.countB (S s) (S [c])*(S new).size<=100001*100:=Nat.mul_le_mul (by omega) (by rw[Am];omega);rw[Am];omega
 have e:Lib.replaceAll s [c] new=DS c new s:=iE c new s hne;rw[<-e] at hk;exact Ma (vs:=[.string (S s),.string (S [c]),.string (S new)]) rfl rfl (fun w hT=>Tryz.strings_ReplaceAll_shaped (S s) (S [c]) (S new) w (Shp.sh w hT) (by rw[Am];omega) (by rw[Am];simp) hl) hk
theorem ZS (s:List UInt8) (hs:s.length<=1000000) (hk:K objs (.b (Dm s))):Ai Tryz.prog 149 [.s s] objs K:=by
 refine AI iJ rfl fun C _=>?_;unfold Dm at hk;simp only[Uf,Aa,simprocAttr];refine BI (fun n objs tm=>∃i:Nat,i<=s.length/\n=s.length - i/\objs=[]/\(∀j (h:j<s.length),j<i->Cw s[j]=true)/\tm.length=29/\tm[0]? = some (.s s)/\tm[5]? = some (.i .i64 s.length)/\tm[6]? = some (.i .i64 i)) s.length ⟨0,Nat.zero_le _,rfl,rfl,fun j h h0=>absurd h0 (by omega),rfl,rfl,rfl,rfl⟩ ?_;rintro n _ tm ⟨i,hi,rfl,rfl,hall,hlen,t0,t5,t6⟩
 by_cases hlt:(i:Int)<s.length
 ·have hlt':i<s.length:=by omega
  have hg:=GP hlt';have hfin:Cw s[i]=false->K objs (.b false):=fun h=>by
   rw[KA hlt' h] at hk;exact hk
  have hnext:Cw s[i]=true->∀j (h:j<s.length),j<i+1->Cw s[j]=true:=by
   intro h j hj hji;rcases Nat.lt_or_ge j i with h1|h1
   ·exact hall j hj h1
   ·have:j=i:=by omega
    subst this;exact h
  simp only[Aa,simprocAttr,zb,hlen,t0,t5,t6,hlt];refine⟨by omega,?_⟩;rw[hg];generalize s[i]=c at *;refine Ag (Rb c ?_)
  by_cases hd:AC c=true
  ·have hm:Cw c=true:=by unfold Cw;rw[hd];rfl
   simp only[hd,Aa,simprocAttr,zb,hlen,t0,t5,t6];exact⟨⟨by omega,by omega⟩,s.length - (i+1),by omega,i+1,by omega,rfl,hnext hm,rfl⟩
  ·simp only[Bool.not_eq_true] at hd;have hm:=QA c hd
   by_cases h97:((c.toNat:Nat):Int)<97
   ·have hm2:Cw c=false:=by rw[hm,decide_eq_false (by omega)];rfl
    simp only[hd,hg,h97,Aa,simprocAttr,zb,hlen,t0,t5,t6];exact⟨⟨by omega,by omega⟩,hfin hm2⟩
   ·by_cases h122:(122:Int)<((c.toNat:Nat):Int)
    ·have hm2:Cw c=false:=by rw[hm,decide_eq_false (p:=c.toNat<=122) (by omega),Bool.and_false]
     simp only[hd,hg,h97,h122,Aa,simprocAttr,zb,hlen,t0,t5,t6];exact⟨⟨by omega,by omega⟩,⟨by omega,by omega⟩,hfin hm2⟩
    ·have hm2:Cw c=true:=by rw[hm,decide_eq_true (by omega),decide_eq_true (by omega)];rfl
     simp only[hd,hg,h97,h122,Aa,simprocAttr,zb,hlen,t0,t5,t6];exact⟨⟨by omega,by omega⟩,⟨by omega,by omega⟩,⟨by omega,by omega⟩,s.length - (i+1),by omega,i+1,by omega,rfl,hnext hm2,rfl⟩
 ·have hie:i=s.length:=by omega
  subst hie;have ha:s.all Cw=true:=Kq fun j h=>hall j h h;rw[ha] at hk;simp only[Aa,simprocAttr,zb,hlen,t0,t5,t6,hlt];have e:decide (¬s=[])=(true&&!s.isEmpty):=by cases s<;>simp
  rw[e];exact hk
theorem ZR (c:UInt8) (hk:K objs (.b (Ca c||AC c||Aw c [46,45,95,58]))):Ai Tryz.prog 178 [.i .u8 c.toNat] objs K:=by
 refine AI iI rfl fun C _=>?_;simp only[Ue,Aa,simprocAttr];refine Ag (XQ c ?_)
 by_cases h1:Ca c=true
 ·simp only[h1,Bool.true_or] at hk;simp only[h1,Aa,simprocAttr];exact hk
 ·simp only[h1,Aa,simprocAttr];refine Ag (Rb c ?_)
  by_cases h2:AC c=true
  ·simp only[h1,h2,Bool.true_or,Bool.or_true,Bool.false_or] at hk;simp only[h2,Aa,simprocAttr];exact hk
  ·simp only[h1,h2,Bool.false_or] at hk;simp only[h2,Aa,simprocAttr];refine Ag (TU _ c ?_);simp only[Aa,simprocAttr];rw[WI];exact hk
set_option maxHeartbeats 4000000 in
theorem bH [Shp Tryz.prog] (s:List UInt8) (hs:s.length<=16384) (hk:K objs (.tup [.s (Cr s).2,.i .i64 (Cr s).1])):Ai Tryz.prog 150 [.s s] objs K:=by
 refine AI gT rfl fun C _=>?_;have hid:Cr s=if (An s).1≠0 then ((An s).1,[]) else if s.all CX=false then (1,[]) else if s=[]\/s.getLast? = some 58 then (3,[]) else if (Aj s CW).1≠0 then ((Aj s CW).1,[]) else (0,DI (Aj s CW).2):=rfl
 simp only[T0,Aa,simprocAttr];refine Ag (NO s ?_)
 by_cases h1:(An s).1=0
 ·simp only[h1,Aa,simprocAttr] at hid ⊢;refine BI (fun n objs tm=>∃i:Nat,i<=s.length/\n=s.length - i/\objs=[]/\(∀j (h:j<s.length),j<i->CX s[j]=true)/\tm.length=54/\tm[0]? = some (.s s)/\tm[18]? = some (.i .i64 s.length)/\tm[19]? = some (.i .i64 i)) s.length ⟨0,Nat.zero_le _,rfl,rfl,fun j h h0=>absurd h0 (by omega),rfl,rfl,rfl,rfl⟩ ?_;rintro n _ tm ⟨i,hi,rfl,rfl,hall,hlen,t0,t5,t6⟩
  by_cases hlt:(i:Int)<s.length
  ·have hlt':i<s.length:=by omega
   have hg:=GP hlt';have hfin:CX s[i]=false->K objs (.tup [.s [],.i .i64 1]):=fun h=>by
    rw[KA hlt' h] at hid;simp only[Aa,simprocAttr] at hid;rw[hid] at hk;exact hk
   have hnext:CX s[i]=true->∀j (h:j<s.length),j<i+1->CX s[j]=true:=by
    intro h j hj hji;rcases Nat.lt_or_ge j i with h1|h1
    ·exact hall j hj h1
    ·have:j=i:=by omega
     subst this;exact h
   clear hk hid;generalize s[i]=c at *;have hib:=Xf c
   by_cases h37:c=37
   ·have e37:((c.toNat:Nat):Int)=37:=by rw[h37];rfl
    have hb:CX c=true:=by rw[hib,h37];rfl
    simp only[Aa,simprocAttr,zb,hlen,t0,t5,t6,hlt,hg,e37];exact⟨by omega,⟨by omega,by omega⟩,s.length - (i+1),by omega,i+1,by omega,rfl,hnext hb,rfl⟩
   ·have e37:¬((c.toNat:Nat):Int)=37:=fun e=>h37 (UInt8.toNat_inj.1 (by have:(37:UInt8).toNat=37:=rfl;omega));have hne:(c==37)=false:=by simpa using h37
    simp only[Aa,simprocAttr,zb,hlen,t0,t5,t6,hlt,hg,e37];refine⟨by omega,by omega,?_⟩;refine Ag (ZR c ?_);rw[hne,Bool.false_or] at hib;rw[<-hib]
    by_cases hb:CX c=true
    ·simp only[hb,Aa,simprocAttr,zb,hlen,t0,t5,t6];exact⟨⟨by omega,by omega⟩,s.length - (i+1),by omega,i+1,by omega,rfl,hnext hb,rfl⟩
    ·simp only[Bool.not_eq_true] at hb;simp only[hb,Aa,simprocAttr,zb,hlen,t0,t5,t6];exact hfin hb
  ·have hie:i=s.length:=by omega
   subst hie;have ha:s.all CX=true:=Kq fun j h=>hall j h h;simp only[ha,Aa,simprocAttr] at hid;simp only[Aa,simprocAttr,zb,hlen,t0,t5,t6,hlt]
   by_cases hs0:s=[]
   ·have ho:s=[]\/s.getLast? = some 58:=.inl hs0;rw[if_pos ho] at hid;rw[hid] at hk;simp only[Aa,simprocAttr,zb,hlen,t0,t5,t6,hs0];exact hk
   ·have hpos:0<s.length:=by
     rcases Nat.eq_zero_or_pos s.length with h|h
     ·exact absurd (qh h) hs0
     ·exact h
    have hgl:s.getLast? = some s[s.length - 1]:=by rw[List.getLast?_eq_getElem?,zq (by omega)]
    have hg2:s.getD ((s.length:Int) - 1).toNat 0=s[s.length - 1]:=by
     rw[show ((s.length:Int) - 1).toNat=s.length - 1 by omega];exact GP (by omega)
    by_cases h58:s[s.length - 1]=58
    ·have ho:s=[]\/s.getLast? = some 58:=.inr (by rw[hgl,h58]);have e58:((s[s.length - 1].toNat:Nat):Int)=58:=by rw[h58];rfl
     rw[if_pos ho] at hid;rw[hid] at hk;simp only[Aa,simprocAttr,zb,hlen,t0,t5,t6,hs0];refine⟨⟨by omega,by omega⟩,⟨by omega,by omega⟩,?_⟩;rw[hg2];simp only[Aa,simprocAttr,zb,hlen,t0,t5,t6,e58];exact hk
    ·have ho:¬(s=[]\/s.getLast? = some 58):=by
      rw[hgl];rintro(h|h)
      ·exact hs0 h
      ·injection h with h;exact h58 h
     have e58:¬((s[s.length - 1].toNat:Nat):Int)=58:=fun e=>h58 (UInt8.toNat_inj.1 (by have:(58:UInt8).toNat=58:=rfl;omega));rw[if_neg ho] at hid;simp only[Aa,simprocAttr,zb,hlen,t0,t5,t6,hs0];refine⟨⟨by omega,by omega⟩,⟨by omega,by omega⟩,?_⟩;rw[hg2];simp only[Aa,simprocAttr,zb,hlen,t0,t5,t6,e58];refine Ag (Jp s CW ?_)
     by_cases h3:(Aj s CW).1=0
     ·have nl:=FF s CW;simp only[h3,Aa,simprocAttr] at hid;simp only[h3,Aa,simprocAttr,zb,hlen];refine Ag (Tw _ _ 126 (by omega) (by decide) (by decide) ?_);rw[hid] at hk;simp only[Aa,simprocAttr,zb,hlen];exact hk
     ·simp only[h3,Aa,simprocAttr] at hid;simp only[h3,Aa,simprocAttr,zb,hlen];rw[hid] at hk;exact hk
 ·simp only[h1,Aa,simprocAttr] at hid ⊢;rw[hid] at hk;exact hk
theorem Tp [Shp Tryz.prog] (s:List UInt8) (hs:s.length<=maxLen) (hk:K objs (.tup [.agg [.s (A0 s).2.1,.s (A0 s).2.2],.i .i64 (A0 s).1])):Ai Tryz.prog 118 [.s s] objs K:=by
 have hm:maxLen=2 ^ 63 - 1:=rfl;refine AI iH rfl fun C _=>?_;unfold A0 at hk
 by_cases c0:(4096:Int)<↑s.length
 ·have c0':4096<s.length:=by omega
  simp only[c0',if_true] at hk;simp only[c0,Ox,Aa,simprocAttr];exact hk
 ·have c0':¬4096<s.length:=by omega
  simp only[c0',if_false] at hk;simp only[c0,Ox,Aa,simprocAttr];refine Ag (TS s Ch ?_)
  by_cases c1:zk s Ch=true
  ·have ct:=Dn 58 (s.drop 4);have hdl:(s.drop 4).length<=s.length:=by rw[zt];omega
   rw[YT c1];simp only[c1,Aa,simprocAttr] at hk ⊢;generalize s.drop 4=r at *;refine Ag (PH r 58 (by omega) ?_)
   by_cases c2:(Af 58 r).2.2=true
   ·simp only[c2,Aa,simprocAttr] at hk ⊢;refine Ag (ZS _ (by omega) ?_)
    by_cases c3:Dm (Af 58 r).1=true
    ·simp only[c3,Aa,simprocAttr] at hk ⊢;refine Ag (bH _ (by omega) ?_)
     by_cases c4:(Cr (Af 58 r).2.1).1=0
     ·simp only[c4,Aa,simprocAttr] at hk ⊢;exact hk
     ·simp only[c4,Aa,simprocAttr] at hk ⊢;exact hk
    ·simp only[c3,Aa,simprocAttr] at hk ⊢;exact hk
   ·simp only[c2,Aa,simprocAttr] at hk ⊢;exact hk
  ·simp only[c1,Aa,simprocAttr] at hk ⊢;exact hk
theorem LG (m i:List UInt8) (h1:m.length<=200000000000000) (h2:i.length<=200000000000000) (hk:K objs (.s (AB m i))):Ai Tryz.prog 121 [.agg [.s m,.s i]] objs K:=by
 refine AI jG rfl fun C _=>?_;simp only[UF,Aa,simprocAttr];exact⟨by omega,by omega,by omega,by simpa[AB,Ch] using hk⟩
theorem LD (m i:List UInt8) (h1:m.length<=200000000000000) (h2:i.length<=200000000000000) (hk:K objs (.s (AB m i))):Ai Tryz.prog 80 [.agg [.s m,.s i]] objs K:=by
 refine AI jO rfl fun C _=>?_;simp only[UQ,Aa,simprocAttr];exact⟨by omega,by omega,by omega,by simpa[AB,Ch] using hk⟩
end
instance tabs:Tabs Tryz.prog:=⟨fun w=>w.ShapedOpen Tryz.prog,fun _ _ h hk _=>Tx h hk⟩
instance tabs_shp:Shp Tryz.prog:=⟨fun _ h=>h⟩
end Go.Proofs.YtbeoijfmfkifeaaGreatDoor
namespace Go.Proofs.YtbeoijfmfkifeaaGreatDoor
open List renaming all_cons->jd, all_eq_true->zj, append_assoc->zu, append_nil->zy, flatMap_cons->qq, isPrefixOf_iff_prefix->ye, length->qv, length_append->zg, length_cons->zl, mem_append->zw, mem_cons->zv, mem_map->jc
open Nat renaming le_refl->zd
def Cq (c:UInt8):Bool:=c==37||Cc c
theorem cV {a b:UInt8} (r:List UInt8) (ha:a≠58) (hb:b≠58) {p:List UInt8} {ps:List (List UInt8)} (h:Ap 58 r=p::ps):Ap 58 (37::a::b::r)=(37::a::b::p)::ps:=by
 rw[C7,if_neg (by decide),C7,if_neg ha,C7,if_neg hb,h]
theorem XS (c:UInt8) (out:List UInt8) (h:Bx c CW=true):AR CW out c false=(0,out++[c]):=DN rfl h
theorem Qv {c:UInt8} (t out:List UInt8) (hc:c≠37) (h:Bx c CW=true):Al (AR CW) 0 (c::t) out=Al (AR CW) 0 t (out++[c]):=by
 rw[Al,if_neg hc,XS c out h,if_pos rfl]
theorem Xt (a b:UInt8) (r out:List UInt8) (he:Bq (37::a::b::r)=true):Al (AR CW) 0 (37::a::b::r) out=Al (AR CW) 0 r (out++(if A8 (A1 (37::a::b::r))=true then [A1 (37::a::b::r)] else Bk (A1 (37::a::b::r)))):=by
 rw[Al,if_pos rfl,if_pos he];rcases hu:A8 (A1 (37::a::b::r)) with _|_
 ·rw[FH hu,if_pos rfl,D0,if_neg Bool.false_ne_true];rfl
 ·rw[DN (by rw[hu];rfl) (EX hu),if_pos rfl,D0,if_pos rfl];rfl
theorem S6 (v:UInt8):DI (if A8 v=true then [v] else Bk v)=if Cc v=true then [v] else Bk v:=by
 have hf:=Hw v;rcases hu:A8 v with _|_
 ·rw[if_neg Bool.false_ne_true,hf.2.2.1 hu,if_neg Bool.false_ne_true,dG]
 ·rw[if_pos rfl]
  by_cases h:v=126
  ·subst h;decide
  ·rw[hf.2.1 hu h,if_pos rfl,N9 h]
theorem bY:∀(n:Nat) (l p:List UInt8) (ps:List (List UInt8)),l.length<=n->Ap 58 l=p::ps->((A4 l).1=0↔∀q∈p::ps,(A4 q).1=0) /\
  (l.all CX=true->(A4 l).1=0->∀out,∃y,Al (AR CW) 0 l out=(0,out++y)/\DI y=Ax (A4 p).2++ps.flatMap fun q=>58::Ax (A4 q).2):=by
 intro n
 induction n with
 | zero=>
  intro l p ps hl hs;obtain rfl:l=[]:=List.eq_nil_of_length_eq_zero (by omega);obtain⟨rfl,rfl⟩:p=[]/\ps=[]:=by
   have:Ap 58 []=[[]]:=rfl;rw[this] at hs;injection hs with h1 h2;exact⟨h1.symm,h2.symm⟩
  exact⟨by simp,fun _ _ out=>⟨[],by rw[Al,zy],rfl⟩⟩
 | succ n ih=>
  intro l p ps hl hs
  cases l with
  | nil=>
   obtain⟨rfl,rfl⟩:p=[]/\ps=[]:=by
    have:Ap 58 []=[[]]:=rfl;rw[this] at hs;injection hs with h1 h2;exact⟨h1.symm,h2.symm⟩
   exact⟨by simp,fun _ _ out=>⟨[],by rw[Al,zy],rfl⟩⟩
  | cons c t=>
   simp only[zl] at hl
   by_cases hc:c=37
   ·subst hc;rcases he:Bq (37::t) with _|_
    ·obtain⟨p',ps',e'⟩:=Cp 58 t;rw[C7,if_neg (by decide),e'] at hs;injection hs with h1 h2
     have hb:=Io he;have hp:Bq p=false:=by
      rw[<-h1];rcases hq:Bq (37::p') with _|_
      ·rfl
      ·obtain⟨a,b,r,rfl⟩:=Fq hq;have hx:(Bn a&&Bn b)=true:=hq;have ht:t=a::b::t.drop 2:=by
        have h3:Ap 58 t=(a::b::r)::ps':=e';rw[DM] at h3;rcases Du 58 t with ⟨_,h4,_⟩|⟨k,_,hk,h4,_⟩
        ·rw[h4] at h3;simp only[Bool.false_eq_true,if_false,List.cons.injEq] at h3;rw[h3.1];rfl
        ·rw[h4] at h3;simp only[if_true,List.cons.injEq] at h3;have h5:=h3.1
         match t,k,h5 with
         | [],k,h5=>simp at h5
         | [x],0,h5=>simp at h5
         | [x],k+1,h5=>simp at h5
         | x::y::t,0,h5=>simp at h5
         | x::y::t,1,h5=>simp at h5
         | x::y::t,k+2,h5=>simp at h5;rw[h5.1,h5.2.1];rfl
       rw[ht] at he;have:Bq (37::a::b::t.drop 2)=(Bn a&&Bn b):=rfl;rw[this,hx] at he;cases he
     have hpb:(A4 p).1=2:=by rw[<-h1] at hp ⊢;exact Io hp
     exact⟨⟨(fun h=>by rw[hb] at h;cases h),(fun h=>by have:=h p (by simp);rw[hpb] at this;cases this)⟩,(fun _ h=>by rw[hb] at h;cases h)⟩
    ·obtain⟨a,b,r,rfl⟩:=Fq he;have hx:Bn a=true/\Bn b=true:=by
      have:(Bn a&&Bn b)=true:=he;simpa using this
     have ha:=((Hw a).2.2.2.2 hx.1).1;have hb:=((Hw b).2.2.2.2 hx.2).1;obtain⟨p',ps',e'⟩:=Cp 58 r;rw[cV r ha hb e'] at hs;injection hs with h1 h2
     subst h1 h2;have hep:Bq (37::a::b::p')=true:=he;have hv:A1 (37::a::b::p')=A1 (37::a::b::r):=rfl;obtain⟨i1,i2⟩:=ih r p' ps' (by simp at hl;omega) e';have d1:=F6 he;have d2:=F6 hep;refine⟨?_,fun hall h0 out=>?_⟩
     ·rw[d1.1,i1];simp only[zv,forall_eq_or_imp,d2.1]
     ·rw[d1.1] at h0;have hall':r.all CX=true:=by
       simp only[jd,Bool.and_eq_true] at hall;exact hall.2.2.2
      obtain⟨y,y1,y2⟩:=i2 hall' h0 (out++(if A8 (A1 (37::a::b::r))=true then [A1 (37::a::b::r)] else Bk (A1 (37::a::b::r))));have hp0:=(i1.1 h0) p' (by simp);refine⟨(if A8 (A1 (37::a::b::r))=true then [A1 (37::a::b::r)] else Bk (A1 (37::a::b::r)))++y,?_,?_⟩
      ·rw[Xt a b r out he,y1,zu]
      ·rw[LF,S6,y2,d2.2 hp0,hv,Gg,zu]
   ·by_cases h58:c=58
    ·subst h58;obtain⟨p',ps',e'⟩:=Cp 58 t;rw[C7,if_pos rfl,e'] at hs;injection hs with h1 h2
     subst h1 h2;obtain⟨i1,i2⟩:=ih t p' ps' (by omega) e';have d1:=FE (c:=58) (t:=t) (by decide);refine⟨?_,fun hall h0 out=>?_⟩
     ·rw[d1.1,i1];simp only[zv,forall_eq_or_imp];exact⟨fun h=>⟨rfl,h⟩,fun h=>h.2⟩
     ·rw[d1.1] at h0;have hall':t.all CX=true:=by
       simp only[jd,Bool.and_eq_true] at hall;exact hall.2
      obtain⟨y,y1,y2⟩:=i2 hall' h0 (out++[58]);refine⟨58::y,?_,?_⟩
      ·rw[Qv t out (by decide) (by decide),y1,zu];rfl
      ·show DI ([58]++y)=_;rw[LF,N9 (by decide),y2];simp[Ax,A4,Al]
    ·obtain⟨p',ps',e'⟩:=Cp 58 t;rw[C7,if_neg h58,e'] at hs;injection hs with h1 h2
     subst h1 h2;obtain⟨i1,i2⟩:=ih t p' ps' (by omega) e';have d1:=FE (c:=c) (t:=t) hc;have d2:=FE (c:=c) (t:=p') hc;refine⟨?_,fun hall h0 out=>?_⟩
     ·rw[d1.1,i1];simp only[zv,forall_eq_or_imp,d2.1]
     ·rw[d1.1] at h0;simp only[jd,Bool.and_eq_true] at hall;have hid:Cc c=true:=by
       have:=hall.1;unfold CX at this;simp only[Bool.or_eq_true,beq_iff_eq] at this;rcases this with (h|h)|h
       ·exact absurd h hc
       ·exact h
       ·exact absurd h h58
      have hf:=(Hw c).1 hid;obtain⟨y,y1,y2⟩:=i2 hall.2 h0 (out++[c]);have hp0:=(i1.1 h0) p' (by simp);refine⟨c::y,?_,?_⟩
      ·rw[Qv t out hc hf.1,y1,zu];rfl
      ·show DI ([c]++y)=_;rw[LF,N9 hf.2.1,y2,d2.2 hp0,Gg,if_pos hid,zu]
theorem Lj:∀l:List UInt8,l.all CX=(Ap 58 l).all fun q=>q.all Cq
 | []=>rfl
 | c::t=>by
  have ih:=Lj t;obtain⟨p',ps',e'⟩:=Cp 58 t;rw[C7]
  by_cases h:c=58
  ·subst h;rw[if_pos rfl,jd,ih,jd];rfl
  ·rw[if_neg h,e',jd,ih,e',jd,jd,jd,<-Bool.and_assoc]
   congr 2
   unfold CX Cq;have:(c==58)=false:=by simpa using h
   rw[this,Bool.or_false]
theorem Sl:∀l:List UInt8,(Ap 58 l).getLastD []=[]↔(l=[]\/l.getLast? = some 58)
 | []=>by simp[Ap]
 | [c]=>by
  by_cases h:c=58
  ·subst h;simp[Ap]
  ·rw[C7,if_neg h];simp[Ap,h]
 | c::d::t=>by
  have ih:=Sl (d::t);obtain⟨p',ps',e'⟩:=Cp 58 (d::t);rw[C7];simp only[reduceCtorEq,false_or,List.getLast?_cons_cons] at ih ⊢;rw[<-ih]
  by_cases h:c=58
  ·subst h;rw[if_pos rfl,e'];simp
  ·rw[if_neg h,e']
   cases ps' with
   | nil=>
    simp only[List.getLastD_cons,List.getLastD_nil];rw[e'] at ih;simp only[List.getLastD_cons,List.getLastD_nil] at ih
    constructor
    ·intro h2;cases h2
    ·intro h2;subst h2;exfalso;have hsp:=DM 58 (d::t);rw[e'] at hsp
     split at hsp
     ·rename_i h3;injection hsp with _ h4
      have:=E4 58 (Af 58 (d::t)).2.1;rw[<-h4] at this;simp at this
     ·injection hsp with h4 _;cases h4
   | cons q qs=>simp
theorem JE (l p:List UInt8) (ps:List (List UInt8)) (hl:l.length<=16384) (hs:Ap 58 l=p::ps) :
  Cr l=if ¬(∀q∈p::ps,(An q).1=0) then (2,[]) else if (p::ps).all (fun q=>q.all Cq)=false then (1,[]) else if (p::ps).getLastD []=[] then (3,[]) else (0,Bz p++Gp ps):=by
 obtain⟨m1,m2⟩:=bY l.length l p ps (zd _) hs;have hq:∀q∈p::ps,An q=A4 q:=fun q hq=>Et (by
  rw[<-hs] at hq;have:=Gb 58 l q hq;omega)
 have e1:(∀q∈p::ps,(An q).1=0)↔(A4 l).1=0:=by
  rw[m1];exact forall_congr' fun q=>forall_congr' fun h=>by rw[hq q h]
 unfold Cr;rw[Et hl,<-hs,Lj,hs];have e2:=Sl l;rw[hs] at e2
 by_cases h0:(A4 l).1=0
 ·rw[if_neg (show ¬(A4 l).1≠0 from fun h=>h h0),if_neg (show ¬¬(∀q∈p::ps,(An q).1=0) from fun h=>h (e1.2 h0))]
  by_cases h1:((p::ps).all fun q=>q.all Cq)=false
  ·rw[if_pos h1,if_pos h1]
  ·rw[if_neg h1,if_neg h1]
   by_cases h2:(p::ps).getLastD []=[]
   ·rw[if_pos h2,if_pos (e2.1 h2)]
   ·rw[if_neg h2,if_neg (fun h=>h2 (e2.2 h))];obtain⟨y,y1,y2⟩:=m2 (by rw[Lj,hs];simpa using h1) h0 [];have hn:Aj l CW=(0,y):=by
     unfold Aj B3;rw[if_neg (by omega),y1];rfl
    rw[hn,if_neg (by simp)];simp only;rw[y2];have e3:Bz p=Ax (A4 p).2:=by unfold Bz;rw[hq p (by simp)]
    have e4:Gp ps=ps.flatMap fun q=>58::Ax (A4 q).2:=by
     unfold Gp;have:∀qs:List (List UInt8),(∀q∈qs,An q=A4 q)->qs.flatMap (fun q=>58::Bz q)=qs.flatMap fun q=>58::Ax (A4 q).2:=by
      intro qs
      induction qs with
      | nil=>intro _;rfl
      | cons q qs ih=>
       intro h;rw[qq,qq,ih (fun q' h'=>h q' (by simp[h']))];unfold Bz;rw[h q (by simp)]
     exact this ps (fun q h=>hq q (by simp[h]))
    rw[e3,e4]
 ·have h2:(A4 l).1=2:=(VK l.length l (zd _)).resolve_left h0;rw[if_pos h0,if_pos (by rw[e1];exact h0),h2]
theorem It:∀d:List UInt8,A4 (Ax d)=(0,d)
 | []=>rfl
 | c::d=>by
  have ih:=It d;rw[Gg]
  by_cases h:Cc c=true
  ·rw[if_pos h];have h37:=((Hw c).1 h).2.2.2;have d1:=FE (c:=c) (t:=Ax d) h37;show A4 (c::Ax d)=_;rw[ih] at d1;have e2:=d1.2 rfl;have:A4 (c::Ax d)=((A4 (c::Ax d)).1,(A4 (c::Ax d)).2):=rfl;rw[this,d1.1,e2]
  ·rw[if_neg h];have he:=MF c (Ax d);have d1:=F6 (a:=Bo (c.toNat / 16)) (b:=Bo (c.toNat % 16)) (r:=Ax d) he.1;have e:Bk c++Ax d=37::Bo (c.toNat / 16)::Bo (c.toNat % 16)::Ax d:=rfl;rw[e];rw[ih] at d1;have e2:=d1.2 rfl;have hv:A1 (37::Bo (c.toNat / 16)::Bo (c.toNat % 16)::Ax d)=c:=he.2;rw[hv] at e2;have:A4 (37::Bo (c.toNat / 16)::Bo (c.toNat % 16)::Ax d)=((A4 (37::Bo (c.toNat / 16)::Bo (c.toNat % 16)::Ax d)).1,(A4 (37::Bo (c.toNat / 16)::Bo (c.toNat % 16)::Ax d)).2):=rfl;rw[this,d1.1,e2]
theorem Z0:∀n:Fin 256,(Bk (UInt8.ofNat n.val)).all (fun c=>Cq c&&c != 58)=true:=by decide +kernel
theorem MG:∀d:List UInt8,(Ax d).all (fun c=>Cq c&&c != 58)=true
 | []=>rfl
 | c::d=>by
  rw[Gg,List.all_append,MG d,Bool.and_true]
  by_cases h:Cc c=true
  ·rw[if_pos h];have hf:=(Hw c).1 h;simp[Cq,h,hf.2.2.1]
  ·rw[if_neg h];have:=Z0 ⟨c.toNat,UInt8.toNat_lt c⟩;simpa using this
theorem IJ (d:List UInt8):(58:UInt8)∉Ax d:=by
 intro hm;have:=zj.1 (MG d) 58 hm;simp at this
theorem QV (d:List UInt8):(Ax d).all Cq=true:=by
 rw[zj];intro x hx;have:=zj.1 (MG d) x hx;simp only[Bool.and_eq_true] at this;exact this.1
theorem QU (d:List UInt8):Ax d=[]↔d=[]:=by
 cases d with
 | nil=>exact⟨fun _=>rfl,fun _=>rfl⟩
 | cons c d=>
  rw[Gg]
  constructor
  ·intro h;exfalso;have:=congrArg qv h;rw[zg] at this
   split at this<;>simp[Bk] at this
  ·intro h;cases h
def js (ps:List (List UInt8)):List UInt8:=ps.flatMap fun q=>58::q
theorem K7:∀(s:List UInt8) (l:List (List UInt8)),58∉s->(∀x∈l,(58:UInt8)∉x)->Ap 58 (s++js l)=s::l
 | s,[],hs,_=>by
  show Ap 58 (s++[])=_;rw[zy,DM,Fl 58 s hs];simp
 | s,x::l,hs,h=>by
  have:s++js (x::l)=s++58::(x++js l):=by simp[js]
  rw[this,DM,Dx 58 s _ hs,if_pos rfl,K7 x l (h x (by simp)) (fun y hy=>h y (by simp[hy]))]
theorem Jd (ps:List (List UInt8)):Gp ps=js (ps.map Bz):=by
 unfold Gp js;rw[List.flatMap_map]
theorem Od {q:List UInt8} (h1:(Bz q).length<=16384):(An (Bz q)).1=0/\Bz (Bz q)=Bz q:=by
 have e:An (Bz q)=(0,(An q).2):=by
  unfold Bz at h1 ⊢;rw[Et h1,It]
 refine⟨by rw[e],?_⟩;show Ax (An (Bz q)).2=Bz q;rw[e];rfl
theorem NV:∀(ps:List (List UInt8)) (q:List UInt8),q∈ps->q.length<=(js ps).length
 | [],q,h=>by cases h
 | p::ps,q,h=>by
  have:js (p::ps)=58::(p++js ps):=by simp[js]
  rw[this,zl,zg];rcases zv.1 h with rfl|h
  ·omega
  ·have:=NV ps q h;omega
theorem Ou (f:List UInt8->List UInt8):∀(p:List UInt8) (ps:List (List UInt8)),((p::ps).map f).getLastD []=f ((p::ps).getLastD [])
 | p,[]=>by simp
 | p,q::ps=>by
  have:=Ou f q ps;simpa using this
theorem ZI {l i:List UInt8} (hl:l.length<=16384) (hi:i.length<=16384) (h:Cr l=(0,i)):Cr i=(0,i)/\i.all CX=true:=by
 obtain⟨p,ps,hs⟩:=Cp 58 l;have hp:=JE l p ps hl hs;rw[h] at hp
 split at hp
 ·cases hp
 ·rename_i g1
  split at hp
  ·cases hp
  ·rename_i g2
   split at hp
   ·cases hp
   ·rename_i g3;injection hp with _ hp
    simp only[Decidable.not_not] at g1;have hsi:Ap 58 i=Bz p::ps.map Bz:=by
     rw[hp,Jd];exact K7 _ _ (IJ _) (fun x hx=>by
      obtain⟨q,_,rfl⟩:=jc.1 hx;exact IJ _)
    have hlen:∀q∈p::ps,(Bz q).length<=16384:=by
     intro q hq;have hi2:=hi;rw[hp,Jd,zg] at hi2;rcases zv.1 hq with rfl|hq
     ·omega
     ·have:=NV (ps.map Bz) (Bz q) (List.mem_map_of_mem hq);omega
    have hq:=JE i (Bz p) (ps.map Bz) hi hsi;have c1:∀q∈Bz p::ps.map Bz,(An q).1=0:=by
     intro q hq;have:q∈(p::ps).map Bz:=hq;obtain⟨q',h1,rfl⟩:=jc.1 this;exact(Od (hlen q' h1)).1
    have c2:(Bz p::ps.map Bz).all (fun q=>q.all Cq)=true:=by
     rw[zj];intro q hq;have:q∈(p::ps).map Bz:=hq;obtain⟨q',h1,rfl⟩:=jc.1 this;exact QV _
    have c3:¬(Bz p::ps.map Bz).getLastD []=[]:=by
     have e:=Ou Bz p ps;show ¬((p::ps).map Bz).getLastD []=[];rw[e];intro e2;unfold Bz at e2;rw[QU] at e2
     apply g3
     have hm:(p::ps).getLastD []∈p::ps:=by
      rw[List.getLastD_eq_getLast?,List.getLast?_eq_some_getLast (by simp)];exact List.getLast_mem _
     generalize (p::ps).getLastD []=q at *;have hql:q.length<=l.length:=Gb 58 l q (by rw[hs];exact hm);have h0:=g1 q hm
     cases q with
     | nil=>rfl
     | cons c t=>
      exfalso;rw[Et (by omega)] at h0 e2
      by_cases hc:c=37
      ·subst hc;rcases he:Bq (37::t) with _|_
       ·rw[Io he] at h0;cases h0
       ·obtain⟨a,b,r,rfl⟩:=Fq he;have d1:=F6 he;rw[d1.1] at h0;rw[d1.2 h0] at e2;cases e2
      ·have d1:=FE (c:=c) (t:=t) hc;rw[d1.1] at h0;rw[d1.2 h0] at e2;cases e2
    rw[if_neg (fun h=>h c1),if_neg (by rw[c2];simp),if_neg c3] at hq;refine⟨?_,?_⟩
    ·rw[hq,(Od (hlen p (by simp))).2,hp]
     congr 2
     rw[Jd,Jd,List.map_map]
     congr 1
     refine List.map_congr_left fun q hq=>?_;exact(Od (hlen q (by simp[hq]))).2
    ·rw[Lj,hsi];exact c2
structure CanD (u:DidU):Prop where
 meth:Dm u.meth=true
 id:Cr u.id=(0,u.id)
 idb:u.id.all CX=true
 path:Aj u.path AY=(0,u.path)
 slash:u.path=[]\/∃r,u.path=47::r
 query:Aj u.query AP=(0,u.query)
 frag:Aj u.frag AP=(0,u.frag)
 noq:u.hq=false->u.query=[]
 nof:u.hf=false->u.frag=[]
 len:(F2 u).length<=4096
theorem mT:∀n:Fin 256,(Cw (UInt8.ofNat n.val)=true->Aw (UInt8.ofNat n.val) [58,47,63,35]=false)/\(CX (UInt8.ofNat n.val)=true->Aw (UInt8.ofNat n.val) [47,63,35]=false)/\(Ew AY (UInt8.ofNat n.val)=true->Aw (UInt8.ofNat n.val) [63,35]=false)/\(Ew AP (UInt8.ofNat n.val)=true->UInt8.ofNat n.val≠35):=by decide +kernel
theorem Hx (c:UInt8):(Cw c=true->Aw c [58,47,63,35]=false)/\(CX c=true->Aw c [47,63,35]=false)/\(Ew AY c=true->Aw c [63,35]=false)/\(Ew AP c=true->c≠35):=by
 have:=mT ⟨c.toNat,UInt8.toNat_lt c⟩;simpa using this
theorem GI {l cs:List UInt8} {c:UInt8} (h:∀x∈l,Aw x cs=false) (hc:Aw c cs=true):c∉l:=fun hm=>by
 have:=h c hm;rw[hc] at this;cases this
theorem VT {m i:List UInt8} (hm:Dm m=true) (hi:i.all CX=true):∀x∈AB m i,Aw x [47,63,35]=false:=by
 intro x hx;unfold AB at hx;simp only[zw,zv,List.not_mem_nil,or_false] at hx;rcases hx with ((hx|hx)|hx)|hx
 ·have:∀x∈Ch,Aw x [47,63,35]=false:=by decide
  exact this x hx
 ·unfold Dm at hm;simp only[Bool.and_eq_true] at hm;have:=(Hx x).1 (zj.1 hm.1 x hx);unfold Aw at this ⊢;simp only[List.contains_cons,List.contains_nil,Bool.or_false,Bool.or_eq_false_iff] at this ⊢;exact this.2
 ·subst hx;decide
 ·exact(Hx x).2.1 (zj.1 hi x hx)
theorem Qc {m i:List UInt8} (hm:Dm m=true) (hi:Cr i=(0,i)) (hl:(AB m i).length<=4096):A0 (AB m i)=(0,m,i):=by
 have h58:(58:UInt8)∉m:=by
  unfold Dm at hm;simp only[Bool.and_eq_true] at hm;exact GI (fun x hx=>(Hx x).1 (zj.1 hm.1 x hx)) (by decide)
 have hp:Lib.hasPrefix (AB m i) Ch=true:=by
  unfold AB;rw[zu,zu];exact ye.2 (List.prefix_append _ _)
 have hd:(AB m i).drop 4=m++58::i:=by simp[AB,Ch]
 unfold A0;rw[if_neg (by omega),if_neg (by rw[hp];simp),hd,Dx 58 m i h58];simp only;rw[hm,hi];simp
theorem CanD.back {u:DidU} (h:CanD u):Kh (F2 u)=(0,u):=by
 obtain⟨m,i,pa,qu,fr,hq,hf⟩:=u;have hl:=h.len;have hno:=VT h.meth h.idb;have npa:∀x∈pa,Aw x [63,35]=false:=fun x hx=>(Hx x).2.2.1 (zj.1 (LJ h.path) x hx);have nqu:(35:UInt8)∉qu:=fun hx=>(Hx 35).2.2.2 (zj.1 (LJ h.query) 35 hx) rfl;have hs:=h.slash;have hqn:=h.noq;have hfn:=h.nof;simp only at hno hs hqn hfn hl;have f35:(35:UInt8)∉AB m i:=GI hno (by decide);have f63:(63:UInt8)∉AB m i:=GI hno (by decide);have f47:(47:UInt8)∉AB m i:=GI hno (by decide);have p35:(35:UInt8)∉pa:=GI npa (by decide);have p63:(63:UInt8)∉pa:=GI npa (by decide);have q35:(35:UInt8)∉(if hq=true then [63]++qu else []):=by
  split
  ·simp[nqu]
  ·simp
 have e35:Af 35 (F2 ⟨m,i,pa,qu,fr,hq,hf⟩)=(AB m i++pa++(if hq=true then [63]++qu else []),fr,hf):=by
  unfold F2
  cases hf
  ·have:=hfn rfl;subst this;simp only[Bool.false_eq_true,if_false,zy];exact Fl 35 _ (by simp only[zw,not_or];exact⟨⟨f35,p35⟩,q35⟩)
  ·simp only[if_true];have:AB m i++pa++(if hq=true then [63]++qu else [])++([35]++fr)=(AB m i++pa++(if hq=true then [63]++qu else []))++35::fr:=by simp
   rw[this];exact Dx 35 _ fr (by simp only[zw,not_or];exact⟨⟨f35,p35⟩,q35⟩)
 have e63:Af 63 (AB m i++pa++(if hq=true then [63]++qu else []))=(AB m i++pa,qu,hq):=by
  cases hq
  ·have:=hqn rfl;subst this;simp only[Bool.false_eq_true,if_false,zy];exact Fl 63 _ (by simp only[zw,not_or];exact⟨f63,p63⟩)
  ·simp only[if_true];have:AB m i++pa++([63]++qu)=(AB m i++pa)++63::qu:=by simp
   rw[this];exact Dx 63 _ qu (by simp only[zw,not_or];exact⟨f63,p63⟩)
 have eb:Ck (F2 ⟨m,i,pa,qu,fr,hq,hf⟩)=AB m i++pa:=by
  unfold Ck;rw[e35];simp only;rw[e63]
 have en:Cj (F2 ⟨m,i,pa,qu,fr,hq,hf⟩)=AB m i:=by
  unfold Cj Ba;rw[eb];rcases hs with rfl|⟨r,rfl⟩
  ·rw[zy,Fl 47 _ f47]
  ·rw[Dx 47 _ r f47]
 have hdl:(AB m i).length<=4096:=by
  unfold F2 at hl;simp only[zg] at hl;omega
 unfold Kh;rw[if_neg (by omega),en,Qc h.meth h.id hdl,eb,e35];simp only;rw[e63];simp only;have ed:(AB m i++pa).drop (AB m i).length=pa:=by simp
 rw[ed,h.path,h.query,h.frag];simp
theorem Kr {s m i:List UInt8} (h:A0 s=(0,m,i)):Dm m=true/\∃l,s=AB m l/\Cr l=(0,i)/\s.length<=4096:=by
 unfold A0 at h
 split at h
 ·cases h
 ·rename_i g0
  split at h
  ·cases h
  ·rename_i g1
   split at h
   ·cases h
   ·rename_i g2
    split at h
    ·cases h
    ·rename_i g3
     split at h
     ·rename_i g4;injection h with h1 _;exact absurd h1 g4
     ·rename_i g4;simp only[Decidable.not_not] at g4;injection h with _ h
      injection h with h1 h2
      subst h1 h2;simp only[Bool.not_eq_false] at g1 g2 g3;refine⟨g3,(Af 58 (s.drop 4)).2.1,?_,by rw[<-g4],by omega⟩;obtain⟨t,ht⟩:=ye.1 (show List.isPrefixOf Ch s=true from g1);have hj:=Hr 58 (s.drop 4);rw[g2,if_pos rfl] at hj;unfold AB;have hd:s.drop 4=t:=by rw[<-ht];simp[Ch]
      rw[zu,zu,<-zu _ [58],zu _ [58],<-hj,hd,ht]
theorem PT {l i:List UInt8} (h:Cr l=(0,i)):i.length<=3*l.length:=by
 unfold Cr at h
 split at h
 ·rename_i g;injection h with h1 _;exact absurd h1 g
 ·split at h
  ·cases h
  ·split at h
   ·cases h
   ·split at h
    ·rename_i g;injection h with h1 _;exact absurd h1 g
    ·injection h with _ h
     have h1:=FF l CW;have h2:=N8 (Aj l CW).2;rw[<-h];omega
theorem CanD.of {s:List UInt8} {u:DidU} (hs:s.length<=1000) (h:Kh s=(0,u)):CanD u:=by
 unfold Kh at h
 split at h
 ·cases h
 ·split at h
  ·rename_i g;injection h with h1 _;exact absurd h1 g
  ·rename_i g1
   split at h
   ·rename_i g;injection h with h1 _;exact absurd h1 g
   ·rename_i g2
    split at h
    ·rename_i g;injection h with h1 _;exact absurd h1 g
    ·rename_i g3
     split at h
     ·rename_i g;injection h with h1 _;exact absurd h1 g
     ·rename_i g4;simp only[Decidable.not_not] at g1 g2 g3 g4;injection h with _ h
      have hd:A0 (Cj s)=(0,(A0 (Cj s)).2.1,(A0 (Cj s)).2.2):=by rw[<-g1]
      obtain⟨k1,l,k2,k3,k4⟩:=Kr hd;have e2:Aj ((Ck s).drop (Cj s).length) AY=(0,(Aj ((Ck s).drop (Cj s).length) AY).2):=by rw[<-g2]
      have e3:Aj (Af 63 (Af 35 s).1).2.1 AP=(0,(Aj (Af 63 (Af 35 s).1).2.1 AP).2):=by rw[<-g3]
      have e4:Aj (Af 35 s).2.1 AP=(0,(Aj (Af 35 s).2.1 AP).2):=by rw[<-g4]
      have j1:=congrArg qv (Hr 35 s);have j2:=congrArg qv (Hr 63 (Af 35 s).1);have c1:=EU 35 s;have c2:=EU 63 (Af 35 s).1;have hnb:=(FK (Ck s)).2;have hnl:(Cj s).length<=(Ck s).length:=hnb;have hbl:(Ck s).length<=(Af 35 s).1.length:=Qa 63 _;have h35l:=Qa 35 s;have kl:(Cj s).length=(A0 (Cj s)).2.1.length+l.length+5:=by
       have hk2:=congrArg qv k2;simp only[AB,Ch,zg,zl,List.length_nil] at hk2;omega
      have il:=PT k3;have pl:=(EJ _ _ _ e2).2.2;have ql:=(EJ _ _ _ e3).2.2;have fl:=(EJ _ _ _ e4).2.2;rw[List.length_drop] at pl;have ia:=ZI (l:=l) (by omega) (by omega) k3;have q0:(Af 63 (Af 35 s).1).2.1.length<=(Af 35 s).1.length:=(Dn 63 _).2;have f0:(Af 35 s).2.1.length<=s.length:=(Dn 35 _).2;have qs:(Ck s).length+(Af 63 (Af 35 s).1).2.1.length<=(Af 35 s).1.length:=by
       show (Af 63 (Af 35 s).1).1.length+_<=_;rcases hb:(Af 63 (Af 35 s).1).2.2 with _|_
       ·rw[(c2.2.2 hb).1,(c2.2.2 hb).2];simp
       ·have:=c2.2.1 hb;omega
      have fs:(Af 35 s).1.length+(Af 35 s).2.1.length<=s.length:=by
       rcases hb:(Af 35 s).2.2 with _|_
       ·rw[(c1.2.2 hb).1,(c1.2.2 hb).2];simp
       ·have:=c1.2.1 hb;omega
      have hslash:(Aj ((Ck s).drop (Cj s).length) AY).2=[]\/∃r,(Aj ((Ck s).drop (Cj s).length) AY).2=47::r:=by
       have hx:(Ck s).drop (Cj s).length=[]\/∃r,(Ck s).drop (Cj s).length=47::r:=by
        unfold Cj Ba;rcases Du 47 (Ck s) with ⟨_,h3,_⟩|⟨k,_,hk,h3,h4⟩
        ·rw[h3];left;simp
        ·rw[h3];right;have e:((Ck s).take k).length=k:=by rw[List.length_take];omega
         simp only[e];rw[List.drop_eq_getElem_cons hk];rw[List.getElem?_eq_getElem hk] at h4;injection h4 with h4
         exact⟨_,by rw[h4]⟩
       rcases hx with hx|⟨r,hx⟩
       ·left;rw[hx];decide
       ·right;rw[hx] at e2 ⊢;have hlen:=Ix e2;have hr:Al (AR AY) 0 (47::r) []=(0,(Aj (47::r) AY).2):=by
         have e5:=e2;unfold Aj B3 at e5;rw[if_neg (by omega)] at e5;rw[e5];unfold Aj B3;rw[if_neg (by omega)]
        have hp1:Al (AR AY) 0 (47::r) []=Al (AR AY) 0 r [47]:=by
         rw[Al,if_neg (by decide),DN rfl (by decide),if_pos rfl];rfl
        rw[hp1] at hr;obtain⟨y,a,k5,_⟩:=So AY r.length r [47] _ (zd _) hr;exact⟨y,k5⟩
      rw[<-h];refine⟨k1,ia.1,ia.2,(EJ _ _ _ e2).1,hslash,(EJ _ _ _ e3).1,(EJ _ _ _ e4).1,?_,?_,?_⟩
      ·intro hq;show (Aj (Af 63 (Af 35 s).1).2.1 AP).2=[];rw[(c2.2.2 hq).2];rfl
      ·intro hf;show (Aj (Af 35 s).2.1 AP).2=[];rw[(c1.2.2 hf).2];rfl
      ·unfold F2;simp only[zg];have z1:((if (Af 63 (Af 35 s).1).2.2=true then [63]++(Aj (Af 63 (Af 35 s).1).2.1 AP).2 else []):List UInt8).length<=(Aj (Af 63 (Af 35 s).1).2.1 AP).2.length+1:=by
        split<;>simp
       have z2:((if (Af 35 s).2.2=true then [35]++(Aj (Af 35 s).2.1 AP).2 else []):List UInt8).length<=(Aj (Af 35 s).2.1 AP).2.length+1:=by
        split<;>simp
       have z3:(AB (A0 (Cj s)).2.1 (A0 (Cj s)).2.2).length=(A0 (Cj s)).2.1.length+(A0 (Cj s)).2.2.length+5:=by simp[AB,Ch];omega
       omega
section
open Go.RowKit Sx
section
variable {objs:List OB} {K:List OB->AV->Prop}
end
theorem CanD.lens {u:DidU} (h:CanD u):u.meth.length<=4096/\u.id.length<=4096/\u.path.length<=4096/\u.query.length<=16384/\u.frag.length<=16384:=by
 have hl:=h.len;have h1:=Ix h.query;have h2:=Ix h.frag;have h3:=Yu u.meth u.id;unfold F2 at hl;simp only[zg] at hl;omega
end
open Go.RowKit Sx
section
variable [Tabs Tryz.prog] {objs:List OB} {K:List OB->AV->Prop}
set_option maxHeartbeats 4000000 in
theorem Sa (s:List UInt8) (hs:s.length<=140737488351232) (hk:K objs (.tup [A7 (B7 s).2,.i .i64 (B7 s).1])):Ai Tryz.prog 75 [.s s] objs K:=by
 have hm:maxLen=2 ^ 63 - 1:=rfl;refine AI gZ rfl fun C _=>?_;unfold B7 G8 at hk
 by_cases c0:(4096:Int)<↑s.length
 ·have c0':4096<s.length:=by omega
  simp only[c0',if_true,QJ] at hk;simp only[c0,Om,Aa,simprocAttr];exact hk
 ·have c0':¬4096<s.length:=by omega
  simp only[c0',if_false] at hk;simp only[c0,Om,Aa,simprocAttr];refine Ag (aG _ hs ?_);have sl:=SZ s;have op:=Oc (AQ s).2;have ol:=NZ (AQ s).2;have rl:=NH (AQ s).2;generalize hp:(AQ s).2=p at *
  by_cases c1:(AQ s).1=0
  ·simp only[c1,DF,Aa,simprocAttr] at hk ⊢;have ho:Be p=if p.hs=false then (60,[],0) else if AN p.scheme Dl=false then (60,[],0) else if p.ha=false then (71,[],0) else if (Af 64 p.auth).2.2=true then (70,[],0) else BU p.auth:=rfl
   by_cases d1:p.hs=true
   ·simp only[d1,Aa,simprocAttr] at ho ⊢;refine Ag (Z9 p.scheme Dl (by omega) (by decide) ?_)
    by_cases d2:AN p.scheme Dl=true
    ·simp only[d2,Aa,simprocAttr] at ho ⊢
     by_cases d3:p.ha=true
     ·simp only[d3,Aa,simprocAttr] at ho ⊢;refine Br (Gc p.auth [64] (by omega) (by decide) ⟨rfl,rfl⟩) ?_;simp only[Aa,simprocAttr];have hix:=YD p.auth 64
      by_cases d4:(Af 64 p.auth).2.2=true
      ·have d4':=hix.2 d4;simp only[d4,Aa,simprocAttr] at ho;simp only[d4',Aa,simprocAttr];rw[ho] at hk;simp only[A7,BH,Aa,simprocAttr] at hk;exact hk
      ·have d4':¬((Au p.auth [64]:Nat):Int)<((p.auth.length:Nat):Int):=fun h=>d4 (hix.1 h);simp only[d4,Aa,simprocAttr] at ho;simp only[d4',Aa,simprocAttr];refine Ag (R8 p.auth (by omega) ?_);rw[<-ho]
       by_cases c2:(Be p).1=0
       ·simp only[c2,BC,Aa,simprocAttr] at hk ⊢;refine Ag (M6 p.path AY (by decide) ?_);have hr:BW p=if (Aj p.path AY).1≠0 then ((Aj p.path AY).1,BH) else if (Aj p.query AP).1≠0 then ((Aj p.query AP).1,BH) else if (Aj p.frag AP).1≠0 then ((Aj p.frag AP).1,BH) else (0,⟨[],0,EG (Aj p.path AY).2,(Aj p.query AP).2,(Aj p.frag AP).2,p.hq,p.hf⟩):=rfl
        by_cases c3:(Aj p.path AY).1=0
        ·simp only[c3,Aa,simprocAttr] at hr ⊢;refine Ag (M6 p.query AP (by decide) ?_)
         by_cases c4:(Aj p.query AP).1=0
         ·simp only[c4,Aa,simprocAttr] at hr ⊢;refine Ag (M6 p.frag AP (by decide) ?_)
          by_cases c5:(Aj p.frag AP).1=0
          ·simp only[c5,Aa,simprocAttr] at hr ⊢;have n1:=FF p.path AY;refine Ag (Zj _ (by omega) ?_);have hsh:Dr (FC (Be p).2.1 (Be p).2.2 (BW p).2):=⟨by show (Be p).2.1.length<=_;omega,by show _<=(((Be p).2.2:Nat):Int);omega,by show (((Be p).2.2:Nat):Int)<=_;omega,by show (BW p).2.path.length<=_;omega,by show (BW p).2.query.length<=_;omega,by show (BW p).2.frag.length<=_;omega⟩;have hsl:EG (Aj p.path AY).2=if BL (Aj p.path AY).2=[] then [47] else BL (Aj p.path AY).2:=rfl
           have hr1:(BW p).1=0:=by rw[hr]
           simp only[hr1,Aa,simprocAttr] at hk;rw[hr] at hk hsh;have fin:∀pa:List UInt8,EG (Aj p.path AY).2=pa->Dr ⟨(Be p).2.1,(Be p).2.2,pa,(Aj p.query AP).2,(Aj p.frag AP).2,p.hq,p.hf⟩ /\
             ((((4096:Int)<((Bm ⟨(Be p).2.1,(Be p).2.2,pa,(Aj p.query AP).2,(Aj p.frag AP).2,p.hq,p.hf⟩).length:Nat))/\K objs (.tup [A7 BH,.i .i64 5])) \/
             (¬((4096:Int)<((Bm ⟨(Be p).2.1,(Be p).2.2,pa,(Aj p.query AP).2,(Aj p.frag AP).2,p.hq,p.hf⟩).length:Nat))/\K objs (.tup [A7 ⟨(Be p).2.1,(Be p).2.2,pa,(Aj p.query AP).2,(Aj p.frag AP).2,p.hq,p.hf⟩,.i .i64 0]))):=by
            intro pa hpa;rw[hpa] at hk hsh;simp only[FC] at hk hsh;refine⟨hsh,?_⟩
            by_cases c7:4096<(Bm ⟨(Be p).2.1,(Be p).2.2,pa,(Aj p.query AP).2,(Aj p.frag AP).2,p.hq,p.hf⟩).length
            ·rw[Gw,if_pos c7] at hk;exact .inl ⟨by omega,hk⟩
            ·rw[Gw,if_neg c7] at hk;exact .inr ⟨by omega,hk⟩
           clear hk hsh
           by_cases c6:BL (Aj p.path AY).2=[]
           ·rw[if_pos c6] at hsl;obtain⟨f1,f2⟩:=fin _ hsl;simp only[c6,Aa,simprocAttr];refine Ag (IL _ f1 ?_);rcases f2 with ⟨f2,f3⟩|⟨f2,f3⟩
            ·simp only[f2,Aa,simprocAttr];exact f3
            ·simp only[f2,Aa,simprocAttr];exact f3
           ·rw[if_neg c6] at hsl;obtain⟨f1,f2⟩:=fin _ hsl;simp only[c6,Aa,simprocAttr];refine Ag (IL _ f1 ?_);rcases f2 with ⟨f2,f3⟩|⟨f2,f3⟩
            ·simp only[f2,Aa,simprocAttr];exact f3
            ·simp only[f2,Aa,simprocAttr];exact f3
          ·simp only[c5,Aa,simprocAttr] at hr ⊢;rw[hr] at hk;simp only[c5,A7,BH,Aa,simprocAttr] at hk;exact hk
         ·simp only[c4,Aa,simprocAttr] at hr ⊢;rw[hr] at hk;simp only[c4,A7,BH,Aa,simprocAttr] at hk;exact hk
        ·simp only[c3,Aa,simprocAttr] at hr ⊢;rw[hr] at hk;simp only[c3,A7,BH,Aa,simprocAttr] at hk;exact hk
       ·simp only[c2,BC,A7,BH,Aa,simprocAttr] at hk ⊢;exact hk
     ·simp only[d3,Aa,simprocAttr] at ho ⊢;rw[ho] at hk;simp only[A7,BH,Aa,simprocAttr] at hk;exact hk
    ·simp only[d2,Aa,simprocAttr] at ho ⊢;rw[ho] at hk;simp only[A7,BH,Aa,simprocAttr] at hk;exact hk
   ·simp only[d1,Aa,simprocAttr] at ho ⊢;rw[ho] at hk;simp only[A7,BH,Aa,simprocAttr] at hk;exact hk
  ·simp only[c1,DF,A7,BH,Aa,simprocAttr] at hk ⊢;exact hk
end
theorem cK (p:UriP):Dr (G8 p).2:=by
 have op:=Oc p;have ol:=NZ p;have rl:=NH p;have hz:Dr BH:=⟨by decide,by decide,by decide,by decide,by decide,by decide⟩;unfold G8 Gw
 repeat' split
 all_goals first
  | exact hz
  | exact⟨by show (Be p).2.1.length<=_;omega,by show _<=(((Be p).2.2:Nat):Int);omega,by show (((Be p).2.2:Nat):Int)<=_;omega,by show (BW p).2.path.length<=_;omega,by show (BW p).2.query.length<=_;omega,by show (BW p).2.frag.length<=_;omega⟩
theorem RD (s:List UInt8):Dr (B7 s).2:=by
 have hz:Dr BH:=⟨by decide,by decide,by decide,by decide,by decide,by decide⟩;unfold B7
 repeat' split
 ·exact hz
 ·exact hz
 ·exact cK _
theorem S8 {u:UrlP} (h:Dr u):(Bm u).length<=5000000:=by
 obtain⟨h1,h2,h3,h4,h5,h6⟩:=h;have:=Yw u h2 h3;omega
theorem Sh {b:UrlP} (h:DX b=true):(Bm b).length<=4096:=by
 unfold DX at h;simp only[Bool.and_eq_true,decide_eq_true_eq] at h;have h1:=h.1;unfold B7 at h1
 split at h1
 ·cases h1
 ·omega
def OT (a b:UrlP):Bool:=decide (a.host=b.host)&&(decide (a.port=b.port)&&(decide (a.path=b.path)&&(decide (a.query=b.query)&&(decide (a.frag=b.frag)&&(a.hq==b.hq&&a.hf==b.hf)))))
theorem O9 (a b:UrlP):OT a b=decide (a=b):=by
 obtain⟨a1,a2,a3,a4,a5,a6,a7⟩:=a;obtain⟨b1,b2,b3,b4,b5,b6,b7⟩:=b;rw[Bool.eq_iff_iff];simp[OT]
theorem Yr (a b:UrlP):OT a b=decide (b=a):=by
 rw[O9];exact decide_eq_decide.2 ⟨fun h=>h.symm,fun h=>h.symm⟩
section
variable [Tabs Tryz.prog] {objs:List OB} {K:List OB->AV->Prop}
theorem YY [Pow Tryz.prog] (u:UrlP) (hu:Dr u) (hk:K objs (.b (DX u))):Ai Tryz.prog 184 [A7 u] objs K:=by
 have hm:maxLen=2 ^ 63 - 1:=rfl;have hl:=S8 hu;refine AI iT rfl fun C _=>?_;simp only[Un,A7,Aa,simprocAttr];refine Ag (JH u hu ?_);simp only[Aa,simprocAttr];refine Ag (RC _ (by omega) ?_);unfold DX at hk;generalize (B7 (Bm u)).2=v at hk ⊢
 by_cases h:(B7 (Bm u)).1=0
 ·simp only[h,A7,Aa,simprocAttr] at hk ⊢;rw[<-O9] at hk;exact hk
 ·simp only[h,A7,Aa,simprocAttr] at hk ⊢;exact hk
theorem aH (u:UrlP) (hu:Dr u) (hk:K objs (.b (DX u))):Ai Tryz.prog 133 [A7 u] objs K:=by
 have hm:maxLen=2 ^ 63 - 1:=rfl;have hl:=S8 hu;refine AI hC rfl fun C _=>?_;simp only[T7,A7,Aa,simprocAttr];refine Ag (IL u hu ?_);simp only[Aa,simprocAttr];refine Ag (Sa _ (by omega) ?_);unfold DX at hk;generalize (B7 (Bm u)).2=v at hk ⊢
 by_cases h:(B7 (Bm u)).1=0
 ·simp only[h,A7,Aa,simprocAttr] at hk ⊢;rw[<-Yr] at hk;exact hk
 ·simp only[h,A7,Aa,simprocAttr] at hk ⊢;exact hk
end
section
variable [Tabs Tryz.prog] {objs:List OB} {K:List OB->AV->Prop}
end
end Go.Proofs.YtbeoijfmfkifeaaGreatDoor
namespace Go.Proofs.YtbeoijfmfkifeaaGreatDoor
open Lib renaming hasPrefix->zk
open List renaming append_assoc->zu, append_nil->zy, cons->qj, cons_append->qy, length_cons->zl, mem_append->zw, mem_cons->zv, nil_append->qn, not_mem_nil->jk
def jn (l:List (List UInt8)):List UInt8:=l.flatMap fun s=>47::s
def EO (s:List UInt8):Prop:=47∉s/\s≠[46]/\s≠[46,46]
theorem Jc:jn []=[]:=rfl
theorem Ec (s:List UInt8) (l:List (List UInt8)):jn (s::l)=47::(s++jn l):=by simp[jn]
theorem MW (s:List UInt8) (l:List (List UInt8)):jn (l++[s])=jn l++47::s:=by simp[jn]
theorem QF (l:List (List UInt8)):jn l=[]\/∃r,jn l=47::r:=by
 cases l with
 | nil=>exact .inl rfl
 | cons s l=>exact .inr ⟨_,Ec s l⟩
theorem SW:∀a b:List UInt8,47∉a->GK (a++47::b)=b
 | [],b,_=>by rw[qn,GK,if_pos rfl]
 | x::a,b,h=>by
  simp only[zv,not_or] at h;rw[qy,GK,if_neg (fun e=>h.1 e.symm)];exact SW a b h.2
theorem dC (l s:List UInt8) (h:47∉s):BM (l++47::s)=l:=by
 unfold BM;have:(l++47::s).reverse=s.reverse++47::l.reverse:=by simp
 rw[this,SW _ _ (by simpa using h),List.reverse_reverse]
theorem aJ (l:List (List UInt8)) (h:∀s∈l,EO s):BM (jn l)=jn l.dropLast:=by
 rcases List.eq_nil_or_concat l with rfl|⟨l',s,rfl⟩
 ·rfl
 ·rw[List.concat_eq_append,MW,dC _ _ (h s (by simp)).1];simp
theorem NE (s rest:List UInt8) (hs:47∉s) (hr:rest=[]\/∃r,rest=47::r):Ba (s++rest)=s:=by
 unfold Ba;rcases hr with rfl|⟨r,rfl⟩
 ·rw[zy,Fl 47 s hs]
 ·rw[Dx 47 s r hs]
theorem Zs (rest o:List UInt8) (hr:rest=[]\/∃r,rest=47::r):BD (47::([46]++rest)) o=(if rest=[] then [47] else rest,o):=by
 rcases hr with rfl|⟨r,rfl⟩
 ·simp[BD,zk]
 ·simp[BD,zk]
theorem Zt (rest o:List UInt8) (hr:rest=[]\/∃r,rest=47::r):BD (47::([46,46]++rest)) o=(if rest=[] then [47] else rest,BM o):=by
 rcases hr with rfl|⟨r,rfl⟩
 ·simp[BD,zk]
 ·simp[BD,zk]
theorem K1 {l p:List UInt8} (h:∀u,p++u=l->False):zk l p=false:=by
 rw[Bool.eq_false_iff];intro e;obtain⟨u,hu⟩:=List.isPrefixOf_iff_prefix.1 (show List.isPrefixOf p l=true from e);exact h u hu
theorem M8 (s rest o:List UInt8) (hs:EO s) (hr:rest=[]\/∃r,rest=47::r):BD (47::(s++rest)) o=(rest,o++47::s):=by
 obtain⟨h1,h2,h3⟩:=hs;have hf:=NE s rest h1 hr;have hseg:C4 (47::(s++rest))=1+s.length:=by
  unfold C4;rw[List.drop_succ_cons,List.drop_zero,hf]
 have e1:(47::(s++rest)).drop (1+s.length)=rest:=by
  rw[Nat.add_comm,List.drop_succ_cons];simp
 have e2:(47::(s++rest)).take (1+s.length)=47::s:=by
  rw[Nat.add_comm,List.take_succ_cons];simp
 have key:BD (47::(s++rest)) o=((47::(s++rest)).drop (C4 (47::(s++rest))),o++(47::(s++rest)).take (C4 (47::(s++rest)))):=by
  unfold BD;have p1:zk (47::(s++rest)) [46,46,47]=false:=K1 fun u hu=>by simp at hu
  have p2:zk (47::(s++rest)) [46,47]=false:=K1 fun u hu=>by simp at hu
  have p7:¬(47::(s++rest)=[46]\/47::(s++rest)=[46,46]):=by simp
  have p3:zk (47::(s++rest)) [47,46,47]=false:=K1 fun u hu=>by
   rcases s with _|⟨a,_|⟨b,s⟩⟩
   ·rcases hr with rfl|⟨r,rfl⟩<;>simp at hu
   ·simp only[qy,qn,qj.injEq,true_and] at hu;exact h2 (by rw[<-hu.1])
   ·simp only[qy,qn,qj.injEq,true_and] at hu;exact h1 (by rw[hu.2.1];simp)
  have p4:¬47::(s++rest)=[47,46]:=by
   rcases s with _|⟨a,s⟩
   ·rcases hr with rfl|⟨r,rfl⟩<;>simp
   ·intro e;simp only[qy,qj.injEq,true_and,List.append_eq_nil_iff] at e;exact h2 (by rw[e.1,e.2.1])
  have p5:zk (47::(s++rest)) [47,46,46,47]=false:=K1 fun u hu=>by
   rcases s with _|⟨a,_|⟨b,_|⟨c,s⟩⟩⟩
   ·rcases hr with rfl|⟨r,rfl⟩<;>simp at hu
   ·rcases hr with rfl|⟨r,rfl⟩<;>simp at hu
   ·simp only[qy,qn,qj.injEq,true_and] at hu;exact h3 (by rw[<-hu.1,<-hu.2.1])
   ·simp only[qy,qn,qj.injEq,true_and] at hu;exact h1 (by rw[hu.2.2.1];simp)
  have p6:¬47::(s++rest)=[47,46,46]:=by
   rcases s with _|⟨a,_|⟨b,s⟩⟩
   ·rcases hr with rfl|⟨r,rfl⟩<;>simp
   ·rcases hr with rfl|⟨r,rfl⟩<;>simp
   ·intro e;simp only[qy,qj.injEq,true_and,List.append_eq_nil_iff] at e;exact h3 (by rw[e.1,e.2.1,e.2.2.1])
  rw[p1,p2,p3,p5,if_neg Bool.false_ne_true,if_neg Bool.false_ne_true,if_neg Bool.false_ne_true,if_neg p4,if_neg Bool.false_ne_true,if_neg p6,if_neg p7]
 rw[key,hseg,e1,e2]
theorem RT:∀(l:List (List UInt8)) (o:List UInt8),(∀s∈l,EO s)->CU (jn l) o=o++jn l
 | [],o,_=>by rw[Jc,JC,zy]
 | s::l,o,h=>by
  rw[Ec,EH (by simp),M8 s (jn l) o (h s (by simp)) (QF l)];simp only;rw[RT l _ (fun s hs=>h s (by simp[hs]))];simp
theorem gD (p:UriP) (h1:p.hs=true) (h2:Ed p.scheme=true) (h3:∀c∈p.scheme,Aw c [58,47,63,35]=false) (h4:p.ha=true) (h5:∀c∈p.auth,Aw c [47,63,35]=false)
  (h6:p.path=[]\/∃r,p.path=47::r) (h7:∀c∈p.path,Aw c [63,35]=false) (h8:(35:UInt8)∉p.query) (h9:p.hq=false->p.query=[]) (h10:p.hf=false->p.frag=[]) (h11:(Em p).length<=16384):AQ (Em p)=(0,p):=by
 obtain⟨sc,au,pa,qu,fr,hs,ha,hq,hf⟩:=p;simp only at h1 h2 h3 h4 h5 h6 h7 h8 h9 h10;subst h1 h4;have n1:∀c:UInt8,Aw c [58,47,63,35]=true->c∉sc:=fun c hc hm=>by have:=h3 c hm;rw[hc] at this;cases this
 have n2:∀c:UInt8,Aw c [47,63,35]=true->c∉au:=fun c hc hm=>by have:=h5 c hm;rw[hc] at this;cases this
 have n3:∀c:UInt8,Aw c [63,35]=true->c∉pa:=fun c hc hm=>by have:=h7 c hm;rw[hc] at this;cases this
 have eb:Em ⟨sc,au,pa,qu,fr,true,true,hq,hf⟩=sc++58::47::47::(au++pa++(if hq=true then [63]++qu else [])++(if hf=true then [35]++fr else [])):=by
  unfold Em;simp
 have q35:(35:UInt8)∉(if hq=true then [63]++qu else []):=by
  split
  ·simp[h8]
  ·simp
 have m35:(35:UInt8)∉sc++58::47::47::(au++pa++(if hq=true then [63]++qu else [])):=by
  simp only[zw,zv,not_or];exact⟨n1 35 (by decide),by decide,by decide,by decide,⟨n2 35 (by decide),n3 35 (by decide)⟩,q35⟩
 have m63:(63:UInt8)∉sc++58::47::47::(au++pa):=by
  simp only[zw,zv,not_or];exact⟨n1 63 (by decide),by decide,by decide,by decide,n2 63 (by decide),n3 63 (by decide)⟩
 have e35:Af 35 (Em ⟨sc,au,pa,qu,fr,true,true,hq,hf⟩)=(sc++58::47::47::(au++pa++(if hq=true then [63]++qu else [])),fr,hf):=by
  rw[eb]
  cases hf
  ·have:=h10 rfl;subst this;have:sc++58::47::47::(au++pa++(if hq=true then [63]++qu else [])++(if false=true then [35]++[] else []))=sc++58::47::47::(au++pa++(if hq=true then [63]++qu else [])):=by simp
   rw[this,Fl 35 _ m35]
  ·have:sc++58::47::47::(au++pa++(if hq=true then [63]++qu else [])++(if true=true then [35]++fr else []))=(sc++58::47::47::(au++pa++(if hq=true then [63]++qu else [])))++35::fr:=by simp
   rw[this,Dx 35 _ fr m35]
 have e63:Af 63 (sc++58::47::47::(au++pa++(if hq=true then [63]++qu else [])))=(sc++58::47::47::(au++pa),qu,hq):=by
  cases hq
  ·have:=h9 rfl;subst this;have:sc++58::47::47::(au++pa++(if false=true then [63]++[] else []))=sc++58::47::47::(au++pa):=by simp
   rw[this,Fl 63 _ m63]
  ·have:sc++58::47::47::(au++pa++(if true=true then [63]++qu else []))=(sc++58::47::47::(au++pa))++63::qu:=by simp
   rw[this,Dx 63 _ qu m63]
 have ef:Ba (sc++58::47::47::(au++pa))=sc++[58]:=by
  unfold Ba;have:sc++58::47::47::(au++pa)=(sc++[58])++47::(47::(au++pa)):=by simp
  rw[this,Dx 47 _ _ (by simp only[zw,zv,jk,or_false,not_or];exact⟨n1 47 (by decide),by decide⟩)]
 have ec:Af 58 (sc++[58])=(sc,[],true):=Dx 58 sc [] (n1 58 (by decide));have ed:(sc++58::47::47::(au++pa)).drop (sc.length+1)=47::47::(au++pa):=by
  have:sc++58::47::47::(au++pa)=(sc++[58])++(47::47::(au++pa)):=by simp
  rw[this,List.drop_append_of_le_length (by simp)];simp
 have et:DV (47::47::(au++pa))=true:=by simp[DV,zk]
 have ea:Db (47::47::(au++pa))=au:=by
  unfold Db;rw[if_pos et];show Ba (au++pa)=au;rcases h6 with rfl|⟨r,rfl⟩
  ·exact NE au [] (n2 47 (by decide)) (.inl rfl)
  ·exact NE au _ (n2 47 (by decide)) (.inr ⟨r,rfl⟩)
 have ep:D8 (47::47::(au++pa))=pa:=by
  unfold D8;rw[if_pos et,ea];show (au++pa).drop au.length=pa;simp
 have hb:Ck (Em ⟨sc,au,pa,qu,fr,true,true,hq,hf⟩)=sc++58::47::47::(au++pa):=by
  unfold Ck;rw[e35];simp only;rw[e63]
 have hsc:Dd (Em ⟨sc,au,pa,qu,fr,true,true,hq,hf⟩)=(sc,[],true):=by
  unfold Dd;rw[hb,ef,ec]
 have hh:EP (Em ⟨sc,au,pa,qu,fr,true,true,hq,hf⟩)=47::47::(au++pa):=by
  unfold EP;rw[hsc,hb,if_pos rfl,ed]
 unfold AQ;rw[if_neg (by omega),hsc,h2];simp only[Bool.not_true,Bool.and_false,Bool.false_eq_true,if_false,if_true];rw[hh,ea,ep,et,e35];simp only;rw[e63]
def Cn (keep l:List UInt8):Prop:=∀o r,Al (AR keep) 0 (l++r) o=Al (AR keep) 0 r (o++l)
theorem Cn.nil (keep:List UInt8):Cn keep []:=by intro o r;simp
theorem Cn.append {keep a b:List UInt8} (ha:Cn keep a) (hb:Cn keep b):Cn keep (a++b):=by
 intro o r;rw[zu,ha,hb,zu]
theorem Cn.one {keep:List UInt8} {c:UInt8} (hp:Bx c keep=true):Cn keep [c]:=by
 intro o r;have hc:c≠37:=Sq hp;exact IE _ _ _ _ _ hc (DN rfl hp)
theorem Cn.norm {keep l:List UInt8} (h:Cn keep l) (hl:l.length<=16384):Aj l keep=(0,l):=by
 have:=h [] [];unfold Aj B3;rw[if_neg (by omega)];rw[zy,qn,Al] at this;exact this
theorem Cn.jn {keep:List UInt8} (h47:Bx 47 keep=true):∀l:List (List UInt8),(∀s∈l,Cn keep s)->Cn keep (jn l)
 | [],_=>Cn.nil keep
 | s::l,h=>by
  rw[Ec];exact(Cn.one h47).append ((h s (by simp)).append (Cn.jn h47 l fun s hs=>h s (by simp[hs])))
theorem lM:Bx 47 AY=true:=by decide
theorem nI:∀n:Fin 256,(47:UInt8)∉Bk (UInt8.ofNat n.val):=by decide +kernel
theorem RY (c:UInt8):(47:UInt8)∉Bk c:=by
 have:=nI ⟨c.toNat,UInt8.toNat_lt c⟩;simpa using this
theorem aM:∀(n:Nat) (l out x:List UInt8),l.length<=n->Al (AR AY) 0 l out=(0,x)->∃s m,x=out++(s++jn m)/\(47∉s/\Cn AY s)/\(∀q∈m,47∉q/\Cn AY q)/\(l=[]->s=[]/\m=[])/\(∀t,l=47::t->s=[]/\m≠[]):=by
 intro n
 induction n with
 | zero=>
  intro l out x hl h;obtain rfl:l=[]:=List.eq_nil_of_length_eq_zero (by omega);rw[Al] at h;obtain rfl:out=x:=by injection h
  exact⟨[],[],by simp[jn],⟨by simp,Cn.nil _⟩,by simp,fun _=>⟨rfl,rfl⟩,fun t e=>by cases e⟩
 | succ n ih=>
  intro l out x hl h
  cases l with
  | nil=>
   rw[Al] at h;obtain rfl:out=x:=by injection h
   exact⟨[],[],by simp[jn],⟨by simp,Cn.nil _⟩,by simp,fun _=>⟨rfl,rfl⟩,fun t e=>by cases e⟩
  | cons c t=>
   simp only[zl] at hl
   by_cases hc:c=37
   ·subst hc;rcases he:Bq (37::t) with _|_
    ·rw[Al,if_pos rfl,if_neg (by rw[he];exact Bool.false_ne_true)] at h;injection h with h1 _
     exact absurd h1 (by decide)
    ·obtain⟨a,b,r,rfl⟩:=Fq he;rcases hu:A8 (A1 (37::a::b::r)) with _|_
     ·rw[Al,if_pos rfl,if_pos he,FH hu,if_pos rfl,D0] at h;obtain⟨s,m,e,⟨h1,h1'⟩,h2,_,_⟩:=ih r _ x (by simp at hl;omega) h;refine⟨Bk (A1 (37::a::b::r))++s,m,by rw[e];simp,⟨?_,?_⟩,h2,(fun e=>by cases e),(fun t e=>by cases e)⟩
      ·simp only[zw,not_or];exact⟨RY _,h1⟩
      ·exact Cn.append (fun o r'=>Js _ _ _ _ _ (FH hu)) h1'
     ·rw[Al,if_pos rfl,if_pos he,DN (by rw[hu];rfl) (EX hu),if_pos rfl,D0] at h;obtain⟨s,m,e,⟨h1,h1'⟩,h2,_,_⟩:=ih r _ x (by simp at hl;omega) h;refine⟨[A1 (37::a::b::r)]++s,m,by rw[e];simp,⟨?_,(Cn.one (EX hu)).append h1'⟩,h2,(fun e=>by cases e),(fun t e=>by cases e)⟩;simp only[zw,zv,jk,or_false,not_or];refine⟨fun e=>?_,h1⟩;rw[<-e] at hu;exact absurd hu (by decide)
   ·rcases hp:Bx c AY with _|_
    ·rw[Al,if_neg hc,Jx rfl hp,if_neg (by decide)] at h;injection h with h1 _
     exact absurd h1 (by decide)
    ·rw[Al,if_neg hc,DN rfl hp,if_pos rfl] at h;obtain⟨s,m,e,⟨h1,h1'⟩,h2,_,_⟩:=ih t _ x (by omega) h
     by_cases h47:c=47
     ·subst h47;refine⟨[],s::m,by rw[e,Ec];simp,⟨by simp,Cn.nil _⟩,?_,(fun e=>by cases e),(fun t e=>⟨rfl,by simp⟩)⟩;intro q hq;rcases zv.1 hq with rfl|hq
      ·exact⟨h1,h1'⟩
      ·exact h2 q hq
     ·refine⟨[c]++s,m,by rw[e];simp,⟨?_,(Cn.one hp).append h1'⟩,h2,(fun e=>by cases e),(fun t e=>by injection e with e _;exact absurd e h47)⟩;simp only[zw,zv,jk,or_false,not_or];exact⟨fun e=>h47 e.symm,h1⟩
theorem ZX (P:List UInt8->Prop) (h0:P []):∀(n:Nat) (m l:List (List UInt8)),(jn m).length<=n->m≠[]->(∀s∈m,47∉s/\P s)->(∀s∈l,EO s/\P s)->∃k,k≠[]/\(∀s∈k,EO s/\P s)/\CU (jn m) (jn l)=jn k:=by
 intro n
 induction n with
 | zero=>
  intro m l hn hm _ _
  cases m with
  | nil=>exact absurd rfl hm
  | cons s m=>rw[Ec] at hn;simp at hn
 | succ n ih=>
  intro m l hn hm hmp hl
  cases m with
  | nil=>exact absurd rfl hm
  | cons s m=>
   have hdl:∀s∈l.dropLast,EO s/\P s:=fun s hs=>hl s (List.dropLast_subset l hs);have hs:=hmp s (by simp);have hmp':∀s∈m,47∉s/\P s:=fun s hs=>hmp s (by simp[hs]);have hr:=QF m;have hnil:∀l:List (List UInt8),(∀s∈l,EO s/\P s)->∃k,k≠[]/\(∀s∈k,EO s/\P s)/\CU [47] (jn l)=jn k:=by
    intro l hl;refine⟨l++[[]],by simp,?_,?_⟩
    ·intro s hs;rcases zw.1 hs with hs|hs
     ·exact hl s hs
     ·simp at hs;subst hs;exact⟨⟨by simp,by simp,by simp⟩,h0⟩
    ·have:=M8 [] [] (jn l) ⟨by simp,by simp,by simp⟩ (.inl rfl);rw[EH (by simp)];simp only[zy] at this;rw[this,JC,MW]
   rw[Ec] at hn ⊢;simp only[zl,List.length_append] at hn;rw[EH (by simp)]
   by_cases h2:s=[46]
   ·subst h2;rw[Zs (jn m) _ hr]
    by_cases hm0:m=[]
    ·subst hm0;simp only[Jc,if_true];exact hnil l hl
    ·have:jn m≠[]:=by
      cases m with
      | nil=>exact absurd rfl hm0
      | cons q m=>rw[Ec];simp
     simp only[this,if_false];exact ih m l (by simp at hn;omega) hm0 hmp' hl
   ·by_cases h3:s=[46,46]
    ·subst h3;rw[Zt (jn m) _ hr];simp only;rw[aJ l (fun s hs=>(hl s hs).1)]
     by_cases hm0:m=[]
     ·subst hm0;simp only[Jc,if_true];exact hnil _ hdl
     ·have:jn m≠[]:=by
       cases m with
       | nil=>exact absurd rfl hm0
       | cons q m=>rw[Ec];simp
      simp only[this,if_false];exact ih m _ (by simp at hn;omega) hm0 hmp' hdl
    ·rw[M8 s (jn m) _ ⟨hs.1,h2,h3⟩ hr,<-MW];have hl2:∀s'∈l++[s],EO s'/\P s':=by
      intro s' hs';rcases zw.1 hs' with hs' | hs'
      ·exact hl s' hs'
      ·simp at hs';subst hs';exact⟨⟨hs.1,h2,h3⟩,hs.2⟩
     by_cases hm0:m=[]
     ·subst hm0;exact⟨l++[s],by simp,hl2,by rw[Jc,JC]⟩
     ·exact ih m _ (by omega) hm0 hmp' hl2
def Ff (l:List UInt8):Prop:=∃m,m≠[]/\(∀s∈m,EO s/\Cn AY s)/\l=jn m
theorem bZ (l:List UInt8) (hl:l=[]\/∃t,l=47::t) (hn:(Aj l AY).1=0):Ff (EG (Aj l AY).2):=by
 have e:Aj l AY=(0,(Aj l AY).2):=by rw[<-hn]
 have hlen:=Ix e;have hr:Al (AR AY) 0 l []=(0,(Aj l AY).2):=by
  have e2:=e;unfold Aj B3 at e2;rw[if_neg (by omega)] at e2;rw[e2];unfold Aj B3;rw[if_neg (by omega)]
 obtain⟨s,m,k1,k2,k3,k4,k5⟩:=aM l.length l [] _ (Nat.le_refl _) hr;rw[qn] at k1;rw[k1];rcases hl with rfl|⟨t,rfl⟩
 ·obtain⟨rfl,rfl⟩:=k4 rfl;refine⟨[[]],by simp,?_,?_⟩
  ·intro q hq;simp at hq;subst hq;exact⟨⟨by simp,by simp,by simp⟩,Cn.nil _⟩
  ·unfold EG;rfl
 ·obtain⟨rfl,hm⟩:=k5 t rfl;rw[qn];obtain⟨k,q1,q2,q3⟩:=ZX (Cn AY) (Cn.nil _) (jn m).length m [] (Nat.le_refl _) hm k3 (by simp);refine⟨k,q1,q2,?_⟩;unfold EG;have:BL (jn m)=jn k:=q3;rw[this,if_neg]
  cases k with
  | nil=>exact absurd rfl q1
  | cons a k=>rw[Ec];simp
theorem Ff.form {l:List UInt8} (h:Ff l):∃r,l=47::r:=by
 obtain⟨m,hm,_,rfl⟩:=h
 cases m with
 | nil=>exact absurd rfl hm
 | cons s m=>exact⟨_,Ec s m⟩
theorem Ff.dots {l:List UInt8} (h:Ff l):BL l=l:=by
 obtain⟨m,hm,hs,rfl⟩:=h;have:=RT m [] (fun s h=>(hs s h).1);simpa[BL] using this
theorem Ff.norm {l:List UInt8} (h:Ff l) (hl:l.length<=16384):Aj l AY=(0,l):=by
 obtain⟨m,hm,hs,rfl⟩:=h;exact(Cn.jn lM m fun s h=>(hs s h).2).norm hl
theorem Ff.slash {l:List UInt8} (h:Ff l):EG l=l:=by
 obtain⟨r,hr⟩:=h.form;unfold EG;rw[h.dots,if_neg (by rw[hr];simp)]
open Go.RowKit Sx
theorem dE {P:Program} {w w':World} {name:String} {k:IntKind} {zs:List Int} (h:Lib.TabIs P w name k zs) (hk:∀k,k<w.heap.size->w'.heap[k]? = w.heap[k]?):Lib.TabIs P w' name k zs:=by
 unfold Lib.TabIs World.var? at *
 cases hg:P.globalNamed name with
 | none=>simp[hg] at h
 | some g=>
  simp only[hg,Option.bind_some] at h ⊢;have hlt:g<w.heap.size:=by
   rcases Nat.lt_or_ge g w.heap.size with h' | h'
   ·exact h'
   ·rw[Array.getElem?_eq_none h'] at h;simp at h
  rw[hk g hlt];exact h
instance tabsN : Tabs Tryz.prog := ⟨fun w => w.ShapedOpen Tryz.prog ∧ Lib.TabIs Tryz.prog w "internal/strconv.uint64pow10" .u64 Lib.pow10Tab, fun _ _ h hk _ => ⟨Tx h.1 hk, dE h.2 hk⟩⟩
instance tabsN_shp:Shp Tryz.prog:=⟨fun _ h=>h.1⟩
instance tabsN_pow:Pow Tryz.prog:=⟨fun _ h=>h.2⟩
end Go.Proofs.YtbeoijfmfkifeaaGreatDoor
