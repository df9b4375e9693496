/- The texts that the proofs of these statements reach, in their order, as few files. -/
import Derived.Deep.RegionLaw
import Derived.Deep.RegionHeldLaw
import Derived.Deep.DrawnRows
import Derived.Lib.Join
import Derived.Lib.LastIndexByte
import Derived.Lib.Replace
import Derived.Lib.CountLaws
import Derived.Test.YtbeoijfmfkifeaaGreatDoorProg
import Derived.Test.YtbeoijfmfkifeaaGreatDoorCq3
set_option linter.unusedVariables false
set_option linter.unusedSimpArgs false
set_option maxRecDepth 100000
namespace Go.Proofs.YtbeoijfmfkifeaaGreatDoor
open Go.RowKit
open Lib renaming hasPrefix->zk, hid->za
open List renaming eq_nil_of_length_eq_zero->qd, length_cons->zj, length_take->zg
open Nat renaming le_refl->zd
def Gw:List UInt8->List UInt8
 | []=>[]
 | x::t=>if x=47 then t else Gw t
def BE (l:List UInt8):List UInt8:=(Gw l.reverse).reverse
theorem N5 (l:List UInt8) (x:UInt8):BE (l++[x])=if x=47 then l else BE l:=by
 unfold BE;rw[List.reverse_append,List.reverse_singleton,List.singleton_append,Gw]
 split
 ·simp
 ·rfl
theorem Lq (l:List UInt8):(BE l).length<=l.length:=by
 have:∀m:List UInt8,(Gw m).length<=m.length:=by
  intro m
  induction m with
  | nil=>exact zd _
  | cons x t ih=>rw[Gw];split<;>simp<;>omega
 unfold BE;rw[List.length_reverse];have:=this l.reverse;rw[List.length_reverse] at this;exact this
def CR (l:List UInt8):Nat:=1+(A6 (l.drop 1)).length
def Bu (i o:List UInt8):List UInt8×List UInt8 :=
 if zk i [46,46,47]=true then (i.drop 3,o)
 else if zk i [46,47]=true then (i.drop 2,o)
 else if zk i [47,46,47]=true then (i.drop 2,o)
 else if i=[47,46] then ([47],o)
 else if zk i [47,46,46,47]=true then (i.drop 3,BE o)
 else if i=[47,46,46] then ([47],BE o)
 else if i=[46]\/i=[46,46] then ([],o)
 else (i.drop (CR i),o++i.take (CR i))
def FV:Nat->List UInt8->List UInt8->List UInt8
 | 0,i,o=>o
 | n+1,i,o=>if i=[] then o else FV n (Bu i o).1 (Bu i o).2
def CH (i o:List UInt8):List UInt8:=FV i.length i o
def BD (l:List UInt8):List UInt8:=CH l []
theorem FY {s p:List UInt8} (h:zk s p=true):p.length<=s.length:=(List.isPrefixOf_iff_prefix.1 h).length_le
theorem MB {l:List UInt8} (h:l≠[]):CR l<=l.length/\1<=CR l:=by
 have:=(FB (l.drop 1)).2;rw[List.length_drop] at this;have h2:l.length≠0:=fun e=>h (qd e);unfold CR;omega
theorem ER {i o:List UInt8} (h:i≠[]):(Bu i o).1.length<i.length:=by
 have h0:i.length≠0:=fun e=>h (qd e);have hs:=MB h;unfold Bu
 split
 ·simp;omega
 ·split
  ·simp;omega
  ·split
   ·simp;omega
   ·split
    ·rename_i h4;rw[h4];simp
    ·split
     ·simp;omega
     ·split
      ·rename_i h6;rw[h6];simp
      ·split
       ·simp;omega
       ·simp;omega
theorem Fh {i o:List UInt8}:(Bu i o).2.length+(Bu i o).1.length<=o.length+i.length:=by
 have h1:=Lq o;unfold Bu
 split
 ·simp
 ·split
  ·simp
  ·split
   ·simp
   ·split
    ·rename_i h4;rw[h4];simp
    ·split
     ·simp;omega
     ·split
      ·rename_i h6;rw[h6];simp;omega
      ·split
       ·simp
       ·simp;omega
theorem aV:∀(n:Nat) (i o:List UInt8),i.length<=n->FV n i o=FV i.length i o:=by
 intro n
 induction n using Nat.strongRecOn with
 | _ n ih=>
  intro i o hi;rcases i with _|⟨c,t⟩
  ·cases n with
   | zero=>rfl
   | succ n=>rfl
  ·cases n with
   | zero=>simp at hi
   | succ n=>
    have hl:=ER (i:=c::t) (o:=o) (by simp);simp only[zj] at hi hl ⊢;rw[FV,FV,if_neg (by simp),if_neg (by simp),ih n (by omega) _ _ (by omega)]
    by_cases e:t.length=n
    ·subst e;rw[ih t.length (by omega) _ _ (by omega)]
    ·rw[ih t.length (by omega) _ _ (by omega)]
theorem JF (o:List UInt8):CH [] o=o:=rfl
theorem EA {i o:List UInt8} (h:i≠[]):CH i o=CH (Bu i o).1 (Bu i o).2:=by
 have hl:=ER (o:=o) h;unfold CH;rcases i with _|⟨c,t⟩
 ·exact absurd rfl h
 ·simp only[zj] at hl;rw[zj,FV,if_neg h,aV t.length _ _ (by omega)]
theorem eS (s:ByteArray) (w:World) (hs:s.size<=maxLen) :
  Calls Tryz.prog 131 #[.string s] w fun e w'=>e=.returned (.string (S (BE s.data.toList)))/\w=w':=by
 unfold maxLen at hs
 go_enter Tryz.func131,Tryz.ntmps131
 go_wp2_with fail
 go_loop [3] (fun i=>∃k:Nat,k<=s.size/\i=.int .i64 ((k:Int) - 1)/\Hid (BE s.data.toList=BE (s.data.toList.take k))) (fun i=>(intOf i+1).toNat)
 case atStart=>exact⟨s.size,zd _,rfl,za (by rw[List.take_of_length_le (by rw[As];omega)])⟩
 case round=>
  obtain⟨k,hk,rfl,HT⟩:=hrel;rcases k with _|k
  ·go_wp2_with fail
   go_ret
   exact⟨K2 (by rw[HT.out];rfl),rfl⟩
  ·have hlt:k<s.size:=by omega
   have hst:=N5 (s.data.toList.take k) s[k];rw[<-F8 s k hlt] at hst;have e1:(((k+1:Nat):Int) - 1)=(k:Int):=by omega
   by_cases hc:s[k]=47
   ·have hb:((s[k].toNat:Int)==47)=true:=by rw[hc];rfl
    have HN:Hid (BE s.data.toList=s.data.toList.take k):=za (by rw[HT.out,hst,if_pos hc]);have HX:=za (FD s k);clear hst hc;rw[e1];clear e1
    go_wp2_with fail
    go_ret
    exact⟨GB (by rw[HX.out,HN.out]),rfl⟩
   ·have hb:((s[k].toNat:Int)==47)=false:=by
     rw[beq_eq_false_iff_ne];intro e;exact hc (UInt8.toNat_inj.1 (by show s[k].toNat=47;omega))
    have HN:Hid (BE s.data.toList=BE (s.data.toList.take k)):=za (by rw[HT.out,hst,if_neg hc]);clear hst hc;rw[e1];clear e1
    go_wp2_with fail
    go_round
    case rel=>exact⟨k,by omega,rfl,HN⟩
    case measure=>simp[intOf]
theorem iH {w:World} {ops:Array Oper} {o:Oper} {a:Act} {K:Act->World->Prop} {Q:Exit->Act->World->Prop} {E:Prop} (hgd:o.guard=none) (sl x:Operand)
  (ho:o.op=.call { callee:=.builtin .append,args:=#[sl,x],argTypes:=#[25,9] })
  (B:Nat) (v:Value) (l:List UInt8) (hs:a.eval sl=v) (hrow:AW w B v l) (s:ByteArray) (hx:a.eval x=.string s)
  (hlen:l.length+s.size<=140737488355328) (hB:B<=w.heap.size)
  (h:∀v' w',AW w' B v' (l++s.data.toList)->Below B w w'->K (a.put o.dst v') w'):if Region.wanted o (yielded ops a.tmps)=true then Oper.wp Tryz.prog o a w K Q else E:=by
 have hw:Region.wanted o (yielded ops a.tmps)=true:=by simp[Region.wanted,hgd]
 rw[if_pos hw];obtain⟨i0,hi,hz0,hz1,hz2⟩:=info_parts I3;obtain⟨v',w',hrun,h1,h2,_⟩:=Lib.run_append_own_string (P:=Tryz.prog) w B 25 9 o.type 5 i0 Tryz.underlying25 Tryz.underlying9 hi hz0 hz1 hz2 v l.length (bv l) hrow s (by simp only[maxLen];omega) hlen hB;unfold Oper.wp execOp;simp only[ho,resolve,invoke,builtin,Sem.run_bind,Sem.run_pure,Result.andThen_ok,List.map_toArray,List.map_cons,List.map_nil,hs,hx,hrun];exact h v' w' (AW.appended h1 (by rw[S7,Li]) (by rw[List.length_append,As])) (Lv hrow hB h2)
theorem AW.form {w:World} {B:Nat} {v:Value} {l:List UInt8} (h:AW w B v l) (hl:0<l.length):∃g cap,v=.slice (some ⟨g,0,none⟩) l.length cap/\B<=g/\g<w.heap.size/\l.length<=cap:=by
 rcases h.2 with ⟨rfl,hn⟩|⟨g,cap,cur,rfl,hb,hg,hnc,_⟩
 ·omega
 ·refine⟨g,cap,rfl,hb,?_,hnc⟩;rcases Nat.lt_or_ge g w.heap.size with h1|h1
  ·exact h1
  ·rw[Array.getElem?_eq_none h1] at hg;cases hg
theorem AW.cap {w:World} {B g n cap:Nat} {l:List UInt8} (h:AW w B (.slice (some ⟨g,0,none⟩) n cap) l):n=l.length/\n<=cap/\cap<=maxLen:=by
 rcases h.2 with ⟨e,_⟩|⟨g',cap',cur,e,hb,hg,hnc,hcm,_⟩
 ·simp at e
 ·simp only[Value.slice.injEq] at e;obtain⟨_,rfl,rfl⟩:=e;exact⟨rfl,hnc,hcm⟩
theorem AW.pre {w:World} {B g n cap:Nat} {l:List UInt8} (h:AW w B (.slice (some ⟨g,0,none⟩) n cap) l) (k:Nat) (hk:k<=l.length):AW w B (.slice (some ⟨g,0,none⟩) k cap) (l.take k):=by
 rcases h.2 with ⟨e,_⟩|⟨g',cap',cur,e,hb,hg,hnc,hcm,hcs,ht⟩
 ·simp at e
 ·simp only[Value.slice.injEq] at e;obtain⟨hgg,rfl,rfl⟩:=e;obtain rfl:g=g':=by simpa using hgg
  have hlen:(l.take k).length=k:=by rw[zg];omega
  refine⟨by rw[JE];simp,.inr ⟨g,cap,cur,by rw[hlen],hb,hg,by rw[hlen];omega,hcm,hcs,?_⟩⟩;rw[hlen];have:=congrArg (List.take k) ht;rw[Nat.mul_one] at this ⊢;rw[List.take_take,Nat.min_eq_left hk] at this;rw[this];simp[bv,List.map_take]
theorem S5 (l:List UInt8):BE l=l.take (BE l).length:=by
 have:∀(n:Nat) (l:List UInt8),l.length<=n->BE l=l.take (BE l).length:=by
  intro n
  induction n with
  | zero=>
   intro l hl;obtain rfl:l=[]:=qd (by omega)
   rfl
  | succ n ih=>
   intro l hl;rcases List.eq_nil_or_concat l with rfl|⟨t,x,rfl⟩
   ·rfl
   ·rw[List.concat_eq_append] at hl ⊢;rw[N5]
    by_cases hx:x=47
    ·rw[if_pos hx];simp
    ·rw[if_neg hx];have h1:=ih t (by simp at hl;omega);have h2:=Lq t;rw[List.take_append_of_le_length h2];exact h1
 exact this _ l (zd _)
theorem T4 (g cap B:Nat) (l:List UInt8) (w:World) (hrow:AW w B (.slice (some ⟨g,0,none⟩) l.length cap) l) (hl:l.length<=1000000) :
  Calls Tryz.prog 209 #[.slice (some ⟨g,0,none⟩) l.length cap] w fun e w'=>e=.returned (.slice (some ⟨g,0,none⟩) (BE l).length cap)/\w=w':=by
 obtain⟨_,hc1,hc2⟩:=hrow.cap;unfold maxLen at hc2;have HR:=za hrow;clear hrow
 go_enter Tryz.func209,Tryz.ntmps209
 go_wp2_with fail
 go_loop [3] (fun i=>∃k:Nat,k<=l.length/\i=.int .i64 ((k:Int) - 1)/\Hid (BE l=BE (l.take k))) (fun i=>(intOf i+1).toNat)
 case atStart=>exact⟨l.length,zd _,rfl,za (by rw[List.take_length])⟩
 case round=>
  obtain⟨k,hk,rfl,HT⟩:=hrel;rcases k with _|k
  ·go_wp2_with fail
   go_ret
   exact⟨by rw[HT.out];rfl,rfl⟩
  ·have hlt:k<l.length:=by omega
   have hst:=N5 (l.take k) l[k];rw[<-List.take_succ_eq_append_getElem hlt] at hst;have hcell:=HR.out.cell k hlt;have e1:(((k+1:Nat):Int) - 1)=(k:Int):=by omega
   have hkl:(l.take k).length=k:=by rw[zg];omega
   generalize l[k]=x at *
   by_cases hc:x=47
   ·have hb:((x.toNat:Int)==47)=true:=by rw[hc];rfl
    have HN:Hid ((BE l).length=k):=za (by rw[HT.out,hst,if_pos hc,hkl]);clear hst hc hkl;rw[e1];clear e1
    go_wp2_with fail
    go_ret
    exact⟨by rw[HN.out];rfl,rfl⟩
   ·have hb:((x.toNat:Int)==47)=false:=by
     rw[beq_eq_false_iff_ne];intro e;exact hc (UInt8.toNat_inj.1 (by show x.toNat=47;omega))
    have HN:Hid (BE l=BE (l.take k)):=za (by rw[HT.out,hst,if_neg hc]);clear hst hc hkl;rw[e1];clear e1
    go_wp2_with fail
    go_round
    case rel=>exact⟨k,by omega,rfl,HN⟩
    case measure=>simp[intOf]
theorem FE {l m:List UInt8} (h:(l==m)=false):¬l=m:=by rw[beq_eq_false_iff_ne] at h;exact h
end Go.Proofs.YtbeoijfmfkifeaaGreatDoor
namespace Go.Proofs.YtbeoijfmfkifeaaGreatDoor
open Go.RowKit
open Lib renaming hasPrefix->zk, hid->za
attribute [local go_sem ↓] Go.wp_at_zero Go.wp_at_succ
set_option maxHeartbeats 8000000 in
theorem aL (s:ByteArray) (w:World) (hs:s.size<=1000000) :
  Calls Tryz.prog 174 #[.string s] w fun e w'=>e=.returned (.string (S (BD s.data.toList)))/\Qb w w':=by
 have hmk:=fun W=>Lc s.size (by omega) W
 go_enter Tryz.func174,Tryz.ntmps174
 go_wp2_with fail
 go_region
 go_wp2_with fail
 clear hmk
 go_loopw [3,4,5] (fun x y _ wr=>∃(i o:List UInt8) (g cap:Nat),o.length+i.length<=s.size/\x=.string (S i)/\y=.slice (some ⟨g,0,none⟩) o.length cap/\AW wr w.heap.size (.slice (some ⟨g,0,none⟩) o.length cap) o/\Hid (BD s.data.toList=CH i o)/\Qb w wr) (fun x _ _ _=>OR x)
 case atStart=>exact⟨s.data.toList,[],w.heap.size,s.size,by rw[As];simp,rfl,rfl,(JD w _ 0 _ (Nat.le_refl _) (Nat.zero_le _) (by omega)).drew,za rfl,((Qb.refl w).alloc _).drew⟩
 case round=>
  obtain⟨i,o,g,cap,hl,rfl,rfl,hrow,HD,hq⟩:=hrel;have hB:w.heap.size<=wr.heap.size:=hq.size;rcases i with _|⟨c,t⟩
  ·have hst:=Hi hrow;clear hrow
   go_wp2_with fail
   go_ret
   exact⟨K2 (by rw[HD.out,JF]),hq⟩
  ·generalize hi:c::t=i at *;have hi0:i≠[]:=by rw[<-hi];simp
   have hne:i.isEmpty=false:=by rw[<-hi];rfl
   clear hi;have hml:(S i).size<=maxLen:=by unfold maxLen;rw[Am];omega
   have hil:i.length<=1000000:=by omega
   have hol:o.length<=1000000:=by omega
   rcases p1:zk i [46,46,47] with _|_
   ·rcases p2:zk i [46,47] with _|_
    ·rcases p3:zk i [47,46,47] with _|_
     ·rcases e4:(i==[47,46]) with _|_
      ·rcases p5:zk i [47,46,46,47] with _|_
       ·rcases e6:(i==[47,46,46]) with _|_
        ·rcases e7:(i==[46]) with _|_
         ·rcases e8:(i==[46,46]) with _|_
          ·have HS:Hid (Bu i o=(i.drop (CR i),o++i.take (CR i))):=za (by unfold Bu;rw[if_neg (by rw[p1];exact Bool.false_ne_true),if_neg (by rw[p2];exact Bool.false_ne_true),if_neg (by rw[p3];exact Bool.false_ne_true),if_neg (FE e4),if_neg (by rw[p5];exact Bool.false_ne_true),if_neg (FE e6),if_neg (fun h=>h.elim (FE e7) (FE e8))]);have hlt:=ER (o:=o) hi0;have hout:=Fh (i:=i) (o:=o);rw[HS.out] at hlt hout;simp only at hlt hout;have HN:Hid (BD s.data.toList=CH (i.drop (CR i)) (o++i.take (CR i))):=za (by rw[HD.out,EA hi0,HS.out]);have hseg:=MB hi0;have hx1:=EE (S i) 1;rw[Am,Ao] at hx1;have HX1:=za hx1;have hx2:=EE (S i) (CR i);rw[Am,Ao] at hx2;have hx3:=FD (S i) (CR i);rw[Ao] at hx3;have HXS:=za hx2;have HXP:=za hx3;have hdl:(i.drop 1).length<=1000000:=by rw[List.length_drop];omega
           have hsg:(1:Int)+((A6 (i.drop 1)).length:Int)=(CR i:Int):=by unfold CR;omega
           have HSG:=za hsg;clear hx1 hx2 hx3 hsg;have Hp1:=za p1;have Hp2:=za p2;have Hp3:=za p3;have Hp5:=za p5;clear p1 p2 p3 p5
           go_wp2_with fail
           refine(Tryz.strings_HasPrefix _ _ _).mono ?_;rintro e w1 ⟨rfl,rfl⟩;rw[Ao,show zk i ({ data:=#[46,46,47] }:ByteArray).data.toList=false from Hp1.out]
           go_wp2_with fail
           refine(Tryz.strings_HasPrefix _ _ _).mono ?_;rintro e w1 ⟨rfl,rfl⟩;rw[Ao,show zk i ({ data:=#[46,47] }:ByteArray).data.toList=false from Hp2.out]
           go_wp2_with fail
           refine(Tryz.strings_HasPrefix _ _ _).mono ?_;rintro e w1 ⟨rfl,rfl⟩;rw[Ao,show zk i ({ data:=#[47,46,47] }:ByteArray).data.toList=false from Hp3.out]
           go_wp2_with fail
           refine(Tryz.strings_HasPrefix _ _ _).mono ?_;rintro e w1 ⟨rfl,rfl⟩;rw[Ao,show zk i ({ data:=#[47,46,46,47] }:ByteArray).data.toList=false from Hp5.out]
           go_wp2_with fail
           rw[HX1.out];refine(Oj _ _ (by unfold maxLen;rw[Am];omega)).mono ?_;rintro e w1 ⟨rfl,hq1⟩;rw[Ao];have hrow1:=hrow.below hq1;have hB1:w.heap.size<=w1.heap.size:=Nat.le_trans hB hq1.size;have hfl:=(FB (i.drop 1)).2;generalize hfa:A6 (i.drop 1)=fa at *;have HFA:=za hfa;clear hfa;have q0:(1:Int)+(fa.length:Int)=(CR i:Int):=HSG.out;generalize hsn:CR i=sg at *;clear hsn;have q1:(0:Int)<=(sg:Int):=by omega
           have q2:(sg:Int)<=(i.length:Int):=by omega
           have q3:(i.take sg).length<=sg:=List.length_take_le _ _
           go_wp2_with fail
           go_region_held_law (fun w'=>True) (first|trivial|go_keep) ((refine iH (o:=⟨some 24,_,_,_,_,_⟩) (by rfl) (.tmp 20) (.tmp 23) (by rfl) w.heap.size _ o (by rfl) (AW.drew hrow1) _ (by rfl) (by rw[HXP.out,Am];omega) (by simp;omega) ?_;intro v1 w2 hr1 hb1))
           rw[HXP.out,Ao] at hr1;obtain⟨oo,hoo⟩:∃oo,oo=o++i.take sg:=⟨_,rfl⟩;rw[<-hoo] at hr1;have HN2:Hid (BD s.data.toList=CH (i.drop sg) oo):=za (by rw[hoo];exact HN.out);have hoo1:oo.length+(i.drop sg).length<=s.size:=by rw[hoo];omega
           have hoo2:0<oo.length:=by rw[hoo,List.length_append,List.length_take];omega
           clear hoo HN hout;obtain⟨g1,cap1,rfl,_⟩:=hr1.form hoo2
           go_wp2_with fail
           go_roundw
           case rel=>exact⟨_,_,_,_,hoo1,congrArg Value.string HXS.out,rfl,hr1,HN2,Below.trans ((hq.trans hq1).drew) hb1⟩
           case measure=>rw[HXS.out,Dl,Dl,Am,Am];exact hlt
          ·have HS:Hid (Bu i o=([],o)):=za (by unfold Bu;rw[if_neg (by rw[p1];exact Bool.false_ne_true),if_neg (by rw[p2];exact Bool.false_ne_true),if_neg (by rw[p3];exact Bool.false_ne_true),if_neg (FE e4),if_neg (by rw[p5];exact Bool.false_ne_true),if_neg (FE e6),if_pos (.inr (eq_of_beq e8))]);have hlt:=ER (o:=o) hi0;have hout:=Fh (i:=i) (o:=o);rw[HS.out] at hlt hout;simp only at hlt hout;have HN:Hid (BD s.data.toList=CH ([]) (o)):=za (by rw[HD.out,EA hi0,HS.out]);have Hp1:=za p1;have Hp2:=za p2;have Hp3:=za p3;have Hp5:=za p5;clear p1 p2 p3 p5
           go_wp2_with fail
           refine(Tryz.strings_HasPrefix _ _ _).mono ?_;rintro e w1 ⟨rfl,rfl⟩;rw[Ao,show zk i ({ data:=#[46,46,47] }:ByteArray).data.toList=false from Hp1.out]
           go_wp2_with fail
           refine(Tryz.strings_HasPrefix _ _ _).mono ?_;rintro e w1 ⟨rfl,rfl⟩;rw[Ao,show zk i ({ data:=#[46,47] }:ByteArray).data.toList=false from Hp2.out]
           go_wp2_with fail
           refine(Tryz.strings_HasPrefix _ _ _).mono ?_;rintro e w1 ⟨rfl,rfl⟩;rw[Ao,show zk i ({ data:=#[47,46,47] }:ByteArray).data.toList=false from Hp3.out]
           go_wp2_with fail
           refine(Tryz.strings_HasPrefix _ _ _).mono ?_;rintro e w1 ⟨rfl,rfl⟩;rw[Ao,show zk i ({ data:=#[47,46,46,47] }:ByteArray).data.toList=false from Hp5.out]
           go_wp2_with fail
           go_roundw
           case rel=>exact⟨_,_,_,_,by omega,rfl,rfl,hrow,HN,hq⟩
           case measure=>rw[Dl,Dl,Am];exact hlt
         ·have HS:Hid (Bu i o=([],o)):=za (by unfold Bu;rw[if_neg (by rw[p1];exact Bool.false_ne_true),if_neg (by rw[p2];exact Bool.false_ne_true),if_neg (by rw[p3];exact Bool.false_ne_true),if_neg (FE e4),if_neg (by rw[p5];exact Bool.false_ne_true),if_neg (FE e6),if_pos (.inl (eq_of_beq e7))]);have hlt:=ER (o:=o) hi0;have hout:=Fh (i:=i) (o:=o);rw[HS.out] at hlt hout;simp only at hlt hout;have HN:Hid (BD s.data.toList=CH ([]) (o)):=za (by rw[HD.out,EA hi0,HS.out]);have Hp1:=za p1;have Hp2:=za p2;have Hp3:=za p3;have Hp5:=za p5;clear p1 p2 p3 p5
          go_wp2_with fail
          refine(Tryz.strings_HasPrefix _ _ _).mono ?_;rintro e w1 ⟨rfl,rfl⟩;rw[Ao,show zk i ({ data:=#[46,46,47] }:ByteArray).data.toList=false from Hp1.out]
          go_wp2_with fail
          refine(Tryz.strings_HasPrefix _ _ _).mono ?_;rintro e w1 ⟨rfl,rfl⟩;rw[Ao,show zk i ({ data:=#[46,47] }:ByteArray).data.toList=false from Hp2.out]
          go_wp2_with fail
          refine(Tryz.strings_HasPrefix _ _ _).mono ?_;rintro e w1 ⟨rfl,rfl⟩;rw[Ao,show zk i ({ data:=#[47,46,47] }:ByteArray).data.toList=false from Hp3.out]
          go_wp2_with fail
          refine(Tryz.strings_HasPrefix _ _ _).mono ?_;rintro e w1 ⟨rfl,rfl⟩;rw[Ao,show zk i ({ data:=#[47,46,46,47] }:ByteArray).data.toList=false from Hp5.out]
          go_wp2_with fail
          go_roundw
          case rel=>exact⟨_,_,_,_,by omega,rfl,rfl,hrow,HN,hq⟩
          case measure=>rw[Dl,Dl,Am];exact hlt
        ·have HS:Hid (Bu i o=([47],BE o)):=za (by unfold Bu;rw[if_neg (by rw[p1];exact Bool.false_ne_true),if_neg (by rw[p2];exact Bool.false_ne_true),if_neg (by rw[p3];exact Bool.false_ne_true),if_neg (FE e4),if_neg (by rw[p5];exact Bool.false_ne_true),if_pos (eq_of_beq e6)]);have hlt:=ER (o:=o) hi0;have hout:=Fh (i:=i) (o:=o);rw[HS.out] at hlt hout;simp only at hlt hout;have HN:Hid (BD s.data.toList=CH ([47]) (BE o)):=za (by rw[HD.out,EA hi0,HS.out]);have Hp1:=za p1;have Hp2:=za p2;have Hp3:=za p3;have Hp5:=za p5;clear p1 p2 p3 p5
         go_wp2_with fail
         refine(Tryz.strings_HasPrefix _ _ _).mono ?_;rintro e w1 ⟨rfl,rfl⟩;rw[Ao,show zk i ({ data:=#[46,46,47] }:ByteArray).data.toList=false from Hp1.out]
         go_wp2_with fail
         refine(Tryz.strings_HasPrefix _ _ _).mono ?_;rintro e w1 ⟨rfl,rfl⟩;rw[Ao,show zk i ({ data:=#[46,47] }:ByteArray).data.toList=false from Hp2.out]
         go_wp2_with fail
         refine(Tryz.strings_HasPrefix _ _ _).mono ?_;rintro e w1 ⟨rfl,rfl⟩;rw[Ao,show zk i ({ data:=#[47,46,47] }:ByteArray).data.toList=false from Hp3.out]
         go_wp2_with fail
         refine(Tryz.strings_HasPrefix _ _ _).mono ?_;rintro e w1 ⟨rfl,rfl⟩;rw[Ao,show zk i ({ data:=#[47,46,46,47] }:ByteArray).data.toList=false from Hp5.out];have hrow1:=hrow.pre (BE o).length (Lq o);rw[<-S5] at hrow1
         go_wp2_with fail
         refine(T4 g cap _ o _ hrow (by omega)).mono ?_;rintro e w1 ⟨rfl,rfl⟩
         go_wp2_with fail
         go_roundw
         case rel=>exact⟨_,_,_,_,by omega,rfl,rfl,hrow1,HN,hq⟩
         case measure=>rw[Dl,Dl,Am];exact hlt
       ·have HS:Hid (Bu i o=(i.drop 3,BE o)):=za (by unfold Bu;rw[if_neg (by rw[p1];exact Bool.false_ne_true),if_neg (by rw[p2];exact Bool.false_ne_true),if_neg (by rw[p3];exact Bool.false_ne_true),if_neg (FE e4),if_pos p5]);have hlt:=ER (o:=o) hi0;have hout:=Fh (i:=i) (o:=o);rw[HS.out] at hlt hout;simp only at hlt hout;have HN:Hid (BD s.data.toList=CH (i.drop 3) (BE o)):=za (by rw[HD.out,EA hi0,HS.out]);have hp3:3<=i.length:=by have:=FY p5;simp at this;omega
        have hx:=EE (S i) 3;rw[Am,Ao] at hx;have HX:=za hx;clear hx;have Hp1:=za p1;have Hp2:=za p2;have Hp3:=za p3;have Hp5:=za p5;clear p1 p2 p3 p5
        go_wp2_with fail
        refine(Tryz.strings_HasPrefix _ _ _).mono ?_;rintro e w1 ⟨rfl,rfl⟩;rw[Ao,show zk i ({ data:=#[46,46,47] }:ByteArray).data.toList=false from Hp1.out]
        go_wp2_with fail
        refine(Tryz.strings_HasPrefix _ _ _).mono ?_;rintro e w1 ⟨rfl,rfl⟩;rw[Ao,show zk i ({ data:=#[46,47] }:ByteArray).data.toList=false from Hp2.out]
        go_wp2_with fail
        refine(Tryz.strings_HasPrefix _ _ _).mono ?_;rintro e w1 ⟨rfl,rfl⟩;rw[Ao,show zk i ({ data:=#[47,46,47] }:ByteArray).data.toList=false from Hp3.out]
        go_wp2_with fail
        refine(Tryz.strings_HasPrefix _ _ _).mono ?_;rintro e w1 ⟨rfl,rfl⟩;rw[Ao,show zk i ({ data:=#[47,46,46,47] }:ByteArray).data.toList=true from Hp5.out];have hrow1:=hrow.pre (BE o).length (Lq o);rw[<-S5] at hrow1
        go_wp2_with fail
        go_quiet ((go_at_call 209;exact JL (T4 g cap _ o _ (hrow.drewN _) (by omega))))
        go_wp2_with fail
        go_roundw
        case rel=>exact⟨_,_,_,_,by omega,congrArg Value.string HX.out,rfl,hrow1.drewN _,HN,hq.drewN _⟩
        case measure=>rw[HX.out,Dl,Dl,Am,Am];exact hlt
      ·have HS:Hid (Bu i o=([47],o)):=za (by unfold Bu;rw[if_neg (by rw[p1];exact Bool.false_ne_true),if_neg (by rw[p2];exact Bool.false_ne_true),if_neg (by rw[p3];exact Bool.false_ne_true),if_pos (eq_of_beq e4)]);have hlt:=ER (o:=o) hi0;have hout:=Fh (i:=i) (o:=o);rw[HS.out] at hlt hout;simp only at hlt hout;have HN:Hid (BD s.data.toList=CH ([47]) (o)):=za (by rw[HD.out,EA hi0,HS.out]);have Hp1:=za p1;have Hp2:=za p2;have Hp3:=za p3;clear p1 p2 p3
       go_wp2_with fail
       refine(Tryz.strings_HasPrefix _ _ _).mono ?_;rintro e w1 ⟨rfl,rfl⟩;rw[Ao,show zk i ({ data:=#[46,46,47] }:ByteArray).data.toList=false from Hp1.out]
       go_wp2_with fail
       refine(Tryz.strings_HasPrefix _ _ _).mono ?_;rintro e w1 ⟨rfl,rfl⟩;rw[Ao,show zk i ({ data:=#[46,47] }:ByteArray).data.toList=false from Hp2.out]
       go_wp2_with fail
       refine(Tryz.strings_HasPrefix _ _ _).mono ?_;rintro e w1 ⟨rfl,rfl⟩;rw[Ao,show zk i ({ data:=#[47,46,47] }:ByteArray).data.toList=false from Hp3.out]
       go_wp2_with fail
       go_roundw
       case rel=>exact⟨_,_,_,_,by omega,rfl,rfl,hrow,HN,hq⟩
       case measure=>rw[Dl,Dl,Am];exact hlt
     ·have HS:Hid (Bu i o=(i.drop 2,o)):=za (by unfold Bu;rw[if_neg (by rw[p1];exact Bool.false_ne_true),if_neg (by rw[p2];exact Bool.false_ne_true),if_pos p3]);have hlt:=ER (o:=o) hi0;have hout:=Fh (i:=i) (o:=o);rw[HS.out] at hlt hout;simp only at hlt hout;have HN:Hid (BD s.data.toList=CH (i.drop 2) (o)):=za (by rw[HD.out,EA hi0,HS.out]);have hp2:2<=i.length:=by have:=FY p3;simp at this;omega
      have hx:=EE (S i) 2;rw[Am,Ao] at hx;have HX:=za hx;clear hx;have Hp1:=za p1;have Hp2:=za p2;have Hp3:=za p3;clear p1 p2 p3
      go_wp2_with fail
      refine(Tryz.strings_HasPrefix _ _ _).mono ?_;rintro e w1 ⟨rfl,rfl⟩;rw[Ao,show zk i ({ data:=#[46,46,47] }:ByteArray).data.toList=false from Hp1.out]
      go_wp2_with fail
      refine(Tryz.strings_HasPrefix _ _ _).mono ?_;rintro e w1 ⟨rfl,rfl⟩;rw[Ao,show zk i ({ data:=#[46,47] }:ByteArray).data.toList=false from Hp2.out]
      go_wp2_with fail
      refine(Tryz.strings_HasPrefix _ _ _).mono ?_;rintro e w1 ⟨rfl,rfl⟩;rw[Ao,show zk i ({ data:=#[47,46,47] }:ByteArray).data.toList=true from Hp3.out]
      go_wp2_with fail
      go_roundw
      case rel=>exact⟨_,_,_,_,by omega,congrArg Value.string HX.out,rfl,hrow,HN,hq⟩
      case measure=>rw[HX.out,Dl,Dl,Am,Am];exact hlt
    ·have HS:Hid (Bu i o=(i.drop 2,o)):=za (by unfold Bu;rw[if_neg (by rw[p1];exact Bool.false_ne_true),if_pos p2]);have hlt:=ER (o:=o) hi0;have hout:=Fh (i:=i) (o:=o);rw[HS.out] at hlt hout;simp only at hlt hout;have HN:Hid (BD s.data.toList=CH (i.drop 2) (o)):=za (by rw[HD.out,EA hi0,HS.out]);have hp2:2<=i.length:=by have:=FY p2;simp at this;omega
     have hx:=EE (S i) 2;rw[Am,Ao] at hx;have HX:=za hx;clear hx;have Hp1:=za p1;have Hp2:=za p2;clear p1 p2
     go_wp2_with fail
     refine(Tryz.strings_HasPrefix _ _ _).mono ?_;rintro e w1 ⟨rfl,rfl⟩;rw[Ao,show zk i ({ data:=#[46,46,47] }:ByteArray).data.toList=false from Hp1.out]
     go_wp2_with fail
     refine(Tryz.strings_HasPrefix _ _ _).mono ?_;rintro e w1 ⟨rfl,rfl⟩;rw[Ao,show zk i ({ data:=#[46,47] }:ByteArray).data.toList=true from Hp2.out]
     go_wp2_with fail
     go_roundw
     case rel=>exact⟨_,_,_,_,by omega,congrArg Value.string HX.out,rfl,hrow,HN,hq⟩
     case measure=>rw[HX.out,Dl,Dl,Am,Am];exact hlt
   ·have HS:Hid (Bu i o=(i.drop 3,o)):=za (by unfold Bu;rw[if_pos p1]);have hlt:=ER (o:=o) hi0;have hout:=Fh (i:=i) (o:=o);rw[HS.out] at hlt hout;simp only at hlt hout;have HN:Hid (BD s.data.toList=CH (i.drop 3) (o)):=za (by rw[HD.out,EA hi0,HS.out]);have hp3:3<=i.length:=by have:=FY p1;simp at this;omega
    have hx:=EE (S i) 3;rw[Am,Ao] at hx;have HX:=za hx;clear hx;have Hp1:=za p1;clear p1
    go_wp2_with fail
    refine(Tryz.strings_HasPrefix _ _ _).mono ?_;rintro e w1 ⟨rfl,rfl⟩;rw[Ao,show zk i ({ data:=#[46,46,47] }:ByteArray).data.toList=true from Hp1.out]
    go_wp2_with fail
    go_roundw
    case rel=>exact⟨_,_,_,_,by omega,congrArg Value.string HX.out,rfl,hrow,HN,hq⟩
    case measure=>rw[HX.out,Dl,Dl,Am,Am];exact hlt
end Go.Proofs.YtbeoijfmfkifeaaGreatDoor
namespace Go.Proofs.YtbeoijfmfkifeaaGreatDoor
open Go.RowKit Sx
open Int renaming toNat_natCast->zm
open Lib renaming hasPrefix->zk
open List renaming getD_eq_getElem?_getD->jx, getElem?_eq_getElem->zv, getElem?_set->zb, length_drop->zx, length_take->zg, take_length->qe
section
attribute [local irreducible] run
theorem X5 {s i r i' r':List UInt8} (hi:i≠[]) (hl:r.length+i.length<=s.length) (hd:BD s=CH i r) (h:Bu i r=(i',r')):i'.length<i.length/\BD s=CH i' r'/\r'.length+i'.length<=s.length:=by
 have h1:=ER (o:=r) hi;have h2:=Fh (i:=i) (o:=r);have h3:=EA (o:=r) hi;rw[h] at h1 h2 h3;exact⟨h1,by rw[hd,h3],by dsimp only at h2;omega⟩
section
variable [Tabs Tryz.prog] {objs:List OB} {K:List OB->AV->Prop}
theorem QX (s:List UInt8) (hs:s.length<=maxLen) (hk:K objs (.s (BE s))):Ag Tryz.prog 131 [.s s] objs K :=
 FU (vs:=[.string (S s)]) rfl rfl (fun w=>eS (S s) w (by rw[Am];exact hs)) hk
theorem Y5 (s:List UInt8) (hs:s.length<=1000000) (hk:K objs (.s (BD s))):Ag Tryz.prog 100 [.s s] objs K:=by
 have hm:maxLen=2 ^ 63 - 1:=rfl;refine AC jJ rfl fun C _=>?_;rw[UD];simp only[Aa,simprocAttr];refine BI (fun n o t=>∃i r,o=[]/\n=i.length/\BD s=CH i r/\r.length+i.length<=s.length/\t.length=59/\t[3]? = some (.s i)/\t[4]? = some (.s r)) s.length ⟨s,[],rfl,rfl,rfl,by simp,rfl,rfl,rfl⟩ ?_;rintro n _ t ⟨i,r,rfl,rfl,hd,hl,hlen,t3,t4⟩
 by_cases hi:i=[]
 ·subst hi;rw[hd,JF] at hk;simp only[Aa,simprocAttr,zb,hlen,t3,t4];exact hk
 have hq:=fun {i' r'}=>X5 (i':=i') (r':=r') hi hl hd;unfold Bu at hq;simp only[Aa,simprocAttr,zb,hlen,t3,t4,hi];refine Ai (Iw i [46,46,47] (by omega) ?_)
 cases p1:zk i [46,46,47] with
 | true=>
  rw[if_pos p1] at hq;have hn:=FY p1;obtain⟨q1,q2,q3⟩:=hq rfl;simp only[Aa,simprocAttr,zb,hlen,t3,t4,qe];exact⟨⟨by simp at hn;omega,Int.le_refl _⟩,_,q1,_,_,rfl,q2,q3,rfl,rfl⟩
 | false=>
 rw[if_neg (by rw[p1];exact Bool.false_ne_true)] at hq;simp only[Aa,simprocAttr,zb,hlen,t3,t4];refine Ai (Iw i [46,47] (by omega) ?_)
 cases p2:zk i [46,47] with
 | true=>
  rw[if_pos p2] at hq;have hn:=FY p2;obtain⟨q1,q2,q3⟩:=hq rfl;simp only[Aa,simprocAttr,zb,hlen,t3,t4,qe];exact⟨⟨by simp at hn;omega,Int.le_refl _⟩,_,q1,_,_,rfl,q2,q3,rfl,rfl⟩
 | false=>
 rw[if_neg (by rw[p2];exact Bool.false_ne_true)] at hq;simp only[Aa,simprocAttr,zb,hlen,t3,t4];refine Ai (Iw i [47,46,47] (by omega) ?_)
 cases p3:zk i [47,46,47] with
 | true=>
  rw[if_pos p3] at hq;have hn:=FY p3;obtain⟨q1,q2,q3⟩:=hq rfl;simp only[Aa,simprocAttr,zb,hlen,t3,t4,qe];exact⟨⟨by simp at hn;omega,Int.le_refl _⟩,_,q1,_,_,rfl,q2,q3,rfl,rfl⟩
 | false=>
 rw[if_neg (by rw[p3];exact Bool.false_ne_true)] at hq
 by_cases e4:i=[47,46]
 ·subst e4;rw[if_pos rfl] at hq;obtain⟨q1,q2,q3⟩:=hq rfl;simp only[Aa,simprocAttr,zb,hlen,t3,t4];exact⟨_,q1,_,_,rfl,q2,q3,rfl,rfl⟩
 rw[if_neg e4] at hq;simp only[Aa,simprocAttr,zb,hlen,t3,t4,e4];refine Ai (Iw i [47,46,46,47] (by omega) ?_)
 cases p5:zk i [47,46,46,47] with
 | true=>
  rw[if_pos p5] at hq;have hn:=FY p5;obtain⟨q1,q2,q3⟩:=hq rfl;simp only[Aa,simprocAttr,zb,hlen,t3,t4,qe];refine⟨⟨by simp at hn;omega,Int.le_refl _⟩,Bq (QX r (by omega) ⟨rfl,rfl⟩) ?_⟩;simp only[Aa,simprocAttr,zb,hlen,t3,t4];exact⟨_,q1,_,_,rfl,q2,q3,rfl,rfl⟩
 | false=>
 rw[if_neg (by rw[p5];exact Bool.false_ne_true)] at hq
 by_cases e6:i=[47,46,46]
 ·subst e6;rw[if_pos rfl] at hq;obtain⟨q1,q2,q3⟩:=hq rfl;simp only[Aa,simprocAttr,zb,hlen,t3,t4];refine Ai (QX r (by omega) ?_);simp only[Aa,simprocAttr,zb,hlen,t3,t4];exact⟨_,q1,_,_,rfl,q2,q3,rfl,rfl⟩
 rw[if_neg e6] at hq
 by_cases e7:i=[46]\/i=[46,46]
 ·rw[if_pos e7] at hq;obtain⟨q1,q2,q3⟩:=hq rfl;rcases e7 with rfl|rfl
  all_goals
   simp only[Aa,simprocAttr,zb,hlen,t3,t4,e6,show ¬([46,46]:List UInt8)=[46] by decide];exact⟨_,q1,_,_,rfl,q2,q3,rfl,rfl⟩
 rw[if_neg e7] at hq;obtain⟨q1,q2,q3⟩:=hq rfl;obtain⟨h1,h2⟩:=MB hi;have e8:¬i=[46]:=fun e=>e7 (.inl e);have e9:¬i=[46,46]:=fun e=>e7 (.inr e);have hf:=(FB (i.drop 1)).2;have hg:(i.drop 1).length=i.length - 1:=zx ..;simp only[Aa,simprocAttr,zb,hlen,t3,t4,e6,e8,e9,qe];refine⟨⟨by omega,Int.le_refl _⟩,Ai (F5 (i.drop 1) [47] (by omega) (by simp;omega) ?_)⟩;rw[show At (i.drop 1) [47]=(A6 (i.drop 1)).length from Ip 47 _];have e0:((1:Int)+((A6 (i.drop 1)).length:Int))=(CR i:Nat):=by unfold CR;omega
 simp only[Aa,simprocAttr,zb,hlen,t3,t4,e0,zm,qe];exact⟨⟨by omega,by omega⟩,⟨by omega,by omega,by omega⟩,⟨by omega,by omega⟩,by rw[zg];omega,_,q1,_,_,rfl,q2,q3,rfl,rfl⟩
end
end
section
variable [Tabs Tryz.prog] {objs:List OB} {K:List OB->AV->Prop}
theorem WS (s:List UInt8) (hs:s.length<=1000000) (hk:K objs (.s (BD s))):Ag Tryz.prog 174 [.s s] objs K :=
 conv (vs:=[.string (S s)]) rfl rfl (fun w=>aL (S s) w (by rw[Am];exact hs)) hk
theorem Z1 (s:List UInt8) (hs:s.length<=maxLen) (hk:K objs (.b (D3 s))):Ag Tryz.prog 129 [.s s] objs K :=
 FU (vs:=[.string (S s)]) rfl rfl (fun w=>eK (S s) w (by rw[Am];exact hs)) hk
end
theorem La (x:UInt8) (t set:List UInt8):At (x::t) set=if Aw x set=true then 0 else At t set+1:=by
 unfold At;rw[List.findIdx_cons]
 cases Aw x set<;>rfl
theorem Hg (c:UInt8):∀l:List UInt8,(At l [c]<l.length->Ae c l=(l.take (At l [c]),l.drop (At l [c]+1),true))/\(¬At l [c]<l.length->Ae c l=(l,[],false))
 | []=>⟨fun h=>absurd h (by simp),fun _=>rfl⟩
 | x::t=>by
  have ih:=Hg c t;rw[La,F9]
  by_cases hx:x=c
  ·subst hx;have:Aw x [x]=true:=by simp[Aw]
   rw[if_pos this,if_pos rfl];exact⟨fun _=>by simp,fun h=>absurd (by simp) h⟩
  ·have:¬Aw x [c]=true:=by simp[Aw,hx]
   rw[if_neg this,if_neg hx];refine⟨fun h=>?_,fun h=>?_⟩
   ·rw[ih.1 (by simp at h;omega)];simp
   ·rw[ih.2 (by simp at h ⊢;omega)]
theorem aX (x:UInt8) (t:List UInt8):A6 (x::t)=if x=47 then [] else x::A6 t:=by
 unfold A6;rw[F9]
 split<;>rfl
theorem MA:∀l:List UInt8,(∀h:At l [58,47]<l.length,l[At l [58,47]]=58->(Ae 58 (A6 l)).1=l.take (At l [58,47])/\(Ae 58 (A6 l)).1.length=At l [58,47]/\(Ae 58 (A6 l)).2.2=true) /\
  ((∀h:At l [58,47]<l.length,l[At l [58,47]]≠58)->(Ae 58 (A6 l)).2.2=false)
 | []=>⟨fun h=>absurd h (by simp),fun _=>rfl⟩
 | x::t=>by
  have ih:=MA t;rw[aX]
  by_cases h47:x=47
  ·subst h47;have e:At (47::t) [58,47]=0:=by rw[La,if_pos (by decide)]
   rw[if_pos rfl];refine⟨fun h he=>?_,fun _=>rfl⟩;simp only[e] at he;exact absurd he (by simp)
  ·rw[if_neg h47,F9]
   by_cases h58:x=58
   ·subst h58;have e:At (58::t) [58,47]=0:=by rw[La,if_pos (by decide)]
    rw[if_pos rfl];refine⟨fun h he=>by simp[e],fun h=>?_⟩;exact absurd (by simp[e]) (h (by simp[e]))
   ·have e:At (x::t) [58,47]=At t [58,47]+1:=by rw[La,if_neg (by simp[Aw,h47,h58])]
    rw[if_neg h58];simp only[e];refine⟨fun h he=>?_,fun h=>?_⟩
    ·obtain⟨h1,h2,h3⟩:=ih.1 (by simp at h;omega) (by simpa using he);exact⟨by simp[h1],by simp[h2],h3⟩
    ·exact ih.2 (fun h'=>by have:=h (by simp;omega);simpa using this)
theorem XD (R:List UInt8):(R.take (2+(((A6 (R.drop 2)).length:Nat):Int)).toNat).drop 2=A6 (R.drop 2):=by
 have hfe:=(FB (R.drop 2)).1;rw[show (2+(((A6 (R.drop 2)).length:Nat):Int)).toNat=2+(A6 (R.drop 2)).length by omega,<-List.take_drop,<-hfe]
theorem ZM (R:List UInt8):R.drop (2+(((A6 (R.drop 2)).length:Nat):Int)).toNat=(R.drop 2).drop (A6 (R.drop 2)).length:=by
 rw[show (2+(((A6 (R.drop 2)).length:Nat):Int)).toNat=2+(A6 (R.drop 2)).length by omega,List.drop_drop]
def uJ (sc au fr qu:List UInt8) (hs ha hq hf:Bool) (r:List UInt8) (o:List OB) (t:List AV):Prop :=
 o=[.box 150 [.s [],.s [],.s [],.s [],.s [],.b false,.b false,.b false,.b false],.box 150 [.s sc,.s au,.s [],.s qu,.s fr,.b hs,.b ha,.b hq,.b hf]]/\t.length=87/\t[0]? = some (.s r)/\t[2]? = some (.p 0 0)/\t[4]? = some (.p 1 0)
section
variable [Tabs Tryz.prog] {objs:List OB} {K:List OB->AV->Prop}
theorem Z2 (s:List UInt8) (hs:s.length<=140737488351232) (hk:K objs (.tup [Dv (AP s).2,.i .i64 (AP s).1])):Ag Tryz.prog 98 [.s s] objs K:=by
 have hm:maxLen=2 ^ 63 - 1:=rfl;refine AC gI rfl fun C _=>?_;rw[TC];refine Af fun Z hZ=>?_;simp only[Aa,simprocAttr];subst hZ;refine Af fun Z hZ=>?_
 by_cases hb:16384<s.length
 ·have hb':(16384:Int)<s.length:=by omega
  unfold AP at hk;rw[if_pos hb] at hk;simp only[Aa,simprocAttr,hb'];exact hk
 have hb':¬(16384:Int)<s.length:=by omega
 simp only[Aa,simprocAttr,hb'];subst hZ;refine Af fun Z hZ=>?_;simp only[Aa,simprocAttr];subst hZ;refine Af fun Z hZ=>?_;refine Cq (fun o t=>∃(l1 fr:List UInt8) (bf:Bool),Ae 35 s=(l1,fr,bf)/\l1.length<=s.length/\uJ [] [] fr [] false false false bf l1 o t) ?_ ?_
 ·refine Af fun Y hY=>?_;simp only[Aa,simprocAttr];refine Ai (F5 s [35] (by omega) (by simp;omega) ?_);simp only[Aa,simprocAttr];subst hY;have c:=Hg 35 s
  by_cases h:At s [35]<s.length
  ·have h':((At s [35]:Nat):Int)<s.length:=by omega
   have e1:((At s [35]:Int)+1).toNat=At s [35]+1:=by omega
   simp only[Aa,simprocAttr,h',c.1 h,Bf,zm,e1,qe];exact⟨⟨by omega,by omega⟩,⟨by omega,by omega,by omega⟩,⟨by omega,by omega⟩,_,_,_,rfl,by rw[zg];omega,rfl,rfl,rfl,rfl,rfl⟩
  ·have h':¬((At s [35]:Nat):Int)<s.length:=by omega
   simp only[Aa,simprocAttr,h',c.2 h,Bf];exact⟨_,_,_,rfl,Nat.le_refl _,rfl,rfl,rfl,rfl,rfl⟩
 rintro _ t ⟨l1,fr,bf,e35,hl1,rfl,hlen,t0,t2,t4⟩;subst hZ;refine Af fun Z hZ=>?_;refine Cq (fun o t=>∃(l2 qu:List UInt8) (bq:Bool),Ae 63 l1=(l2,qu,bq)/\l2.length<=s.length/\uJ [] [] fr qu false false bq bf l2 o t) ?_ ?_
 ·refine Af fun Y hY=>?_;simp only[Aa,simprocAttr,zb,hlen,t0,t2,t4];refine Ai (F5 l1 [63] (by omega) (by simp;omega) ?_);simp only[Aa,simprocAttr,zb,hlen,t0,t2,t4];subst hY;have c:=Hg 63 l1
  by_cases h:At l1 [63]<l1.length
  ·have h':((At l1 [63]:Nat):Int)<l1.length:=by omega
   have e1:((At l1 [63]:Int)+1).toNat=At l1 [63]+1:=by omega
   simp only[Aa,simprocAttr,zb,hlen,t0,t2,t4,h',c.1 h,Bf,zm,e1,qe,uJ];exact⟨⟨by omega,by omega⟩,⟨by omega,by omega,by omega⟩,⟨by omega,by omega⟩,_,_,_,rfl,by rw[zg];omega,rfl,rfl⟩
  ·have h':¬((At l1 [63]:Nat):Int)<l1.length:=by omega
   simp only[Aa,simprocAttr,zb,hlen,t0,t2,t4,h',c.2 h,Bf,uJ];exact⟨_,_,_,rfl,hl1,rfl,rfl⟩
 clear hlen t0 t2 t4;rintro _ t ⟨l2,qu,bq,e63,hl2,rfl,hlen,t0,t2,t4⟩;rw[S6 hb e35 e63] at hk;subst hZ;refine Af fun Z hZ=>?_;refine Cq (fun o t=>∃(r sc:List UInt8) (hs:Bool),r.length<=s.length/\K objs (.tup [Dv ⟨sc,CY r,DZ r,qu,fr,hs,DM r,bq,bf⟩,.i .i64 0])/\uJ sc [] fr qu hs false bq bf r o t) ?_ ?_
 ·refine Af fun Y hY=>?_;simp only[Aa,simprocAttr,zb,hlen,t0,t2,t4];refine Ai (F5 l2 [58,47] (by omega) (by simp;omega) ?_);simp only[Aa,simprocAttr,zb,hlen,t0,t2,t4];subst hY;refine Af fun Y hY=>?_;have c:=MA l2;unfold Kv at hk
  by_cases h:∃h:At l2 [58,47]<l2.length,l2[At l2 [58,47]]=58
  ·obtain⟨h,hc⟩:=h;obtain⟨q1,q2,q3⟩:=c.1 h hc;have h':((At l2 [58,47]:Nat):Int)<l2.length:=by omega
   have e1:((At l2 [58,47]:Int)+1).toNat=At l2 [58,47]+1:=by omega
   have e2:l2.getD (At l2 [58,47]) 0=58:=by rw[jx,zv h,hc];rfl
   have e3:((58:UInt8).toNat:Int)=58:=rfl;rw[q2,q1,q3] at hk;simp only[Aa,simprocAttr,zb,hlen,t0,t2,t4,h',zm,e2,e3];subst hY;simp only[Aa,simprocAttr,zb,hlen,t0,t2,t4,h',zm,qe];refine⟨by omega,⟨by omega,by omega⟩,Ai (Z1 (l2.take (At l2 [58,47])) (by rw[zg];omega) ?_)⟩
   cases hsb:D3 (l2.take (At l2 [58,47])) with
   | false=>
    rw[hsb] at hk;simp only[Aa,simprocAttr,zb,hlen,t0,t2,t4,FA];exact hk
   | true=>
    rw[hsb] at hk;simp only[Aa,simprocAttr,zb,hlen,t0,t2,t4,Bf,zm,e1,qe,uJ];exact⟨⟨by omega,by omega⟩,⟨by omega,by omega⟩,⟨by omega,by omega,by omega⟩,l2.drop (At l2 [58,47]+1),l2.take (At l2 [58,47]),true,by rw[zx];omega,hk,rfl,rfl⟩
  ·have q3:=c.2 fun h' e=>h ⟨h',e⟩;rw[q3] at hk
   by_cases h1:At l2 [58,47]<l2.length
   ·have h':((At l2 [58,47]:Nat):Int)<l2.length:=by omega
    have e2:¬((l2.getD (At l2 [58,47]) 0).toNat:Int)=58:=fun e=>h ⟨h1,by
     rw[jx,zv h1] at e;exact UInt8.toNat_inj.1 (by have:(58:UInt8).toNat=58:=rfl;simp only[Option.getD_some] at e;omega)⟩
    simp only[Aa,simprocAttr,zb,hlen,t0,t2,t4,h',zm,e2];subst hY;simp only[Aa,simprocAttr,zb,hlen,t0,t2,t4,h',Bf,uJ];exact⟨by omega,l2,[],false,hl2,hk,rfl,rfl⟩
   ·have h':¬((At l2 [58,47]:Nat):Int)<l2.length:=by omega
    simp only[Aa,simprocAttr,zb,hlen,t0,t2,t4,h'];subst hY;simp only[Aa,simprocAttr,zb,hlen,t0,t2,t4,Bf,uJ];exact⟨l2,[],false,hl2,hk,rfl,rfl⟩
 clear hk hlen t0 t2 t4;rintro _ t ⟨r,sc,hs,hr,hk,rfl,hlen,t0,t2,t4⟩;subst hZ;refine Af fun Z hZ=>?_;refine Cq (uJ sc (CY r) fr qu hs (DM r) bq bf (DZ r)) ?_ ?_
 ·refine Af fun Y hY=>?_;simp only[Aa,simprocAttr,zb,hlen,t0,t2,t4];refine Ai (Iw r [47,47] (by omega) ?_);unfold DZ CY
  cases h:DM r with
  | false=>
   rw[show zk r [47,47]=false from h];subst hY;simp only[Aa,simprocAttr,zb,hlen,t0,t2,t4,Bf,uJ]
  | true=>
   have h2:=bR h;have hd:(r.drop 2).length=r.length - 2:=zx ..;have hf:=(FB (r.drop 2)).2;rw[show zk r [47,47]=true from h];subst hY;simp only[Aa,simprocAttr,zb,hlen,t0,t2,t4,zm];refine⟨by omega,Ai (F5 (r.drop 2) [47] (by omega) (by simp;omega) ?_)⟩;rw[show At (r.drop 2) [47]=(A6 (r.drop 2)).length from Ip 47 _];simp only[Aa,simprocAttr,zb,hlen,t0,t2,t4,zm,Bf,uJ];rw[XD,ZM];exact⟨⟨by omega,by omega⟩,⟨by omega,by omega⟩,⟨by omega,by omega,by omega⟩,rfl,rfl⟩
 ·clear hlen t0 t2 t4;rintro _ t ⟨rfl,hlen,t0,t2,t4⟩;subst hZ;simp only[Aa,simprocAttr,zb,hlen,t0,t2,t4];exact hk
end
end Go.Proofs.YtbeoijfmfkifeaaGreatDoor
namespace Go.Proofs.YtbeoijfmfkifeaaGreatDoor
open Lib renaming hid->za
open List renaming all_append->xo, all_cons->je, getElem?_eq_getElem->zv, getElem_mem->zy, mem_cons->zt, take_length->qe
open Nat renaming le_refl->zd, zero_le->ze
def BS (c:UInt8):Bool:=B1 c||AD c||(c.toNat==45)
def BK (c:UInt8):Bool:=c.toNat==45
def BW (l:List UInt8):Bool:=!l.isEmpty&&decide (l.length<=63)&&!((l.head?.map BK).getD false)&&!((l.getLast?.map BK).getD false)&&l.all BS
def B7 (l:List UInt8):Bool:=(Ap 46 l).all BW&&!Eh ((Ap 46 l).getLastD [])
def DN (l:List UInt8):Bool:=decide ((BJ 255 l).1=0)
def DI (n:Nat) (l:List UInt8):Bool:=decide ((Ap 46 l).length=n)&&(Ap 46 l).all DN
def BZ (l:List UInt8):Bool:=DI 4 l
def AH (l:List UInt8):Int×List UInt8:=if l=[] then (3,[]) else if 253<l.length then (5,[]) else if (B7 l||BZ l)=true then (0,Ay l) else (50,[])
def Cu (l:List UInt8):Int×Nat:=if (BJ 65535 l).1=0/\(BJ 65535 l).2≠0 then (0,(BJ 65535 l).2) else (51,0)
def I0 (r:Int×Nat):Value:=.tuple #[.int .i64 r.2,.int .i64 r.1]
theorem RQ (s:ByteArray) (h:0<s.size):BW s.data.toList=(decide (s.size<=63)&&!BK s[0]&&!BK s[s.size - 1]&&s.data.toList.all BS):=by
 have e:=C2 s 0 h;rw[List.drop_zero] at e;have e1:s.data.toList.isEmpty=false:=by rw[e];rfl
 have e2:s.data.toList.head? = some s[0]:=by rw[e];rfl
 have e3:s.data.toList.getLast? = some s[s.size - 1]:=by
  rw[List.getLast?_eq_getElem?,As,zv (by rw[As];omega)];rfl
 unfold BW;rw[e1,e2,e3,As];simp only[Option.map_some,Option.getD_some]
 rfl
theorem Sj {l:List UInt8} (h:(Ae 46 l).2.2=true):B7 l=(BW (Ae 46 l).1&&B7 (Ae 46 l).2.1):=by
 unfold B7;rw[DE 46 l,if_pos h];obtain⟨p,ps,e⟩:=Cj 46 (Ae 46 l).2.1;rw[e,je,Bool.and_assoc]
 rfl
theorem Si {l:List UInt8} (h:(Ae 46 l).2.2=false):B7 l=(BW l&&!Eh l):=by
 unfold B7;rw[DE 46 l,if_neg (by rw[h];exact Bool.false_ne_true)];simp[List.getLastD]
theorem Ry {l:List UInt8} {n:Nat} (h:(Ae 46 l).2.2=true):DI (n+1) l=(DN (Ae 46 l).1&&DI n (Ae 46 l).2.1):=by
 unfold DI;rw[DE 46 l,if_pos h,List.length_cons,je];have:decide ((Ap 46 (Ae 46 l).2.1).length+1=n+1)=decide ((Ap 46 (Ae 46 l).2.1).length=n):=decide_eq_decide.2 (by omega);rw[this];rcases DN (Ae 46 l).1<;>simp
theorem XJ {l:List UInt8} (h:(Ae 46 l).2.2=false):DI 1 l=DN l:=by
 unfold DI;rw[DE 46 l,if_neg (by rw[h];exact Bool.false_ne_true)];simp
theorem aN {l:List UInt8} {n:Nat} (h:(Ae 46 l).2.2=false):DI (n+2) l=false:=by
 unfold DI;rw[DE 46 l,if_neg (by rw[h];exact Bool.false_ne_true)];simp
theorem aM {l:List UInt8} (h:(Ae 46 l).2.2=true):DI 1 l=false:=by
 rw[Ry h];have:DI 0 (Ae 46 l).2.1=false:=by
  unfold DI;have:=EV 46 (Ae 46 l).2.1;rw[decide_eq_false (by omega)];rfl
 rw[this,Bool.and_false]
theorem bC {l:List UInt8} (h:BW l=true):1<=l.length:=by
 rcases l with _|⟨c,t⟩
 ·cases h
 ·simp
open Go.RowKit
theorem U9 {c:UInt8} (h:BK c=true):((c.toNat:Int)==45)=true:=by
 have:c.toNat=45:=by simpa[BK] using h
 rw[this];rfl
theorem OD {c:UInt8} (h:BK c=false):((c.toNat:Int)==45)=false:=by
 have:c.toNat≠45:=by simpa[BK] using h
 rw[beq_eq_false_iff_ne];omega
theorem LO {c:UInt8} (h:BK c=true):((c.toNat:Int) != 45)=false:=by
 have:c.toNat=45:=by simpa[BK] using h
 rw[this];rfl
theorem JW {c:UInt8} (h:BK c=false):((c.toNat:Int) != 45)=true:=by
 have:c.toNat≠45:=by simpa[BK] using h
 rw[bne_iff_ne];omega
theorem Gu (c:UInt8):BS c=(B1 c||AD c||BK c):=rfl
set_option maxHeartbeats 1000000 in
theorem NY (s:ByteArray) (w:World) (hs:s.size<=maxLen) :
  Calls Tryz.prog 197 #[.string s] w fun e w'=>e=.returned (.bool (BW s.data.toList))/\w=w':=by
 unfold maxLen at hs
 by_cases h0:s.size=0
 ·obtain rfl:s=S []:=F1 h0;clear h0 hs
  go_enter Tryz.func197,Tryz.ntmps197
  go_wp2_with fail
  go_ret
  exact⟨rfl,rfl⟩
 have hpos:0<s.size:=by omega
 have HL:=za (RQ s hpos);have he1:s.toList.isEmpty=false:=by
  rw[ByteArray.toList_eq];rcases hl:s.data.toList with _|⟨c,t⟩
  ·have:=As s;rw[hl] at this;simp at this;omega
  ·rfl
 clear h0
 by_cases h63:63<s.size
 ·go_enter Tryz.func197,Tryz.ntmps197
  go_wp2_with fail
  go_ret
  exact⟨AN (by rw[HL.out,decide_eq_false (by omega)];rfl),rfl⟩
 have h63':s.size<=63:=by omega
 have hidx:s.size - 1<s.size:=by omega
 clear h63;rcases hy0:BK s[0] with _|_
 ·rcases hy1:BK s[s.size - 1] with _|_
  ·have b0:=OD hy0;have b1:=OD hy1;have HA:Hid (BW s.data.toList=s.data.toList.all BS):=za (by rw[HL.out,hy0,hy1,decide_eq_true h63'];simp);clear hy0 hy1
   go_enter Tryz.func197,Tryz.ntmps197
   go_wp2_with fail
   clear b0 b1
   go_loop [26] (fun i=>∃k:Nat,k<=s.size/\i=.int .i64 k/\Hid ((s.data.toList.take k).all BS=true)) (fun i=>s.size - (intOf i).toNat)
   case atStart=>exact⟨0,ze _,rfl,za rfl⟩
   case round=>
    obtain⟨k,hk,rfl,HT⟩:=hrel
    by_cases hlt:k<s.size
    ·have hst:BS s[k]=true->Hid ((s.data.toList.take (k+1)).all BS=true):=fun h=>za (by rw[EO _ _ _ hlt,h,HT.out];rfl);have hbad:BS s[k]=false->Hid (s.data.toList.all BS=false):=fun h=>za (GM _ _ (k+1) (by rw[EO _ _ _ hlt,h,Bool.and_false]));rcases ha:B1 s[k] with _|_
     ·rcases hd:AD s[k] with _|_
      ·rcases hy:BK s[k] with _|_
       ·have HB:=hbad (by rw[Gu,ha,hd,hy];rfl);have b:=JW hy;have H1:=za ha;have H2:=za hd;clear ha hd hy hst hbad
        go_wp2_with fail
        refine(EQ _ _).mono ?_;rintro e w' ⟨rfl,rfl⟩;rw[H1.out]
        go_wp2_with fail
        refine(D6 _ _).mono ?_;rintro e w' ⟨rfl,rfl⟩;rw[H2.out]
        go_wp2_with fail
        go_ret
        exact⟨AN (by rw[HA.out,HB.out]),rfl⟩
       ·have HB:=hst (by rw[Gu,ha,hd,hy];rfl);have b:=LO hy;have H1:=za ha;have H2:=za hd;clear ha hd hy hst hbad
        go_wp2_with fail
        refine(EQ _ _).mono ?_;rintro e w' ⟨rfl,rfl⟩;rw[H1.out]
        go_wp2_with fail
        refine(D6 _ _).mono ?_;rintro e w' ⟨rfl,rfl⟩;rw[H2.out]
        go_wp2_with fail
        go_round
        case rel=>exact⟨k+1,by omega,by go_num,HB⟩
        case measure=>simp[intOf];omega
      ·have HB:=hst (by rw[Gu,ha,hd];rfl);have H1:=za ha;have H2:=za hd;clear ha hd hst hbad
       go_wp2_with fail
       refine(EQ _ _).mono ?_;rintro e w' ⟨rfl,rfl⟩;rw[H1.out]
       go_wp2_with fail
       refine(D6 _ _).mono ?_;rintro e w' ⟨rfl,rfl⟩;rw[H2.out]
       go_wp2_with fail
       go_round
       case rel=>exact⟨k+1,by omega,by go_num,HB⟩
       case measure=>simp[intOf];omega
     ·have HB:=hst (by rw[Gu,ha];rfl);have H1:=za ha;clear ha hst hbad
      go_wp2_with fail
      refine(EQ _ _).mono ?_;rintro e w' ⟨rfl,rfl⟩;rw[H1.out]
      go_wp2_with fail
      go_round
      case rel=>exact⟨k+1,by omega,by go_num,HB⟩
      case measure=>simp[intOf];omega
    ·have HB:Hid (s.data.toList.all BS=true):=za (by rw[<-D5 s k hlt];exact HT.out)
     go_wp2_with fail
     go_ret
     exact⟨AN (by rw[HA.out,HB.out]),rfl⟩
  ·have b0:=OD hy0;have b1:=U9 hy1;have HA:Hid (BW s.data.toList=false):=za (by rw[HL.out,hy0,hy1];simp);clear hy0 hy1
   go_enter Tryz.func197,Tryz.ntmps197
   go_wp2_with fail
   go_ret
   exact⟨AN (by rw[HA.out]),rfl⟩
 ·have b0:=U9 hy0;have HA:Hid (BW s.data.toList=false):=za (by rw[HL.out,hy0];simp);clear hy0
  go_enter Tryz.func197,Tryz.ntmps197
  go_wp2_with fail
  go_ret
  exact⟨AN (by rw[HA.out]),rfl⟩
theorem NE (s:ByteArray) (w:World) (hs:s.size<=maxLen) :
  Calls Tryz.prog 163 #[.string s] w fun e w'=>e=.returned (.bool (B7 s.data.toList))/\Qb w w':=by
 unfold maxLen at hs
 go_enter Tryz.func163,Tryz.ntmps163
 go_wp2_with fail
 go_loopw [3,4,5,6,10] (fun r _ _ _ i wr=>∃(k:Nat) (c:ByteArray),k<=s.size/\c.size+k<=s.size/\i=.int .i64 k/\r=.string c/\Hid (B7 s.data.toList=B7 c.data.toList)/\Qb w wr) (fun _ _ _ _ i _=>s.size - (intOf i).toNat)
 case atStart=>exact⟨0,s,ze _,by omega,rfl,rfl,za rfl,Qb.refl w⟩
 case round=>
  obtain⟨k,c,hk,hck,rfl,rfl,HN,hq⟩:=hrel
  by_cases hlt:k<s.size
  ·have hl:=EP 46 c.data.toList;have hlens:=Da 46 c.data.toList;obtain⟨p,q,b,hcut⟩:∃p q b,Ae 46 c.data.toList=(p,q,b):=⟨_,_,_,rfl⟩;have HC:=za hcut;have hsp:(S p).size<=maxLen:=by unfold maxLen;rw[Am];rw[hcut] at hlens;have:=hlens.1;rw[As] at this;simp at this;omega
   rcases hlb:BW p with _|_
   ·have HF:Hid (B7 c.data.toList=false):=za (by
     rcases hb:b with _|_
     ·subst hb;have h2:(Ae 46 c.data.toList).2.2=false:=by rw[hcut]
      have h3:=(hl.2.2 h2).1;rw[hcut] at h3;rw[Si h2,<-h3,hlb];rfl
     ·subst hb;rw[Sj (by rw[hcut]),hcut,hlb];rfl)
    have H1:=za hlb;clear hl hlens hcut hlb
    go_wp2_with fail
    refine(Cw c 46 _ (by unfold maxLen;omega)).mono ?_;rintro e w1 ⟨rfl,hq1⟩;rw[HC.out];unfold BG
    go_wp2_with fail
    refine(NY _ _ hsp).mono ?_;rintro e w2 ⟨rfl,rfl⟩;rw[Ao,H1.out]
    go_wp2_with fail
    go_ret
    exact⟨AN (by rw[HN.out,HF.out]),hq.trans hq1⟩
   ·have H1:=za hlb;rcases hb:b with _|_
    ·subst hb;have h2:(Ae 46 c.data.toList).2.2=false:=by rw[hcut]
     have h3:=(hl.2.2 h2).1;rw[hcut] at h3;have HF:Hid (B7 c.data.toList=!Eh p):=za (by rw[Si h2,<-h3,hlb,Bool.true_and]);clear hl hlens hcut hlb h2 h3
     go_wp2_with fail
     refine(Cw c 46 _ (by unfold maxLen;omega)).mono ?_;rintro e w1 ⟨rfl,hq1⟩;rw[HC.out];unfold BG
     go_wp2_with fail
     refine(NY _ _ hsp).mono ?_;rintro e w2 ⟨rfl,rfl⟩;rw[Ao,H1.out]
     go_wp2_with fail
     refine(bV _ _ hsp).mono ?_;rintro e w2 ⟨rfl,rfl⟩;rw[Ao]
     go_wp2_with fail
     go_ret
     exact⟨AN (by rw[HN.out,HF.out]),hq.trans hq1⟩
    ·subst hb;have h2:(Ae 46 c.data.toList).2.2=true:=by rw[hcut]
     have h3:=hl.2.1 h2;rw[hcut,As] at h3;simp only at h3;have h4:=bC hlb;have HF:Hid (B7 c.data.toList=B7 (S q).data.toList):=za (by rw[Sj h2,hcut,hlb,Bool.true_and]);have h5:(S q).size+(k+1)<=s.size:=by rw[Am];omega
     clear hl hlens hcut hlb h2 h3 h4
     go_wp2_with fail
     refine(Cw c 46 _ (by unfold maxLen;omega)).mono ?_;rintro e w1 ⟨rfl,hq1⟩;rw[HC.out];unfold BG
     go_wp2_with fail
     refine(NY _ _ hsp).mono ?_;rintro e w2 ⟨rfl,rfl⟩;rw[Ao,H1.out]
     go_wp2_with fail
     go_roundw
     case rel=>exact⟨k+1,S q,by omega,h5,by go_num,rfl,za (by rw[HN.out,HF.out]),hq.trans hq1⟩
     case measure=>simp[intOf];omega
  ·have hc0:c.size=0:=by omega
   obtain rfl:c=S []:=F1 hc0;clear hc0
   go_wp2_with fail
   go_ret
   exact⟨AN (by rw[HN.out];decide),hq⟩
theorem Sv (l:List UInt8):DN l=decide ((BJ (255:Int).toNat l).1=0):=rfl
theorem Lt (s:ByteArray) (w:World) (hs:s.size<=maxLen) :
  Calls Tryz.prog 140 #[.string s] w fun e w'=>e=.returned (.bool (BZ s.data.toList))/\Qb w w':=by
 unfold maxLen at hs
 go_enter Tryz.func140,Tryz.ntmps140
 go_wp2_with fail
 go_loopw [3,4,5,6,7,8,9,10,12] (fun r _ _ _ _ _ _ _ i wr=>∃(k:Nat) (c:ByteArray),k<=4/\c.size<=s.size/\i=.int .i64 k/\r=.string c/\Hid (BZ s.data.toList=if k=4 then true else DI (4 - k) c.data.toList)/\Qb w wr) (fun _ _ _ _ _ _ _ _ i _=>4 - (intOf i).toNat)
 case atStart=>exact⟨0,s,by omega,zd _,rfl,rfl,za rfl,Qb.refl w⟩
 case round=>
  obtain⟨k,c,hk,hck,rfl,rfl,HN,hq⟩:=hrel
  by_cases hlt:k<4
  ·have hl:=EP 46 c.data.toList;have hlens:=Da 46 c.data.toList;obtain⟨p,q,b,hcut⟩:∃p q b,Ae 46 c.data.toList=(p,q,b):=⟨_,_,_,rfl⟩;have HC:=za hcut;have hsp:(S p).size<=maxLen:=by unfold maxLen;rw[Am];rw[hcut] at hlens;have:=hlens.1;rw[As] at this;simp at this;omega
   have hsq:(S q).size<=s.size:=by rw[Am];rw[hcut] at hlens;have:=hlens.2;rw[As] at this;simp at this;omega
   have HN':Hid (BZ s.data.toList=DI (4 - k) c.data.toList):=za (by rw[HN.out,if_neg (by omega)]);clear HN;obtain⟨er,v,hst⟩:∃er v,BJ (255:Int).toNat p=(er,v):=⟨_,_,rfl⟩;have HS:=za hst;have hok:DN p=decide (er=0):=by rw[Sv,hst]
   by_cases hk3:k=3
   ·subst hk3;rcases hb:b with _|_
    ·subst hb;have h2:(Ae 46 c.data.toList).2.2=false:=by rw[hcut]
     have h3:=(hl.2.2 h2).1;rw[hcut] at h3;have HF:Hid (BZ s.data.toList=decide (er=0)):=za (by rw[HN'.out,show 4 - 3=1 from rfl,XJ h2,<-h3,hok]);clear hl hlens hcut h2 h3 hok hst
     by_cases he:er=0
     ·subst he
      go_wp2_with fail
      refine(Cw c 46 _ (by unfold maxLen;omega)).mono ?_;rintro e w1 ⟨rfl,hq1⟩;rw[HC.out];unfold BG
      go_wp2_with fail
      refine(Hv _ _ _ hsp (by decide) (by decide)).mono ?_;rintro e w2 ⟨rfl,rfl⟩;rw[Ao,HS.out];unfold CF
      go_wp2_with fail
      go_roundw
      case rel=>exact⟨4,S q,by omega,hsq,by go_num,rfl,za (by rw[HF.out];rfl),hq.trans hq1⟩
      case measure=>simp[intOf]
     ·have he1:(er != 0)=true:=bne_iff_ne.2 he;have HF2:Hid (BZ s.data.toList=false):=za (by rw[HF.out,decide_eq_false he]);clear he HF
      go_wp2_with fail
      refine(Cw c 46 _ (by unfold maxLen;omega)).mono ?_;rintro e w1 ⟨rfl,hq1⟩;rw[HC.out];unfold BG
      go_wp2_with fail
      refine(Hv _ _ _ hsp (by decide) (by decide)).mono ?_;rintro e w2 ⟨rfl,rfl⟩;rw[Ao,HS.out];unfold CF
      go_wp2_with fail
      go_ret
      exact⟨AN (by rw[HF2.out]),hq.trans hq1⟩
    ·subst hb;have HF:Hid (BZ s.data.toList=false):=za (by rw[HN'.out,show 4 - 3=1 from rfl,aM (by rw[hcut])]);clear hl hlens hcut hok hst
     go_wp2_with fail
     refine(Cw c 46 _ (by unfold maxLen;omega)).mono ?_;rintro e w1 ⟨rfl,hq1⟩;rw[HC.out];unfold BG
     go_wp2_with fail
     go_ret
     exact⟨AN (by rw[HF.out]),hq.trans hq1⟩
   ·have hk2:k<=2:=by omega
    have hkb:((k:Int)==3)=false:=by rw[beq_eq_false_iff_ne];omega
    clear hk3;rcases hb:b with _|_
    ·subst hb;have HF:Hid (BZ s.data.toList=false):=za (by rw[HN'.out,show 4 - k=(2 - k)+2 from by omega,aN (by rw[hcut])]);clear hl hlens hcut hok hst
     go_wp2_with fail
     refine(Cw c 46 _ (by unfold maxLen;omega)).mono ?_;rintro e w1 ⟨rfl,hq1⟩;rw[HC.out];unfold BG
     go_wp2_with fail
     go_ret
     exact⟨AN (by rw[HF.out]),hq.trans hq1⟩
    ·subst hb;have HF:Hid (BZ s.data.toList=(decide (er=0)&&DI (4 - (k+1)) (S q).data.toList)):=za (by rw[HN'.out,show 4 - k=(4 - (k+1))+1 from by omega,Ry (by rw[hcut]),hcut,hok]);clear hl hlens hcut hok hst
     by_cases he:er=0
     ·subst he
      go_wp2_with fail
      refine(Cw c 46 _ (by unfold maxLen;omega)).mono ?_;rintro e w1 ⟨rfl,hq1⟩;rw[HC.out];unfold BG
      go_wp2_with fail
      refine(Hv _ _ _ hsp (by decide) (by decide)).mono ?_;rintro e w2 ⟨rfl,rfl⟩;rw[Ao,HS.out];unfold CF
      go_wp2_with fail
      go_roundw
      case rel=>exact⟨k+1,S q,by omega,hsq,by go_num,rfl,za (by rw[HF.out,if_neg (by omega)];rfl),hq.trans hq1⟩
      case measure=>simp[intOf];omega
     ·have he1:(er != 0)=true:=bne_iff_ne.2 he;have HF2:Hid (BZ s.data.toList=false):=za (by rw[HF.out,decide_eq_false he];rfl);clear he HF
      go_wp2_with fail
      refine(Cw c 46 _ (by unfold maxLen;omega)).mono ?_;rintro e w1 ⟨rfl,hq1⟩;rw[HC.out];unfold BG
      go_wp2_with fail
      refine(Hv _ _ _ hsp (by decide) (by decide)).mono ?_;rintro e w2 ⟨rfl,rfl⟩;rw[Ao,HS.out];unfold CF
      go_wp2_with fail
      go_ret
      exact⟨AN (by rw[HF2.out]),hq.trans hq1⟩
  ·obtain rfl:k=4:=by omega
   go_wp2_with fail
   go_ret
   exact⟨AN (by rw[HN.out];rfl),hq⟩
theorem Lz {s:ByteArray} (h:0<s.size):s.toList.isEmpty=false:=by
 rw[ByteArray.toList_eq];rcases hl:s.data.toList with _|⟨c,t⟩
 ·have:=As s;rw[hl] at this;simp at this;omega
 ·rfl
theorem Qf {s:ByteArray} (h:0<s.size):s.data.toList≠[]:=fun e=>by have:=As s;rw[e] at this;simp at this;omega
theorem Fy (s:ByteArray) (w:World) (hs:s.size<=maxLen) :
  Calls Tryz.prog 137 #[.string s] w fun e w'=>e=.returned (Be (AH s.data.toList))/\Qb w w':=by
 by_cases h0:s.size=0
 ·obtain rfl:s=S []:=F1 h0;clear h0 hs
  go_enter Tryz.func137,Tryz.ntmps137
  go_wp2_with fail
  go_ret2
  exact⟨rfl,Qb.refl _⟩
 have hpos:0<s.size:=by omega
 have he1:=Lz hpos;have hne:=za (Qf hpos);clear h0
 by_cases h253:253<s.size
 ·have HE:Hid (AH s.data.toList=(5,[])):=za (by unfold AH;rw[if_neg hne.out,if_pos (by rw[As];exact h253)])
  go_enter Tryz.func137,Tryz.ntmps137
  go_wp2_with fail
  go_ret2
  exact⟨by rw[HE.out];rfl,Qb.refl _⟩
 have h253':s.size<=253:=by omega
 have hml:s.size<=maxLen:=by unfold maxLen;omega
 have HE:Hid (AH s.data.toList=if (B7 s.data.toList||BZ s.data.toList)=true then (0,Ay s.data.toList) else (50,[])):=za (by unfold AH;rw[if_neg hne.out,if_neg (by rw[As];omega)]);clear h253;rcases h1:B7 s.data.toList with _|_
 ·rcases h2:BZ s.data.toList with _|_
  ·have HF:Hid (AH s.data.toList=(50,[])):=za (by rw[HE.out,h1,h2];rfl);have H1:=za h1;have H2:=za h2;clear h1 h2
   go_enter Tryz.func137,Tryz.ntmps137
   go_wp2_with fail
   refine(NE s _ hml).mono ?_;rintro e w1 ⟨rfl,hq1⟩;rw[H1.out]
   go_wp2_with fail
   refine(Lt s _ hml).mono ?_;rintro e w2 ⟨rfl,hq2⟩;rw[H2.out]
   go_wp2_with fail
   go_ret2
   exact⟨by rw[HF.out];rfl,hq1.trans hq2⟩
  ·have HF:Hid (AH s.data.toList=(0,Ay s.data.toList)):=za (by rw[HE.out,h1,h2];rfl);have H1:=za h1;have H2:=za h2;clear h1 h2
   go_enter Tryz.func137,Tryz.ntmps137
   go_wp2_with fail
   refine(NE s _ hml).mono ?_;rintro e w1 ⟨rfl,hq1⟩;rw[H1.out]
   go_wp2_with fail
   refine(Lt s _ hml).mono ?_;rintro e w2 ⟨rfl,hq2⟩;rw[H2.out]
   go_wp2_with fail
   refine(Nm s _ (by omega)).mono ?_;rintro e w3 ⟨rfl,hq3⟩
   go_wp2_with fail
   go_ret2
   exact⟨by rw[HF.out];rfl,(hq1.trans hq2).trans hq3⟩
 ·have HF:Hid (AH s.data.toList=(0,Ay s.data.toList)):=za (by rw[HE.out,h1];simp);have H1:=za h1;clear h1
  go_enter Tryz.func137,Tryz.ntmps137
  go_wp2_with fail
  refine(NE s _ hml).mono ?_;rintro e w1 ⟨rfl,hq1⟩;rw[H1.out]
  go_wp2_with fail
  refine(Nm s _ (by omega)).mono ?_;rintro e w3 ⟨rfl,hq3⟩
  go_wp2_with fail
  go_ret2
  exact⟨by rw[HF.out];rfl,hq1.trans hq3⟩
theorem ML (s:ByteArray) (w:World) (hs:s.size<=maxLen) :
  Calls Tryz.prog 188 #[.string s] w fun e w'=>e=.returned (I0 (Cu s.data.toList))/\w=w':=by
 obtain⟨er,v,hst⟩:∃er v,BJ (65535:Int).toNat s.data.toList=(er,v):=⟨_,_,rfl⟩;have HS:=za hst;have hle:=N6 65535 s.data.toList;rw[show BJ 65535 s.data.toList=(er,v) from hst] at hle;have HP:Hid (Cu s.data.toList=if er=0/\v≠0 then (0,v) else (51,0)):=za (by
  unfold Cu;rw[show BJ 65535 s.data.toList=(er,v) from hst])
 simp only at hle;clear hst
 by_cases he:er=0
 ·subst he
  by_cases hv:v=0
  ·subst hv
   go_enter Tryz.func188,Tryz.ntmps188
   go_wp2_with fail
   refine(Hv _ _ _ hs (by decide) (by decide)).mono ?_;rintro e w2 ⟨rfl,rfl⟩;rw[HS.out];unfold CF
   go_wp2_with fail
   go_ret2
   exact⟨by rw[HP.out];rfl,rfl⟩
  ·have hb:((v:Int)==0)=false:=by rw[beq_eq_false_iff_ne];omega
   have HF:Hid (Cu s.data.toList=(0,v)):=za (by rw[HP.out,if_pos ⟨rfl,hv⟩]);clear hv
   go_enter Tryz.func188,Tryz.ntmps188
   go_wp2_with fail
   refine(Hv _ _ _ hs (by decide) (by decide)).mono ?_;rintro e w2 ⟨rfl,rfl⟩;rw[HS.out];unfold CF
   go_wp2_with fail
   go_ret2
   exact⟨by rw[HF.out];rfl,rfl⟩
 ·have hb:(er != 0)=true:=bne_iff_ne.2 he;have HF:Hid (Cu s.data.toList=(51,0)):=za (by rw[HP.out,if_neg (fun h=>he h.1)]);clear he
  go_enter Tryz.func188,Tryz.ntmps188
  go_wp2_with fail
  refine(Hv _ _ _ hs (by decide) (by decide)).mono ?_;rintro e w2 ⟨rfl,rfl⟩;rw[HS.out];unfold CF
  go_wp2_with fail
  go_ret2
  exact⟨by rw[HF.out];rfl,rfl⟩
theorem ZT (s:ByteArray) (w:World) (hs:s.size<=maxLen) :
  Calls Tryz.prog 130 #[.string s] w fun e w'=>e=.returned (I0 (Cu s.data.toList))/\w=w':=by
 obtain⟨er,v,hst⟩:∃er v,BJ (65535:Int).toNat s.data.toList=(er,v):=⟨_,_,rfl⟩;have HS:=za hst;have hle:=N6 65535 s.data.toList;rw[show BJ 65535 s.data.toList=(er,v) from hst] at hle;have HP:Hid (Cu s.data.toList=if er=0/\v≠0 then (0,v) else (51,0)):=za (by
  unfold Cu;rw[show BJ 65535 s.data.toList=(er,v) from hst])
 simp only at hle;clear hst
 by_cases he:er=0
 ·subst he
  by_cases hv:v=0
  ·subst hv
   go_enter Tryz.func130,Tryz.ntmps130
   go_wp2_with fail
   refine(JQ _ _ _ hs (by decide) (by decide)).mono ?_;rintro e w2 ⟨rfl,rfl⟩;rw[HS.out];unfold CF
   go_wp2_with fail
   go_ret2
   exact⟨by rw[HP.out];rfl,rfl⟩
  ·have hb:((v:Int)==0)=false:=by rw[beq_eq_false_iff_ne];omega
   have HF:Hid (Cu s.data.toList=(0,v)):=za (by rw[HP.out,if_pos ⟨rfl,hv⟩]);clear hv
   go_enter Tryz.func130,Tryz.ntmps130
   go_wp2_with fail
   refine(JQ _ _ _ hs (by decide) (by decide)).mono ?_;rintro e w2 ⟨rfl,rfl⟩;rw[HS.out];unfold CF
   go_wp2_with fail
   go_ret2
   exact⟨by rw[HF.out];rfl,rfl⟩
 ·have hb:(er != 0)=true:=bne_iff_ne.2 he;have HF:Hid (Cu s.data.toList=(51,0)):=za (by rw[HP.out,if_neg (fun h=>he h.1)]);clear he
  go_enter Tryz.func130,Tryz.ntmps130
  go_wp2_with fail
  refine(JQ _ _ _ hs (by decide) (by decide)).mono ?_;rintro e w2 ⟨rfl,rfl⟩;rw[HS.out];unfold CF
  go_wp2_with fail
  go_ret2
  exact⟨by rw[HF.out];rfl,rfl⟩
theorem Sr (s:ByteArray) (h:0<s.size):BW s.data.toList=(s.data.toList.all BS&&decide (s.size<=63)&&!BK s[0]&&!BK s[s.size - 1]):=by
 rw[RQ s h];rcases decide (s.size<=63)<;>rcases BK s[0]<;>rcases BK s[s.size - 1]<;>rcases s.data.toList.all BS<;>rfl
set_option maxHeartbeats 1000000 in
theorem Sq (s:ByteArray) (w:World) (hs:s.size<=maxLen) :
  Calls Tryz.prog 126 #[.string s] w fun e w'=>e=.returned (.bool (BW s.data.toList))/\w=w':=by
 unfold maxLen at hs
 go_enter Tryz.func126,Tryz.ntmps126
 go_wp2_with fail
 go_loop [3] (fun i=>∃k:Nat,k<=s.size/\i=.int .i64 k/\Hid ((s.data.toList.take k).all BS=true)) (fun i=>s.size - (intOf i).toNat)
 case atStart=>exact⟨0,ze _,rfl,za rfl⟩
 case round=>
  obtain⟨k,hk,rfl,HT⟩:=hrel
  by_cases hlt:k<s.size
  ·have hpos:0<s.size:=by omega
   have HL:=za (Sr s hpos);have hst:BS s[k]=true->Hid ((s.data.toList.take (k+1)).all BS=true):=fun h=>za (by rw[EO _ _ _ hlt,h,HT.out];rfl);have hbad:BS s[k]=false->Hid (BW s.data.toList=false):=fun h=>za (by rw[HL.out,GM _ _ (k+1) (by rw[EO _ _ _ hlt,h,Bool.and_false])];rfl);rcases ha:B1 s[k] with _|_
   ·rcases hd:AD s[k] with _|_
    ·rcases hy:BK s[k] with _|_
     ·have HB:=hbad (by rw[Gu,ha,hd,hy];rfl);have b:=JW hy;have H1:=za ha;have H2:=za hd;clear ha hd hy hst hbad
      go_wp2_with fail
      refine(EX _ _).mono ?_;rintro e w' ⟨rfl,rfl⟩;rw[H1.out]
      go_wp2_with fail
      refine(EY _ _).mono ?_;rintro e w' ⟨rfl,rfl⟩;rw[H2.out]
      go_wp2_with fail
      go_ret
      exact⟨AN (by rw[HB.out]),rfl⟩
     ·have HB:=hst (by rw[Gu,ha,hd,hy];rfl);have b:=LO hy;have H1:=za ha;have H2:=za hd;clear ha hd hy hst hbad
      go_wp2_with fail
      refine(EX _ _).mono ?_;rintro e w' ⟨rfl,rfl⟩;rw[H1.out]
      go_wp2_with fail
      refine(EY _ _).mono ?_;rintro e w' ⟨rfl,rfl⟩;rw[H2.out]
      go_wp2_with fail
      go_round
      case rel=>exact⟨k+1,by omega,by go_num,HB⟩
      case measure=>simp[intOf];omega
    ·have HB:=hst (by rw[Gu,ha,hd];rfl);have H1:=za ha;have H2:=za hd;clear ha hd hst hbad
     go_wp2_with fail
     refine(EX _ _).mono ?_;rintro e w' ⟨rfl,rfl⟩;rw[H1.out]
     go_wp2_with fail
     refine(EY _ _).mono ?_;rintro e w' ⟨rfl,rfl⟩;rw[H2.out]
     go_wp2_with fail
     go_round
     case rel=>exact⟨k+1,by omega,by go_num,HB⟩
     case measure=>simp[intOf];omega
   ·have HB:=hst (by rw[Gu,ha];rfl);have H1:=za ha;clear ha hst hbad
    go_wp2_with fail
    refine(EX _ _).mono ?_;rintro e w' ⟨rfl,rfl⟩;rw[H1.out]
    go_wp2_with fail
    go_round
    case rel=>exact⟨k+1,by omega,by go_num,HB⟩
    case measure=>simp[intOf];omega
  ·have HA:Hid (s.data.toList.all BS=true):=za (by rw[<-D5 s k hlt];exact HT.out);obtain rfl:k=s.size:=by omega
   clear HT hlt
   by_cases h0:s.size=0
   ·obtain rfl:s=S []:=F1 h0;clear h0 hs hk HA
    go_wp2_with fail
    go_ret
    exact⟨rfl,rfl⟩
   have hpos:0<s.size:=by omega
   have he1:=Lz hpos;have HL:Hid (BW s.data.toList=(decide (s.size<=63)&&!BK s[0]&&!BK s[s.size - 1])):=za (by rw[Sr s hpos,HA.out,Bool.true_and]);have hidx:s.size - 1<s.size:=by omega
   clear h0
   by_cases h63:s.size<=63
   ·rcases hy0:BK s[0] with _|_
    ·rcases hy1:BK s[s.size - 1] with _|_
     ·have b0:=JW hy0;have b1:=JW hy1;have HF:Hid (BW s.data.toList=true):=za (by rw[HL.out,hy0,hy1,decide_eq_true h63];rfl);clear hy0 hy1
      go_wp2_with fail
      go_ret
      exact⟨AN (by rw[HF.out]),rfl⟩
     ·have b0:=JW hy0;have b1:=LO hy1;have HF:Hid (BW s.data.toList=false):=za (by rw[HL.out,hy0,hy1];simp);clear hy0 hy1
      go_wp2_with fail
      go_ret
      exact⟨AN (by rw[HF.out]),rfl⟩
    ·have b0:=LO hy0;have HF:Hid (BW s.data.toList=false):=za (by rw[HL.out,hy0];simp);clear hy0
     go_wp2_with fail
     go_ret
     exact⟨AN (by rw[HF.out]),rfl⟩
   ·have HF:Hid (BW s.data.toList=false):=za (by rw[HL.out,decide_eq_false h63];rfl)
    go_wp2_with fail
    go_ret
    exact⟨AN (by rw[HF.out]),rfl⟩
theorem F4 (c:UInt8):∀(l x:List UInt8),x∈Ap c l->x.length<=l.length
 | [],x,h=>by simp[Ap] at h;subst h;simp
 | y::t,x,h=>by
  rw[CT] at h
  by_cases hy:y=c
  ·rw[if_pos hy] at h;rcases zt.1 h with rfl|h
   ·simp
   ·have:=F4 c t x h;simp;omega
  ·obtain⟨p,ps,e⟩:=Cj c t;have ih:=F4 c t;rw[if_neg hy,e] at h;rw[e] at ih;rcases zt.1 h with rfl|h
   ·have:=ih p (by simp);simp;omega
   ·have:=ih x (List.mem_cons_of_mem _ h);simp;omega
theorem JC {α:Type} (p:α->Bool) (l:List α) (k:Nat) (h:k<l.length):(l.take (k+1)).all p=((l.take k).all p&&p l[k]):=by
 rw[List.take_succ_eq_append_getElem h,xo];simp
theorem JN {α:Type} (p:α->Bool) (l:List α) (k:Nat) (h:(l.take k).all p=false):l.all p=false:=by
 rw[<-List.take_append_drop k l,xo,h,Bool.false_and]
theorem T9 {α:Type} (l:List α) (d:α) (h:0<l.length):l.getLastD d=l[l.length - 1]:=by
 rw[List.getLastD_eq_getLast?,List.getLast?_eq_getElem?,zv (by omega)];rfl
theorem RD (s:ByteArray) (w:World) (hs:s.size<=1000000) :
  Calls Tryz.prog 92 #[.string s] w fun e w'=>e=.returned (.bool (B7 s.data.toList))/\Qb w w':=by
 have hpos:=EV 46 s.data.toList;have hlen:=IC 46 s.data.toList;have hparts:∀k (h:k<(Ap 46 s.data.toList).length),(S (Ap 46 s.data.toList)[k]).size<=maxLen:=fun k h=>by
  have:=F4 46 s.data.toList _ (zy h);unfold maxLen;rw[Am];rw[As] at this;omega
 have HB:Hid (B7 s.data.toList=((Ap 46 s.data.toList).all BW&&!Eh ((Ap 46 s.data.toList).getLastD []))):=za rfl;rw[As] at hlen;have HP:=za hparts;clear hparts
 go_enter Tryz.func92,Tryz.ntmps92
 go_wp2_with fail
 refine(Lp s 46 _ hs).mono ?_;rintro e w1 ⟨v,rfl,hrow,hq1⟩;generalize Ap 46 s.data.toList=ls at *;obtain⟨g,cap,rfl,hg0,hg1,hcap⟩:=hrow.form hpos;have HR:=za hrow;clear hrow
 go_wp2_with fail
 go_loop [5,10] (fun _ i=>∃k:Nat,k<=ls.length/\i=.int .i64 k/\Hid ((ls.take k).all BW=true)) (fun _ i=>ls.length - (intOf i).toNat)
 case atStart=>exact⟨0,ze _,rfl,za rfl⟩
 case round=>
  obtain⟨k,hk,rfl,HT⟩:=hrel
  by_cases hlt:k<ls.length
  ·have hcell:=HR.out.cell k hlt;have hsz:=HP.out k hlt;have HS:=za (JC BW ls k hlt);have HF:=JN BW ls (k+1);generalize ls[k]=x at *;rcases hx:BW x with _|_
   ·have HB2:Hid (B7 s.data.toList=false):=za (by rw[HB.out,HF (by rw[HS.out,hx,Bool.and_false])];rfl);have H1:=za hx;clear hx HF
    go_wp2_with fail
    refine(Sq _ _ hsz).mono ?_;rintro e w2 ⟨rfl,rfl⟩;rw[Ao,H1.out]
    go_wp2_with fail
    go_ret
    exact⟨AN (by rw[HB2.out]),hq1⟩
   ·have HT2:Hid ((ls.take (k+1)).all BW=true):=za (by rw[HS.out,hx,HT.out];rfl);have H1:=za hx;clear hx HF
    go_wp2_with fail
    refine(Sq _ _ hsz).mono ?_;rintro e w2 ⟨rfl,rfl⟩;rw[Ao,H1.out]
    go_wp2_with fail
    go_round
    case rel=>exact⟨k+1,by omega,by go_num,HT2⟩
    case measure=>simp[intOf];omega
  ·obtain rfl:k=ls.length:=by omega
   have hidx:ls.length - 1<ls.length:=by omega
   have hcell:=HR.out.cell (ls.length - 1) hidx;have hsz:=HP.out _ hidx;have HD:Hid (B7 s.data.toList=!Eh ls[ls.length - 1]):=za (by
    have:=HT.out;rw[qe] at this;rw[HB.out,this,Bool.true_and,T9 _ _ hpos])
   generalize ls[ls.length - 1]=x at *;clear hlt
   go_wp2_with fail
   refine(eF _ _ hsz).mono ?_;rintro e w2 ⟨rfl,rfl⟩
   go_wp2_with fail
   go_ret
   exact⟨AN (by rw[HD.out]),hq1⟩
theorem Jx (s:ByteArray) (w:World) (hs:s.size<=1000000) :
  Calls Tryz.prog 73 #[.string s] w fun e w'=>e=.returned (.bool (BZ s.data.toList))/\Qb w w':=by
 have hpos:=EV 46 s.data.toList;have hlen:=IC 46 s.data.toList;have hparts:∀k (h:k<(Ap 46 s.data.toList).length),(S (Ap 46 s.data.toList)[k]).size<=maxLen:=fun k h=>by
  have:=F4 46 s.data.toList _ (zy h);unfold maxLen;rw[Am];rw[As] at this;omega
 have HB:Hid (BZ s.data.toList=(decide ((Ap 46 s.data.toList).length=4)&&(Ap 46 s.data.toList).all DN)):=za rfl;rw[As] at hlen;have HP:=za hparts;clear hparts
 go_enter Tryz.func73,Tryz.ntmps73
 go_wp2_with fail
 refine(Lp s 46 _ hs).mono ?_;rintro e w1 ⟨v,rfl,hrow,hq1⟩;generalize Ap 46 s.data.toList=ls at *;obtain⟨g,cap,rfl,hg0,hg1,hcap⟩:=hrow.form hpos;have HR:=za hrow;clear hrow
 go_wp2_with fail
 go_loop [5,6,7,12] (fun _ _ _ i=>∃k:Nat,k<=ls.length/\i=.int .i64 k/\Hid ((ls.take k).all DN=true)) (fun _ _ _ i=>ls.length - (intOf i).toNat)
 case atStart=>exact⟨0,ze _,rfl,za rfl⟩
 case round=>
  obtain⟨k,hk,rfl,HT⟩:=hrel
  by_cases hlt:k<ls.length
  ·have hcell:=HR.out.cell k hlt;have hsz:=HP.out k hlt;have HS:=za (JC DN ls k hlt);have HF:=JN DN ls (k+1);generalize ls[k]=x at *;obtain⟨er,v,hst⟩:∃er v,BJ (255:Int).toNat x=(er,v):=⟨_,_,rfl⟩;have HS1:=za hst;have hok:DN x=decide (er=0):=by rw[Sv,hst]
   clear hst
   by_cases he:er=0
   ·subst he;have HT2:Hid ((ls.take (k+1)).all DN=true):=za (by rw[HS.out,hok,HT.out];rfl);clear hok HF
    go_wp2_with fail
    refine(JQ _ _ _ hsz (by decide) (by decide)).mono ?_;rintro e w2 ⟨rfl,rfl⟩;rw[Ao,HS1.out];unfold CF
    go_wp2_with fail
    go_round
    case rel=>exact⟨k+1,by omega,by go_num,HT2⟩
    case measure=>simp[intOf];omega
   ·have he1:(er != 0)=true:=bne_iff_ne.2 he;have HB2:Hid (BZ s.data.toList=false):=za (by rw[HB.out,HF (by rw[HS.out,hok,decide_eq_false he,Bool.and_false]),Bool.and_false]);clear hok HF he
    go_wp2_with fail
    refine(JQ _ _ _ hsz (by decide) (by decide)).mono ?_;rintro e w2 ⟨rfl,rfl⟩;rw[Ao,HS1.out];unfold CF
    go_wp2_with fail
    go_ret
    exact⟨AN (by rw[HB2.out]),hq1⟩
  ·obtain rfl:k=ls.length:=by omega
   have HD:Hid (BZ s.data.toList=decide ((ls.length:Int)=4)):=za (by
    have:=HT.out;rw[qe] at this;rw[HB.out,this,Bool.and_true];exact decide_eq_decide.2 (by omega))
   clear hlt
   go_wp2_with fail
   go_ret
   exact⟨AN (by rw[HD.out];try rfl),hq1⟩
theorem Iu (s:ByteArray) (w:World) (hs:s.size<=1000000) :
  Calls Tryz.prog 69 #[.string s] w fun e w'=>e=.returned (Be (AH s.data.toList))/\Qb w w':=by
 by_cases h0:s.size=0
 ·obtain rfl:s=S []:=F1 h0;clear h0 hs
  go_enter Tryz.func69,Tryz.ntmps69
  go_wp2_with fail
  go_ret2
  exact⟨rfl,Qb.refl _⟩
 have hpos:0<s.size:=by omega
 have he1:=Lz hpos;have hne:=za (Qf hpos);clear h0
 by_cases h253:253<s.size
 ·have HE:Hid (AH s.data.toList=(5,[])):=za (by unfold AH;rw[if_neg hne.out,if_pos (by rw[As];exact h253)])
  go_enter Tryz.func69,Tryz.ntmps69
  go_wp2_with fail
  go_ret2
  exact⟨by rw[HE.out];rfl,Qb.refl _⟩
 have h253':s.size<=253:=by omega
 have hml:s.size<=maxLen:=by unfold maxLen;omega
 have HE:Hid (AH s.data.toList=if (B7 s.data.toList||BZ s.data.toList)=true then (0,Ay s.data.toList) else (50,[])):=za (by unfold AH;rw[if_neg hne.out,if_neg (by rw[As];omega)]);clear h253;rcases h1:BZ s.data.toList with _|_
 ·rcases h2:B7 s.data.toList with _|_
  ·have HF:Hid (AH s.data.toList=(50,[])):=za (by rw[HE.out,h1,h2];rfl);have H1:=za h1;have H2:=za h2;clear h1 h2
   go_enter Tryz.func69,Tryz.ntmps69
   go_wp2_with fail
   refine(Jx s _ (by omega)).mono ?_;rintro e w1 ⟨rfl,hq1⟩;rw[H1.out]
   go_wp2_with fail
   refine(RD s _ (by omega)).mono ?_;rintro e w2 ⟨rfl,hq2⟩;rw[H2.out]
   go_wp2_with fail
   go_ret2
   exact⟨by rw[HF.out];rfl,hq1.trans hq2⟩
  ·have HF:Hid (AH s.data.toList=(0,Ay s.data.toList)):=za (by rw[HE.out,h1,h2];rfl);have H1:=za h1;have H2:=za h2;clear h1 h2
   go_enter Tryz.func69,Tryz.ntmps69
   go_wp2_with fail
   refine(Jx s _ (by omega)).mono ?_;rintro e w1 ⟨rfl,hq1⟩;rw[H1.out]
   go_wp2_with fail
   refine(RD s _ (by omega)).mono ?_;rintro e w2 ⟨rfl,hq2⟩;rw[H2.out]
   go_wp2_with fail
   refine(JM s _ (by omega)).mono ?_;rintro e w3 ⟨rfl,hq3⟩
   go_wp2_with fail
   go_ret2
   exact⟨by rw[HF.out];rfl,(hq1.trans hq2).trans hq3⟩
 ·have HF:Hid (AH s.data.toList=(0,Ay s.data.toList)):=za (by rw[HE.out,h1];simp);have H1:=za h1;clear h1
  go_enter Tryz.func69,Tryz.ntmps69
  go_wp2_with fail
  refine(Jx s _ (by omega)).mono ?_;rintro e w1 ⟨rfl,hq1⟩;rw[H1.out]
  go_wp2_with fail
  refine(JM s _ (by omega)).mono ?_;rintro e w3 ⟨rfl,hq3⟩
  go_wp2_with fail
  go_ret2
  exact⟨by rw[HF.out];rfl,hq1.trans hq3⟩
def BL (l:List UInt8):Int×List UInt8×Nat :=
 if (AH (Ae 58 l).1).1≠0 then ((AH (Ae 58 l).1).1,[],0)
 else if (Ae 58 l).2.2=false then (0,(AH (Ae 58 l).1).2,0)
 else if (Cu (Ae 58 l).2.1).1≠0 then ((Cu (Ae 58 l).2.1).1,[],0)
 else (0,(AH (Ae 58 l).1).2,if (Cu (Ae 58 l).2.1).2=443 then 0 else (Cu (Ae 58 l).2.1).2)
def Fm (r:Int×List UInt8×Nat):Value:=.tuple #[.agg #[.string (S r.2.1),.int .i64 r.2.2],.int .i64 r.1]
theorem YN (s:ByteArray) (w:World) (hs:s.size<=maxLen) :
  Calls Tryz.prog 154 #[.string s] w fun e w'=>e=.returned (Fm (BL s.data.toList))/\Qb w w':=by
 obtain⟨p,q,b,hcut⟩:∃p q b,Ae 58 s.data.toList=(p,q,b):=⟨_,_,_,rfl⟩;obtain⟨he,h,hh⟩:∃he h,AH p=(he,h):=⟨_,_,rfl⟩;obtain⟨pe,pn,hp⟩:∃pe pn,Cu q=(pe,pn):=⟨_,_,rfl⟩;have HC:=za hcut;have HH:=za hh;have HP:=za hp;have hsp:(S p).size<=maxLen:=by
  have:=(Da 58 s.data.toList).1;rw[hcut,As] at this;rw[Am];simp at this;omega
 have hsq:(S q).size<=maxLen:=by
  have:=(Da 58 s.data.toList).2;rw[hcut,As] at this;rw[Am];simp at this;omega
 have HE:Hid (BL s.data.toList=if he≠0 then (he,[],0) else if b=false then (0,h,0) else if pe≠0 then (pe,[],0) else (0,h,if pn=443 then 0 else pn)):=za (by
  unfold BL;rw[hcut];simp only;rw[hh,hp])
 clear hcut hh hp
 by_cases hee:he=0
 ·subst hee;rcases b with _|_
  ·have HF:Hid (BL s.data.toList=(0,h,0)):=za (by rw[HE.out,if_neg (by simp),if_pos rfl])
   go_enter Tryz.func154,Tryz.ntmps154
   go_wp2_with fail
   refine(Cw s 58 _ hs).mono ?_;rintro e w1 ⟨rfl,hq1⟩;rw[HC.out];unfold BG
   go_wp2_with fail
   refine(Fy _ _ hsp).mono ?_;rintro e w2 ⟨rfl,hq2⟩;rw[Ao,HH.out];unfold Be;have hk:=(AF.new w _ _).qb (hq1.trans hq2);have hc0:=hk.cell 0;have hc1:=hk.cell 1;have hf0:=hk.frozen 0;have hf1:=hk.frozen 1;simp at hc0 hc1
   go_wp2_with fail
   exact bodyPost_ret (v:=Fm (0,h,0)) (by simp[results,Tryz.results154,go_sem,hc0,hc1,hf0,hf1,Fm]) rfl ⟨by rw[HF.out],((((Qb.refl w).alloc _).trans (hq1.trans hq2)).set (zd _) _).set (zd _) _⟩
  ·by_cases hpe:pe=0
   ·subst hpe
    by_cases h443:pn=443
    ·subst h443;have HF:Hid (BL s.data.toList=(0,h,0)):=za (by rw[HE.out,if_neg (by simp),if_neg (by simp),if_neg (by simp),if_pos rfl])
     go_enter Tryz.func154,Tryz.ntmps154
     go_wp2_with fail
     refine(Cw s 58 _ hs).mono ?_;rintro e w1 ⟨rfl,hq1⟩;rw[HC.out];unfold BG
     go_wp2_with fail
     refine(Fy _ _ hsp).mono ?_;rintro e w2 ⟨rfl,hq2⟩;rw[Ao,HH.out];unfold Be
     go_wp2_with fail
     refine(ML _ _ hsq).mono ?_;rintro e w3 ⟨rfl,rfl⟩;rw[Ao,HP.out];unfold I0;have hk:=(AF.new w _ _).qb (hq1.trans hq2);have hc0:=hk.cell 0;have hc1:=hk.cell 1;have hf0:=hk.frozen 0;have hf1:=hk.frozen 1;simp at hc0 hc1
     go_wp2_with fail
     exact bodyPost_ret (v:=Fm (0,h,0)) (by simp[results,Tryz.results154,go_sem,hc0,hc1,hf0,hf1,Fm]) rfl ⟨by rw[HF.out],((((Qb.refl w).alloc _).trans (hq1.trans hq2)).set (zd _) _).set (zd _) _⟩
    ·have HF:Hid (BL s.data.toList=(0,h,pn)):=za (by rw[HE.out,if_neg (by simp),if_neg (by simp),if_neg (by simp),if_neg h443]);have hb4:((pn:Int)==443)=false:=by rw[beq_eq_false_iff_ne];omega
     go_enter Tryz.func154,Tryz.ntmps154
     go_wp2_with fail
     refine(Cw s 58 _ hs).mono ?_;rintro e w1 ⟨rfl,hq1⟩;rw[HC.out];unfold BG
     go_wp2_with fail
     refine(Fy _ _ hsp).mono ?_;rintro e w2 ⟨rfl,hq2⟩;rw[Ao,HH.out];unfold Be
     go_wp2_with fail
     refine(ML _ _ hsq).mono ?_;rintro e w3 ⟨rfl,rfl⟩;rw[Ao,HP.out];unfold I0;have hk:=(AF.new w _ _).qb (hq1.trans hq2);have hc0:=hk.cell 0;have hc1:=hk.cell 1;have hf0:=hk.frozen 0;have hf1:=hk.frozen 1;simp at hc0 hc1
     go_wp2_with fail
     exact bodyPost_ret (v:=Fm (0,h,pn)) (by simp[results,Tryz.results154,go_sem,hc0,hc1,hf0,hf1,Fm]) rfl ⟨by rw[HF.out],((((Qb.refl w).alloc _).trans (hq1.trans hq2)).set (zd _) _).set (zd _) _⟩
   ·have HF:Hid (BL s.data.toList=(pe,[],0)):=za (by rw[HE.out,if_neg (by simp),if_neg (by simp),if_pos hpe]);have hb:=bne_iff_ne.2 hpe
    go_enter Tryz.func154,Tryz.ntmps154
    go_wp2_with fail
    refine(Cw s 58 _ hs).mono ?_;rintro e w1 ⟨rfl,hq1⟩;rw[HC.out];unfold BG
    go_wp2_with fail
    refine(Fy _ _ hsp).mono ?_;rintro e w2 ⟨rfl,hq2⟩;rw[Ao,HH.out];unfold Be
    go_wp2_with fail
    refine(ML _ _ hsq).mono ?_;rintro e w3 ⟨rfl,rfl⟩;rw[Ao,HP.out];unfold I0;have hk:=(AF.new w _ _).qb (hq1.trans hq2);have hc0:=hk.cell 0;have hc1:=hk.cell 1;have hf0:=hk.frozen 0;have hf1:=hk.frozen 1;simp at hc0 hc1
    go_wp2_with fail
    exact bodyPost_ret (v:=Fm (pe,[],0)) (by simp[results,Tryz.results154,go_sem,hc0,hc1,hf0,hf1,Fm]) rfl ⟨by rw[HF.out],((((Qb.refl w).alloc _).trans (hq1.trans hq2)).set (zd _) _).set (zd _) _⟩
 ·have HF:Hid (BL s.data.toList=(he,[],0)):=za (by rw[HE.out,if_pos hee]);have hb:(he != 0)=true:=bne_iff_ne.2 hee
  go_enter Tryz.func154,Tryz.ntmps154
  go_wp2_with fail
  refine(Cw s 58 _ hs).mono ?_;rintro e w1 ⟨rfl,hq1⟩;rw[HC.out];unfold BG
  go_wp2_with fail
  refine(Fy _ _ hsp).mono ?_;rintro e w2 ⟨rfl,hq2⟩;rw[Ao,HH.out];unfold Be;have hk:=(AF.new w _ _).qb (hq1.trans hq2);have hc0:=hk.cell 0;have hc1:=hk.cell 1;have hf0:=hk.frozen 0;have hf1:=hk.frozen 1;simp at hc0 hc1
  go_wp2_with fail
  exact bodyPost_ret (v:=Fm (he,[],0)) (by simp[results,Tryz.results154,go_sem,hc0,hc1,hf0,hf1,Fm]) rfl ⟨by rw[HF.out],((((Qb.refl w).alloc _).trans (hq1.trans hq2)).set (zd _) _).set (zd _) _⟩
end Go.Proofs.YtbeoijfmfkifeaaGreatDoor
namespace Go.Proofs.YtbeoijfmfkifeaaGreatDoor
open Lib renaming hid->za
open List renaming all_eq_true->zl, append_assoc->zr, append_nil->qf, eq_nil_of_length_eq_zero->qd, flatMap_cons->qp, getLastD_eq_getLast?->xy, length_append->zf, length_cons->zj, map_congr_left->xp, mem_cons_of_mem->qw
open Nat renaming le_refl->zd, sub_self->x8, zero_le->ze
theorem nJ:∀n:Fin 256,Bh (Bh (UInt8.ofNat n.val))=Bh (UInt8.ofNat n.val)/\BS (Bh (UInt8.ofNat n.val))=BS (UInt8.ofNat n.val)/\BK (Bh (UInt8.ofNat n.val))=BK (UInt8.ofNat n.val)/\AD (Bh (UInt8.ofNat n.val))=AD (UInt8.ofNat n.val)/\(Bh (UInt8.ofNat n.val)=46↔UInt8.ofNat n.val=46)/\(AD (UInt8.ofNat n.val)=true->Bh (UInt8.ofNat n.val)=UInt8.ofNat n.val)/\(UInt8.ofNat n.val=46->Bh (UInt8.ofNat n.val)=UInt8.ofNat n.val):=by decide +kernel
theorem F7 (c:UInt8):Bh (Bh c)=Bh c/\BS (Bh c)=BS c/\BK (Bh c)=BK c/\AD (Bh c)=AD c/\(Bh c=46↔c=46)/\(AD c=true->Bh c=c)/\(c=46->Bh c=c):=by
 have:=nJ ⟨c.toNat,c.toNat_lt⟩;simp only[UInt8.ofNat_toNat] at this;exact this
theorem Z7 (l:List UInt8):Ay (Ay l)=Ay l:=by
 unfold Ay;rw[List.map_map];exact xp fun c _=>(F7 c).1
theorem NZ (l:List UInt8):(Ay l).length=l.length:=by simp[Ay]
theorem R8:∀l,Ap 46 (Ay l)=(Ap 46 l).map Ay
 | []=>rfl
 | x::t=>by
  have ih:=R8 t;obtain⟨p,ps,e⟩:=Cj 46 t;rw[e] at ih;show Ap 46 (Bh x::Ay t)=_;rw[CT,CT,ih,e]
  by_cases h:x=46
  ·rw[if_pos ((F7 x).2.2.2.2.1.2 h),if_pos h];rfl
  ·rw[if_neg (fun h2=>h ((F7 x).2.2.2.2.1.1 h2)),if_neg h];rfl
theorem PV (p:UInt8->Bool) (hp:∀c,p (Bh c)=p c) (l:List UInt8):(Ay l).all p=l.all p:=by
 unfold Ay;rw[List.all_map]
 congr 1;funext c;exact hp c
theorem bB (l:List UInt8):BW (Ay l)=BW l:=by
 unfold BW;rw[PV BS (fun c=>(F7 c).2.1),NZ];have e1:(Ay l).isEmpty=l.isEmpty:=by cases l<;>rfl
 have e2:(Ay l).head?.map BK=l.head?.map BK:=by
  cases l with
  | nil=>rfl
  | cons c t=>simp[Ay,(F7 c).2.2.1]
 have e3:(Ay l).getLast?.map BK=l.getLast?.map BK:=by
  unfold Ay;rw[List.getLast?_map]
  cases l.getLast? with
  | none=>rfl
  | some c=>simp[(F7 c).2.2.1]
 rw[e1,e2,e3]
theorem dN (l:List UInt8):Eh (Ay l)=Eh l:=by
 unfold Eh;rw[PV AD (fun c=>(F7 c).2.2.2.1)];have e1:(Ay l).isEmpty=l.isEmpty:=by cases l<;>rfl
 rw[e1]
theorem aA (l:List UInt8):B7 (Ay l)=B7 l:=by
 unfold B7;rw[R8,List.all_map];have e1:((Ap 46 l).map Ay).getLastD []=Ay ((Ap 46 l).getLastD []):=by
  rw[xy,xy,List.getLast?_map]
  cases (Ap 46 l).getLast?<;>rfl
 rw[e1,dN]
 congr 1
 congr 1
 funext x
 exact bB x
theorem bX {l:List UInt8} (h:DN l=true):Ay l=l:=by
 unfold DN at h;have h1:=of_decide_eq_true h;unfold BJ at h1
 split at h1
 ·rename_i h2;have h3:=(Lk h2).2;unfold Ay;rw[zl] at h3;have:l.map Bh=l.map id:=xp fun c hc=>(F7 c).2.2.2.2.2.1 (h3 c hc);rw[this,List.map_id]
 ·rename_i h2;exact absurd h1 h2
theorem N7:∀l:List UInt8,(∀p∈Ap 46 l,Ay p=p)->Ay l=l
 | [],_=>rfl
 | x::t,h=>by
  obtain⟨p,ps,e⟩:=Cj 46 t;rw[CT,e] at h
  by_cases hx:x=46
  ·rw[if_pos hx] at h;have ih:=N7 t (by rw[e];intro q hq;exact h q (qw _ hq));show Bh x::Ay t=_;rw[ih,(F7 x).2.2.2.2.2.2 hx]
  ·rw[if_neg hx] at h;have h1:=h (x::p) (List.mem_cons_self ..);have h2:Bh x=x/\Ay p=p:=by
    have:Bh x::Ay p=x::p:=h1;injection this with a b;exact⟨a,b⟩
   have ih:=N7 t (by
    rw[e];intro q hq;rcases List.mem_cons.1 hq with rfl|hq
    ·exact h2.2
    ·exact h q (qw _ hq))
   show Bh x::Ay t=_;rw[ih,h2.1]
theorem XI {l:List UInt8} (h:BZ l=true):Ay l=l:=by
 refine N7 l fun p hp=>?_;unfold BZ DI at h;simp only[Bool.and_eq_true,zl] at h;exact bX (h.2 p hp)
theorem NC {q h:List UInt8} (hh:AH q=(0,h)):AH h=(0,h)/\h.length=q.length/\h.length<=253/\h=Ay q:=by
 unfold AH at hh
 split at hh
 ·cases hh
 ·rename_i h0
  split at hh
  ·cases hh
  ·rename_i h1
   split at hh
   ·rename_i h2;injection hh with _ hh;subst hh
    have hl:=NZ q;refine⟨?_,hl,by omega,rfl⟩;unfold AH;rw[if_neg (by intro e;rw[e] at hl;exact h0 (qd (by simpa using hl.symm))),if_neg (by omega),Z7];rw[if_pos];rw[aA];rw[Bool.or_eq_true] at h2 ⊢;rcases h2 with h2|h2
    ·exact .inl h2
    ·exact .inr (by rw[XI h2];exact h2)
   ·cases hh
open Go.RowKit
def D7 (c:UInt8):Nat:=if c.toNat<=57 then c.toNat - 48 else if c.toNat<=70 then c.toNat - 55 else c.toNat - 87
def hv (c:UInt8):UInt8:=UInt8.ofNat (D7 c)
theorem Nf {c:UInt8} (h:Bj c=true):48<=c.toNat/\c.toNat<=57\/97<=c.toNat/\c.toNat<=102\/65<=c.toNat/\c.toNat<=70:=of_decide_eq_true h
theorem Dx {c:UInt8} (h:Bj c=true):(hv c).toNat=D7 c/\D7 c<16:=by
 have:=Nf h;have h2:D7 c<16:=by unfold D7;(repeat' split)<;>omega
 exact⟨by unfold hv;rw[UInt8.toNat_ofNat'];omega,h2⟩
theorem Ve:∀n:Fin 256,bits .and .u8 ((n.val:Nat):Int) 223=((n.val &&& 223:Nat):Int):=by decide +kernel
theorem nM:∀n:Fin 256,bits .and .u8 ((n.val:Nat):Int) 15=((n.val % 16:Nat):Int):=by decide +kernel
theorem Wm:∀n:Fin 256,(97<=n.val/\n.val<=102\/65<=n.val/\n.val<=70)->(n.val &&& 223)=(if n.val<=70 then n.val else n.val - 32):=by decide +kernel
theorem Sm (c:UInt8) (h:Bj c=true) (w:World) :
  Calls Tryz.prog 194 #[.int .u8 c.toNat] w fun e w'=>e=.returned (.int .u8 (hv c).toNat)/\w=w':=by
 have H:=za h;clear h
 go_enter Tryz.func194,Tryz.ntmps194
 go_wp2_with (go_at_call 177;refine(D6 _ _).mono ?_;rintro e w' ⟨rfl,rfl⟩)
 ·have hd:AD c=true:=by assumption
  go_ret
  refine⟨Ey ?_,rfl⟩;have h1:=Dx H.out;have h2:48<=c.toNat/\c.toNat<=57:=of_decide_eq_true hd;rw[h1.1];unfold D7;rw[if_pos h2.2];omega
 ·have hd:AD c=false:=by assumption
  go_ret
  refine⟨Ey ?_,rfl⟩;have h1:=Dx H.out;have h2:¬(48<=c.toNat/\c.toNat<=57):=of_decide_eq_false hd;have h3:=Nf H.out;rw[h1.1,Ve ⟨c.toNat,c.toNat_lt⟩,Wm ⟨c.toNat,c.toNat_lt⟩ (by show _\/_;simp only;omega)];unfold D7;simp only
  split<;>split<;>(try split)<;>omega
theorem cY (c:UInt8) (h:Bj c=true) (w:World) :
  Calls Tryz.prog 125 #[.int .u8 c.toNat] w fun e w'=>e=.returned (.int .u8 (hv c).toNat)/\w=w':=by
 have h1:=Dx h;have h3:=Nf h;have H:=za (And.intro h1 h3);clear h h1 h3
 go_enter Tryz.func125,Tryz.ntmps125
 go_wp2
 all_goals go_ret
 all_goals refine⟨Ey ?_,rfl⟩
 all_goals have h1:=H.out.1
 all_goals have h3:=H.out.2
 all_goals rw[h1.1]
 all_goals unfold D7
 all_goals (repeat' split)<;>omega
def Bk (n:Nat):UInt8:=[48,49,50,51,52,53,54,55,56,57,65,66,67,68,69,70].getD n 0
def Bd (c:UInt8):List UInt8:=[37,Bk (c.toNat / 16),Bk (c.toNat % 16)]
theorem KY (i:Nat) (h:i<ByteArray.size { data:=#[48,49,50,51,52,53,54,55,56,57,65,66,67,68,69,70] }) :
  ({ data:=#[48,49,50,51,52,53,54,55,56,57,65,66,67,68,69,70] }:ByteArray)[i]=Bk i:=by
 have h':i<[(48:UInt8),49,50,51,52,53,54,55,56,57,65,66,67,68,69,70].length:=h;unfold Bk;rw[List.getD_eq_getElem?_getD,List.getElem?_eq_getElem h']
 rfl
theorem mO (W:World) (a b c:Value):∀j u,[a,b,c][j]? = some u->(W.alloc (.cells #[a,b,c] 5)).cell? ((⟨W.heap.size,0,none⟩:Addr).add j)=some u:=by
 intro j u hj;rw[B0,World.cell?_alloc_at _ _ _ _ rfl];simpa using hj
theorem FT (W:World) (a:Value):∀j u,[a][j]? = some u->(W.alloc (.cells #[a] 5)).cell? ((⟨W.heap.size,0,none⟩:Addr).add j)=some u:=by
 intro j u hj;rw[B0,World.cell?_alloc_at _ _ _ _ rfl];simpa using hj
theorem aW (c:UInt8) (i j:Nat) (hi:i=c.toNat / 16) (hj:j=c.toNat % 16) (h1:i<ByteArray.size { data:=#[48,49,50,51,52,53,54,55,56,57,65,66,67,68,69,70] }) (h2:j<ByteArray.size { data:=#[48,49,50,51,52,53,54,55,56,57,65,66,67,68,69,70] }) :
  bv (Bd c)=[.int .u8 37,.int .u8 (({ data:=#[48,49,50,51,52,53,54,55,56,57,65,66,67,68,69,70] }:ByteArray)[i]).toNat,.int .u8 (({ data:=#[48,49,50,51,52,53,54,55,56,57,65,66,67,68,69,70] }:ByteArray)[j]).toNat]:=by
 rw[KY,KY,hi,hj];rfl
theorem T5 (v:Value) (l:List UInt8) (c:UInt8) (B:Nat) (w:World) (h:AW w B v l) (hl:l.length<=1000000000) (hB:B<=w.heap.size) :
  Calls Tryz.prog 161 #[v,.int .u8 c.toNat] w fun e w'=>∃v',e=.returned v'/\AW w' B v' (l++Bd c)/\Below B w w':=by
 have hc:=c.toNat_lt;have a1:(0:Int)<=(c.toNat:Int) / 16:=by omega
 have a2:(c.toNat:Int) / 16<16:=by omega
 have b1:(0:Int)<=(c.toNat:Int) % 16:=by omega
 have b2:(c.toNat:Int) % 16<16:=by omega
 have hand:=nM ⟨c.toNat,c.toNat_lt⟩;simp only at hand;have hcells:=za (aW c ((c.toNat:Int) / 16).toNat ((c.toNat:Int) % 16).toNat (by omega) (by omega) (by show _<16;omega) (by show _<16;omega))
 go_enter Tryz.func161,Tryz.ntmps161
 go_wp2_with fail
 go_region_law (first|(refine iG rfl (.tmp 5) (.tmp 12) rfl B v l (Bd c) rfl (AW.drew (h.alloc _)) _ _ _ rfl rfl (by rw[hcells.out];exact mO _ _ _ _) (by simp[Bd];omega) (by simp;omega) ?_;intro v1 w1 hr1 hb1)|fail)
 all_goals have hb2:Below B w w1:=(((Below.refl B w).alloc hB _).drew).trans hb1
 all_goals (try go_wp2_with fail)
 all_goals go_ret
 all_goals exact⟨_,rfl,hr1,hb2⟩
theorem lT (W:World) (x y z:UInt8):FK ((W.alloc (.cells #[.int .u8 x.toNat,.int .u8 y.toNat,.int .u8 z.toNat] 5)).drew) W.heap.size [x,y,z]:=by
 intro j hj;refine⟨?_,World.frozen?_alloc_at _ _ _ _ rfl⟩;show (W.alloc _).cell? _=_;rw[World.cell?_alloc_at _ _ _ _ rfl]
 match j,hj with
 | 0,_=>rfl
 | 1,_=>rfl
 | 2,_=>rfl
theorem Lw (c:UInt8) (w:World) :
  Calls Tryz.prog 91 #[.int .u8 c.toNat] w fun e w'=>e=.returned (.string (S (Bd c)))/\Qb w w':=by
 have hc:=c.toNat_lt;have e1:=KY (c.toNat / 16) (by show _<16;omega);have e2:=KY (c.toNat % 16) (by show _<16;omega);have hst:(convert 25 9 (.slice (some ⟨w.heap.size,0,none⟩) 3 3)).run Tryz.prog ((w.alloc (.cells #[.int .u8 37,.int .u8 (Bk (c.toNat / 16)).toNat,.int .u8 (Bk (c.toNat % 16)).toNat] 5)).drew)=.ok (.string ⟨[37,Bk (c.toNat / 16),Bk (c.toNat % 16)].toArray⟩) _:=(lT w 37 (Bk (c.toNat / 16)) (Bk (c.toNat % 16))).str 3 3 rfl;rw[<-e1,<-e2] at hst;have H:=za (And.intro e1 e2);clear e1 e2;have a1:(0:Int)<=(c.toNat:Int) / 16:=by omega
 have a2:(c.toNat:Int) / 16<16:=by omega
 have b1:(0:Int)<=(c.toNat:Int) % 16:=by omega
 have b2:(c.toNat:Int) % 16<16:=by omega
 go_enter Tryz.func91,Tryz.ntmps91
 go_wp2_with fail
 go_region
 all_goals (try go_wp2_with fail)
 all_goals go_ret
 all_goals refine⟨GB ?_,((Qb.refl w).alloc _).drew⟩
 all_goals rw[H.out.1,H.out.2]
 all_goals rfl
def Bo (c:UInt8) (also:List UInt8):Bool:=A4 c||(c.toNat != 37&&Aw c also)
theorem IH (c:UInt8) (s:ByteArray) (w:World) :
  Calls Tryz.prog 162 #[.int .u8 c.toNat,.string s] w fun e w'=>e=.returned (.bool (Bo c s.data.toList))/\w=w':=by
 go_enter Tryz.func162,Tryz.ntmps162
 go_wp2_with (first|(go_at_call 160;refine(Hu _ _).mono ?_;rintro e w' ⟨rfl,rfl⟩)|(go_at_call 169;refine(Tryz.strings_IndexByte _ _ _).mono ?_;rintro e w' ⟨rfl,rfl⟩))
 ·have h1:A4 c=true:=by assumption
  go_ret
  exact⟨AN (by unfold Bo;rw[h1];rfl),rfl⟩
 ·have h1:¬A4 c=true:=by assumption
  have h2:(c.toNat:Int)=37:=by assumption
  go_ret
  refine⟨AN ?_,rfl⟩;unfold Bo;have h3:c.toNat=37:=by omega
  rw[Bool.eq_false_iff.2 h1,h3];rfl
 ·have h1:¬A4 c=true:=by assumption
  have h2:¬(c.toNat:Int)=37:=by assumption
  go_ret
  refine⟨AN ?_,rfl⟩;unfold Bo Aw;have h3:¬c.toNat=37:=by omega
  rw[Bool.eq_false_iff.2 h1,Lib.contains_iff_indexByte,bne_iff_ne.2 h3,bne_iff_ne.2 h2];rfl
def Bm:List UInt8->Bool
 | _::a::b::_=>Bj a&&Bj b
 | _=>false
def AZ:List UInt8->UInt8
 | _::a::b::_=>UInt8.ofNat (16*D7 a+D7 b)
 | _=>0
theorem L6 (s:ByteArray) (k:Nat) (h:k+2<s.size):s.data.toList.drop k=s[k]::s[k+1]::s[k+2]::s.data.toList.drop (k+3):=by
 rw[C2 s k (by omega),C2 s (k+1) (by omega),C2 s (k+2) (by omega)]
theorem NX (s:ByteArray) (k:Nat) (h:¬k+2<s.size):Bm (s.data.toList.drop k)=false:=by
 have hl:(s.data.toList.drop k).length<=2:=by rw[List.length_drop,As];omega
 revert hl
 generalize s.data.toList.drop k=l;intro hl
 match l,hl with
 | [],_=>rfl
 | [_],_=>rfl
 | [_,_],_=>rfl
theorem LF (s:ByteArray) (k:Nat) (hk:k<=s.size) (hs:s.size<=maxLen) (w:World) :
  Calls Tryz.prog 193 #[.string s,.int .i64 k] w fun e w'=>e=.returned (.bool (Bm (s.data.toList.drop k)))/\w=w':=by
 unfold maxLen at hs
 by_cases hlt:k+2<s.size
 ·have HD:=za (L6 s k hlt)
  go_enter Tryz.func193,Tryz.ntmps193
  go_wp2_with (go_at_call 217;refine(YM _ _).mono ?_;rintro e w' ⟨rfl,rfl⟩)
  ·have h1:Bj s[k+1]=true:=by assumption
   go_ret
   exact⟨AN (by rw[HD.out];simp only[Bm,h1,Bool.true_and]),rfl⟩
  ·have h1:¬Bj s[k+1]=true:=by assumption
   go_ret
   exact⟨AN (by rw[HD.out];simp only[Bm,Bool.eq_false_iff.2 h1,Bool.false_and]),rfl⟩
 ·have HD:=za (NX s k hlt)
  go_enter Tryz.func193,Tryz.ntmps193
  go_wp2_with fail
  go_ret
  exact⟨AN HD.out.symm,rfl⟩
theorem Qu {a b:UInt8} (ha:Bj a=true) (hb:Bj b=true):(UInt8.ofNat (16*D7 a+D7 b)).toNat=16*(hv a).toNat+(hv b).toNat:=by
 have h1:=Dx ha;have h2:=Dx hb;rw[UInt8.toNat_ofNat',h1.1,h2.1];omega
def Et (l:List UInt8):UInt8:=if Bm l=true then AZ l else 0
theorem Mv {l:List UInt8} (h:Bm l=false):Et l=0:=by unfold Et;rw[if_neg (by rw[h];exact Bool.false_ne_true)]
theorem Nb {l:List UInt8} (h:Bm l=true):Et l=AZ l:=if_pos h
theorem JR (s:ByteArray) (k:Nat) (hk:k<s.size) (hs:s.size<=140737488351232) (h37:s[k]=37) (w:World) :
  Calls Tryz.prog 90 #[.string s,.int .i64 k] w fun e w'=>e=.returned (.tuple #[.int .u8 (Et (s.data.toList.drop k)).toNat,.bool (Bm (s.data.toList.drop k))])/\Qb w w':=by
 have hne:((s[k].toNat:Int) != 37)=false:=by rw[h37];rfl
 have H37:=za h37;clear h37
 by_cases hlt:k+2<s.size
 ·have HD:=za (L6 s k hlt);rcases ha:Bj s[k+1] with _|_
  ·have ho:Bm (s.data.toList.drop k)=false:=by rw[HD.out];simp only[Bm,ha,Bool.false_and]
   have hr:=Mv ho;have HO:=za (And.intro ho hr);clear ho hr
   go_enter Tryz.func90,Tryz.ntmps90
   go_wp2_with (go_at_call 124;refine(NP _ _).mono ?_;rintro e w' ⟨rfl,rfl⟩)
   go_ret2
   exact⟨by rw[HO.out.1,HO.out.2];rfl,Qb.refl w⟩
  ·rcases hb:Bj s[k+2] with _|_
   ·have ho:Bm (s.data.toList.drop k)=false:=by rw[HD.out];simp only[Bm,hb,Bool.and_false]
    have hr:=Mv ho;have HO:=za (And.intro ho hr);clear ho hr
    go_enter Tryz.func90,Tryz.ntmps90
    go_wp2_with (go_at_call 124;refine(NP _ _).mono ?_;rintro e w' ⟨rfl,rfl⟩)
    go_ret2
    exact⟨by rw[HO.out.1,HO.out.2];rfl,Qb.refl w⟩
   ·have n1:=(Dx ha).2;rw[<-(Dx ha).1] at n1;have n2:=(Dx hb).2;rw[<-(Dx hb).1] at n2;have ho:Bm (s.data.toList.drop k)=true:=by rw[HD.out];simp only[Bm,ha,hb,Bool.and_true]
    have hr:=Nb ho;have hv2:(AZ (s.data.toList.drop k)).toNat=16*(hv s[k+1]).toNat+(hv s[k+2]).toNat:=by
     rw[HD.out];exact Qu ha hb
    have HO:=za (And.intro ho (And.intro hr hv2));clear ho hr hv2
    go_enter Tryz.func90,Tryz.ntmps90
    go_wp2_with (go_at_call 124;refine(NP _ _).mono ?_;rintro e w' ⟨rfl,rfl⟩)
    go_quiet ((go_at_call 125;exact JL (cY _ (by assumption) _)))
    go_wp2_with fail
    go_ret2
    exact⟨by rw[HO.out.1,HO.out.2.1,HO.out.2.2,Int.natCast_add,Int.natCast_mul];rfl,(Qb.refl w).drewN _⟩
 ·have ho:=NX s k hlt;have hr:=Mv ho;have HO:=za (And.intro ho hr);clear ho hr
  go_enter Tryz.func90,Tryz.ntmps90
  go_wp2_with fail
  go_ret2
  exact⟨by rw[HO.out.1,HO.out.2];rfl,Qb.refl w⟩
abbrev Ft:=List UInt8->UInt8->Bool->Int×List UInt8
def Al (add:Ft):Nat->List UInt8->List UInt8->Int×List UInt8
 | _,[],out=>(0,out)
 | n+1,_::l,out=>Al add n l out
 | 0,c::l,out=>
  if c=37 then
   if Bm (c::l)=true then
    if (add out (AZ (c::l)) true).1=0 then Al add 2 l (add out (AZ (c::l)) true).2 else ((add out (AZ (c::l)) true).1,[])
   else (2,[])
  else if (add out c false).1=0 then Al add 0 l (add out c false).2 else ((add out c false).1,[])
section
variable (add:Ft) (s:ByteArray) (k:Nat) (out:List UInt8)
theorem KC (n:Nat) (h:¬k<s.size):Al add n (s.data.toList.drop k) out=(0,out):=by
 rw[List.drop_of_length_le (by rw[As];omega),Al]
theorem QZ (m:Nat) (h:k<s.size) (hm:k<m):Al add (m - k) (s.data.toList.drop k) out=Al add (m - (k+1)) (s.data.toList.drop (k+1)) out:=by
 rw[C2 s k h,show m - k=(m - (k+1))+1 from by omega,Al]
theorem KB (h:k<s.size) (hc:s[k]=37) (he:Bm (s.data.toList.drop k)=false):Al add 0 (s.data.toList.drop k) out=(2,[]):=by
 rw[C2 s k h] at he ⊢;rw[Al,if_pos hc,if_neg (by rw[he];exact Bool.false_ne_true)]
theorem Jl (h:k<s.size) (hc:s[k]=37) (he:Bm (s.data.toList.drop k)=true) (ha:(add out (AZ (s.data.toList.drop k)) true).1=0) :
  Al add 0 (s.data.toList.drop k) out=Al add (k+3 - (k+1)) (s.data.toList.drop (k+1)) (add out (AZ (s.data.toList.drop k)) true).2:=by
 rw[C2 s k h] at he ha;rw[show k+3 - (k+1)=2 from by omega]
 conv=>lhs;rw[C2 s k h]
 rw[Al,if_pos hc,if_pos he,if_pos ha,<-C2 s k h]
theorem S2 (h:k<s.size) (hc:s[k]=37) (he:Bm (s.data.toList.drop k)=true) (ha:(add out (AZ (s.data.toList.drop k)) true).1≠0) :
  Al add 0 (s.data.toList.drop k) out=((add out (AZ (s.data.toList.drop k)) true).1,[]):=by
 rw[C2 s k h] at he ha ⊢;rw[Al,if_pos hc,if_pos he,if_neg ha]
theorem KD (h:k<s.size) (hc:s[k]≠37) (ha:(add out s[k] false).1=0) :
  Al add 0 (s.data.toList.drop k) out=Al add (k+1 - (k+1)) (s.data.toList.drop (k+1)) (add out s[k] false).2:=by
 rw[x8]
 conv=>lhs;rw[C2 s k h]
 rw[Al,if_neg hc,if_pos ha]
theorem N4 (h:k<s.size) (hc:s[k]≠37) (ha:(add out s[k] false).1≠0) :
  Al add 0 (s.data.toList.drop k) out=((add out s[k] false).1,[]):=by
 conv=>lhs;rw[C2 s k h]
 rw[Al,if_neg hc,if_neg ha]
theorem NB (he:Bm (s.data.toList.drop k)=true):k+2<s.size:=by
 rcases Nat.lt_or_ge (k+2) s.size with h|h
 ·exact h
 ·rw[NX s k (by omega)] at he;cases he
theorem Rq (he:Bm (s.data.toList.drop k)=true):∃h:k+2<s.size,Bj s[k+1]=true/\Bj s[k+2]=true/\(AZ (s.data.toList.drop k)).toNat=16*(hv s[k+1]).toNat+(hv s[k+2]).toNat:=by
 have h:=NB s k he;rw[L6 s k h] at he ⊢;simp only[Bm,Bool.and_eq_true] at he;exact⟨h,he.1,he.2,Qu he.1 he.2⟩
end
def AR:Ft:=fun out x _=>(0,out++[x])
def AQ (also:List UInt8):Ft:=fun out x e=>if (e&&!A4 x)=true then (0,out++Bd x) else if Bo x also=true then (0,out++[x]) else (1,[])
def BU (r:Int×List UInt8) (n:Nat):Int×List UInt8:=if 16384<n then (5,[]) else r
def An (l:List UInt8):Int×List UInt8:=BU (Al AR 0 l []) l.length
def Aj (l also:List UInt8):Int×List UInt8:=BU (Al (AQ also) 0 l []) l.length
def AI (l keep:List UInt8):List UInt8:=l.flatMap fun c=>if Bo c keep=true then [c] else Bd c
theorem Pe:∀a b:Fin 16,bits .or .u8 (((a.val*16:Nat):Int)) ((b.val:Nat):Int)=((16*a.val+b.val:Nat):Int):=by decide +kernel
def Pu (r:Int×List UInt8) (B:Nat) (w:World) (en:Ending) (w':World):Prop :=
 ∃v',en=.returned (.tuple #[v',.int .i64 r.1])/\(r.1=0->AW w' B v' r.2)/\Below B w w'
theorem SB (v:Value) (l:List UInt8) (x:UInt8) (e:Bool) (B:Nat) (w:World) (h:AW w B v l) (hl:l.length<=1000000000) (hB:B<=w.heap.size) :
  Calls Tryz.prog 187 #[v,.int .u8 x.toNat,.bool e] w (Pu (AR l x e) B w):=by
 go_enter Tryz.func187,Tryz.ntmps187
 go_wp2_with (at_builtin;refine Gb rfl (.tmp 8) (.tmp 10) rfl B v l [x] rfl (h.alloc _) _ _ _ rfl rfl (FT _ _) (by simp;omega) (by simp;omega) ?_;intro v1 w1 hr1 hb1)
 go_ret2
 exact⟨v1,rfl,fun _=>hr1,((Below.refl B w).alloc hB _).trans hb1⟩
theorem Fz {also l:List UInt8} {x:UInt8} (hu:A4 x=false):AQ also l x true=(0,l++Bd x):=by unfold AQ;rw[if_pos (by rw[hu];rfl)]
theorem DD {also l:List UInt8} {x:UInt8} {e:Bool} (hu:(e&&!A4 x)=false) (hp:Bo x also=true):AQ also l x e=(0,l++[x]):=by
 unfold AQ;rw[if_neg (by rw[hu];exact Bool.false_ne_true),if_pos hp]
theorem Js {also l:List UInt8} {x:UInt8} {e:Bool} (hu:(e&&!A4 x)=false) (hp:Bo x also=false):AQ also l x e=(1,[]):=by
 unfold AQ;rw[if_neg (by rw[hu];exact Bool.false_ne_true),if_neg (by rw[hp];exact Bool.false_ne_true)]
theorem QG {also l:List UInt8} {x:UInt8} {e:Bool}:(AQ also l x e).2.length<=l.length+3:=by
 unfold AQ
 repeat' split
 all_goals simp[Bd]
theorem QF {l:List UInt8} {x:UInt8} {e:Bool}:(AR l x e).2.length<=l.length+3:=by simp[AR]
theorem S8 (v:Value) (l:List UInt8) (x:UInt8) (e:Bool) (B g:Nat) (also:ByteArray) (w:World) (h:AW w B v l) (hl:l.length<=1000000000) (hB:B<=w.heap.size) (hc:w.cell? ⟨g,0,none⟩=some (.string also)) :
  Calls Tryz.prog 159 #[v,.int .u8 x.toNat,.bool e,.pointer (some ⟨g,0,none⟩)] w (Pu (AQ also.data.toList l x e) B w):=by
 rcases hu:(e&&!A4 x) with _|_
 ·rcases hp:Bo x also.data.toList with _|_
  ·rw[Js hu hp]
   cases e
   ·clear hu
    go_enter Tryz.func159,Tryz.ntmps159
    go_wp2_with (go_at_call 162;refine(IH _ _ _).mono ?_;rintro e w' ⟨rfl,rfl⟩)
    go_ret2
    exact⟨_,rfl,fun h=>absurd h (by decide),Below.refl _ _⟩
   ·have hu':A4 x=true:=by simpa using hu
    clear hu
    go_enter Tryz.func159,Tryz.ntmps159
    go_wp2_with (first|(go_at_call 160;refine(Hu _ _).mono ?_;rintro e w' ⟨rfl,rfl⟩)|(go_at_call 162;refine(IH _ _ _).mono ?_;rintro e w' ⟨rfl,rfl⟩))
    go_ret2
    exact⟨_,rfl,fun h=>absurd h (by decide),Below.refl _ _⟩
  ·rw[DD hu hp]
   cases e
   ·clear hu
    go_enter Tryz.func159,Tryz.ntmps159
    go_wp2_with (first|(go_at_call 162;refine(IH _ _ _).mono ?_;rintro e w' ⟨rfl,rfl⟩)|(at_builtin;refine Gb rfl (.tmp 23) (.tmp 25) rfl B v l [x] rfl (h.alloc _) _ _ _ rfl rfl (FT _ _) (by simp;omega) (by simp;omega) ?_;intro v1 w1 hr1 hb1))
    go_ret2
    exact⟨v1,rfl,fun _=>hr1,((Below.refl B _).alloc hB _).trans hb1⟩
   ·have hu':A4 x=true:=by simpa using hu
    clear hu
    go_enter Tryz.func159,Tryz.ntmps159
    go_wp2_with (first|(go_at_call 160;refine(Hu _ _).mono ?_;rintro e w' ⟨rfl,rfl⟩)|(go_at_call 162;refine(IH _ _ _).mono ?_;rintro e w' ⟨rfl,rfl⟩)|(at_builtin;refine Gb rfl (.tmp 23) (.tmp 25) rfl B v l [x] rfl (h.alloc _) _ _ _ rfl rfl (FT _ _) (by simp;omega) (by simp;omega) ?_;intro v1 w1 hr1 hb1))
    go_ret2
    exact⟨v1,rfl,fun _=>hr1,((Below.refl B _).alloc hB _).trans hb1⟩
 ·have he:e=true:=by cases e<;>simp_all
  subst he;have hu':A4 x=false:=by simpa using hu
  clear hu;rw[Fz hu']
  go_enter Tryz.func159,Tryz.ntmps159
  go_wp2_with (first|(go_at_call 160;refine(Hu _ _).mono ?_;rintro e w' ⟨rfl,rfl⟩)|(go_at_call 161;refine(T5 v l x B _ h hl hB).mono ?_;rintro e w1 ⟨v1,rfl,hr1,hb1⟩))
  go_ret2
  exact⟨v1,rfl,fun _=>hr1,hb1⟩
set_option maxHeartbeats 800000 in
theorem fA (s:ByteArray) (w:World) (hs:s.size<=16384) :
  Calls Tryz.prog 158 #[.string s,.func (.func 187) #[] #[]] w fun e w'=>e=.returned (Be (Al AR 0 s.data.toList []))/\Qb w w':=by
 have hmk:=fun W=>Lc s.size (by omega) W
 go_enter Tryz.func158,Tryz.ntmps158
 go_wp2_with fail
 clear hmk
 go_loopw [6,7,8,9,10,11,20] (fun v m _ _ _ _ i wr=>∃k j:Nat,∃l,k<=s.size/\k<=j/\j<=s.size/\m=.int .i64 j/\i=.int .i64 k/\AW wr w.heap.size v l/\l.length<=3*k/\Hid (Al AR 0 s.data.toList []=Al AR (j - k) (s.data.toList.drop k) l)/\Qb w wr) (fun _ _ _ _ _ _ i _=>s.size - (intOf i).toNat)
 case atStart=>exact⟨0,0,[],ze _,zd _,ze _,rfl,rfl,JD w _ 0 _ (zd _) (ze _) (by omega),ze _,za rfl,(Qb.refl w).alloc _⟩
 case round=>
  obtain⟨k,j,l,hk,hkj,hj,rfl,rfl,hrow,hlen,HR,hq⟩:=hrel
  by_cases hlt:k<s.size
  ·by_cases hskip:k<j
   ·have HS:=za (QZ AR s k l j hlt hskip)
    go_wp2_with fail
    go_roundw
    case rel=>exact⟨k+1,j,l,by omega,by omega,hj,rfl,by go_num,hrow,by omega,za (HR.out.trans HS.out),hq⟩
    case measure=>simp[intOf];omega
   ·obtain rfl:k=j:=by omega
    rw[x8] at HR;have hB:w.heap.size<=wr.heap.size:=hq.size
    by_cases hc:s[k]=37
    ·have h37:((s[k].toNat:Int)==37)=true:=by rw[hc];rfl
     have HC:=za hc;clear hc;rcases he:Bm (s.data.toList.drop k) with _|_
     ·have HE:=za (KB AR s k l hlt HC.out he)
      go_wp2_with (go_at_call 193;refine(LF s k (by omega) (by unfold maxLen;omega) _).mono ?_;rintro e w' ⟨rfl,rfl⟩)
      go_ret2
      exact⟨by rw[HR.out,HE.out];rfl,hq⟩
     ·obtain⟨h2,ha,hb,hv2⟩:=Rq s k he;have n1:=(Dx ha).2;rw[<-(Dx ha).1] at n1;have n2:=(Dx hb).2;rw[<-(Dx hb).1] at n2;have hor:bits .or .u8 (((hv s[k+1]).toNat:Int)*16) ((hv s[k+2]).toNat:Int)=((AZ (s.data.toList.drop k)).toNat:Int):=by
       rw[hv2,<-Pe ⟨_,n1⟩ ⟨_,n2⟩];rfl
      have HV:=za hor;have HE0:=za he;clear hv2 hor;have q1:IntKind.i64.wrap ((k:Int)+1)=(k:Int)+1:=IntWalk.i64_in _ (by omega);have q2:(0:Int)<=(k:Int)+1:=by omega
      have q3:((k:Int)+1).toNat=k+1:=by omega
      have q4:(k:Int)+1<s.size:=by omega
      have q5:IntKind.i64.wrap ((k:Int)+2)=(k:Int)+2:=IntWalk.i64_in _ (by omega);have q6:(0:Int)<=(k:Int)+2:=by omega
      have q7:((k:Int)+2).toNat=k+2:=by omega
      have q8:(k:Int)+2<s.size:=by omega
      go_wp2_with (go_at_call 193;refine(LF s k (by omega) (by unfold maxLen;omega) _).mono ?_;rintro e w' ⟨rfl,rfl⟩)
      go_quiet ((go_at_call 194;exact JL (Sm _ (by assumption) _)))
      clear he
      go_wp2_with fail
      rw[HV.out];refine(SB _ l (AZ (s.data.toList.drop k)) true w.heap.size _ (by exact hrow) (by omega) (by exact hB)).mono ?_;rintro en w2 ⟨v2,rfl,hr2,hb2⟩;have hq2:Qb w w2:=Below.trans (hq.drewN _) hb2;have hl2:=QF (l:=l) (x:=AZ (s.data.toList.drop k)) (e:=true)
      by_cases h0:(AR l (AZ (s.data.toList.drop k)) true).1=0
      ·have hr3:=hr2 h0;have HE:=za (Jl AR s k l hlt HC.out HE0.out h0);clear hr2;generalize hout:(AR l (AZ (s.data.toList.drop k)) true).2=l2 at *;have HO:=za hout;clear hout
       go_wp2_with fail
       go_roundw
       case rel=>exact⟨k+1,k+3,l2,by omega,by omega,by omega,by go_num,by go_num,hr3,by omega,za (HR.out.trans HE.out),hq2⟩
       case measure=>simp[intOf];omega
      ·have HE:=za (S2 AR s k l hlt HC.out HE0.out h0);have h1:(((AR l (AZ (s.data.toList.drop k)) true).1) != 0)=true:=bne_iff_ne.2 h0;clear h0 hr2
       go_wp2_with fail
       go_ret2
       exact⟨by rw[HR.out,HE.out];rfl,hq2⟩
    ·have h37:((s[k].toNat:Int)==37)=false:=by
      rw[beq_eq_false_iff_ne];intro e;exact hc (UInt8.toNat_inj.1 (show s[k].toNat=37 from by omega))
     have HC:=za hc;clear hc
     all_goals
      go_wp2_with fail
      refine(SB _ l (s[k]) false w.heap.size _ (by exact hrow) (by omega) (by exact hB)).mono ?_;rintro en w2 ⟨v2,rfl,hr2,hb2⟩;have hq2:Qb w w2:=Below.trans hq hb2;have hl2:=QF (l:=l) (x:=s[k]) (e:=false)
      by_cases h0:(AR l (s[k]) false).1=0
      ·have hr3:=hr2 h0;have HE:=za (KD AR s k l hlt HC.out h0);clear hr2;generalize hout:(AR l (s[k]) false).2=l2 at *;have HO:=za hout;clear hout
       go_wp2_with fail
       go_roundw
       case rel=>exact⟨k+1,k+1,l2,by omega,by omega,by omega,by go_num,by go_num,hr3,by omega,za (HR.out.trans HE.out),hq2⟩
       case measure=>simp[intOf];omega
      ·have HE:=za (N4 AR s k l hlt HC.out h0);have h1:(((AR l (s[k]) false).1) != 0)=true:=bne_iff_ne.2 h0;clear h0 hr2
       go_wp2_with fail
       go_ret2
       exact⟨by rw[HR.out,HE.out];rfl,hq2⟩
  ·have HE:=za (KC AR s k l (j - k) hlt);have hst:=Hi hrow
   go_wp2_with fail
   go_ret2
   exact⟨by rw[HR.out,HE.out];rfl,hq⟩
set_option maxHeartbeats 800000 in
theorem fB (s:ByteArray) (g:Nat) (also:ByteArray) (w:World) (hs:s.size<=16384) (hg:g<w.heap.size) (hc0:w.cell? ⟨g,0,none⟩=some (.string also)) :
  Calls Tryz.prog 158 #[.string s,.func (.func 159) #[] #[.pointer (some ⟨g,0,none⟩)]] w fun e w'=>e=.returned (Be (Al (AQ also.data.toList) 0 s.data.toList []))/\Qb w w':=by
 have hmk:=fun W=>Lc s.size (by omega) W
 go_enter Tryz.func158,Tryz.ntmps158
 go_wp2_with fail
 clear hmk
 go_loopw [6,7,8,9,10,11,20] (fun v m _ _ _ _ i wr=>∃k j:Nat,∃l,k<=s.size/\k<=j/\j<=s.size/\m=.int .i64 j/\i=.int .i64 k/\AW wr w.heap.size v l/\l.length<=3*k/\Hid (Al (AQ also.data.toList) 0 s.data.toList []=Al (AQ also.data.toList) (j - k) (s.data.toList.drop k) l)/\Qb w wr) (fun _ _ _ _ _ _ i _=>s.size - (intOf i).toNat)
 case atStart=>exact⟨0,0,[],ze _,zd _,ze _,rfl,rfl,JD w _ 0 _ (zd _) (ze _) (by omega),ze _,za rfl,(Qb.refl w).alloc _⟩
 case round=>
  obtain⟨k,j,l,hk,hkj,hj,rfl,rfl,hrow,hlen,HR,hq⟩:=hrel
  by_cases hlt:k<s.size
  ·by_cases hskip:k<j
   ·have HS:=za (QZ (AQ also.data.toList) s k l j hlt hskip)
    go_wp2_with fail
    go_roundw
    case rel=>exact⟨k+1,j,l,by omega,by omega,hj,rfl,by go_num,hrow,by omega,za (HR.out.trans HS.out),hq⟩
    case measure=>simp[intOf];omega
   ·obtain rfl:k=j:=by omega
    rw[x8] at HR;have hB:w.heap.size<=wr.heap.size:=hq.size;have hcw:wr.cell? ⟨g,0,none⟩=some (.string also):=(hq.below.cell (p:=⟨g,0,none⟩) hg).trans hc0
    by_cases hc:s[k]=37
    ·have h37:((s[k].toNat:Int)==37)=true:=by rw[hc];rfl
     have HC:=za hc;clear hc;rcases he:Bm (s.data.toList.drop k) with _|_
     ·have HE:=za (KB (AQ also.data.toList) s k l hlt HC.out he)
      go_wp2_with (go_at_call 193;refine(LF s k (by omega) (by unfold maxLen;omega) _).mono ?_;rintro e w' ⟨rfl,rfl⟩)
      go_ret2
      exact⟨by rw[HR.out,HE.out];rfl,hq⟩
     ·obtain⟨h2,ha,hb,hv2⟩:=Rq s k he;have n1:=(Dx ha).2;rw[<-(Dx ha).1] at n1;have n2:=(Dx hb).2;rw[<-(Dx hb).1] at n2;have hor:bits .or .u8 (((hv s[k+1]).toNat:Int)*16) ((hv s[k+2]).toNat:Int)=((AZ (s.data.toList.drop k)).toNat:Int):=by
       rw[hv2,<-Pe ⟨_,n1⟩ ⟨_,n2⟩];rfl
      have HV:=za hor;have HE0:=za he;clear hv2 hor;have q1:IntKind.i64.wrap ((k:Int)+1)=(k:Int)+1:=IntWalk.i64_in _ (by omega);have q2:(0:Int)<=(k:Int)+1:=by omega
      have q3:((k:Int)+1).toNat=k+1:=by omega
      have q4:(k:Int)+1<s.size:=by omega
      have q5:IntKind.i64.wrap ((k:Int)+2)=(k:Int)+2:=IntWalk.i64_in _ (by omega);have q6:(0:Int)<=(k:Int)+2:=by omega
      have q7:((k:Int)+2).toNat=k+2:=by omega
      have q8:(k:Int)+2<s.size:=by omega
      go_wp2_with (go_at_call 193;refine(LF s k (by omega) (by unfold maxLen;omega) _).mono ?_;rintro e w' ⟨rfl,rfl⟩)
      go_quiet ((go_at_call 194;exact JL (Sm _ (by assumption) _)))
      clear he
      go_wp2_with fail
      rw[HV.out];refine(S8 _ l (AZ (s.data.toList.drop k)) true w.heap.size g also _ (by exact hrow) (by omega) (by exact hB) (by exact hcw)).mono ?_;rintro en w2 ⟨v2,rfl,hr2,hb2⟩;have hq2:Qb w w2:=Below.trans (hq.drewN _) hb2;have hl2:=QG (also:=also.data.toList) (l:=l) (x:=AZ (s.data.toList.drop k)) (e:=true)
      by_cases h0:((AQ also.data.toList) l (AZ (s.data.toList.drop k)) true).1=0
      ·have hr3:=hr2 h0;have HE:=za (Jl (AQ also.data.toList) s k l hlt HC.out HE0.out h0);clear hr2;generalize hout:((AQ also.data.toList) l (AZ (s.data.toList.drop k)) true).2=l2 at *;have HO:=za hout;clear hout
       go_wp2_with fail
       go_roundw
       case rel=>exact⟨k+1,k+3,l2,by omega,by omega,by omega,by go_num,by go_num,hr3,by omega,za (HR.out.trans HE.out),hq2⟩
       case measure=>simp[intOf];omega
      ·have HE:=za (S2 (AQ also.data.toList) s k l hlt HC.out HE0.out h0);have h1:((((AQ also.data.toList) l (AZ (s.data.toList.drop k)) true).1) != 0)=true:=bne_iff_ne.2 h0;clear h0 hr2
       go_wp2_with fail
       go_ret2
       exact⟨by rw[HR.out,HE.out];rfl,hq2⟩
    ·have h37:((s[k].toNat:Int)==37)=false:=by
      rw[beq_eq_false_iff_ne];intro e;exact hc (UInt8.toNat_inj.1 (show s[k].toNat=37 from by omega))
     have HC:=za hc;clear hc
     all_goals
      go_wp2_with fail
      refine(S8 _ l (s[k]) false w.heap.size g also _ (by exact hrow) (by omega) (by exact hB) (by exact hcw)).mono ?_;rintro en w2 ⟨v2,rfl,hr2,hb2⟩;have hq2:Qb w w2:=Below.trans hq hb2;have hl2:=QG (also:=also.data.toList) (l:=l) (x:=s[k]) (e:=false)
      by_cases h0:((AQ also.data.toList) l (s[k]) false).1=0
      ·have hr3:=hr2 h0;have HE:=za (KD (AQ also.data.toList) s k l hlt HC.out h0);clear hr2;generalize hout:((AQ also.data.toList) l (s[k]) false).2=l2 at *;have HO:=za hout;clear hout
       go_wp2_with fail
       go_roundw
       case rel=>exact⟨k+1,k+1,l2,by omega,by omega,by omega,by go_num,by go_num,hr3,by omega,za (HR.out.trans HE.out),hq2⟩
       case measure=>simp[intOf];omega
      ·have HE:=za (N4 (AQ also.data.toList) s k l hlt HC.out h0);have h1:((((AQ also.data.toList) l (s[k]) false).1) != 0)=true:=bne_iff_ne.2 h0;clear h0 hr2
       go_wp2_with fail
       go_ret2
       exact⟨by rw[HR.out,HE.out];rfl,hq2⟩
  ·have HE:=za (KC (AQ also.data.toList) s k l (j - k) hlt);have hst:=Hi hrow
   go_wp2_with fail
   go_ret2
   exact⟨by rw[HR.out,HE.out];rfl,hq⟩
theorem Tw (s:ByteArray) (f:Value) (w:World) (hs:¬s.size<=16384) :
  Calls Tryz.prog 158 #[.string s,f] w fun e w'=>e=.returned (Be (5,[]))/\w=w':=by
 go_enter Tryz.func158,Tryz.ntmps158
 go_wp2_with fail
 go_ret2
 exact⟨rfl,rfl⟩
theorem Ta (s:ByteArray) (w:World) :
  Calls Tryz.prog 153 #[.string s] w fun e w'=>e=.returned (Be (An s.data.toList))/\Qb w w':=by
 have hmf:∀(fn:Fn) (first cap:Array Value) (w:World),(Instr.makeFunc fn first cap).run Tryz.prog w=.ok (.func fn first cap) w:=fun _ _ _ _=>rfl
 by_cases hs:s.size<=16384
 ·have hd:An s.data.toList=Al AR 0 s.data.toList []:=by unfold An BU;rw[if_neg (by rw[As];omega)]
  rw[hd]
  go_enter Tryz.func153,Tryz.ntmps153
  go_wp2_with fail
  refine(fA s _ hs).mono ?_;rintro e w1 ⟨rfl,hq1⟩;unfold Be
  go_wp2_with fail
  go_ret2
  exact⟨rfl,hq1⟩
 ·have hd:An s.data.toList=(5,[]):=by unfold An BU;rw[if_pos (by rw[As];omega)]
  rw[hd]
  go_enter Tryz.func153,Tryz.ntmps153
  go_wp2_with fail
  refine(Tw s _ _ hs).mono ?_;rintro e w1 ⟨rfl,rfl⟩;unfold Be
  go_wp2_with fail
  go_ret2
  exact⟨rfl,Qb.refl _⟩
theorem It (s a:ByteArray) (w:World) :
  Calls Tryz.prog 136 #[.string s,.string a] w fun e w'=>e=.returned (Be (Aj s.data.toList a.data.toList))/\Qb w w':=by
 have hmf:∀(fn:Fn) (first cap:Array Value) (w:World),(Instr.makeFunc fn first cap).run Tryz.prog w=.ok (.func fn first cap) w:=fun _ _ _ _=>rfl
 by_cases hs:s.size<=16384
 ·have hd:Aj s.data.toList a.data.toList=Al (AQ a.data.toList) 0 s.data.toList []:=by unfold Aj BU;rw[if_neg (by rw[As];omega)]
  rw[hd]
  go_enter Tryz.func136,Tryz.ntmps136
  go_wp2_with fail
  refine(fB s w.heap.size a _ hs (by simp) (by rw[World.cell?_alloc_at _ _ _ _ rfl];rfl)).mono ?_;rintro e w1 ⟨rfl,hq1⟩;unfold Be
  go_wp2_with fail
  go_ret2
  exact⟨rfl,((Qb.refl w).alloc _).trans hq1⟩
 ·have hd:Aj s.data.toList a.data.toList=(5,[]):=by unfold Aj BU;rw[if_pos (by rw[As];omega)]
  rw[hd]
  go_enter Tryz.func136,Tryz.ntmps136
  go_wp2_with fail
  refine(Tw s _ _ hs).mono ?_;rintro e w1 ⟨rfl,rfl⟩;unfold Be
  go_wp2_with fail
  go_ret2
  exact⟨rfl,(Qb.refl w).alloc _⟩
theorem Rp (s keep:ByteArray) (k:Nat) (h:k<s.size):AI (s.data.toList.take (k+1)) keep.data.toList=AI (s.data.toList.take k) keep.data.toList++(if Bo s[k] keep.data.toList=true then [s[k]] else Bd s[k]):=by
 rw[F8 s k h];simp[AI]
theorem Im (c:UInt8):(Bd c).length=3:=rfl
theorem Hq (l keep:List UInt8):(AI l keep).length<=3*l.length:=by
 unfold AI
 induction l with
 | nil=>simp
 | cons c l ih=>
  rw[qp,zf,zj]
  split<;>simp only[Im,zj,List.length_nil]<;>omega
theorem Tb (s keep:ByteArray) (w:World) (hs:s.size<=300000000) :
  Calls Tryz.prog 141 #[.string s,.string keep] w fun e w'=>e=.returned (.string (S (AI s.data.toList keep.data.toList)))/\Qb w w':=by
 have hmk:=fun W=>Lc s.size (by omega) W
 go_enter Tryz.func141,Tryz.ntmps141
 go_wp2_with fail
 clear hmk
 go_loopw [5,6,12] (fun v _ i wr=>∃k:Nat,∃l,k<=s.size/\i=.int .i64 k/\AW wr w.heap.size v l/\l.length<=3*k/\Hid (l=AI (s.data.toList.take k) keep.data.toList)/\Qb w wr) (fun _ _ i _=>s.size - (intOf i).toNat)
 case atStart=>exact⟨0,[],ze _,rfl,JD w _ 0 _ (zd _) (ze _) (by omega),ze _,za rfl,(Qb.refl w).alloc _⟩
 case round=>
  obtain⟨k,l,hk,rfl,hrow,hlen,HL,hq⟩:=hrel;have hB:w.heap.size<=wr.heap.size:=hq.size
  by_cases hlt:k<s.size
  ·have HS:=za (Rp s keep k hlt);rcases hp:Bo s[k] keep.data.toList with _|_
   ·go_wp2_with (first|(go_at_call 162;refine(IH _ _ _).mono ?_;rintro e w' ⟨rfl,rfl⟩)|(go_at_call 161;refine(T5 _ l s[k] w.heap.size _ hrow (by omega) hB).mono ?_;rintro e w1 ⟨v1,rfl,hr1,hb1⟩))
    go_roundw
    case rel=>exact⟨k+1,_,by omega,by go_num,hr1,by simp[Bd];omega,za (by rw[HS.out,HL.out,hp];rfl),Below.trans hq hb1⟩
    case measure=>simp[intOf];omega
   ·go_wp2_with (first|(go_at_call 162;refine(IH _ _ _).mono ?_;rintro e w' ⟨rfl,rfl⟩)|(at_builtin;refine Gb rfl (.tmp 20) (.tmp 24) rfl w.heap.size _ l [s[k]] rfl (hrow.alloc _) _ _ _ rfl rfl (FT _ _) (by simp;omega) (by simp;omega) ?_;intro v1 w1 hr1 hb1))
    go_roundw
    case rel=>exact⟨k+1,_,by omega,by go_num,hr1,by simp;omega,za (by rw[HS.out,HL.out,hp];rfl),Below.trans (hq.alloc _) hb1⟩
    case measure=>simp[intOf];omega
  ·have HE:=za (D5 s k hlt);have hst:=Hi hrow
   go_wp2_with fail
   go_ret
   exact⟨K2 (by rw[HL.out,HE.out]),hq⟩
theorem DP (add:Ft):∀(n:Nat) (l out:List UInt8),Al add n l out=Al add 0 (l.drop n) out
 | 0,l,out=>rfl
 | n+1,[],out=>by rw[List.drop_nil,Al,Al]
 | n+1,_::l,out=>by rw[Al,List.drop_succ_cons];exact DP add n l out
theorem Mi (add:Ft) (s:ByteArray) (k j:Nat) (h:k<=j) (out:List UInt8):Al add (j - k) (s.data.toList.drop k) out=Al add 0 (s.data.toList.drop j) out:=by
 rw[DP,List.drop_drop,show k+(j - k)=j from by omega]
theorem II (s:ByteArray) (w:World) :
  Calls Tryz.prog 71 #[.string s] w fun e w'=>e=.returned (Be (An s.data.toList))/\Qb w w':=by
 by_cases hs:s.size<=16384
 ·have hd:An s.data.toList=Al AR 0 s.data.toList []:=by unfold An BU;rw[if_neg (by rw[As];omega)]
  rw[hd]
  go_enter Tryz.func71,Tryz.ntmps71
  go_wp2_with fail
  go_loopw [4,5,6,7,8] (fun v i _ _ _ wr=>∃k:Nat,∃l,k<=s.size/\i=.int .i64 k/\AW wr w.heap.size v l/\l.length<=k/\Hid (Al AR 0 s.data.toList []=Al AR 0 (s.data.toList.drop k) l)/\Qb w wr) (fun _ i _ _ _ _=>s.size - (intOf i).toNat)
  case atStart=>exact⟨0,[],ze _,rfl,AW.nil _ _,zd _,za rfl,Qb.refl w⟩
  case round=>
   obtain⟨k,l,hk,rfl,hrow,hlen,HR,hq⟩:=hrel;have hB:w.heap.size<=wr.heap.size:=hq.size
   by_cases hlt:k<s.size
   ·by_cases hc:s[k]=37
    ·have h37:((s[k].toNat:Int)==37)=true:=by rw[hc];rfl
     have HC:=za hc;clear hc;rcases he:Bm (s.data.toList.drop k) with _|_
     ·have HE:=za (KB AR s k l hlt HC.out he)
      go_wp2_with (go_at_call 90;refine(JR s k hlt (by omega) HC.out _).mono ?_;rintro e w1 ⟨rfl,hq1⟩)
      go_ret2
      exact⟨by rw[HR.out,HE.out];rfl,hq.trans hq1⟩
     ·have HE:=za (Jl AR s k l hlt HC.out he rfl);have HJ:=za (Mi AR s (k+1) (k+3) (by omega) (l++[Et (s.data.toList.drop k)]));have HV:=za (Nb he);have h2:=NB s k he
      go_wp2_with (first|(go_at_call 90;refine(JR s k hlt (by omega) HC.out _).mono ?_;rintro e w0 ⟨rfl,hq1⟩;have hrow0:=hrow.below hq1)|(at_builtin;refine Gb rfl (.tmp 34) (.tmp 36) rfl w.heap.size _ l [Et (s.data.toList.drop k)] rfl (hrow0.alloc _) _ _ _ rfl rfl (FT _ _) (by simp;omega) (by have:=hq1.size;simp;omega) ?_;intro v1 w1 hr1 hb1))
      go_roundw
      case rel=>exact⟨k+3,_,by omega,by go_num,hr1,by simp;omega,za (by rw[HR.out,HE.out,<-HJ.out,HV.out];rfl),Below.trans ((hq.trans hq1).alloc _) hb1⟩
      case measure=>simp[intOf];omega
    ·have h37:((s[k].toNat:Int)==37)=false:=by
      rw[beq_eq_false_iff_ne];intro e;exact hc (UInt8.toNat_inj.1 (show s[k].toNat=37 from by omega))
     have HC:=za hc;clear hc;have HE:=za (KD AR s k l hlt HC.out rfl)
     go_wp2_with (at_builtin;refine Gb rfl (.tmp 34) (.tmp 36) rfl w.heap.size _ l [s[k]] rfl (hrow.alloc _) _ _ _ rfl rfl (FT _ _) (by simp;omega) (by simp;omega) ?_;intro v1 w1 hr1 hb1)
     go_roundw
     case rel=>exact⟨k+1,_,by omega,by go_num,hr1,by simp;omega,za (by rw[HR.out,HE.out,x8];rfl),Below.trans (hq.alloc _) hb1⟩
     case measure=>simp[intOf];omega
   ·have HE:=za (KC AR s k l 0 hlt);have hst:=Hi hrow
    go_wp2_with fail
    go_ret2
    exact⟨by rw[HR.out,HE.out];rfl,hq⟩
 ·have hd:An s.data.toList=(5,[]):=by unfold An BU;rw[if_pos (by rw[As];omega)]
  rw[hd]
  go_enter Tryz.func71,Tryz.ntmps71
  go_wp2_with fail
  go_ret2
  exact⟨rfl,Qb.refl _⟩
theorem UW {c:UInt8} (h:c≠37):((c.toNat:Int)==37)=false:=by
 rw[beq_eq_false_iff_ne];intro e;exact h (UInt8.toNat_inj.1 (show c.toNat=37 from by omega))
theorem Zi (s:ByteArray) (k:Nat) (h:k<s.size):(s.extract k (k+1)).data.toList=[s[k]]:=by
 rw[Lib.extract_data,C2 s k h,show k+1 - k=1 from by omega];rfl
theorem QM (a b:ByteArray):(a++b).data.toList=a.data.toList++b.data.toList:=by
 rw[ByteArray.data_append,Array.toList_append]
theorem EW {c:UInt8} {l:List UInt8} (h:A4 c=true):Bo c l=true:=by unfold Bo;rw[h];rfl
theorem RW {l:List UInt8}:Bo 37 l=false:=by unfold Bo;rfl
theorem Np {c:UInt8} {l:List UInt8} (h:A4 c=false) (hc:c≠37):Bo c l=Aw c l:=by
 have h1:(c.toNat != 37)=true:=bne_iff_ne.2 (fun e=>hc (UInt8.toNat_inj.1 e));unfold Bo;rw[h,h1];rfl
theorem qN:A4 37=false:=by decide
theorem SZ (s keep:ByteArray) (w:World) (hs:s.size<=300000000) (ha:keep.size<=maxLen) :
  Calls Tryz.prog 74 #[.string s,.string keep] w fun e w'=>e=.returned (.string (S (AI s.data.toList keep.data.toList)))/\Qb w w':=by
 go_enter Tryz.func74,Tryz.ntmps74
 go_wp2_with fail
 go_loopw [5,6] (fun v i wr=>∃k:Nat,∃o:ByteArray,k<=s.size/\i=.int .i64 k/\v=.string o/\o.size<=3*k/\Hid (o.data.toList=AI (s.data.toList.take k) keep.data.toList)/\Qb w wr) (fun _ i _=>s.size - (intOf i).toNat)
 case atStart=>exact⟨0,⟨#[]⟩,ze _,rfl,rfl,ze _,za rfl,Qb.refl w⟩
 case round=>
  obtain⟨k,o,hk,rfl,rfl,hlen,HL,hq⟩:=hrel
  by_cases hlt:k<s.size
  ·have HS:=za (Rp s keep k hlt);have hx:=size_extract s k (k+1) (by omega);have hx1:(s.extract k (k+1)).size<=1:=by omega
   have hx2:(S (Bd s[k])).size<=3:=by rw[Am];exact zd _
   clear hx;have HO:=za (Zi s k hlt);have hyes:Hid (Bo s[k] keep.data.toList=true->(o++s.extract k (k+1)).data.toList=AI (s.data.toList.take (k+1)) keep.data.toList):=za fun hp=>by
    rw[QM,HO.out,HS.out,if_pos hp,HL.out]
   have hno:Hid (Bo s[k] keep.data.toList=false->(o++S (Bd s[k])).data.toList=AI (s.data.toList.take (k+1)) keep.data.toList):=za fun hp=>by
    rw[QM,HS.out,if_neg (by rw[hp];exact Bool.false_ne_true),HL.out]
   have hsz:(o++s.extract k (k+1)).size<=3*(k+1):=by rw[ByteArray.size_append];omega
   have hsz2:(o++S (Bd s[k])).size<=3*(k+1):=by rw[ByteArray.size_append];omega
   have Hz:=za (And.intro hsz hsz2);clear hsz hsz2;rcases hu:A4 s[k] with _|_
   ·by_cases hc:s[k]=37
    ·have h37:((s[k].toNat:Int) != 37)=false:=by rw[hc];rfl
     have HP:Hid (Bo s[k] keep.data.toList=false):=za (by rw[hc];exact RW);clear hc
     go_wp2_with (first|(go_at_call 70;refine(ED _ _).mono ?_;rintro e w' ⟨rfl,rfl⟩)|(go_at_call 66;refine(DR _ _ _ ha).mono ?_;rintro e w' ⟨rfl,rfl⟩)|(go_at_call 91;refine(Lw _ _).mono ?_;rintro e w1 ⟨rfl,hq1⟩))
     go_roundw
     case rel=>exact⟨k+1,_,by omega,by go_num,rfl,Hz.out.2,za (hno.out HP.out),hq.trans hq1⟩
     case measure=>simp[intOf];omega
    ·have h37:((s[k].toNat:Int) != 37)=true:=by have:=UW hc;simpa using this
     have HP:=za (Np (l:=keep.data.toList) hu hc);clear hc;rcases hi:Aw s[k] keep.data.toList with _|_
     ·go_wp2_with (first|(go_at_call 70;refine(ED _ _).mono ?_;rintro e w' ⟨rfl,rfl⟩)|(go_at_call 66;refine(DR _ _ _ ha).mono ?_;rintro e w' ⟨rfl,rfl⟩)|(go_at_call 91;refine(Lw _ _).mono ?_;rintro e w1 ⟨rfl,hq1⟩))
      go_roundw
      case rel=>exact⟨k+1,_,by omega,by go_num,rfl,Hz.out.2,za (hno.out (HP.out.trans hi)),hq.trans hq1⟩
      case measure=>simp[intOf];omega
     ·go_wp2_with (first|(go_at_call 70;refine(ED _ _).mono ?_;rintro e w' ⟨rfl,rfl⟩)|(go_at_call 66;refine(DR _ _ _ ha).mono ?_;rintro e w' ⟨rfl,rfl⟩))
      go_roundw
      case rel=>exact⟨k+1,_,by omega,by go_num,rfl,Hz.out.1,za (hyes.out (HP.out.trans hi)),hq⟩
      case measure=>simp[intOf];omega
   ·have HP:=za (EW (l:=keep.data.toList) hu)
    go_wp2_with (first|(go_at_call 70;refine(ED _ _).mono ?_;rintro e w' ⟨rfl,rfl⟩)|(go_at_call 66;refine(DR _ _ _ ha).mono ?_;rintro e w' ⟨rfl,rfl⟩))
    go_roundw
    case rel=>exact⟨k+1,_,by omega,by go_num,rfl,Hz.out.1,za (hyes.out HP.out),hq⟩
    case measure=>simp[intOf];omega
  ·have HE:=za (D5 s k hlt)
   go_wp2_with fail
   go_ret
   exact⟨GB (J1 (by rw[HL.out,HE.out])),hq⟩
set_option maxHeartbeats 800000 in
theorem Iv (s also:ByteArray) (w:World) (ha:also.size<=maxLen) :
  Calls Tryz.prog 68 #[.string s,.string also] w fun e w'=>e=.returned (Be (Aj s.data.toList also.data.toList))/\Qb w w':=by
 by_cases hs:s.size<=16384
 ·have hd:Aj s.data.toList also.data.toList=Al (AQ also.data.toList) 0 s.data.toList []:=by unfold Aj BU;rw[if_neg (by rw[As];omega)]
  rw[hd]
  go_enter Tryz.func68,Tryz.ntmps68
  go_wp2_with fail
  go_loopw [6,7,8,9] (fun v i _ _ wr=>∃k:Nat,∃l,k<=s.size/\i=.int .i64 k/\AW wr w.heap.size v l/\l.length<=3*k/\Hid (Al (AQ also.data.toList) 0 s.data.toList []=Al (AQ also.data.toList) 0 (s.data.toList.drop k) l)/\Qb w wr) (fun _ i _ _ _=>s.size - (intOf i).toNat)
  case atStart=>exact⟨0,[],ze _,rfl,AW.nil _ _,ze _,za rfl,Qb.refl w⟩
  case round=>
   obtain⟨k,l,hk,rfl,hrow,hlen,HR,hq⟩:=hrel;have hB:w.heap.size<=wr.heap.size:=hq.size
   by_cases hlt:k<s.size
   ·by_cases hc:s[k]=37
    ·have h37:((s[k].toNat:Int) != 37)=false:=by rw[hc];rfl
     have HC:=za hc;clear hc;rcases he:Bm (s.data.toList.drop k) with _|_
     ·have HE:=za (KB (AQ also.data.toList) s k l hlt HC.out he)
      go_wp2_with (go_at_call 90;refine(JR s k hlt (by omega) HC.out _).mono ?_;rintro e w0 ⟨rfl,hq1⟩;have hrow0:=hrow.below hq1)
      go_ret2
      exact⟨by rw[HR.out,HE.out];rfl,hq.trans hq1⟩
     ·have HV:=za (Nb he);have HE0:=za he;have h2:=NB s k he;rcases hu:A4 (Et (s.data.toList.drop k)) with _|_
      ·have ha1:AQ also.data.toList l (AZ (s.data.toList.drop k)) true=(0,l++Bd (Et (s.data.toList.drop k))):=by rw[<-HV.out];exact Fz hu
       have HE:=za (Jl (AQ also.data.toList) s k l hlt HC.out he (by rw[ha1]));have HJ:=za (Mi (AQ also.data.toList) s (k+1) (k+3) (by omega) (l++Bd (Et (s.data.toList.drop k))));have HA:=za ha1;have hsz:(S (Bd (Et (s.data.toList.drop k)))).size<=3:=by rw[Am];exact zd _
       clear ha1
       go_wp2_with (first|(go_at_call 90;refine(JR s k hlt (by omega) HC.out _).mono ?_;rintro e w0 ⟨rfl,hq1⟩;have hrow0:=hrow.below hq1)|(go_at_call 70;refine(ED _ _).mono ?_;rintro e w' ⟨rfl,rfl⟩)|(go_at_call 91;refine(Lw _ _).mono ?_;rintro e w3 ⟨rfl,hq3⟩;have hrow3:=hrow0.below hq3)|(at_builtin;refine jE rfl (.tmp 56) (.tmp 58) rfl w.heap.size _ l rfl hrow3 _ rfl (by omega) (by have:=hq1.size;have:=hq3.size;omega) ?_;intro v1 w1 hr1 hb1))
       go_roundw
       case rel=>exact⟨k+3,_,by omega,by go_num,hr1,by simp[Bd];omega,za (by rw[HR.out,HE.out,HA.out,<-HJ.out]),Below.trans ((hq.trans hq1).trans hq3) hb1⟩
       case measure=>simp[intOf];omega
      ·have ha1:AQ also.data.toList l (AZ (s.data.toList.drop k)) true=(0,l++[Et (s.data.toList.drop k)]):=by
        rw[<-HV.out];exact DD (by rw[hu];rfl) (EW hu)
       have HE:=za (Jl (AQ also.data.toList) s k l hlt HC.out he (by rw[ha1]));have HJ:=za (Mi (AQ also.data.toList) s (k+1) (k+3) (by omega) (l++[Et (s.data.toList.drop k)]));have HA:=za ha1;clear ha1
       go_wp2_with (first|(go_at_call 90;refine(JR s k hlt (by omega) HC.out _).mono ?_;rintro e w0 ⟨rfl,hq1⟩;have hrow0:=hrow.below hq1)|(go_at_call 70;refine(ED _ _).mono ?_;rintro e w' ⟨rfl,rfl⟩)|(at_builtin;refine Gb rfl (.tmp 52) (.tmp 54) rfl w.heap.size _ l [Et (s.data.toList.drop k)] rfl (hrow0.alloc _) _ _ _ rfl rfl (FT _ _) (by simp;omega) (by have:=hq1.size;simp;omega) ?_;intro v1 w1 hr1 hb1))
       go_roundw
       case rel=>exact⟨k+3,_,by omega,by go_num,hr1,by simp;omega,za (by rw[HR.out,HE.out,HA.out,<-HJ.out]),Below.trans ((hq.trans hq1).alloc _) hb1⟩
       case measure=>simp[intOf];omega
    ·have h37:((s[k].toNat:Int) != 37)=true:=by have:=UW hc;simpa using this
     have HC:=za hc;clear hc;rcases hp:Bo s[k] also.data.toList with _|_
     ·have hu:A4 s[k]=false:=by
       rcases hu:A4 s[k] with _|_
       ·rfl
       ·rw[EW hu] at hp;cases hp
      have hi:Aw s[k] also.data.toList=false:=by rw[<-Np hu HC.out];exact hp
      have ha1:AQ also.data.toList l s[k] false=(1,[]):=Js rfl hp;have HE:=za (N4 (AQ also.data.toList) s k l hlt HC.out (by rw[ha1];decide));have HA:=za ha1;clear ha1 hp
      go_wp2_with (first|(go_at_call 70;refine(ED _ _).mono ?_;rintro e w' ⟨rfl,rfl⟩)|(go_at_call 66;refine(DR _ _ _ ha).mono ?_;rintro e w' ⟨rfl,rfl⟩))
      go_ret2
      exact⟨by rw[HR.out,HE.out,HA.out];rfl,hq⟩
     ·have ha1:AQ also.data.toList l s[k] false=(0,l++[s[k]]):=DD rfl hp;have HE:=za (KD (AQ also.data.toList) s k l hlt HC.out (by rw[ha1]));have HA:=za ha1;clear ha1;rcases hu:A4 s[k] with _|_
      ·have hi:Aw s[k] also.data.toList=true:=by rw[<-Np hu HC.out];exact hp
       clear hp
       go_wp2_with (first|(go_at_call 70;refine(ED _ _).mono ?_;rintro e w' ⟨rfl,rfl⟩)|(go_at_call 66;refine(DR _ _ _ ha).mono ?_;rintro e w' ⟨rfl,rfl⟩)|(at_builtin;refine Gb rfl (.tmp 36) (.tmp 40) rfl w.heap.size _ l [s[k]] rfl (hrow.alloc _) _ _ _ rfl rfl (FT _ _) (by simp;omega) (by simp;omega) ?_;intro v1 w1 hr1 hb1))
       go_roundw
       case rel=>exact⟨k+1,_,by omega,by go_num,hr1,by simp;omega,za (by rw[HR.out,HE.out,HA.out,x8]),Below.trans (hq.alloc _) hb1⟩
       case measure=>simp[intOf];omega
      ·clear hp
       go_wp2_with (first|(go_at_call 70;refine(ED _ _).mono ?_;rintro e w' ⟨rfl,rfl⟩)|(go_at_call 66;refine(DR _ _ _ ha).mono ?_;rintro e w' ⟨rfl,rfl⟩)|(at_builtin;refine Gb rfl (.tmp 36) (.tmp 40) rfl w.heap.size _ l [s[k]] rfl (hrow.alloc _) _ _ _ rfl rfl (FT _ _) (by simp;omega) (by simp;omega) ?_;intro v1 w1 hr1 hb1))
       go_roundw
       case rel=>exact⟨k+1,_,by omega,by go_num,hr1,by simp;omega,za (by rw[HR.out,HE.out,HA.out,x8]),Below.trans (hq.alloc _) hb1⟩
       case measure=>simp[intOf];omega
   ·have HE:=za (KC (AQ also.data.toList) s k l 0 hlt);have hst:=Hi hrow
    go_wp2_with fail
    go_ret2
    exact⟨by rw[HR.out,HE.out];rfl,hq⟩
 ·have hd:Aj s.data.toList also.data.toList=(5,[]):=by unfold Aj BU;rw[if_pos (by rw[As];omega)]
  rw[hd]
  go_enter Tryz.func68,Tryz.ntmps68
  go_wp2_with fail
  go_ret2
  exact⟨rfl,Qb.refl _⟩
theorem Se:∀n:Fin 16,Bj (Bk n.val)=true/\D7 (Bk n.val)=n.val/\Bk n.val≠37:=by decide
theorem Mt (c:UInt8) (r:List UInt8):Bm (Bd c++r)=true/\AZ (Bd c++r)=c:=by
 have hc:=c.toNat_lt;have h1:=Se ⟨c.toNat / 16,by omega⟩;have h2:=Se ⟨c.toNat % 16,by omega⟩;simp only at h1 h2
 constructor
 ·show (Bj (Bk (c.toNat / 16))&&Bj (Bk (c.toNat % 16)))=true;rw[h1.1,h2.1];rfl
 ·show UInt8.ofNat (16*D7 (Bk (c.toNat / 16))+D7 (Bk (c.toNat % 16)))=c;rw[h1.2.1,h2.2.1,show 16*(c.toNat / 16)+c.toNat % 16=c.toNat from by omega];exact UInt8.ofNat_toNat
theorem Jr (add:Ft) (c:UInt8) (r out:List UInt8) (o2:List UInt8) (h:add out c true=(0,o2)):Al add 0 (Bd c++r) out=Al add 0 r o2:=by
 have h1:=Mt c r;show Al add 0 (37::([Bk (c.toNat / 16),Bk (c.toNat % 16)]++r)) out=_;have e:(37::([Bk (c.toNat / 16),Bk (c.toNat % 16)]++r):List UInt8)=Bd c++r:=rfl;rw[Al,if_pos rfl,e,if_pos h1.1,h1.2,h,if_pos rfl,DP]
 rfl
theorem Ix (add:Ft) (c:UInt8) (r out:List UInt8) (o2:List UInt8) (hc:c≠37) (h:add out c false=(0,o2)):Al add 0 ([c]++r) out=Al add 0 r o2:=by
 show Al add 0 (c::r) out=_;rw[Al,if_neg hc,h,if_pos rfl]
theorem RX {c:UInt8} {k:List UInt8} (h:Bo c k=true):c≠37:=by
 rintro rfl;rw[RW] at h;cases h
theorem Mz (add:Ft) (f:UInt8->List UInt8) (keep:List UInt8) (h1:∀out c,Bo c keep=true->add out c false=(0,out++f c)) (h2:∀out c,Bo c keep=false->add out c true=(0,out++f c)) :
  ∀(l r out:List UInt8),Al add 0 (AI l keep++r) out=Al add 0 r (out++l.flatMap f)
 | [],r,out=>by simp[AI]
 | c::l,r,out=>by
  have e:AI (c::l) keep=(if Bo c keep=true then [c] else Bd c)++AI l keep:=rfl;rw[e,zr,qp];rcases hp:Bo c keep with _|_
  ·rw[if_neg Bool.false_ne_true,Jr add c _ out _ (h2 out c hp),Mz add f keep h1 h2 l r _,zr]
  ·rw[if_pos rfl,Ix add c _ out _ (RX hp) (h1 out c hp),Mz add f keep h1 h2 l r _,zr]
theorem dP (l:List UInt8):l.flatMap (fun c=>[c])=l:=by simp
theorem Vn (l keep:List UInt8) (hl:l.length<=1000):An (AI l keep)=(0,l):=by
 have hlen:=Hq l keep;unfold An BU;rw[if_neg (by omega),<-qf (AI l keep),Mz AR (fun c=>[c]) keep (fun _ _ _=>rfl) (fun _ _ _=>rfl),dP]
 rfl
theorem Hw (c:UInt8):Bo c []=A4 c:=by unfold Bo;rw[Qz,Bool.and_false,Bool.or_false]
def mP (also l y a:List UInt8):Prop :=
 (∀o r,Al (AQ also) 0 (y++r) o=Al (AQ also) 0 r (o++y))/\(∀o,Al AR 0 l o=(0,o++a))/\(∀o r,Al AR 0 (y++r) o=Al AR 0 r (o++a))/\y.length<=l.length
theorem Fj {c:UInt8} {t:List UInt8} (h:Bm (c::t)=true):∃a b r,t=a::b::r:=by
 match t,h with
 | a::b::r,_=>exact⟨a,b,r,rfl⟩
theorem Sh {x:UInt8} (h:A4 x=true):x≠37:=by
 rintro rfl;rw[qN] at h;cases h
theorem RU (also:List UInt8):∀(n:Nat) (l out x:List UInt8),l.length<=n->Al (AQ also) 0 l out=(0,x)->∃y a,x=out++y/\mP also l y a:=by
 intro n
 induction n with
 | zero=>
  intro l out x hl h;have:l=[]:=qd (by omega);subst this;rw[Al] at h;obtain rfl:out=x:=by injection h
  exact⟨[],[],by simp,by simp,by intro o;rw[Al,qf],by simp,zd _⟩
 | succ n ih=>
  intro l out x hl h
  cases l with
  | nil=>
   rw[Al] at h;obtain rfl:out=x:=by injection h
   exact⟨[],[],by simp,by simp,by intro o;rw[Al,qf],by simp,zd _⟩
  | cons c t=>
   by_cases hc:c=37
   ·rcases he:Bm (c::t) with _|_
    ·rw[Al,if_pos hc,if_neg (by rw[he];exact Bool.false_ne_true)] at h;injection h with h1 _
     exact absurd h1 (by decide)
    ·obtain⟨a,b,r,rfl⟩:=Fj he;have hd:∀o,Al AR 0 (c::a::b::r) o=Al AR 0 r (o++[AZ (c::a::b::r)]):=by
      intro o;rw[Al,if_pos hc,if_pos he];show (if (0:Int)=0 then Al AR 2 (a::b::r) _ else _)=_;rw[if_pos rfl,DP]
      rfl
     rcases hu:A4 (AZ (c::a::b::r)) with _|_
     ·rw[Al,if_pos hc,if_pos he,Fz hu,if_pos rfl,DP] at h;obtain⟨y,m,rfl,h1,h2,h3,h4⟩:=ih r _ x (by simp at hl ⊢;omega) h;refine⟨Bd (AZ (c::a::b::r))++y,AZ (c::a::b::r)::m,by simp,?_,?_,?_,?_⟩
      ·intro o r';rw[zr,Jr _ _ _ _ _ (Fz hu),h1,zr]
      ·intro o;rw[hd,h2,zr];rfl
      ·intro o r';rw[zr,Jr AR _ _ _ _ rfl,h3,zr];rfl
      ·rw[zf,Im];simp;omega
     ·rw[Al,if_pos hc,if_pos he,DD (by rw[hu];rfl) (EW hu),if_pos rfl,DP] at h;obtain⟨y,m,rfl,h1,h2,h3,h4⟩:=ih r _ x (by simp at hl ⊢;omega) h;refine⟨[AZ (c::a::b::r)]++y,AZ (c::a::b::r)::m,by simp,?_,?_,?_,?_⟩
      ·intro o r';rw[zr,Ix _ _ _ _ _ (Sh hu) (DD rfl (EW hu)),h1,zr]
      ·intro o;rw[hd,h2,zr];rfl
      ·intro o r';rw[zr,Ix AR _ _ _ _ (Sh hu) rfl,h3,zr];rfl
      ·simp;omega
   ·rcases hp:Bo c also with _|_
    ·rw[Al,if_neg hc,Js rfl hp,if_neg (by decide)] at h;injection h with h1 _
     exact absurd h1 (by decide)
    ·rw[Al,if_neg hc,DD rfl hp,if_pos rfl] at h;obtain⟨y,m,rfl,h1,h2,h3,h4⟩:=ih t _ x (by simp at hl;omega) h;refine⟨[c]++y,c::m,by simp,?_,?_,?_,?_⟩
     ·intro o r';rw[zr,Ix _ _ _ _ _ hc (DD rfl hp),h1,zr]
     ·intro o;rw[Al,if_neg hc];show (if (0:Int)=0 then Al AR 0 t _ else _)=_;rw[if_pos rfl,h2];show (0,(o++[c])++m)=_;rw[zr];rfl
     ·intro o r';rw[zr,Ix AR _ _ _ _ hc rfl,h3,zr];rfl
     ·simp;omega
theorem EC (l also x:List UInt8) (h:Aj l also=(0,x)):Aj x also=(0,x)/\(∃a,An l=(0,a)/\An x=(0,a))/\x.length<=l.length:=by
 unfold Aj BU at h
 by_cases hlen:16384<l.length
 ·rw[if_pos hlen] at h;injection h with h1 _
  exact absurd h1 (by decide)
 ·rw[if_neg hlen] at h;obtain⟨y,a,rfl,h1,h2,h3,h4⟩:=RU also l.length l [] x (zd _) h;have e1:=h1 [] [];have e3:=h3 [] [];rw[qf,Al,List.nil_append] at e1 e3;refine⟨?_,⟨a,?_,?_⟩,h4⟩
  ·unfold Aj BU;rw[if_neg (by omega),e1]
  ·unfold An BU;rw[if_neg hlen,h2];rfl
  ·unfold An BU;rw[if_neg (by omega),e3]
theorem JS (add:Ft):∀(l out:List UInt8) (n:Nat),(Al add n l out).1≠0->(Al add n l out).2=[]
 | [],out,n=>by intro h;cases n<;>(rw[Al] at h;exact absurd rfl h)
 | c::l,out,n+1=>by intro h;rw[Al] at h ⊢;exact JS add l out n h
 | c::l,out,0=>by
  intro h;rw[Al] at h ⊢
  split at h
  ·rename_i hc;rw[if_pos hc]
   split at h
   ·rename_i he;rw[if_pos he]
    split at h
    ·rename_i ha;rw[if_pos ha];exact JS add l _ 2 h
    ·rename_i ha;rw[if_neg ha]
   ·rename_i he;rw[if_neg he]
  ·rename_i hc;rw[if_neg hc]
   split at h
   ·rename_i ha;rw[if_pos ha];exact JS add l _ 0 h
   ·rename_i ha;rw[if_neg ha]
theorem eW (l also:List UInt8) (h:(Aj l also).1≠0):(Aj l also).2=[]:=by
 unfold Aj BU at h ⊢
 split
 ·rfl
 ·rename_i hl;rw[if_neg hl] at h;exact JS _ _ _ _ h
end Go.Proofs.YtbeoijfmfkifeaaGreatDoor
namespace Go.Proofs.YtbeoijfmfkifeaaGreatDoor
open List renaming mem_cons->zt
def Em (also:List UInt8) (c:UInt8):Bool:=c==37||Bj c||Bo c also
theorem iI (also:List UInt8):∀(n:Nat) (l out x:List UInt8),l.length<=n->Al (AQ also) 0 l out=(0,x)->l.all (Em also)=true:=by
 intro n
 induction n with
 | zero=>
  intro l out x hl h;have:l=[]:=List.eq_nil_of_length_eq_zero (by omega);subst this;rfl
 | succ n ih=>
  intro l out x hl h
  cases l with
  | nil=>rfl
  | cons c t=>
   by_cases hc:c=37
   ·rcases he:Bm (c::t) with _|_
    ·rw[Al,if_pos hc,if_neg (by rw[he];exact Bool.false_ne_true)] at h;injection h with h1 _
     exact absurd h1 (by decide)
    ·obtain⟨a,b,r,rfl⟩:=Fj he;have hab:Bj a=true/\Bj b=true:=by
      have:(Bj a&&Bj b)=true:=he;simpa using this
     have hr:∃o2,Al (AQ also) 0 r o2=(0,x):=by
      rcases hu:A4 (AZ (c::a::b::r)) with _|_
      ·rw[Al,if_pos hc,if_pos he,Fz hu,if_pos rfl,DP] at h;exact⟨_,h⟩
      ·rw[Al,if_pos hc,if_pos he,DD (by rw[hu];rfl) (EW hu),if_pos rfl,DP] at h;exact⟨_,h⟩
     obtain⟨o2,hr⟩:=hr;have:=ih r o2 x (by simp at hl ⊢;omega) hr;simp[Em,hc,hab.1,hab.2,this]
   ·rcases hp:Bo c also with _|_
    ·rw[Al,if_neg hc,Js rfl hp,if_neg (by decide)] at h;injection h with h1 _
     exact absurd h1 (by decide)
    ·rw[Al,if_neg hc,DD rfl hp,if_pos rfl] at h;have:=ih t _ x (by simp at hl;omega) h;simp[Em,hp,this]
theorem Sk {l also x:List UInt8} (h:Aj l also=(0,x)):l.all (Em also)=true:=by
 unfold Aj BU at h
 split at h
 ·injection h with h1 _
  exact absurd h1 (by decide)
 ·exact iI also l.length l [] x (Nat.le_refl _) h
theorem Iq {l also x:List UInt8} (h:Aj l also=(0,x)):l.length<=16384:=by
 unfold Aj BU at h
 split at h
 ·injection h with h1 _
  exact absurd h1 (by decide)
 ·omega
theorem LG {l also x:List UInt8} (h:Aj l also=(0,x)):x.all (Em also)=true:=Sk (EC l also x h).1
theorem Dm (c:UInt8):∀(a b:List UInt8),c∉a->Ae c (a++c::b)=(a,b,true)
 | [],b,_=>by simp[Ae]
 | x::a,b,h=>by
  simp only[zt,not_or] at h;rw[List.cons_append,F9,if_neg (fun e=>h.1 e.symm),Dm c a b h.2]
theorem Fk (c:UInt8):∀(a:List UInt8),c∉a->Ae c a=(a,[],false)
 | [],_=>rfl
 | x::a,h=>by
  simp only[zt,not_or] at h;rw[F9,if_neg (fun e=>h.1 e.symm),Fk c a h.2]
open Go.RowKit Sx
def Bt (h:List UInt8) (p:Int):AV:=.agg [.s h,.i .i64 p]
def Ds (h:List UInt8) (p:Int):List UInt8:=if p=0 then h else h++[58]++Lib.itoa p
theorem MZ (h:List UInt8) (p:Int) (h0:-9223372036854775808<=p) (h1:p<=9223372036854775807):(Ds h p).length<=h.length+22:=by
 have:=Lib.itoa_length_le p h0 h1;unfold Ds
 split
 ·omega
 ·simp only[List.length_append,List.length_cons,List.length_nil];omega
theorem Yk (l:List UInt8) (c:UInt8):((At l [c]:Nat):Int)<l.length↔(Ae c l).2.2=true:=by
 have h:=Hg c l
 constructor
 ·intro h1;rw[h.1 (by omega)]
 ·intro h1
  apply Classical.byContradiction
  intro h2;rw[h.2 (by omega)] at h1;cases h1
theorem QP (l:List UInt8):(Cu l).2<=65535:=by
 unfold Cu
 split
 ·exact N6 65535 l
 ·exact Nat.zero_le _
theorem Yn (l:List UInt8):(BL l).2.2<=65535:=by
 have:=QP (Ae 58 l).2.1;unfold BL
 repeat' split
 all_goals simp only[Nat.zero_le]
 all_goals omega
section
variable [Tabs Tryz.prog] {objs:List OB} {K:List OB->AV->Prop}
theorem QU (s:List UInt8) (hs:s.length<=1000000) (hk:K objs (.tup [.s (AH s).2,.i .i64 (AH s).1])):Ag Tryz.prog 69 [.s s] objs K :=
 conv (vs:=[.string (S s)]) rfl rfl (fun w=>Iu (S s) w (by rw[Am];exact hs)) hk
theorem Y0 (s:List UInt8) (hs:s.length<=maxLen) (hk:K objs (.tup [.i .i64 (Cu s).2,.i .i64 (Cu s).1])):Ag Tryz.prog 130 [.s s] objs K :=
 FU (vs:=[.string (S s)]) rfl rfl (fun w=>ZT (S s) w (by rw[Am];exact hs)) hk
theorem Qy (s:List UInt8) (hs:s.length<=maxLen) (hk:K objs (.tup [Bt (BL s).2.1 (BL s).2.2,.i .i64 (BL s).1])):Ag Tryz.prog 154 [.s s] objs K :=
 conv (vs:=[.string (S s)]) rfl rfl (fun w=>YN (S s) w (by rw[Am];exact hs)) hk
theorem Jo (s also:List UInt8) (hk:K objs (.tup [.s (Aj s also).2,.i .i64 (Aj s also).1])):Ag Tryz.prog 136 [.s s,.s also] objs K :=
 conv (vs:=[.string (S s),.string (S also)]) rfl rfl (fun w=>It (S s) (S also) w) hk
theorem MT (s also:List UInt8) (ha:also.length<=maxLen) (hk:K objs (.tup [.s (Aj s also).2,.i .i64 (Aj s also).1])):Ag Tryz.prog 68 [.s s,.s also] objs K :=
 conv (vs:=[.string (S s),.string (S also)]) rfl rfl (fun w=>Iv (S s) (S also) w (by rw[Am];exact ha)) hk
theorem Ny (s:List UInt8) (hk:K objs (.tup [.s (An s).2,.i .i64 (An s).1])):Ag Tryz.prog 153 [.s s] objs K :=
 conv (vs:=[.string (S s)]) rfl rfl (fun w=>Ta (S s) w) hk
theorem ID (s:List UInt8) (hk:K objs (.tup [.s (An s).2,.i .i64 (An s).1])):Ag Tryz.prog 71 [.s s] objs K :=
 conv (vs:=[.string (S s)]) rfl rfl (fun w=>II (S s) w) hk
theorem ZN (s keep:List UInt8) (hs:s.length<=300000000) (hk:K objs (.s (AI s keep))):Ag Tryz.prog 141 [.s s,.s keep] objs K :=
 conv (vs:=[.string (S s),.string (S keep)]) rfl rfl (fun w=>Tb (S s) (S keep) w (by rw[Am];exact hs)) hk
theorem dG (s keep:List UInt8) (hs:s.length<=300000000) (ha:keep.length<=maxLen) (hk:K objs (.s (AI s keep))):Ag Tryz.prog 74 [.s s,.s keep] objs K :=
 conv (vs:=[.string (S s),.string (S keep)]) rfl rfl (fun w=>SZ (S s) (S keep) w (by rw[Am];exact hs) (by rw[Am];exact ha)) hk
theorem Zn [Pow Tryz.prog] (h:List UInt8) (p:Int) (hh:h.length<=200000000000000) (h0:-9223372036854775808<=p) (h1:p<=9223372036854775807) (hk:K objs (.s (Ds h p))):Ag Tryz.prog 145 [Bt h p] objs K:=by
 refine AC gF rfl fun C _=>?_;have hl:=Lib.itoa_length_le p h0 h1;unfold Ds at hk
 by_cases hp:p=0
 ·rw[if_pos hp] at hk;simp only[Bt,hp,Of,Aa,simprocAttr];exact hk
 ·rw[if_neg hp] at hk;simp only[Bt,hp,Of,Aa,simprocAttr];refine⟨by omega,?_⟩;refine Bq (O0 p h0 h1 ⟨rfl,rfl⟩) ?_;simp only[Aa,simprocAttr];exact⟨by omega,hk⟩
theorem S1 (p:Int) (h0:-9223372036854775808<=p) (h1:p<=9223372036854775807) (hk:K objs (.s (Lib.itoa p))):Ag Tryz.prog 132 [.i .i64 p] objs K:=by
 refine AC iT rfl fun C _=>?_;unfold Lib.itoa at hk
 by_cases hp:p<0
 ·rw[if_pos hp] at hk;have e1:IntKind.u64.wrap (IntKind.u64.wrap (0 - (p+1))+1)=((p.natAbs:Nat):Int):=by
   rw[wrap_u64 (0 - (p+1)) (by omega) (by omega),wrap_u64 _ (by omega) (by omega)];omega
  simp only[hp,Ol,Aa,simprocAttr];refine⟨⟨by omega,by omega⟩,⟨by omega,by omega⟩,?_⟩;rw[e1];refine Ai (Ss p.natAbs (by omega) ?_);have hd:=Lib.nDigits_le20 p.natAbs (by omega);have hl:=Lib.decDigits_length p.natAbs;simp only[Aa,simprocAttr];exact⟨by omega,hk⟩
 ·rw[if_neg hp] at hk;have e1:IntKind.u64.wrap p=((p.toNat:Nat):Int):=by
   rw[wrap_u64 p (by omega) (by omega)];omega
  simp only[hp,Ol,Aa,simprocAttr];rw[e1];refine Ai (Ss p.toNat (by omega) ?_);simp only[Aa,simprocAttr];exact hk
theorem dB (h:List UInt8) (p:Int) (hh:h.length<=200000000000000) (h0:-9223372036854775808<=p) (h1:p<=9223372036854775807) (hk:K objs (.s (Ds h p))):Ag Tryz.prog 101 [Bt h p] objs K:=by
 refine AC gY rfl fun C _=>?_;have hl:=Lib.itoa_length_le p h0 h1;unfold Ds at hk
 by_cases hp:p=0
 ·rw[if_pos hp] at hk;simp only[Bt,hp,Oc,Aa,simprocAttr];exact hk
 ·rw[if_neg hp] at hk;simp only[Bt,hp,Oc,Aa,simprocAttr];refine⟨by omega,?_⟩;refine Bq (S1 p h0 h1 ⟨rfl,rfl⟩) ?_;simp only[Aa,simprocAttr];exact⟨by omega,hk⟩
theorem R4 (s:List UInt8) (hs:s.length<=1000000) (hk:K objs (.tup [Bt (BL s).2.1 (BL s).2.2,.i .i64 (BL s).1])):Ag Tryz.prog 99 [.s s] objs K:=by
 have hm:maxLen=2 ^ 63 - 1:=rfl;have e443:((443:Nat):Int)=443:=rfl;have ez:((0:Nat):Int)=0:=rfl;refine AC gH rfl fun C _=>?_;simp only[Bt,BL] at hk;simp only[TB,Aa,simprocAttr];refine Ai (F5 s [58] (by omega) (by simp;omega) ?_);have c58:=Hg 58 s
 by_cases h58:At s [58]<s.length
 ·rw[c58.1 h58] at hk;simp only[Aa,simprocAttr];refine⟨⟨by omega,by omega⟩,?_⟩;have hl:(s.take (At s [58])).length<=s.length:=by rw[List.length_take];omega
  have hd:(s.drop (At s [58]+1)).length<=s.length:=by rw[List.length_drop];omega
  refine Ai (QU _ (by omega) ?_);simp only[Aa,simprocAttr]
  by_cases h1:(AH (s.take (At s [58]))).1=0
  ·have hne:¬((At s [58]:Nat):Int)=((s.length:Nat):Int):=by omega
   simp only[h1,hne,ez,Aa,simprocAttr] at hk ⊢;refine⟨⟨by omega,by omega⟩,⟨by omega,by omega⟩,?_⟩;refine Ai (Y0 _ (by omega) ?_);simp only[Aa,simprocAttr]
   by_cases h2:(Cu (s.drop (At s [58]+1))).1=0
   ·by_cases h3:(Cu (s.drop (At s [58]+1))).2=443
    ·simp only[h2,h3,e443,ez,Aa,simprocAttr] at hk ⊢;exact hk
    ·have h3':¬((((Cu (s.drop (At s [58]+1))).2:Nat):Int)=443):=by omega
     simp only[h2,h3,h3',Aa,simprocAttr] at hk ⊢;exact hk
   ·simp only[h2,ez,Aa,simprocAttr] at hk ⊢;exact hk
  ·simp only[h1,ez,Aa,simprocAttr] at hk ⊢;exact hk
 ·have hx:((At s [58]:Nat):Int)=((s.length:Nat):Int):=by have:=KJ s [58];omega
  rw[c58.2 h58] at hk;simp only[hx,Aa,simprocAttr];refine⟨⟨by omega,by omega⟩,?_⟩;refine Ai (QU _ (by omega) ?_)
  by_cases h1:(AH s).1=0
  ·simp only[h1,ez,Aa,simprocAttr] at hk ⊢;exact hk
  ·simp only[h1,ez,Aa,simprocAttr] at hk ⊢;exact hk
end
end Go.Proofs.YtbeoijfmfkifeaaGreatDoor
namespace Go.Proofs.YtbeoijfmfkifeaaGreatDoor
open Lib renaming decDigits->qy
open List renaming all_eq_true->zl, mem_cons->zt, mem_cons_of_mem->qw, mem_cons_self->jg
theorem Nw (c x:UInt8):∀l:List UInt8,x∈l->x=c\/∃p∈Ap c l,x∈p
 | [],h=>by cases h
 | y::t,h=>by
  obtain⟨p,ps,e⟩:=Cj c t;rw[CT,e]
  by_cases hy:y=c
  ·rw[if_pos hy];rcases zt.1 h with rfl|h
   ·exact .inl hy
   ·rcases Nw c x t h with h|⟨q,hq,hx⟩
    ·exact .inl h
    ·exact .inr ⟨q,by rw[<-e];exact qw _ hq,hx⟩
  ·rw[if_neg hy];rcases zt.1 h with rfl|h
   ·exact .inr ⟨_,jg ..,jg ..⟩
   ·rcases Nw c x t h with h|⟨q,hq,hx⟩
    ·exact .inl h
    ·rw[e] at hq;rcases zt.1 hq with rfl|hq
     ·exact .inr ⟨_,jg ..,qw _ hx⟩
     ·exact .inr ⟨q,qw _ hq,hx⟩
theorem fZ {l:List UInt8} (h:DN l=true):l.all AD=true:=by
 unfold DN at h;have h1:=of_decide_eq_true h;unfold BJ at h1
 split at h1
 ·rename_i h2;exact(Lk h2).2
 ·rename_i h2;exact absurd h1 h2
theorem ND {h:List UInt8} (hh:(AH h).1=0):∀x∈h,x=46\/BS x=true:=by
 intro x hx;unfold AH at hh
 split at hh
 ·cases hh
 ·split at hh
  ·cases hh
  ·split at hh
   ·rename_i h1 h2 h3;rcases Nw 46 x h hx with h4|⟨p,hp,hxp⟩
    ·exact .inl h4
    ·rw[Bool.or_eq_true] at h3;rcases h3 with h3|h3
     ·unfold B7 at h3;simp only[Bool.and_eq_true,zl] at h3;have:=h3.1 p hp;unfold BW at this;simp only[Bool.and_eq_true,zl] at this;exact .inr (this.2 x hxp)
     ·unfold BZ DI at h3;simp only[Bool.and_eq_true,zl] at h3;have:=zl.1 (fZ (h3.2 p hp)) x hxp;exact .inr (by unfold BS;rw[this];simp)
   ·cases hh
theorem lZ:∀n:Fin 256,(BS (UInt8.ofNat n.val)=true\/UInt8.ofNat n.val=46)->Aw (UInt8.ofNat n.val) [58,64,47,63,35]=false:=by decide +kernel
theorem QA (c:UInt8) (h:c=46\/BS c=true):Aw c [58,64,47,63,35]=false:=by
 have:=lZ ⟨c.toNat,UInt8.toNat_lt c⟩;simp only[UInt8.ofNat_toNat] at this;exact this h.symm
theorem Ym {h:List UInt8} (hh:(AH h).1=0) (c:UInt8) (hc:Aw c [58,64,47,63,35]=true):c∉h:=by
 intro hm;have:=QA c (ND hh c hm);rw[hc] at this;cases this
theorem M4 (n:Nat):Lib.itoa (n:Int)=qy n:=by
 unfold Lib.itoa;rw[if_neg (by omega)];rfl
theorem ZO (n:Nat) (h0:n≠0) (h1:n<=65535):Cu (qy n)=(0,n):=by
 unfold Cu;rw[cP n 65535 h1,if_pos ⟨rfl,h0⟩]
theorem Pt {h:List UInt8} {n:Nat} (hh:AH h=(0,h)) (h1:n<=65535) (h2:n≠443):BL (Ds h n)=(0,h,n):=by
 have hh0:(AH h).1=0:=by rw[hh]
 have h58:(58:UInt8)∉h:=Ym hh0 58 (by decide);unfold Ds
 by_cases h0:n=0
 ·subst h0;rw[if_pos (show ((0:Nat):Int)=0 from rfl)];unfold BL;rw[Fk 58 h h58];simp only;rw[hh];simp
 ·rw[if_neg (by omega),M4];unfold BL;have:h++[58]++qy n=h++58::qy n:=by simp
  rw[this,Dm 58 h _ h58];simp only;rw[hh,ZO n h0 h1,if_neg (by simp),if_neg (by simp),if_neg (by simp),if_neg h2]
theorem M3 {l h:List UInt8} {n:Nat} (hl:BL l=(0,h,n)):AH h=(0,h)/\n<=65535/\n≠443/\h.length<=253/\h.length<=l.length:=by
 have hcl:=(Da 58 l).1;unfold BL at hl
 split at hl
 ·rename_i h1;injection hl with h2 _;exact absurd h2 h1
 ·rename_i h1;simp only[Decidable.not_not] at h1;have hho:AH (Ae 58 l).1=(0,(AH (Ae 58 l).1).2):=by rw[<-h1]
  obtain⟨k1,k2,k3,_⟩:=NC hho
  split at hl
  ·injection hl with _ hl
   injection hl with e1 e2
   subst e1 e2;exact⟨k1,by omega,by omega,k3,by omega⟩
  ·split at hl
   ·rename_i h2;injection hl with h3 _;exact absurd h3 h2
   ·injection hl with _ hl
    injection hl with e1 e2
    subst e1;have hp:=QP (Ae 58 l).2.1;refine⟨k1,?_,?_,k3,by omega⟩
    ·rw[<-e2];split<;>omega
    ·rw[<-e2];split<;>omega
theorem mX {l:List UInt8} (h:(BL l).1≠0):(BL l).2=([],0):=by
 unfold BL at h ⊢
 split
 ·rfl
 ·rename_i h1;rw[if_neg h1] at h
  split
  ·rename_i h2;rw[if_pos h2] at h;exact absurd rfl h
  ·rename_i h2;rw[if_neg h2] at h
   split
   ·rfl
   ·rename_i h3;rw[if_neg h3] at h;exact absurd rfl h
open Go.RowKit Sx
def Ec (u:UriP):List UInt8:=(if u.hs=true then u.scheme++[58] else [])++(if u.ha=true then [47,47]++u.auth else [])++u.path++(if u.hq=true then [63]++u.query else [])++(if u.hf=true then [35]++u.frag else [])
section
variable [Tabs Tryz.prog] {objs:List OB} {K:List OB->AV->Prop}
end
def mL (p:List UInt8):List UInt8:=p.take (Lib.lastIndexByte (S p) 47+1).toNat
def nL (b:UriP) (r:List UInt8):List UInt8:=if b.ha=true/\b.path=[] then 47::r else mL b.path++r
section
variable [Tabs Tryz.prog] {objs:List OB} {K:List OB->AV->Prop}
end
def K1 (b r:UriP):UriP :=
 if r.hs=true then { r with path:=BD r.path }
 else if r.ha=true then { r with scheme:=b.scheme,hs:=b.hs,path:=BD r.path }
 else if r.path=[] then { scheme:=b.scheme,hs:=b.hs,auth:=b.auth,ha:=b.ha,path:=b.path,query:=if r.hq=true then r.query else b.query,hq:=if r.hq=true then r.hq else b.hq,frag:=r.frag,hf:=r.hf }
 else { scheme:=b.scheme,hs:=b.hs,auth:=b.auth,ha:=b.ha,path:=if r.path.head? = some 47 then BD r.path else BD (nL b r.path),query:=r.query,hq:=r.hq,frag:=r.frag,hf:=r.hf }
section
variable [Tabs Tryz.prog] {objs:List OB} {K:List OB->AV->Prop}
end
end Go.Proofs.YtbeoijfmfkifeaaGreatDoor
namespace Go.Proofs.YtbeoijfmfkifeaaGreatDoor
open List renaming append_assoc->zr, append_nil->qf, length_append->zf, length_cons->zj, length_nil->qo, take_append_drop->jp
theorem Ho (c:UInt8):∀l:List UInt8,l=(Ae c l).1++(if (Ae c l).2.2=true then [c]++(Ae c l).2.1 else [])
 | []=>rfl
 | x::t=>by
  have ih:=Ho c t;rw[F9]
  by_cases hx:x=c
  ·subst hx;simp
  ·rw[if_neg hx];show x::t=x::((Ae c t).1++_);rw[<-ih]
theorem PL (c:UInt8) (l:List UInt8):(Ae c l).1.length<=l.length:=by
 have h:=congrArg List.length (Ho c l);rw[zf] at h;omega
theorem Y9 (l:List UInt8) (h:(Ae 58 (A6 l)).2.2=true):l=(Ae 58 (A6 l)).1++[58]++l.drop ((Ae 58 (A6 l)).1.length+1):=by
 have sx:=MA l
 by_cases hk:∃hk:At l [58,47]<l.length,l[At l [58,47]]=58
 ·obtain⟨h1,h2⟩:=hk;obtain⟨q1,q2,_⟩:=sx.1 h1 h2;rw[q2]
  conv=>lhs;rw[<-jp (At l [58,47]) l,List.drop_eq_getElem_cons h1,h2]
  rw[<-q1];simp
 ·have:=sx.2 (fun h1 h2=>hk ⟨h1,h2⟩);rw[h] at this;cases this
theorem Zo (r:List UInt8):r=(if DM r=true then [47,47]++CY r else [])++DZ r:=by
 by_cases h:DM r=true
 ·have ea:CY r=A6 (r.drop 2):=by unfold CY;rw[if_pos h]
  have eb:DZ r=(r.drop 2).drop (CY r).length:=by unfold DZ;rw[if_pos h]
  rw[if_pos h,eb];have hp:[47,47]++r.drop 2=r:=by
   have:=List.isPrefixOf_iff_prefix.1 (show Lib.hasPrefix r [47,47]=true from h);obtain⟨t,rfl⟩:=this;simp
  have hf:=(FB (r.drop 2)).1;have:CY r++(r.drop 2).drop (CY r).length=r.drop 2:=by
   rw[ea]
   conv=>lhs;lhs;rw[hf]
   exact jp _ _
  rw[zr,this,hp]
 ·unfold DZ;rw[if_neg h,if_neg h];simp
theorem R9 (s:List UInt8) (h:(AP s).1=0):Ec (AP s).2=s:=by
 unfold AP at h ⊢
 split
 ·rename_i h1;rw[if_pos h1] at h;cases h
 ·rename_i h1;rw[if_neg h1] at h
  split
  ·rename_i h2;rw[if_pos h2] at h;cases h
  ·rename_i h2;clear h h2 h1;unfold Ec;simp only;have e1:=Ho 35 s;have e2:=Ho 63 (Ae 35 s).1;have e3:=Zo (EM s);have e4:Cf s=(if (C1 s).2.2=true then (C1 s).1++[58] else [])++EM s:=by
    unfold EM
    by_cases h:(C1 s).2.2=true
    ·rw[if_pos h,if_pos h];exact Y9 (Cf s) h
    ·rw[if_neg h,if_neg h];rfl
   have e5:(if (C1 s).2.2=true then (if (C1 s).2.2=true then (C1 s).1 else [])++[58] else [])=(if (C1 s).2.2=true then (C1 s).1++[58] else []):=by split<;>rfl
   rw[e5,zr (if (C1 s).2.2=true then (C1 s).1++[58] else []),<-e3,<-e4];show (Ae 63 (Ae 35 s).1).1++_++_=s;rw[<-e2,<-e1]
theorem cD (s:List UInt8) (h:(AP s).1≠0):(AP s).2=IV:=by
 unfold AP at h ⊢
 split
 ·rfl
 ·rename_i h1;rw[if_neg h1] at h
  split
  ·rfl
  ·rename_i h2;rw[if_neg h2] at h;exact absurd rfl h
structure UrlP where
 host:List UInt8
 port:Int
 path:List UInt8
 query:List UInt8
 frag:List UInt8
 hq:Bool
 hf:Bool
def BB:UrlP:=⟨[],0,[],[],[],false,false⟩
def C7:List UInt8:=[104,116,116,112,115]
def AX:List UInt8:=[33,36,38,39,40,41,42,43,44,59,61,58,64,47]
def AO:List UInt8:=[33,36,38,39,40,41,42,43,44,59,61,58,64,47,63]
def FZ (u:UrlP):List UInt8:=if u.hq=true then u.path++[63]++u.query else u.path
def Bi (u:UrlP):List UInt8:=[104,116,116,112,115,58,47,47]++Ds u.host u.port++FZ u++(if u.hf=true then [35]++u.frag else [])
def A7 (p:UriP):Int×List UInt8×Nat :=
 if p.hs=false then (60,[],0)
 else if AM p.scheme C7=false then (60,[],0)
 else if p.ha=false then (71,[],0)
 else if (Ae 64 p.auth).2.2=true then (70,[],0)
 else BL p.auth
def Ez (l:List UInt8):List UInt8:=if BD l=[] then [47] else BD l
def BN (p:UriP):Int×UrlP :=
 if (Aj p.path AX).1≠0 then ((Aj p.path AX).1,BB)
 else if (Aj p.query AO).1≠0 then ((Aj p.query AO).1,BB)
 else if (Aj p.frag AO).1≠0 then ((Aj p.frag AO).1,BB)
 else (0,⟨[],0,Ez (Aj p.path AX).2,(Aj p.query AO).2,(Aj p.frag AO).2,p.hq,p.hf⟩)
def Fu (h:List UInt8) (n:Nat) (u:UrlP):UrlP:=⟨h,n,u.path,u.query,u.frag,u.hq,u.hf⟩
def Gk (u:UrlP):Int×UrlP:=if 4096<(Bi u).length then (5,BB) else (0,u)
def G2 (p:UriP):Int×UrlP :=
 if (A7 p).1≠0 then ((A7 p).1,BB)
 else if (BN p).1≠0 then ((BN p).1,BB)
 else Gk (Fu (A7 p).2.1 (A7 p).2.2 (BN p).2)
def BY (s:List UInt8):Int×UrlP :=
 if 4096<s.length then (5,BB)
 else if (AP s).1≠0 then ((AP s).1,BB)
 else G2 (AP s).2
instance:DecidableEq UrlP:=fun a b=>
 decidable_of_iff (a.host=b.host/\a.port=b.port/\a.path=b.path/\a.query=b.query/\a.frag=b.frag/\a.hq=b.hq/\a.hf=b.hf) (by
  cases a;cases b;simp)
def DO (u:UrlP):Bool:=decide ((BY (Bi u)).1=0)&&decide ((BY (Bi u)).2=u)
def UZ (b:UrlP) (r:List UInt8):Int×UrlP :=
 if DO b=false then (8,BB)
 else if (AP r).1≠0 then ((AP r).1,BB)
 else if AM (K1 (AP (Bi b)).2 (AP r).2).scheme C7=false then (253,BB)
 else BY (Ec (K1 (AP (Bi b)).2 (AP r).2))
theorem Sa (s:List UInt8):(AP s).2.scheme.length<=s.length/\(AP s).2.auth.length<=s.length/\(AP s).2.path.length<=s.length/\(AP s).2.query.length<=s.length/\(AP s).2.frag.length<=s.length:=by
 by_cases h:(AP s).1=0
 ·have hj:=congrArg List.length (R9 s h);have hsch:(AP s).2.hs=false->(AP s).2.scheme=[]:=by
   unfold AP
   split
   ·intro _;rfl
   ·split
    ·intro _;rfl
    ·intro h1;simp only at h1 ⊢;rw[if_neg (by rw[h1];exact Bool.false_ne_true)]
  have hau:(AP s).2.ha=false->(AP s).2.auth=[]:=by
   unfold AP
   split
   ·intro _;rfl
   ·split
    ·intro _;rfl
    ·intro h1;simp only at h1 ⊢;unfold CY;rw[if_neg (by rw[h1];exact Bool.false_ne_true)]
  have hqu:(AP s).2.hq=false->(AP s).2.query=[]:=by
   unfold AP
   split
   ·intro _;rfl
   ·split
    ·intro _;rfl
    ·intro h1;simp only at h1 ⊢;exact((EP 63 _).2.2 h1).2
  have hfr:(AP s).2.hf=false->(AP s).2.frag=[]:=by
   unfold AP
   split
   ·intro _;rfl
   ·split
    ·intro _;rfl
    ·intro h1;simp only at h1 ⊢;exact((EP 35 _).2.2 h1).2
  revert hj hsch hau hqu hfr
  generalize (AP s).2=u;obtain⟨a,b,c,d,e,b1,b2,b3,b4⟩:=u;intro hj hsch hau hqu hfr;simp only[Ec] at hj hsch hau hqu hfr ⊢;simp only[zf] at hj;have e1:a.length<=(if b1=true then a++[58] else []).length:=by
   cases b1
   ·rw[hsch rfl];simp
   ·simp
  have e2:b.length<=(if b2=true then [47,47]++b else []).length:=by
   cases b2
   ·rw[hau rfl];simp
   ·simp;omega
  have e3:d.length<=(if b3=true then [63]++d else []).length:=by
   cases b3
   ·rw[hqu rfl];simp
   ·simp
  have e4:e.length<=(if b4=true then [35]++e else []).length:=by
   cases b4
   ·rw[hfr rfl];simp
   ·simp
  omega
 ·rw[cD s h];simp[IV]
theorem Fx (l also:List UInt8):(Aj l also).2.length<=l.length/\(Aj l also).2.length<=16384:=by
 by_cases h:(Aj l also).1=0
 ·have e:Aj l also=(0,(Aj l also).2):=by rw[<-h]
  have h1:=(EC l also _ e).2.2;have h2:=Iq e;omega
 ·rw[eW l also h];simp
theorem ZE:∀(n:Nat) (i o:List UInt8),(FV n i o).length<=o.length+i.length:=by
 intro n
 induction n with
 | zero=>intro i o;show o.length<=_;omega
 | succ n ih=>
  intro i o;unfold FV
  split
  ·omega
  ·have:=ih (Bu i o).1 (Bu i o).2;have h2:=Fh (i:=i) (o:=o);omega
theorem ZW (l:List UInt8):(BD l).length<=l.length:=by
 have h:=ZE l.length l [];rw[qo,Nat.zero_add] at h;exact h
theorem N0 (p:UriP):(A7 p).2.2<=65535:=by
 have:=Yn p.auth;unfold A7
 repeat' split
 all_goals first
  | exact this
  | exact Nat.zero_le _
theorem Wn (l:List UInt8):(BL l).2.1.length<=253:=by
 have hh:∀q:List UInt8,(AH q).2.length<=253:=by
  intro q;unfold AH
  repeat' split
  all_goals first
   | exact Nat.zero_le _
   | (show (Ay q).length<=253;rw[NZ];omega)
 unfold BL
 repeat' split
 all_goals first
  | exact hh _
  | simp
theorem NO (p:UriP):(A7 p).2.1.length<=253:=by
 have:=Wn p.auth;unfold A7
 repeat' split
 all_goals first
  | exact this
  | simp
theorem eM (l:List UInt8):(Ez l).length<=l.length+1:=by
 have:=ZW l;unfold Ez
 split
 ·simp
 ·omega
theorem Nq (p:UriP):(BN p).2.path.length<=16385/\(BN p).2.query.length<=16384/\(BN p).2.frag.length<=16384:=by
 have h1:=Fx p.path AX;have h2:=Fx p.query AO;have h3:=Fx p.frag AO;have h4:=eM (Aj p.path AX).2;unfold BN
 repeat' split
 all_goals simp[BB]
 omega
theorem NK (u:UrlP):(FZ u).length<=u.path.length+u.query.length+1:=by
 unfold FZ
 split
 ·simp only[zf,zj,qo];omega
 ·omega
theorem Ye (u:UrlP) (h0:-9223372036854775808<=u.port) (h1:u.port<=9223372036854775807):(Bi u).length<=u.host.length+u.path.length+u.query.length+u.frag.length+40:=by
 have h2:=MZ u.host u.port h0 h1;have h3:=NK u;unfold Bi;simp only[zf,zj,qo]
 split
 ·simp only[zf,zj,qo];omega
 ·simp only[qo];omega
open Go.RowKit Sx
def A3 (u:UrlP):AV:=.agg [.s u.host,.i .i64 u.port,.s u.path,.s u.query,.s u.frag,.b u.hq,.b u.hf]
theorem Qh:A3 BB=.agg [.s [],.i .i64 0,.s [],.s [],.s [],.b false,.b false]:=rfl
theorem Wl (l:List UInt8) (c:UInt8):decide (0<=Lib.indexByte l c)=(Ae c l).2.2:=by
 rcases Dk c l with ⟨h1,h2,_⟩|⟨k,h1,_,h2,_⟩
 ·rw[h1,h2];rfl
 ·rw[h1,h2];simp
section
variable [Tabs Tryz.prog] {objs:List OB} {K:List OB->AV->Prop}
theorem bS (u:UrlP) (h1:u.path.length<=200000000000000) (h2:u.query.length<=200000000000000) (hk:K objs (.s (FZ u))):Ag Tryz.prog 147 [A3 u] objs K:=by
 refine AC iP rfl fun C _=>?_;unfold FZ at hk
 by_cases h:u.hq=true
 all_goals simp only[h,if_true,if_false,Bool.false_eq_true] at hk
 all_goals simp only[A3,h,Ug,Aa,simprocAttr]
 all_goals first
  | exact hk
  | exact⟨by omega,by omega,hk⟩
theorem cL (u:UrlP) (h1:u.path.length<=200000000000000) (h2:u.query.length<=200000000000000) (hk:K objs (.s (FZ u))):Ag Tryz.prog 103 [A3 u] objs K:=by
 refine AC hH rfl fun C _=>?_;unfold FZ at hk
 by_cases h:u.hq=true
 all_goals simp only[h,if_true,if_false,Bool.false_eq_true] at hk
 all_goals simp only[A3,h,TS,Aa,simprocAttr]
 all_goals first
  | exact hk
  | exact⟨by omega,by omega,hk⟩
theorem RN (u:UrlP) (hk:K objs (Bt u.host u.port)):Ag Tryz.prog 146 [A3 u] objs K:=by
 refine AC iO rfl fun C _=>?_;simp only[A3,Uf,Aa,simprocAttr];exact hk
theorem cK (u:UrlP) (hk:K objs (Bt u.host u.port)):Ag Tryz.prog 102 [A3 u] objs K:=by
 refine AC hC rfl fun C _=>?_;simp only[A3,TR,Aa,simprocAttr];exact hk
def Dg (u:UrlP):Prop:=u.host.length<=1000000/\-9223372036854775808<=u.port/\u.port<=9223372036854775807/\u.path.length<=1000000/\u.query.length<=1000000/\u.frag.length<=1000000
theorem Jz [Pow Tryz.prog] (u:UrlP) (hu:Dg u) (hk:K objs (.s (Bi u))):Ag Tryz.prog 117 [A3 u] objs K:=by
 obtain⟨h1,h2,h3,h4,h5,h6⟩:=hu;have t1:=MZ u.host u.port h2 h3;have t2:=NK u;refine AC iW rfl fun C _=>?_;unfold Bi at hk;simp only[A3,Ue,Aa,simprocAttr];refine Bq (RN u ⟨rfl,rfl⟩) ?_;simp only[Bt,Aa,simprocAttr];refine Bq (Zn u.host u.port (by omega) h2 h3 ⟨rfl,rfl⟩) ?_;simp only[Aa,simprocAttr];refine⟨by omega,?_⟩;refine Bq (bS u (by omega) (by omega) ⟨rfl,rfl⟩) ?_;simp only[Aa,simprocAttr]
 by_cases h:u.hf=true
 ·simp only[h,if_true,if_false,Bool.false_eq_true,qf] at hk;simp only[h,Aa,simprocAttr];exact⟨by omega,by omega,by omega,by simpa using hk⟩
 ·simp only[h,if_true,if_false,Bool.false_eq_true,qf] at hk;simp only[h,Aa,simprocAttr];exact⟨by omega,by simpa using hk⟩
theorem IE (u:UrlP) (hu:Dg u) (hk:K objs (.s (Bi u))):Ag Tryz.prog 76 [A3 u] objs K:=by
 obtain⟨h1,h2,h3,h4,h5,h6⟩:=hu;have t1:=MZ u.host u.port h2 h3;have t2:=NK u;refine AC gZ rfl fun C _=>?_;unfold Bi at hk;simp only[A3,TQ,Aa,simprocAttr];refine Bq (cK u ⟨rfl,rfl⟩) ?_;simp only[Bt,Aa,simprocAttr];refine Bq (dB u.host u.port (by omega) h2 h3 ⟨rfl,rfl⟩) ?_;simp only[Aa,simprocAttr];refine⟨by omega,?_⟩;refine Bq (cL u (by omega) (by omega) ⟨rfl,rfl⟩) ?_;simp only[Aa,simprocAttr]
 by_cases h:u.hf=true
 ·simp only[h,if_true,if_false,Bool.false_eq_true,qf] at hk;simp only[h,Aa,simprocAttr];exact⟨by omega,by omega,by omega,by simpa using hk⟩
 ·simp only[h,if_true,if_false,Bool.false_eq_true,qf] at hk;simp only[h,Aa,simprocAttr];exact⟨by omega,by simpa using hk⟩
theorem Tc (s:List UInt8) (c:UInt8) (hk:K objs (.b (Ae c s).2.2)):Ag Tryz.prog 173 [.s s,.s [c]] objs K:=by
 rw[<-Wl] at hk;exact conv (vs:=[.string (S s),.string (S [c])]) rfl rfl (fun w=>(Tryz.strings_Contains_one (S s) c w).mono fun e w' ⟨h1,h2⟩=>⟨h1,Qb.rev h2⟩) hk
theorem cU (p:UriP) (h1:p.scheme.length<=1000000) (h2:p.auth.length<=1000000) (hk:K objs (.tup [Bt (A7 p).2.1 (A7 p).2.2,.i .i64 (A7 p).1])):Ag Tryz.prog 143 [Dv p] objs K:=by
 have hm:maxLen=2 ^ 63 - 1:=rfl;refine AC jX rfl fun C _=>?_;unfold A7 at hk
 by_cases c1:p.hs=true
 ·by_cases c2:AM p.scheme C7=true
  ·by_cases c3:p.ha=true
   ·by_cases c4:(Ae 64 p.auth).2.2=true
    ·simp only[c1,c2,c3,c4,if_true,if_false,Bool.true_eq_false,Bt] at hk;simp only[Dv,c1,c3,IK,Aa,simprocAttr];refine Ai (KP p.scheme C7 (by omega) (by decide) ?_);simp only[c2,Aa,simprocAttr];refine Ai (Tc p.auth 64 ?_);simp only[c4,Aa,simprocAttr];exact hk
    ·simp only[c1,c2,c3,c4,if_true,if_false,Bool.true_eq_false,Bt] at hk;simp only[Dv,c1,c3,IK,Aa,simprocAttr];refine Ai (KP p.scheme C7 (by omega) (by decide) ?_);simp only[c2,Aa,simprocAttr];refine Ai (Tc p.auth 64 ?_);simp only[c4,Aa,simprocAttr];refine Ai (Qy p.auth (by omega) ?_);simp only[Bt,Aa,simprocAttr];exact hk
   ·simp only[c1,c2,c3,if_true,if_false,Bool.true_eq_false,Bt] at hk;simp only[Dv,c1,c3,IK,Aa,simprocAttr];refine Ai (KP p.scheme C7 (by omega) (by decide) ?_);simp only[c2,Aa,simprocAttr];exact hk
  ·simp only[c1,c2,if_true,if_false,Bool.true_eq_false,Bt] at hk;simp only[Dv,c1,IK,Aa,simprocAttr];refine Ai (KP p.scheme C7 (by omega) (by decide) ?_);simp only[c2,Aa,simprocAttr];exact hk
 ·simp only[c1,if_true,if_false,Bt] at hk;simp only[Dv,c1,IK,Aa,simprocAttr];exact hk
theorem WU (p:UriP) (hk:K objs (.tup [A3 (BN p).2,.i .i64 (BN p).1])):Ag Tryz.prog 144 [Dv p] objs K:=by
 refine AC jK rfl fun C _=>?_;have n1:=Fx p.path AX;unfold BN at hk;simp only[Dv,UE,Aa,simprocAttr];refine Ai (Jo p.path AX ?_);simp only[Aa,simprocAttr]
 by_cases c1:(Aj p.path AX).1=0
 ·simp only[c1,Aa,simprocAttr] at hk ⊢;refine Ai (WS _ (by omega) ?_);have hs:Ez (Aj p.path AX).2=if BD (Aj p.path AX).2=[] then [47] else BD (Aj p.path AX).2:=rfl
  by_cases c0:BD (Aj p.path AX).2=[]
  all_goals simp only[c0,Aa,simprocAttr] at hs
  all_goals rw[hs] at hk
  all_goals simp only[c0,Aa,simprocAttr]
  all_goals refine Ai (Jo p.query AO ?_)
  all_goals simp only[Aa,simprocAttr]
  all_goals by_cases c2:(Aj p.query AO).1=0
  all_goals simp only[c2,Aa,simprocAttr] at hk ⊢
  all_goals first
   | exact hk
   |refine Ai (Jo p.frag AO ?_)
    simp only[Aa,simprocAttr]
    by_cases c3:(Aj p.frag AO).1=0
    all_goals simp only[c3,Aa,simprocAttr] at hk ⊢
    all_goals exact hk
 ·simp only[c1,Aa,simprocAttr] at hk ⊢;exact hk
theorem Q5 [Pow Tryz.prog] (s:List UInt8) (hs:s.length<=maxLen) (hk:K objs (.tup [A3 (BY s).2,.i .i64 (BY s).1])):Ag Tryz.prog 116 [.s s] objs K:=by
 have hm:maxLen=2 ^ 63 - 1:=rfl;refine AC iB rfl fun C _=>?_;unfold BY G2 at hk
 by_cases c0:(4096:Int)<↑s.length
 ·have c0':4096<s.length:=by omega
  simp only[c0',if_true,Qh] at hk;simp only[c0,Od,Aa,simprocAttr];exact hk
 ·have c0':¬4096<s.length:=by omega
  simp only[c0',if_false] at hk;simp only[c0,Od,Aa,simprocAttr];refine Ai (YG _ ?_);have sl:=Sa s;have op:=N0 (AP s).2;have ol:=NO (AP s).2;have rl:=Nq (AP s).2;generalize hp:(AP s).2=p at *
  by_cases c1:(AP s).1=0
  ·simp only[c1,Dv,Aa,simprocAttr] at hk ⊢;refine Ai (cU p (by omega) (by omega) ?_);simp only[Aa,simprocAttr]
   by_cases c2:(A7 p).1=0
   ·simp only[c2,Bt,Dv,Aa,simprocAttr] at hk ⊢;refine Ai (WU p ?_)
    by_cases c3:(BN p).1=0
    ·have hsh:Dg (Fu (A7 p).2.1 (A7 p).2.2 (BN p).2):=⟨by show (A7 p).2.1.length<=_;omega,by show _<=(((A7 p).2.2:Nat):Int);omega,by show (((A7 p).2.2:Nat):Int)<=_;omega,by show (BN p).2.path.length<=_;omega,by show (BN p).2.query.length<=_;omega,by show (BN p).2.frag.length<=_;omega⟩;simp only[c3,Aa,simprocAttr] at hk;simp only[c3,A3,Aa,simprocAttr];refine Ai (Jz (Fu (A7 p).2.1 (A7 p).2.2 (BN p).2) hsh ?_)
     by_cases c4:4096<(Bi (Fu (A7 p).2.1 (A7 p).2.2 (BN p).2)).length
     ·rw[Gk,if_pos c4] at hk;have c4':(4096:Int)<((Bi (Fu (A7 p).2.1 (A7 p).2.2 (BN p).2)).length:Nat):=by omega
      simp only[A3,BB,Aa,simprocAttr] at hk;simp only[c4',Aa,simprocAttr];exact hk
     ·rw[Gk,if_neg c4] at hk;have c4':¬(4096:Int)<((Bi (Fu (A7 p).2.1 (A7 p).2.2 (BN p).2)).length:Nat):=by omega
      simp only[A3,Fu,Aa,simprocAttr] at hk;simp only[c4',Aa,simprocAttr];exact hk
    ·simp only[c3,A3,BB,Aa,simprocAttr] at hk ⊢;exact hk
   ·simp only[c2,Bt,A3,BB,Aa,simprocAttr] at hk ⊢;exact hk
  ·simp only[c1,Dv,A3,BB,Aa,simprocAttr] at hk ⊢;exact hk
end
end Go.Proofs.YtbeoijfmfkifeaaGreatDoor
namespace Go.Proofs.YtbeoijfmfkifeaaGreatDoor
open Lib renaming hasPrefix->zk, indexByte->ji
open List renaming eq_nil_of_length_eq_zero->qd, flatMap_cons->qp, getElem?_eq_getElem->zv, getElem?_set->zb, length_cons->zj, length_drop->zx
open Nat renaming le_refl->zd
def B4 (c:UInt8):Bool:=B1 c||AD c||Aw c [46,45,95]
def CI:List UInt8:=[46,45,95,58]
def Cr (c:UInt8):Bool:=AD c||(decide (97<=c.toNat)&&decide (c.toNat<=122))
def C9 (l:List UInt8):Bool:=l.all Cr&&!l.isEmpty
def DJ (c:UInt8) (new s:List UInt8):List UInt8:=s.flatMap fun x=>if x=c then new else [x]
def Dw (s:List UInt8):List UInt8:=DJ 126 [37,55,69] s
def CL (c:UInt8):Bool:=c==37||B4 c||c==58
def Cl (l:List UInt8):Int×List UInt8 :=
 if (An l).1≠0 then ((An l).1,[])
 else if l.all CL=false then (1,[])
 else if l=[]\/l.getLast? = some 58 then (3,[])
 else if (Aj l CI).1≠0 then ((Aj l CI).1,[])
 else (0,Dw (Aj l CI).2)
def Ca:List UInt8:=[100,105,100,58]
def AY (s:List UInt8):Int×List UInt8×List UInt8 :=
 if 4096<s.length then (5,[],[])
 else if zk s Ca=false then (60,[],[])
 else if (Ae 58 (s.drop 4)).2.2=false then (6,[],[])
 else if C9 (Ae 58 (s.drop 4)).1=false then (100,[],[])
 else if (Cl (Ae 58 (s.drop 4)).2.1).1≠0 then ((Cl (Ae 58 (s.drop 4)).2.1).1,[],[])
 else (0,(Ae 58 (s.drop 4)).1,(Cl (Ae 58 (s.drop 4)).2.1).2)
structure DidU where
 meth:List UInt8
 id:List UInt8
 path:List UInt8
 query:List UInt8
 frag:List UInt8
 hq:Bool
 hf:Bool
instance:DecidableEq DidU:=fun a b=>
 decidable_of_iff (a.meth=b.meth/\a.id=b.id/\a.path=b.path/\a.query=b.query/\a.frag=b.frag/\a.hq=b.hq/\a.hf=b.hf) (by
  cases a;cases b;simp)
def JZ:DidU:=⟨[],[],[],[],[],false,false⟩
def Cc (s:List UInt8):List UInt8:=A6 (Cf s)
def Kd (s:List UInt8):Int×DidU :=
 if 4096<s.length then (5,JZ)
 else if (AY (Cc s)).1≠0 then ((AY (Cc s)).1,JZ)
 else if (Aj ((Cf s).drop (Cc s).length) AX).1≠0 then ((Aj ((Cf s).drop (Cc s).length) AX).1,JZ)
 else if (Aj (Ae 63 (Ae 35 s).1).2.1 AO).1≠0 then ((Aj (Ae 63 (Ae 35 s).1).2.1 AO).1,JZ)
 else if (Aj (Ae 35 s).2.1 AO).1≠0 then ((Aj (Ae 35 s).2.1 AO).1,JZ)
 else (0,⟨(AY (Cc s)).2.1,(AY (Cc s)).2.2,(Aj ((Cf s).drop (Cc s).length) AX).2,(Aj (Ae 63 (Ae 35 s).1).2.1 AO).2,(Aj (Ae 35 s).2.1 AO).2,(Ae 63 (Ae 35 s).1).2.2,(Ae 35 s).2.2⟩)
def AB (m i:List UInt8):List UInt8:=Ca++m++[58]++i
def FR (u:DidU):List UInt8:=AB u.meth u.id++u.path++(if u.hq=true then [63]++u.query else [])++(if u.hf=true then [35]++u.frag else [])
theorem Hs (c:UInt8):∀s:List UInt8,Lib.index s [c]=ji s c
 | []=>rfl
 | b::l=>by
  have ih:=Hs c l;unfold Lib.index ji;rw[ih]
  by_cases h:b=c
  ·subst h;simp
  ·have h':¬c=b:=fun e=>h e.symm;simp[h,h']
theorem Le (c:UInt8) (new:List UInt8):∀s:List UInt8,c∉s->DJ c new s=s
 | [],_=>rfl
 | x::s,h=>by
  simp only[List.mem_cons,not_or] at h;unfold DJ;rw[qp,if_neg (fun e=>h.1 e.symm)];show [x]++DJ c new s=_;rw[Le c new s h.2];rfl
theorem N3 (c:UInt8) (new a b:List UInt8):DJ c new (a++b)=DJ c new a++DJ c new b:=by simp[DJ]
theorem eZ (c:UInt8) (new:List UInt8):∀(n:Nat) (s:List UInt8),s.length<=n->Lib.replaceK [c] new (Lib.count s [c]) s=DJ c new s:=by
 intro n
 induction n with
 | zero=>
  intro s hs;obtain rfl:s=[]:=qd (by omega)
  rfl
 | succ n ih=>
  intro s hs;rcases Dk c s with ⟨h1,_,h2⟩|⟨k,h1,h2,_,h3⟩
  ·rw[Lib.count_miss (by rw[Hs];exact h1),Le c new s h2];rfl
  ·have hi:Lib.index s [c]=k:=by rw[Hs];exact h1
   rw[Lib.count_hit (by simp) hi,Nat.add_comm,Lib.replaceK_hit _ _ _ _ _ hi];have:=ih (s.drop (k+[c].length)) (by rw[zx];simp;omega);rw[this];have hk:s[k]=c:=by rw[zv h2] at h3;injection h3
   have hpre:c∉s.take k:=by
    intro hm;obtain⟨j,hj,hjc⟩:=List.mem_iff_getElem.1 hm;have hj':j<k:=by rw[List.length_take] at hj;omega
    have:=(Lib.indexByte_some h1).2 j hj';rw[List.getElem_take] at hjc;exact this (by rw[zv (by omega),hjc])
   conv=>rhs;rw[<-List.take_append_drop k s,List.drop_eq_getElem_cons h2,hk,N3,Le c new _ hpre]
   show _=s.take k++DJ c new ([c]++s.drop (k+1));rw[N3];simp[DJ]
theorem iE (c:UInt8) (new s:List UInt8) (h:new≠[c]):Lib.replaceAll s [c] new=DJ c new s:=by
 unfold Lib.replaceAll Lib.replace;rw[if_neg (by simp;exact fun e=>h e.symm)];unfold Lib.replaceNum;rw[if_pos (.inl (by decide))];exact eZ c new s.length s (zd _)
theorem eC (c:UInt8) (s:List UInt8):Lib.count s [c]<=s.length+1:=Lib.count_le s [c]
theorem NM (s:List UInt8):(Dw s).length<=3*s.length:=by
 induction s with
 | nil=>exact zd _
 | cons x s ih=>
  unfold Dw DJ at ih ⊢;rw[qp,List.length_append,zj]
  split<;>simp only[zj,List.length_nil]<;>omega
def Ax (l:List UInt8):List UInt8:=l.flatMap fun c=>if B4 c=true then [c] else Bd c
def Bp (p:List UInt8):List UInt8:=Ax (An p).2
def Ge (ps:List (List UInt8)):List UInt8:=ps.flatMap fun q=>58::Bp q
theorem mC:∀n:Fin 256,(B4 (UInt8.ofNat n.val)=true->Bo (UInt8.ofNat n.val) CI=true/\UInt8.ofNat n.val≠126/\UInt8.ofNat n.val≠58/\UInt8.ofNat n.val≠37) /\
  (A4 (UInt8.ofNat n.val)=true->UInt8.ofNat n.val≠126->B4 (UInt8.ofNat n.val)=true)/\(A4 (UInt8.ofNat n.val)=false->B4 (UInt8.ofNat n.val)=false) /\
  ((Bd (UInt8.ofNat n.val)).all (fun c=>c != 126))=true/\(Bj (UInt8.ofNat n.val)=true->UInt8.ofNat n.val≠58/\B4 (UInt8.ofNat n.val)=true):=by decide +kernel
theorem Hk (c:UInt8):(B4 c=true->Bo c CI=true/\c≠126/\c≠58/\c≠37)/\(A4 c=true->c≠126->B4 c=true)/\(A4 c=false->B4 c=false)/\(Bd c).all (fun c=>c != 126)=true/\(Bj c=true->c≠58/\B4 c=true):=by
 have:=mC ⟨c.toNat,UInt8.toNat_lt c⟩;simpa using this
theorem LB (a b:List UInt8):Dw (a++b)=Dw a++Dw b:=N3 _ _ a b
theorem NN {c:UInt8} (h:c≠126):Dw [c]=[c]:=by simp[Dw,DJ,h]
theorem cS (c:UInt8):Dw (Bd c)=Bd c:=Le _ _ _ (fun hm=>by
 have:=List.all_eq_true.1 (Hk c).2.2.2.1 126 hm;simp at this)
theorem F6 (c:UInt8) (l:List UInt8):Ax (c::l)=(if B4 c=true then [c] else Bd c)++Ax l:=by simp[Ax]
theorem St:∀(n:Nat) (l o:List UInt8),l.length<=n->(Al AR 0 l o).1=(Al AR 0 l []).1/\((Al AR 0 l []).1=0->(Al AR 0 l o).2=o++(Al AR 0 l []).2):=by
 intro n
 induction n with
 | zero=>
  intro l o hl;obtain rfl:l=[]:=qd (by omega);simp[Al]
 | succ n ih=>
  intro l o hl
  cases l with
  | nil=>simp[Al]
  | cons c t=>
   by_cases hc:c=37
   ·rcases he:Bm (c::t) with _|_
    ·simp[Al,hc,he,show Bm (37::t)=false from by rw[<-hc];exact he]
    ·obtain⟨a,b,r,rfl⟩:=Fj he;have hd:∀o,Al AR 0 (c::a::b::r) o=Al AR 0 r (o++[AZ (c::a::b::r)]):=by
      intro o;rw[Al,if_pos hc,if_pos he];show (if (0:Int)=0 then Al AR 2 (a::b::r) _ else _)=_;rw[if_pos rfl,DP]
      rfl
     rw[hd,hd];have i1:=ih r (o++[AZ (c::a::b::r)]) (by simp at hl ⊢;omega);have i2:=ih r ([]++[AZ (c::a::b::r)]) (by simp at hl ⊢;omega);refine⟨by rw[i1.1,i2.1],fun h=>?_⟩;rw[i2.1] at h;rw[i1.2 h,i2.2 h];simp
   ·have hd:∀o,Al AR 0 (c::t) o=Al AR 0 t (o++[c]):=by
     intro o;rw[Al,if_neg hc];show (if (0:Int)=0 then Al AR 0 t _ else _)=_;rw[if_pos rfl];rfl
    rw[hd,hd];have i1:=ih t (o++[c]) (by simp at hl;omega);have i2:=ih t ([]++[c]) (by simp at hl;omega);refine⟨by rw[i1.1,i2.1],fun h=>?_⟩;rw[i2.1] at h;rw[i1.2 h,i2.2 h];simp
theorem P2 {c:UInt8} {t:List UInt8} (hc:c=37) (a b:UInt8) (r:List UInt8) (ht:t=a::b::r) (he:Bm (c::t)=true) (o:List UInt8):Al AR 0 (c::t) o=Al AR 0 r (o++[AZ (c::t)]):=by
 subst ht;rw[Al,if_pos hc,if_pos he];show (if (0:Int)=0 then Al AR 2 (a::b::r) _ else _)=_;rw[if_pos rfl,DP]
 rfl
theorem P3 {c:UInt8} {t:List UInt8} (hc:c≠37) (o:List UInt8):Al AR 0 (c::t) o=Al AR 0 t (o++[c]):=by
 rw[Al,if_neg hc];show (if (0:Int)=0 then Al AR 0 t _ else _)=_;rw[if_pos rfl];rfl
def A1 (l:List UInt8):Int×List UInt8:=Al AR 0 l []
theorem Ej {l:List UInt8} (h:l.length<=16384):An l=A1 l:=by unfold An BU;rw[if_neg (by omega)];rfl
theorem Fw {c:UInt8} {t:List UInt8} (hc:c≠37):(A1 (c::t)).1=(A1 t).1/\((A1 t).1=0->(A1 (c::t)).2=c::(A1 t).2):=by
 unfold A1;rw[P3 hc];have:=St t.length t ([]++[c]) (zd _);exact⟨this.1,fun h=>by rw[this.2 h];rfl⟩
theorem F0 {a b:UInt8} {r:List UInt8} (he:Bm (37::a::b::r)=true):(A1 (37::a::b::r)).1=(A1 r).1/\((A1 r).1=0->(A1 (37::a::b::r)).2=AZ (37::a::b::r)::(A1 r).2):=by
 unfold A1;rw[P2 rfl a b r rfl he];have:=St r.length r ([]++[AZ (37::a::b::r)]) (zd _);exact⟨this.1,fun h=>by rw[this.2 h];rfl⟩
theorem Ie {t:List UInt8} (he:Bm (37::t)=false):(A1 (37::t)).1=2:=by
 unfold A1;rw[Al,if_pos rfl,if_neg (by rw[he];exact Bool.false_ne_true)]
theorem Vl:∀(n:Nat) (l:List UInt8),l.length<=n->(A1 l).1=0\/(A1 l).1=2:=by
 intro n
 induction n with
 | zero=>
  intro l hl;obtain rfl:l=[]:=qd (by omega);exact .inl rfl
 | succ n ih=>
  intro l hl
  cases l with
  | nil=>exact .inl rfl
  | cons c t=>
   by_cases hc:c=37
   ·subst hc;rcases he:Bm (37::t) with _|_
    ·exact .inr (Ie he)
    ·obtain⟨a,b,r,rfl⟩:=Fj he;rw[(F0 he).1];exact ih r (by simp at hl ⊢;omega)
   ·rw[(Fw hc).1];exact ih t (by simp at hl;omega)
open Go.RowKit Sx
theorem P6 (c:UInt8) (hd:AD c=false):Cr c=(decide (97<=c.toNat)&&decide (c.toNat<=122)):=by unfold Cr;rw[hd];rfl
theorem mB:∀n:Fin 256,CL (UInt8.ofNat n.val)=(UInt8.ofNat n.val==37||(B1 (UInt8.ofNat n.val)||AD (UInt8.ofNat n.val)||Aw (UInt8.ofNat n.val) [46,45,95,58])):=by decide +kernel
theorem Wp (c:UInt8):CL c=(c==37||(B1 c||AD c||Aw c [46,45,95,58])):=by
 have:=mB ⟨c.toNat,UInt8.toNat_lt c⟩;simpa using this
theorem YD {s:List UInt8} (h:zk s Ca=true):Lib.trimPrefix s Ca=s.drop 4:=by unfold Lib.trimPrefix;rw[if_pos h];rfl
theorem Yc (m i:List UInt8):(AB m i).length=m.length+i.length+5:=by simp[AB,Ca];omega
section
variable [Tabs Tryz.prog] {objs:List OB} {K:List OB->AV->Prop}
theorem S3 [Shp Tryz.prog] (s new:List UInt8) (c:UInt8) (hs:s.length<=100000) (hn:new.length<=100) (hne:new≠[c]) (hk:K objs (.s (DJ c new s))):Ag Tryz.prog 179 [.s s,.s [c],.s new] objs K:=by
 have hc:Lib.countB (S s) (S [c])<=s.length+1:=eC c s;have hl:(S s).size+Lib.countB (S s) (S [c])*(S new).size<=140737488355328:=by
  have h1:Lib.countB (S s) (S [c])*(S new).size<=100001*100:=Nat.mul_le_mul (by omega) (by rw[Am];omega);rw[Am];omega
 have e:Lib.replaceAll s [c] new=DJ c new s:=iE c new s hne;rw[<-e] at hk;exact L4 (vs:=[.string (S s),.string (S [c]),.string (S new)]) rfl rfl (fun w hT=>Tryz.strings_ReplaceAll_shaped (S s) (S [c]) (S new) w (Shp.sh w hT) (by rw[Am];omega) (by rw[Am];simp) hl) hk
theorem ZC (s:List UInt8) (hs:s.length<=1000000) (hk:K objs (.b (C9 s))):Ag Tryz.prog 149 [.s s] objs K:=by
 refine AC gV rfl fun C _=>?_;unfold C9 at hk;simp only[TM,Aa,simprocAttr];refine BI (fun n objs tm=>∃i:Nat,i<=s.length/\n=s.length - i/\objs=[]/\(∀j (h:j<s.length),j<i->Cr s[j]=true)/\tm.length=29/\tm[0]? = some (.s s)/\tm[5]? = some (.i .i64 s.length)/\tm[6]? = some (.i .i64 i)) s.length ⟨0,Nat.zero_le _,rfl,rfl,fun j h h0=>absurd h0 (by omega),rfl,rfl,rfl,rfl⟩ ?_;rintro n _ tm ⟨i,hi,rfl,rfl,hall,hlen,t0,t5,t6⟩
 by_cases hlt:(i:Int)<s.length
 ·have hlt':i<s.length:=by omega
  have hg:=GJ hlt';have hfin:Cr s[i]=false->K objs (.b false):=fun h=>by
   rw[Kz hlt' h] at hk;exact hk
  have hnext:Cr s[i]=true->∀j (h:j<s.length),j<i+1->Cr s[j]=true:=by
   intro h j hj hji;rcases Nat.lt_or_ge j i with h1|h1
   ·exact hall j hj h1
   ·have:j=i:=by omega
    subst this;exact h
  simp only[Aa,simprocAttr,zb,hlen,t0,t5,t6,hlt];refine⟨by omega,?_⟩;rw[hg];generalize s[i]=c at *;refine Ai (QE c ?_)
  by_cases hd:AD c=true
  ·have hm:Cr c=true:=by unfold Cr;rw[hd];rfl
   simp only[hd,Aa,simprocAttr,zb,hlen,t0,t5,t6];exact⟨⟨by omega,by omega⟩,s.length - (i+1),by omega,i+1,by omega,rfl,hnext hm,rfl⟩
  ·simp only[Bool.not_eq_true] at hd;have hm:=P6 c hd
   by_cases h97:((c.toNat:Nat):Int)<97
   ·have hm2:Cr c=false:=by rw[hm,decide_eq_false (by omega)];rfl
    simp only[hd,hg,h97,Aa,simprocAttr,zb,hlen,t0,t5,t6];exact⟨⟨by omega,by omega⟩,hfin hm2⟩
   ·by_cases h122:(122:Int)<((c.toNat:Nat):Int)
    ·have hm2:Cr c=false:=by rw[hm,decide_eq_false (p:=c.toNat<=122) (by omega),Bool.and_false]
     simp only[hd,hg,h97,h122,Aa,simprocAttr,zb,hlen,t0,t5,t6];exact⟨⟨by omega,by omega⟩,⟨by omega,by omega⟩,hfin hm2⟩
    ·have hm2:Cr c=true:=by rw[hm,decide_eq_true (by omega),decide_eq_true (by omega)];rfl
     simp only[hd,hg,h97,h122,Aa,simprocAttr,zb,hlen,t0,t5,t6];exact⟨⟨by omega,by omega⟩,⟨by omega,by omega⟩,⟨by omega,by omega⟩,s.length - (i+1),by omega,i+1,by omega,rfl,hnext hm2,rfl⟩
 ·have hie:i=s.length:=by omega
  subst hie;have ha:s.all Cr=true:=Kt fun j h=>hall j h h;rw[ha] at hk;simp only[Aa,simprocAttr,zb,hlen,t0,t5,t6,hlt];have e:decide (¬s=[])=(true&&!s.isEmpty):=by cases s<;>simp
  rw[e];exact hk
theorem ZB (c:UInt8) (hk:K objs (.b (B1 c||AD c||Aw c [46,45,95,58]))):Ag Tryz.prog 178 [.i .u8 c.toNat] objs K:=by
 refine AC gU rfl fun C _=>?_;simp only[TL,Aa,simprocAttr];refine Ai (Xy c ?_)
 by_cases h1:B1 c=true
 ·simp only[h1,Bool.true_or] at hk;simp only[h1,Aa,simprocAttr];exact hk
 ·simp only[h1,Aa,simprocAttr];refine Ai (QE c ?_)
  by_cases h2:AD c=true
  ·simp only[h1,h2,Bool.true_or,Bool.or_true,Bool.false_or] at hk;simp only[h2,Aa,simprocAttr];exact hk
  ·simp only[h1,h2,Bool.false_or] at hk;simp only[h2,Aa,simprocAttr];refine Ai (Te _ c ?_);simp only[Aa,simprocAttr];rw[Wr];exact hk
set_option maxHeartbeats 4000000 in
theorem aT [Shp Tryz.prog] (s:List UInt8) (hs:s.length<=16384) (hk:K objs (.tup [.s (Cl s).2,.i .i64 (Cl s).1])):Ag Tryz.prog 150 [.s s] objs K:=by
 refine AC gD rfl fun C _=>?_;have hid:Cl s=if (An s).1≠0 then ((An s).1,[]) else if s.all CL=false then (1,[]) else if s=[]\/s.getLast? = some 58 then (3,[]) else if (Aj s CI).1≠0 then ((Aj s CI).1,[]) else (0,Dw (Aj s CI).2):=rfl
 simp only[Ty,Aa,simprocAttr];refine Ai (Ny s ?_)
 by_cases h1:(An s).1=0
 ·simp only[h1,Aa,simprocAttr] at hid ⊢;refine BI (fun n objs tm=>∃i:Nat,i<=s.length/\n=s.length - i/\objs=[]/\(∀j (h:j<s.length),j<i->CL s[j]=true)/\tm.length=54/\tm[0]? = some (.s s)/\tm[18]? = some (.i .i64 s.length)/\tm[19]? = some (.i .i64 i)) s.length ⟨0,Nat.zero_le _,rfl,rfl,fun j h h0=>absurd h0 (by omega),rfl,rfl,rfl,rfl⟩ ?_;rintro n _ tm ⟨i,hi,rfl,rfl,hall,hlen,t0,t5,t6⟩
  by_cases hlt:(i:Int)<s.length
  ·have hlt':i<s.length:=by omega
   have hg:=GJ hlt';have hfin:CL s[i]=false->K objs (.tup [.s [],.i .i64 1]):=fun h=>by
    rw[Kz hlt' h] at hid;simp only[Aa,simprocAttr] at hid;rw[hid] at hk;exact hk
   have hnext:CL s[i]=true->∀j (h:j<s.length),j<i+1->CL s[j]=true:=by
    intro h j hj hji;rcases Nat.lt_or_ge j i with h1|h1
    ·exact hall j hj h1
    ·have:j=i:=by omega
     subst this;exact h
   clear hk hid;generalize s[i]=c at *;have hib:=Wp c
   by_cases h37:c=37
   ·have e37:((c.toNat:Nat):Int)=37:=by rw[h37];rfl
    have hb:CL c=true:=by rw[hib,h37];rfl
    simp only[Aa,simprocAttr,zb,hlen,t0,t5,t6,hlt,hg,e37];exact⟨by omega,⟨by omega,by omega⟩,s.length - (i+1),by omega,i+1,by omega,rfl,hnext hb,rfl⟩
   ·have e37:¬((c.toNat:Nat):Int)=37:=fun e=>h37 (UInt8.toNat_inj.1 (by have:(37:UInt8).toNat=37:=rfl;omega));have hne:(c==37)=false:=by simpa using h37
    simp only[Aa,simprocAttr,zb,hlen,t0,t5,t6,hlt,hg,e37];refine⟨by omega,by omega,?_⟩;refine Ai (ZB c ?_);rw[hne,Bool.false_or] at hib;rw[<-hib]
    by_cases hb:CL c=true
    ·simp only[hb,Aa,simprocAttr,zb,hlen,t0,t5,t6];exact⟨⟨by omega,by omega⟩,s.length - (i+1),by omega,i+1,by omega,rfl,hnext hb,rfl⟩
    ·simp only[Bool.not_eq_true] at hb;simp only[hb,Aa,simprocAttr,zb,hlen,t0,t5,t6];exact hfin hb
  ·have hie:i=s.length:=by omega
   subst hie;have ha:s.all CL=true:=Kt fun j h=>hall j h h;simp only[ha,Aa,simprocAttr] at hid;simp only[Aa,simprocAttr,zb,hlen,t0,t5,t6,hlt]
   by_cases hs0:s=[]
   ·have ho:s=[]\/s.getLast? = some 58:=.inl hs0;rw[if_pos ho] at hid;rw[hid] at hk;simp only[Aa,simprocAttr,zb,hlen,t0,t5,t6,hs0];exact hk
   ·have hpos:0<s.length:=by
     rcases Nat.eq_zero_or_pos s.length with h|h
     ·exact absurd (qd h) hs0
     ·exact h
    have hgl:s.getLast? = some s[s.length - 1]:=by rw[List.getLast?_eq_getElem?,zv (by omega)]
    have hg2:s.getD ((s.length:Int) - 1).toNat 0=s[s.length - 1]:=by
     rw[show ((s.length:Int) - 1).toNat=s.length - 1 by omega];exact GJ (by omega)
    by_cases h58:s[s.length - 1]=58
    ·have ho:s=[]\/s.getLast? = some 58:=.inr (by rw[hgl,h58]);have e58:((s[s.length - 1].toNat:Nat):Int)=58:=by rw[h58];rfl
     rw[if_pos ho] at hid;rw[hid] at hk;simp only[Aa,simprocAttr,zb,hlen,t0,t5,t6,hs0];refine⟨⟨by omega,by omega⟩,⟨by omega,by omega⟩,?_⟩;rw[hg2];simp only[Aa,simprocAttr,zb,hlen,t0,t5,t6,e58];exact hk
    ·have ho:¬(s=[]\/s.getLast? = some 58):=by
      rw[hgl];rintro(h|h)
      ·exact hs0 h
      ·injection h with h;exact h58 h
     have e58:¬((s[s.length - 1].toNat:Nat):Int)=58:=fun e=>h58 (UInt8.toNat_inj.1 (by have:(58:UInt8).toNat=58:=rfl;omega));rw[if_neg ho] at hid;simp only[Aa,simprocAttr,zb,hlen,t0,t5,t6,hs0];refine⟨⟨by omega,by omega⟩,⟨by omega,by omega⟩,?_⟩;rw[hg2];simp only[Aa,simprocAttr,zb,hlen,t0,t5,t6,e58];refine Ai (Jo s CI ?_)
     by_cases h3:(Aj s CI).1=0
     ·have nl:=Fx s CI;simp only[h3,Aa,simprocAttr] at hid;simp only[h3,Aa,simprocAttr,zb,hlen];refine Ai (S3 _ _ 126 (by omega) (by decide) (by decide) ?_);rw[hid] at hk;simp only[Aa,simprocAttr,zb,hlen];exact hk
     ·simp only[h3,Aa,simprocAttr] at hid;simp only[h3,Aa,simprocAttr,zb,hlen];rw[hid] at hk;exact hk
 ·simp only[h1,Aa,simprocAttr] at hid ⊢;rw[hid] at hk;exact hk
theorem SU [Shp Tryz.prog] (s:List UInt8) (hs:s.length<=maxLen) (hk:K objs (.tup [.agg [.s (AY s).2.1,.s (AY s).2.2],.i .i64 (AY s).1])):Ag Tryz.prog 118 [.s s] objs K:=by
 have hm:maxLen=2 ^ 63 - 1:=rfl;refine AC gT rfl fun C _=>?_;unfold AY at hk
 by_cases c0:(4096:Int)<↑s.length
 ·have c0':4096<s.length:=by omega
  simp only[c0',if_true] at hk;simp only[c0,Ob,Aa,simprocAttr];exact hk
 ·have c0':¬4096<s.length:=by omega
  simp only[c0',if_false] at hk;simp only[c0,Ob,Aa,simprocAttr];refine Ai (Td s Ca ?_)
  by_cases c1:zk s Ca=true
  ·have ct:=Da 58 (s.drop 4);have hdl:(s.drop 4).length<=s.length:=by rw[zx];omega
   rw[YD c1];simp only[c1,Aa,simprocAttr] at hk ⊢;generalize s.drop 4=r at *;refine Ai (Pi r 58 (by omega) ?_)
   by_cases c2:(Ae 58 r).2.2=true
   ·simp only[c2,Aa,simprocAttr] at hk ⊢;refine Ai (ZC _ (by omega) ?_)
    by_cases c3:C9 (Ae 58 r).1=true
    ·simp only[c3,Aa,simprocAttr] at hk ⊢;refine Ai (aT _ (by omega) ?_)
     by_cases c4:(Cl (Ae 58 r).2.1).1=0
     ·simp only[c4,Aa,simprocAttr] at hk ⊢;exact hk
     ·simp only[c4,Aa,simprocAttr] at hk ⊢;exact hk
    ·simp only[c3,Aa,simprocAttr] at hk ⊢;exact hk
   ·simp only[c2,Aa,simprocAttr] at hk ⊢;exact hk
  ·simp only[c1,Aa,simprocAttr] at hk ⊢;exact hk
theorem LD (m i:List UInt8) (h1:m.length<=200000000000000) (h2:i.length<=200000000000000) (hk:K objs (.s (AB m i))):Ag Tryz.prog 121 [.agg [.s m,.s i]] objs K:=by
 refine AC iR rfl fun C _=>?_;simp only[Ua,Aa,simprocAttr];exact⟨by omega,by omega,by omega,by simpa[AB,Ca] using hk⟩
theorem LA (m i:List UInt8) (h1:m.length<=200000000000000) (h2:i.length<=200000000000000) (hk:K objs (.s (AB m i))):Ag Tryz.prog 80 [.agg [.s m,.s i]] objs K:=by
 refine AC iZ rfl fun C _=>?_;simp only[Un,Aa,simprocAttr];exact⟨by omega,by omega,by omega,by simpa[AB,Ca] using hk⟩
end
instance tabs:Tabs Tryz.prog:=⟨fun w=>w.ShapedOpen Tryz.prog,fun _ _ h hk _=>S4 h hk⟩
instance tabs_shp:Shp Tryz.prog:=⟨fun _ h=>h⟩
end Go.Proofs.YtbeoijfmfkifeaaGreatDoor
namespace Go.Proofs.YtbeoijfmfkifeaaGreatDoor
open List renaming all_cons->je, all_eq_true->zl, append_assoc->zr, append_nil->qf, flatMap_cons->qp, isPrefixOf_iff_prefix->xr, length->qx, length_append->zf, length_cons->zj, mem_append->zq, mem_cons->zt, mem_map->jd
open Nat renaming le_refl->zd
def Ck (c:UInt8):Bool:=c==37||B4 c
theorem cE {a b:UInt8} (r:List UInt8) (ha:a≠58) (hb:b≠58) {p:List UInt8} {ps:List (List UInt8)} (h:Ap 58 r=p::ps):Ap 58 (37::a::b::r)=(37::a::b::p)::ps:=by
 rw[CT,if_neg (by decide),CT,if_neg ha,CT,if_neg hb,h]
theorem XA (c:UInt8) (out:List UInt8) (h:Bo c CI=true):AQ CI out c false=(0,out++[c]):=DD rfl h
theorem P4 {c:UInt8} (t out:List UInt8) (hc:c≠37) (h:Bo c CI=true):Al (AQ CI) 0 (c::t) out=Al (AQ CI) 0 t (out++[c]):=by
 rw[Al,if_neg hc,XA c out h,if_pos rfl]
theorem Xj (a b:UInt8) (r out:List UInt8) (he:Bm (37::a::b::r)=true):Al (AQ CI) 0 (37::a::b::r) out=Al (AQ CI) 0 r (out++(if A4 (AZ (37::a::b::r))=true then [AZ (37::a::b::r)] else Bd (AZ (37::a::b::r)))):=by
 rw[Al,if_pos rfl,if_pos he];rcases hu:A4 (AZ (37::a::b::r)) with _|_
 ·rw[Fz hu,if_pos rfl,DP,if_neg Bool.false_ne_true];rfl
 ·rw[DD (by rw[hu];rfl) (EW hu),if_pos rfl,DP,if_pos rfl];rfl
theorem SE (v:UInt8):Dw (if A4 v=true then [v] else Bd v)=if B4 v=true then [v] else Bd v:=by
 have hf:=Hk v;rcases hu:A4 v with _|_
 ·rw[if_neg Bool.false_ne_true,hf.2.2.1 hu,if_neg Bool.false_ne_true,cS]
 ·rw[if_pos rfl]
  by_cases h:v=126
  ·subst h;decide
  ·rw[hf.2.1 hu h,if_pos rfl,NN h]
theorem bL:∀(n:Nat) (l p:List UInt8) (ps:List (List UInt8)),l.length<=n->Ap 58 l=p::ps->((A1 l).1=0↔∀q∈p::ps,(A1 q).1=0) /\
  (l.all CL=true->(A1 l).1=0->∀out,∃y,Al (AQ CI) 0 l out=(0,out++y)/\Dw y=Ax (A1 p).2++ps.flatMap fun q=>58::Ax (A1 q).2):=by
 intro n
 induction n with
 | zero=>
  intro l p ps hl hs;obtain rfl:l=[]:=List.eq_nil_of_length_eq_zero (by omega);obtain⟨rfl,rfl⟩:p=[]/\ps=[]:=by
   have:Ap 58 []=[[]]:=rfl;rw[this] at hs;injection hs with h1 h2;exact⟨h1.symm,h2.symm⟩
  exact⟨by simp,fun _ _ out=>⟨[],by rw[Al,qf],rfl⟩⟩
 | succ n ih=>
  intro l p ps hl hs
  cases l with
  | nil=>
   obtain⟨rfl,rfl⟩:p=[]/\ps=[]:=by
    have:Ap 58 []=[[]]:=rfl;rw[this] at hs;injection hs with h1 h2;exact⟨h1.symm,h2.symm⟩
   exact⟨by simp,fun _ _ out=>⟨[],by rw[Al,qf],rfl⟩⟩
  | cons c t=>
   simp only[zj] at hl
   by_cases hc:c=37
   ·subst hc;rcases he:Bm (37::t) with _|_
    ·obtain⟨p',ps',e'⟩:=Cj 58 t;rw[CT,if_neg (by decide),e'] at hs;injection hs with h1 h2
     have hb:=Ie he;have hp:Bm p=false:=by
      rw[<-h1];rcases hq:Bm (37::p') with _|_
      ·rfl
      ·obtain⟨a,b,r,rfl⟩:=Fj hq;have hx:(Bj a&&Bj b)=true:=hq;have ht:t=a::b::t.drop 2:=by
        have h3:Ap 58 t=(a::b::r)::ps':=e';rw[DE] at h3;rcases Dk 58 t with ⟨_,h4,_⟩|⟨k,_,hk,h4,_⟩
        ·rw[h4] at h3;simp only[Bool.false_eq_true,if_false,List.cons.injEq] at h3;rw[h3.1];rfl
        ·rw[h4] at h3;simp only[if_true,List.cons.injEq] at h3;have h5:=h3.1
         match t,k,h5 with
         | [],k,h5=>simp at h5
         | [x],0,h5=>simp at h5
         | [x],k+1,h5=>simp at h5
         | x::y::t,0,h5=>simp at h5
         | x::y::t,1,h5=>simp at h5
         | x::y::t,k+2,h5=>simp at h5;rw[h5.1,h5.2.1];rfl
       rw[ht] at he;have:Bm (37::a::b::t.drop 2)=(Bj a&&Bj b):=rfl;rw[this,hx] at he;cases he
     have hpb:(A1 p).1=2:=by rw[<-h1] at hp ⊢;exact Ie hp
     exact⟨⟨(fun h=>by rw[hb] at h;cases h),(fun h=>by have:=h p (by simp);rw[hpb] at this;cases this)⟩,(fun _ h=>by rw[hb] at h;cases h)⟩
    ·obtain⟨a,b,r,rfl⟩:=Fj he;have hx:Bj a=true/\Bj b=true:=by
      have:(Bj a&&Bj b)=true:=he;simpa using this
     have ha:=((Hk a).2.2.2.2 hx.1).1;have hb:=((Hk b).2.2.2.2 hx.2).1;obtain⟨p',ps',e'⟩:=Cj 58 r;rw[cE r ha hb e'] at hs;injection hs with h1 h2
     subst h1 h2;have hep:Bm (37::a::b::p')=true:=he;have hv:AZ (37::a::b::p')=AZ (37::a::b::r):=rfl;obtain⟨i1,i2⟩:=ih r p' ps' (by simp at hl;omega) e';have d1:=F0 he;have d2:=F0 hep;refine⟨?_,fun hall h0 out=>?_⟩
     ·rw[d1.1,i1];simp only[zt,forall_eq_or_imp,d2.1]
     ·rw[d1.1] at h0;have hall':r.all CL=true:=by
       simp only[je,Bool.and_eq_true] at hall;exact hall.2.2.2
      obtain⟨y,y1,y2⟩:=i2 hall' h0 (out++(if A4 (AZ (37::a::b::r))=true then [AZ (37::a::b::r)] else Bd (AZ (37::a::b::r))));have hp0:=(i1.1 h0) p' (by simp);refine⟨(if A4 (AZ (37::a::b::r))=true then [AZ (37::a::b::r)] else Bd (AZ (37::a::b::r)))++y,?_,?_⟩
      ·rw[Xj a b r out he,y1,zr]
      ·rw[LB,SE,y2,d2.2 hp0,hv,F6,zr]
   ·by_cases h58:c=58
    ·subst h58;obtain⟨p',ps',e'⟩:=Cj 58 t;rw[CT,if_pos rfl,e'] at hs;injection hs with h1 h2
     subst h1 h2;obtain⟨i1,i2⟩:=ih t p' ps' (by omega) e';have d1:=Fw (c:=58) (t:=t) (by decide);refine⟨?_,fun hall h0 out=>?_⟩
     ·rw[d1.1,i1];simp only[zt,forall_eq_or_imp];exact⟨fun h=>⟨rfl,h⟩,fun h=>h.2⟩
     ·rw[d1.1] at h0;have hall':t.all CL=true:=by
       simp only[je,Bool.and_eq_true] at hall;exact hall.2
      obtain⟨y,y1,y2⟩:=i2 hall' h0 (out++[58]);refine⟨58::y,?_,?_⟩
      ·rw[P4 t out (by decide) (by decide),y1,zr];rfl
      ·show Dw ([58]++y)=_;rw[LB,NN (by decide),y2];simp[Ax,A1,Al]
    ·obtain⟨p',ps',e'⟩:=Cj 58 t;rw[CT,if_neg h58,e'] at hs;injection hs with h1 h2
     subst h1 h2;obtain⟨i1,i2⟩:=ih t p' ps' (by omega) e';have d1:=Fw (c:=c) (t:=t) hc;have d2:=Fw (c:=c) (t:=p') hc;refine⟨?_,fun hall h0 out=>?_⟩
     ·rw[d1.1,i1];simp only[zt,forall_eq_or_imp,d2.1]
     ·rw[d1.1] at h0;simp only[je,Bool.and_eq_true] at hall;have hid:B4 c=true:=by
       have:=hall.1;unfold CL at this;simp only[Bool.or_eq_true,beq_iff_eq] at this;rcases this with (h|h)|h
       ·exact absurd h hc
       ·exact h
       ·exact absurd h h58
      have hf:=(Hk c).1 hid;obtain⟨y,y1,y2⟩:=i2 hall.2 h0 (out++[c]);have hp0:=(i1.1 h0) p' (by simp);refine⟨c::y,?_,?_⟩
      ·rw[P4 t out hc hf.1,y1,zr];rfl
      ·show Dw ([c]++y)=_;rw[LB,NN hf.2.1,y2,d2.2 hp0,F6,if_pos hid,zr]
theorem Lh:∀l:List UInt8,l.all CL=(Ap 58 l).all fun q=>q.all Ck
 | []=>rfl
 | c::t=>by
  have ih:=Lh t;obtain⟨p',ps',e'⟩:=Cj 58 t;rw[CT]
  by_cases h:c=58
  ·subst h;rw[if_pos rfl,je,ih,je];rfl
  ·rw[if_neg h,e',je,ih,e',je,je,je,<-Bool.and_assoc]
   congr 2
   unfold CL Ck;have:(c==58)=false:=by simpa using h
   rw[this,Bool.or_false]
theorem RR:∀l:List UInt8,(Ap 58 l).getLastD []=[]↔(l=[]\/l.getLast? = some 58)
 | []=>by simp[Ap]
 | [c]=>by
  by_cases h:c=58
  ·subst h;simp[Ap]
  ·rw[CT,if_neg h];simp[Ap,h]
 | c::d::t=>by
  have ih:=RR (d::t);obtain⟨p',ps',e'⟩:=Cj 58 (d::t);rw[CT];simp only[reduceCtorEq,false_or,List.getLast?_cons_cons] at ih ⊢;rw[<-ih]
  by_cases h:c=58
  ·subst h;rw[if_pos rfl,e'];simp
  ·rw[if_neg h,e']
   cases ps' with
   | nil=>
    simp only[List.getLastD_cons,List.getLastD_nil];rw[e'] at ih;simp only[List.getLastD_cons,List.getLastD_nil] at ih
    constructor
    ·intro h2;cases h2
    ·intro h2;subst h2;exfalso;have hsp:=DE 58 (d::t);rw[e'] at hsp
     split at hsp
     ·rename_i h3;injection hsp with _ h4
      have:=EV 58 (Ae 58 (d::t)).2.1;rw[<-h4] at this;simp at this
     ·injection hsp with h4 _;cases h4
   | cons q qs=>simp
theorem JH (l p:List UInt8) (ps:List (List UInt8)) (hl:l.length<=16384) (hs:Ap 58 l=p::ps) :
  Cl l=if ¬(∀q∈p::ps,(An q).1=0) then (2,[]) else if (p::ps).all (fun q=>q.all Ck)=false then (1,[]) else if (p::ps).getLastD []=[] then (3,[]) else (0,Bp p++Ge ps):=by
 obtain⟨m1,m2⟩:=bL l.length l p ps (zd _) hs;have hq:∀q∈p::ps,An q=A1 q:=fun q hq=>Ej (by
  rw[<-hs] at hq;have:=F4 58 l q hq;omega)
 have e1:(∀q∈p::ps,(An q).1=0)↔(A1 l).1=0:=by
  rw[m1];exact forall_congr' fun q=>forall_congr' fun h=>by rw[hq q h]
 unfold Cl;rw[Ej hl,<-hs,Lh,hs];have e2:=RR l;rw[hs] at e2
 by_cases h0:(A1 l).1=0
 ·rw[if_neg (show ¬(A1 l).1≠0 from fun h=>h h0),if_neg (show ¬¬(∀q∈p::ps,(An q).1=0) from fun h=>h (e1.2 h0))]
  by_cases h1:((p::ps).all fun q=>q.all Ck)=false
  ·rw[if_pos h1,if_pos h1]
  ·rw[if_neg h1,if_neg h1]
   by_cases h2:(p::ps).getLastD []=[]
   ·rw[if_pos h2,if_pos (e2.1 h2)]
   ·rw[if_neg h2,if_neg (fun h=>h2 (e2.2 h))];obtain⟨y,y1,y2⟩:=m2 (by rw[Lh,hs];simpa using h1) h0 [];have hn:Aj l CI=(0,y):=by
     unfold Aj BU;rw[if_neg (by omega),y1];rfl
    rw[hn,if_neg (by simp)];simp only;rw[y2];have e3:Bp p=Ax (A1 p).2:=by unfold Bp;rw[hq p (by simp)]
    have e4:Ge ps=ps.flatMap fun q=>58::Ax (A1 q).2:=by
     unfold Ge;have:∀qs:List (List UInt8),(∀q∈qs,An q=A1 q)->qs.flatMap (fun q=>58::Bp q)=qs.flatMap fun q=>58::Ax (A1 q).2:=by
      intro qs
      induction qs with
      | nil=>intro _;rfl
      | cons q qs ih=>
       intro h;rw[qp,qp,ih (fun q' h'=>h q' (by simp[h']))];unfold Bp;rw[h q (by simp)]
     exact this ps (fun q h=>hq q (by simp[h]))
    rw[e3,e4]
 ·have h2:(A1 l).1=2:=(Vl l.length l (zd _)).resolve_left h0;rw[if_pos h0,if_pos (by rw[e1];exact h0),h2]
theorem Ik:∀d:List UInt8,A1 (Ax d)=(0,d)
 | []=>rfl
 | c::d=>by
  have ih:=Ik d;rw[F6]
  by_cases h:B4 c=true
  ·rw[if_pos h];have h37:=((Hk c).1 h).2.2.2;have d1:=Fw (c:=c) (t:=Ax d) h37;show A1 (c::Ax d)=_;rw[ih] at d1;have e2:=d1.2 rfl;have:A1 (c::Ax d)=((A1 (c::Ax d)).1,(A1 (c::Ax d)).2):=rfl;rw[this,d1.1,e2]
  ·rw[if_neg h];have he:=Mt c (Ax d);have d1:=F0 (a:=Bk (c.toNat / 16)) (b:=Bk (c.toNat % 16)) (r:=Ax d) he.1;have e:Bd c++Ax d=37::Bk (c.toNat / 16)::Bk (c.toNat % 16)::Ax d:=rfl;rw[e];rw[ih] at d1;have e2:=d1.2 rfl;have hv:AZ (37::Bk (c.toNat / 16)::Bk (c.toNat % 16)::Ax d)=c:=he.2;rw[hv] at e2;have:A1 (37::Bk (c.toNat / 16)::Bk (c.toNat % 16)::Ax d)=((A1 (37::Bk (c.toNat / 16)::Bk (c.toNat % 16)::Ax d)).1,(A1 (37::Bk (c.toNat / 16)::Bk (c.toNat % 16)::Ax d)).2):=rfl;rw[this,d1.1,e2]
theorem ZI:∀n:Fin 256,(Bd (UInt8.ofNat n.val)).all (fun c=>Ck c&&c != 58)=true:=by decide +kernel
theorem Mu:∀d:List UInt8,(Ax d).all (fun c=>Ck c&&c != 58)=true
 | []=>rfl
 | c::d=>by
  rw[F6,List.all_append,Mu d,Bool.and_true]
  by_cases h:B4 c=true
  ·rw[if_pos h];have hf:=(Hk c).1 h;simp[Ck,h,hf.2.2.1]
  ·rw[if_neg h];have:=ZI ⟨c.toNat,UInt8.toNat_lt c⟩;simpa using this
theorem IB (d:List UInt8):(58:UInt8)∉Ax d:=by
 intro hm;have:=zl.1 (Mu d) 58 hm;simp at this
theorem Qt (d:List UInt8):(Ax d).all Ck=true:=by
 rw[zl];intro x hx;have:=zl.1 (Mu d) x hx;simp only[Bool.and_eq_true] at this;exact this.1
theorem Qs (d:List UInt8):Ax d=[]↔d=[]:=by
 cases d with
 | nil=>exact⟨fun _=>rfl,fun _=>rfl⟩
 | cons c d=>
  rw[F6]
  constructor
  ·intro h;exfalso;have:=congrArg qx h;rw[zf] at this
   split at this<;>simp[Bd] at this
  ·intro h;cases h
def js (ps:List (List UInt8)):List UInt8:=ps.flatMap fun q=>58::q
theorem K5:∀(s:List UInt8) (l:List (List UInt8)),58∉s->(∀x∈l,(58:UInt8)∉x)->Ap 58 (s++js l)=s::l
 | s,[],hs,_=>by
  show Ap 58 (s++[])=_;rw[qf,DE,Fk 58 s hs];simp
 | s,x::l,hs,h=>by
  have:s++js (x::l)=s++58::(x++js l):=by simp[js]
  rw[this,DE,Dm 58 s _ hs,if_pos rfl,K5 x l (h x (by simp)) (fun y hy=>h y (by simp[hy]))]
theorem I8 (ps:List (List UInt8)):Ge ps=js (ps.map Bp):=by
 unfold Ge js;rw[List.flatMap_map]
theorem N1 {q:List UInt8} (h1:(Bp q).length<=16384):(An (Bp q)).1=0/\Bp (Bp q)=Bp q:=by
 have e:An (Bp q)=(0,(An q).2):=by
  unfold Bp at h1 ⊢;rw[Ej h1,Ik]
 refine⟨by rw[e],?_⟩;show Ax (An (Bp q)).2=Bp q;rw[e];rfl
theorem NG:∀(ps:List (List UInt8)) (q:List UInt8),q∈ps->q.length<=(js ps).length
 | [],q,h=>by cases h
 | p::ps,q,h=>by
  have:js (p::ps)=58::(p++js ps):=by simp[js]
  rw[this,zj,zf];rcases zt.1 h with rfl|h
  ·omega
  ·have:=NG ps q h;omega
theorem Oa (f:List UInt8->List UInt8):∀(p:List UInt8) (ps:List (List UInt8)),((p::ps).map f).getLastD []=f ((p::ps).getLastD [])
 | p,[]=>by simp
 | p,q::ps=>by
  have:=Oa f q ps;simpa using this
theorem Zq {l i:List UInt8} (hl:l.length<=16384) (hi:i.length<=16384) (h:Cl l=(0,i)):Cl i=(0,i)/\i.all CL=true:=by
 obtain⟨p,ps,hs⟩:=Cj 58 l;have hp:=JH l p ps hl hs;rw[h] at hp
 split at hp
 ·cases hp
 ·rename_i g1
  split at hp
  ·cases hp
  ·rename_i g2
   split at hp
   ·cases hp
   ·rename_i g3;injection hp with _ hp
    simp only[Decidable.not_not] at g1;have hsi:Ap 58 i=Bp p::ps.map Bp:=by
     rw[hp,I8];exact K5 _ _ (IB _) (fun x hx=>by
      obtain⟨q,_,rfl⟩:=jd.1 hx;exact IB _)
    have hlen:∀q∈p::ps,(Bp q).length<=16384:=by
     intro q hq;have hi2:=hi;rw[hp,I8,zf] at hi2;rcases zt.1 hq with rfl|hq
     ·omega
     ·have:=NG (ps.map Bp) (Bp q) (List.mem_map_of_mem hq);omega
    have hq:=JH i (Bp p) (ps.map Bp) hi hsi;have c1:∀q∈Bp p::ps.map Bp,(An q).1=0:=by
     intro q hq;have:q∈(p::ps).map Bp:=hq;obtain⟨q',h1,rfl⟩:=jd.1 this;exact(N1 (hlen q' h1)).1
    have c2:(Bp p::ps.map Bp).all (fun q=>q.all Ck)=true:=by
     rw[zl];intro q hq;have:q∈(p::ps).map Bp:=hq;obtain⟨q',h1,rfl⟩:=jd.1 this;exact Qt _
    have c3:¬(Bp p::ps.map Bp).getLastD []=[]:=by
     have e:=Oa Bp p ps;show ¬((p::ps).map Bp).getLastD []=[];rw[e];intro e2;unfold Bp at e2;rw[Qs] at e2
     apply g3
     have hm:(p::ps).getLastD []∈p::ps:=by
      rw[List.getLastD_eq_getLast?,List.getLast?_eq_some_getLast (by simp)];exact List.getLast_mem _
     generalize (p::ps).getLastD []=q at *;have hql:q.length<=l.length:=F4 58 l q (by rw[hs];exact hm);have h0:=g1 q hm
     cases q with
     | nil=>rfl
     | cons c t=>
      exfalso;rw[Ej (by omega)] at h0 e2
      by_cases hc:c=37
      ·subst hc;rcases he:Bm (37::t) with _|_
       ·rw[Ie he] at h0;cases h0
       ·obtain⟨a,b,r,rfl⟩:=Fj he;have d1:=F0 he;rw[d1.1] at h0;rw[d1.2 h0] at e2;cases e2
      ·have d1:=Fw (c:=c) (t:=t) hc;rw[d1.1] at h0;rw[d1.2 h0] at e2;cases e2
    rw[if_neg (fun h=>h c1),if_neg (by rw[c2];simp),if_neg c3] at hq;refine⟨?_,?_⟩
    ·rw[hq,(N1 (hlen p (by simp))).2,hp]
     congr 2
     rw[I8,I8,List.map_map]
     congr 1
     refine List.map_congr_left fun q hq=>?_;exact(N1 (hlen q (by simp[hq]))).2
    ·rw[Lh,hsi];exact c2
structure CanD (u:DidU):Prop where
 meth:C9 u.meth=true
 id:Cl u.id=(0,u.id)
 idb:u.id.all CL=true
 path:Aj u.path AX=(0,u.path)
 slash:u.path=[]\/∃r,u.path=47::r
 query:Aj u.query AO=(0,u.query)
 frag:Aj u.frag AO=(0,u.frag)
 noq:u.hq=false->u.query=[]
 nof:u.hf=false->u.frag=[]
 len:(FR u).length<=4096
theorem mN:∀n:Fin 256,(Cr (UInt8.ofNat n.val)=true->Aw (UInt8.ofNat n.val) [58,47,63,35]=false)/\(CL (UInt8.ofNat n.val)=true->Aw (UInt8.ofNat n.val) [47,63,35]=false)/\(Em AX (UInt8.ofNat n.val)=true->Aw (UInt8.ofNat n.val) [63,35]=false)/\(Em AO (UInt8.ofNat n.val)=true->UInt8.ofNat n.val≠35):=by decide +kernel
theorem Hl (c:UInt8):(Cr c=true->Aw c [58,47,63,35]=false)/\(CL c=true->Aw c [47,63,35]=false)/\(Em AX c=true->Aw c [63,35]=false)/\(Em AO c=true->c≠35):=by
 have:=mN ⟨c.toNat,UInt8.toNat_lt c⟩;simpa using this
theorem Gz {l cs:List UInt8} {c:UInt8} (h:∀x∈l,Aw x cs=false) (hc:Aw c cs=true):c∉l:=fun hm=>by
 have:=h c hm;rw[hc] at this;cases this
theorem WH {m i:List UInt8} (hm:C9 m=true) (hi:i.all CL=true):∀x∈AB m i,Aw x [47,63,35]=false:=by
 intro x hx;unfold AB at hx;simp only[zq,zt,List.not_mem_nil,or_false] at hx;rcases hx with ((hx|hx)|hx)|hx
 ·have:∀x∈Ca,Aw x [47,63,35]=false:=by decide
  exact this x hx
 ·unfold C9 at hm;simp only[Bool.and_eq_true] at hm;have:=(Hl x).1 (zl.1 hm.1 x hx);unfold Aw at this ⊢;simp only[List.contains_cons,List.contains_nil,Bool.or_false,Bool.or_eq_false_iff] at this ⊢;exact this.2
 ·subst hx;decide
 ·exact(Hl x).2.1 (zl.1 hi x hx)
theorem PM {m i:List UInt8} (hm:C9 m=true) (hi:Cl i=(0,i)) (hl:(AB m i).length<=4096):AY (AB m i)=(0,m,i):=by
 have h58:(58:UInt8)∉m:=by
  unfold C9 at hm;simp only[Bool.and_eq_true] at hm;exact Gz (fun x hx=>(Hl x).1 (zl.1 hm.1 x hx)) (by decide)
 have hp:Lib.hasPrefix (AB m i) Ca=true:=by
  unfold AB;rw[zr,zr];exact xr.2 (List.prefix_append _ _)
 have hd:(AB m i).drop 4=m++58::i:=by simp[AB,Ca]
 unfold AY;rw[if_neg (by omega),if_neg (by rw[hp];simp),hd,Dm 58 m i h58];simp only;rw[hm,hi];simp
theorem CanD.back {u:DidU} (h:CanD u):Kd (FR u)=(0,u):=by
 obtain⟨m,i,pa,qu,fr,hq,hf⟩:=u;have hl:=h.len;have hno:=WH h.meth h.idb;have npa:∀x∈pa,Aw x [63,35]=false:=fun x hx=>(Hl x).2.2.1 (zl.1 (LG h.path) x hx);have nqu:(35:UInt8)∉qu:=fun hx=>(Hl 35).2.2.2 (zl.1 (LG h.query) 35 hx) rfl;have hs:=h.slash;have hqn:=h.noq;have hfn:=h.nof;simp only at hno hs hqn hfn hl;have f35:(35:UInt8)∉AB m i:=Gz hno (by decide);have f63:(63:UInt8)∉AB m i:=Gz hno (by decide);have f47:(47:UInt8)∉AB m i:=Gz hno (by decide);have p35:(35:UInt8)∉pa:=Gz npa (by decide);have p63:(63:UInt8)∉pa:=Gz npa (by decide);have q35:(35:UInt8)∉(if hq=true then [63]++qu else []):=by
  split
  ·simp[nqu]
  ·simp
 have e35:Ae 35 (FR ⟨m,i,pa,qu,fr,hq,hf⟩)=(AB m i++pa++(if hq=true then [63]++qu else []),fr,hf):=by
  unfold FR
  cases hf
  ·have:=hfn rfl;subst this;simp only[Bool.false_eq_true,if_false,qf];exact Fk 35 _ (by simp only[zq,not_or];exact⟨⟨f35,p35⟩,q35⟩)
  ·simp only[if_true];have:AB m i++pa++(if hq=true then [63]++qu else [])++([35]++fr)=(AB m i++pa++(if hq=true then [63]++qu else []))++35::fr:=by simp
   rw[this];exact Dm 35 _ fr (by simp only[zq,not_or];exact⟨⟨f35,p35⟩,q35⟩)
 have e63:Ae 63 (AB m i++pa++(if hq=true then [63]++qu else []))=(AB m i++pa,qu,hq):=by
  cases hq
  ·have:=hqn rfl;subst this;simp only[Bool.false_eq_true,if_false,qf];exact Fk 63 _ (by simp only[zq,not_or];exact⟨f63,p63⟩)
  ·simp only[if_true];have:AB m i++pa++([63]++qu)=(AB m i++pa)++63::qu:=by simp
   rw[this];exact Dm 63 _ qu (by simp only[zq,not_or];exact⟨f63,p63⟩)
 have eb:Cf (FR ⟨m,i,pa,qu,fr,hq,hf⟩)=AB m i++pa:=by
  unfold Cf;rw[e35];simp only;rw[e63]
 have en:Cc (FR ⟨m,i,pa,qu,fr,hq,hf⟩)=AB m i:=by
  unfold Cc A6;rw[eb];rcases hs with rfl|⟨r,rfl⟩
  ·rw[qf,Fk 47 _ f47]
  ·rw[Dm 47 _ r f47]
 have hdl:(AB m i).length<=4096:=by
  unfold FR at hl;simp only[zf] at hl;omega
 unfold Kd;rw[if_neg (by omega),en,PM h.meth h.id hdl,eb,e35];simp only;rw[e63];simp only;have ed:(AB m i++pa).drop (AB m i).length=pa:=by simp
 rw[ed,h.path,h.query,h.frag];simp
theorem Kj {s m i:List UInt8} (h:AY s=(0,m,i)):C9 m=true/\∃l,s=AB m l/\Cl l=(0,i)/\s.length<=4096:=by
 unfold AY at h
 split at h
 ·cases h
 ·rename_i g0
  split at h
  ·cases h
  ·rename_i g1
   split at h
   ·cases h
   ·rename_i g2
    split at h
    ·cases h
    ·rename_i g3
     split at h
     ·rename_i g4;injection h with h1 _;exact absurd h1 g4
     ·rename_i g4;simp only[Decidable.not_not] at g4;injection h with _ h
      injection h with h1 h2
      subst h1 h2;simp only[Bool.not_eq_false] at g1 g2 g3;refine⟨g3,(Ae 58 (s.drop 4)).2.1,?_,by rw[<-g4],by omega⟩;obtain⟨t,ht⟩:=xr.1 (show List.isPrefixOf Ca s=true from g1);have hj:=Ho 58 (s.drop 4);rw[g2,if_pos rfl] at hj;unfold AB;have hd:s.drop 4=t:=by rw[<-ht];simp[Ca]
      rw[zr,zr,<-zr _ [58],zr _ [58],<-hj,hd,ht]
theorem OZ {l i:List UInt8} (h:Cl l=(0,i)):i.length<=3*l.length:=by
 unfold Cl at h
 split at h
 ·rename_i g;injection h with h1 _;exact absurd h1 g
 ·split at h
  ·cases h
  ·split at h
   ·cases h
   ·split at h
    ·rename_i g;injection h with h1 _;exact absurd h1 g
    ·injection h with _ h
     have h1:=Fx l CI;have h2:=NM (Aj l CI).2;rw[<-h];omega
theorem CanD.of {s:List UInt8} {u:DidU} (hs:s.length<=1000) (h:Kd s=(0,u)):CanD u:=by
 unfold Kd at h
 split at h
 ·cases h
 ·split at h
  ·rename_i g;injection h with h1 _;exact absurd h1 g
  ·rename_i g1
   split at h
   ·rename_i g;injection h with h1 _;exact absurd h1 g
   ·rename_i g2
    split at h
    ·rename_i g;injection h with h1 _;exact absurd h1 g
    ·rename_i g3
     split at h
     ·rename_i g;injection h with h1 _;exact absurd h1 g
     ·rename_i g4;simp only[Decidable.not_not] at g1 g2 g3 g4;injection h with _ h
      have hd:AY (Cc s)=(0,(AY (Cc s)).2.1,(AY (Cc s)).2.2):=by rw[<-g1]
      obtain⟨k1,l,k2,k3,k4⟩:=Kj hd;have e2:Aj ((Cf s).drop (Cc s).length) AX=(0,(Aj ((Cf s).drop (Cc s).length) AX).2):=by rw[<-g2]
      have e3:Aj (Ae 63 (Ae 35 s).1).2.1 AO=(0,(Aj (Ae 63 (Ae 35 s).1).2.1 AO).2):=by rw[<-g3]
      have e4:Aj (Ae 35 s).2.1 AO=(0,(Aj (Ae 35 s).2.1 AO).2):=by rw[<-g4]
      have j1:=congrArg qx (Ho 35 s);have j2:=congrArg qx (Ho 63 (Ae 35 s).1);have c1:=EP 35 s;have c2:=EP 63 (Ae 35 s).1;have hnb:=(FB (Cf s)).2;have hnl:(Cc s).length<=(Cf s).length:=hnb;have hbl:(Cf s).length<=(Ae 35 s).1.length:=PL 63 _;have h35l:=PL 35 s;have kl:(Cc s).length=(AY (Cc s)).2.1.length+l.length+5:=by
       have hk2:=congrArg qx k2;simp only[AB,Ca,zf,zj,List.length_nil] at hk2;omega
      have il:=OZ k3;have pl:=(EC _ _ _ e2).2.2;have ql:=(EC _ _ _ e3).2.2;have fl:=(EC _ _ _ e4).2.2;rw[List.length_drop] at pl;have ia:=Zq (l:=l) (by omega) (by omega) k3;have q0:(Ae 63 (Ae 35 s).1).2.1.length<=(Ae 35 s).1.length:=(Da 63 _).2;have f0:(Ae 35 s).2.1.length<=s.length:=(Da 35 _).2;have qs:(Cf s).length+(Ae 63 (Ae 35 s).1).2.1.length<=(Ae 35 s).1.length:=by
       show (Ae 63 (Ae 35 s).1).1.length+_<=_;rcases hb:(Ae 63 (Ae 35 s).1).2.2 with _|_
       ·rw[(c2.2.2 hb).1,(c2.2.2 hb).2];simp
       ·have:=c2.2.1 hb;omega
      have fs:(Ae 35 s).1.length+(Ae 35 s).2.1.length<=s.length:=by
       rcases hb:(Ae 35 s).2.2 with _|_
       ·rw[(c1.2.2 hb).1,(c1.2.2 hb).2];simp
       ·have:=c1.2.1 hb;omega
      have hslash:(Aj ((Cf s).drop (Cc s).length) AX).2=[]\/∃r,(Aj ((Cf s).drop (Cc s).length) AX).2=47::r:=by
       have hx:(Cf s).drop (Cc s).length=[]\/∃r,(Cf s).drop (Cc s).length=47::r:=by
        unfold Cc A6;rcases Dk 47 (Cf s) with ⟨_,h3,_⟩|⟨k,_,hk,h3,h4⟩
        ·rw[h3];left;simp
        ·rw[h3];right;have e:((Cf s).take k).length=k:=by rw[List.length_take];omega
         simp only[e];rw[List.drop_eq_getElem_cons hk];rw[List.getElem?_eq_getElem hk] at h4;injection h4 with h4
         exact⟨_,by rw[h4]⟩
       rcases hx with hx|⟨r,hx⟩
       ·left;rw[hx];decide
       ·right;rw[hx] at e2 ⊢;have hlen:=Iq e2;have hr:Al (AQ AX) 0 (47::r) []=(0,(Aj (47::r) AX).2):=by
         have e5:=e2;unfold Aj BU at e5;rw[if_neg (by omega)] at e5;rw[e5];unfold Aj BU;rw[if_neg (by omega)]
        have hp1:Al (AQ AX) 0 (47::r) []=Al (AQ AX) 0 r [47]:=by
         rw[Al,if_neg (by decide),DD rfl (by decide),if_pos rfl];rfl
        rw[hp1] at hr;obtain⟨y,a,k5,_⟩:=RU AX r.length r [47] _ (zd _) hr;exact⟨y,k5⟩
      rw[<-h];refine⟨k1,ia.1,ia.2,(EC _ _ _ e2).1,hslash,(EC _ _ _ e3).1,(EC _ _ _ e4).1,?_,?_,?_⟩
      ·intro hq;show (Aj (Ae 63 (Ae 35 s).1).2.1 AO).2=[];rw[(c2.2.2 hq).2];rfl
      ·intro hf;show (Aj (Ae 35 s).2.1 AO).2=[];rw[(c1.2.2 hf).2];rfl
      ·unfold FR;simp only[zf];have z1:((if (Ae 63 (Ae 35 s).1).2.2=true then [63]++(Aj (Ae 63 (Ae 35 s).1).2.1 AO).2 else []):List UInt8).length<=(Aj (Ae 63 (Ae 35 s).1).2.1 AO).2.length+1:=by
        split<;>simp
       have z2:((if (Ae 35 s).2.2=true then [35]++(Aj (Ae 35 s).2.1 AO).2 else []):List UInt8).length<=(Aj (Ae 35 s).2.1 AO).2.length+1:=by
        split<;>simp
       have z3:(AB (AY (Cc s)).2.1 (AY (Cc s)).2.2).length=(AY (Cc s)).2.1.length+(AY (Cc s)).2.2.length+5:=by simp[AB,Ca];omega
       omega
section
open Go.RowKit Sx
section
variable {objs:List OB} {K:List OB->AV->Prop}
end
theorem CanD.lens {u:DidU} (h:CanD u):u.meth.length<=4096/\u.id.length<=4096/\u.path.length<=4096/\u.query.length<=16384/\u.frag.length<=16384:=by
 have hl:=h.len;have h1:=Iq h.query;have h2:=Iq h.frag;have h3:=Yc u.meth u.id;unfold FR at hl;simp only[zf] at hl;omega
end
open Go.RowKit Sx
section
variable [Tabs Tryz.prog] {objs:List OB} {K:List OB->AV->Prop}
set_option maxHeartbeats 4000000 in
theorem RE (s:List UInt8) (hs:s.length<=140737488351232) (hk:K objs (.tup [A3 (BY s).2,.i .i64 (BY s).1])):Ag Tryz.prog 75 [.s s] objs K:=by
 have hm:maxLen=2 ^ 63 - 1:=rfl;refine AC gJ rfl fun C _=>?_;unfold BY G2 at hk
 by_cases c0:(4096:Int)<↑s.length
 ·have c0':4096<s.length:=by omega
  simp only[c0',if_true,Qh] at hk;simp only[c0,Og,Aa,simprocAttr];exact hk
 ·have c0':¬4096<s.length:=by omega
  simp only[c0',if_false] at hk;simp only[c0,Og,Aa,simprocAttr];refine Ai (Z2 _ hs ?_);have sl:=Sa s;have op:=N0 (AP s).2;have ol:=NO (AP s).2;have rl:=Nq (AP s).2;generalize hp:(AP s).2=p at *
  by_cases c1:(AP s).1=0
  ·simp only[c1,Dv,Aa,simprocAttr] at hk ⊢;have ho:A7 p=if p.hs=false then (60,[],0) else if AM p.scheme C7=false then (60,[],0) else if p.ha=false then (71,[],0) else if (Ae 64 p.auth).2.2=true then (70,[],0) else BL p.auth:=rfl
   by_cases d1:p.hs=true
   ·simp only[d1,Aa,simprocAttr] at ho ⊢;refine Ai (ZU p.scheme C7 (by omega) (by decide) ?_)
    by_cases d2:AM p.scheme C7=true
    ·simp only[d2,Aa,simprocAttr] at ho ⊢
     by_cases d3:p.ha=true
     ·simp only[d3,Aa,simprocAttr] at ho ⊢;refine Bq (F5 p.auth [64] (by omega) (by decide) ⟨rfl,rfl⟩) ?_;simp only[Aa,simprocAttr];have hix:=Yk p.auth 64
      by_cases d4:(Ae 64 p.auth).2.2=true
      ·have d4':=hix.2 d4;simp only[d4,Aa,simprocAttr] at ho;simp only[d4',Aa,simprocAttr];rw[ho] at hk;simp only[A3,BB,Aa,simprocAttr] at hk;exact hk
      ·have d4':¬((At p.auth [64]:Nat):Int)<((p.auth.length:Nat):Int):=fun h=>d4 (hix.1 h);simp only[d4,Aa,simprocAttr] at ho;simp only[d4',Aa,simprocAttr];refine Ai (R4 p.auth (by omega) ?_);rw[<-ho]
       by_cases c2:(A7 p).1=0
       ·simp only[c2,Bt,Aa,simprocAttr] at hk ⊢;refine Ai (MT p.path AX (by decide) ?_);have hr:BN p=if (Aj p.path AX).1≠0 then ((Aj p.path AX).1,BB) else if (Aj p.query AO).1≠0 then ((Aj p.query AO).1,BB) else if (Aj p.frag AO).1≠0 then ((Aj p.frag AO).1,BB) else (0,⟨[],0,Ez (Aj p.path AX).2,(Aj p.query AO).2,(Aj p.frag AO).2,p.hq,p.hf⟩):=rfl
        by_cases c3:(Aj p.path AX).1=0
        ·simp only[c3,Aa,simprocAttr] at hr ⊢;refine Ai (MT p.query AO (by decide) ?_)
         by_cases c4:(Aj p.query AO).1=0
         ·simp only[c4,Aa,simprocAttr] at hr ⊢;refine Ai (MT p.frag AO (by decide) ?_)
          by_cases c5:(Aj p.frag AO).1=0
          ·simp only[c5,Aa,simprocAttr] at hr ⊢;have n1:=Fx p.path AX;refine Ai (Y5 _ (by omega) ?_);have hsh:Dg (Fu (A7 p).2.1 (A7 p).2.2 (BN p).2):=⟨by show (A7 p).2.1.length<=_;omega,by show _<=(((A7 p).2.2:Nat):Int);omega,by show (((A7 p).2.2:Nat):Int)<=_;omega,by show (BN p).2.path.length<=_;omega,by show (BN p).2.query.length<=_;omega,by show (BN p).2.frag.length<=_;omega⟩;have hsl:Ez (Aj p.path AX).2=if BD (Aj p.path AX).2=[] then [47] else BD (Aj p.path AX).2:=rfl
           have hr1:(BN p).1=0:=by rw[hr]
           simp only[hr1,Aa,simprocAttr] at hk;rw[hr] at hk hsh;have fin:∀pa:List UInt8,Ez (Aj p.path AX).2=pa->Dg ⟨(A7 p).2.1,(A7 p).2.2,pa,(Aj p.query AO).2,(Aj p.frag AO).2,p.hq,p.hf⟩ /\
             ((((4096:Int)<((Bi ⟨(A7 p).2.1,(A7 p).2.2,pa,(Aj p.query AO).2,(Aj p.frag AO).2,p.hq,p.hf⟩).length:Nat))/\K objs (.tup [A3 BB,.i .i64 5])) \/
             (¬((4096:Int)<((Bi ⟨(A7 p).2.1,(A7 p).2.2,pa,(Aj p.query AO).2,(Aj p.frag AO).2,p.hq,p.hf⟩).length:Nat))/\K objs (.tup [A3 ⟨(A7 p).2.1,(A7 p).2.2,pa,(Aj p.query AO).2,(Aj p.frag AO).2,p.hq,p.hf⟩,.i .i64 0]))):=by
            intro pa hpa;rw[hpa] at hk hsh;simp only[Fu] at hk hsh;refine⟨hsh,?_⟩
            by_cases c7:4096<(Bi ⟨(A7 p).2.1,(A7 p).2.2,pa,(Aj p.query AO).2,(Aj p.frag AO).2,p.hq,p.hf⟩).length
            ·rw[Gk,if_pos c7] at hk;exact .inl ⟨by omega,hk⟩
            ·rw[Gk,if_neg c7] at hk;exact .inr ⟨by omega,hk⟩
           clear hk hsh
           by_cases c6:BD (Aj p.path AX).2=[]
           ·rw[if_pos c6] at hsl;obtain⟨f1,f2⟩:=fin _ hsl;simp only[c6,Aa,simprocAttr];refine Ai (IE _ f1 ?_);rcases f2 with ⟨f2,f3⟩|⟨f2,f3⟩
            ·simp only[f2,Aa,simprocAttr];exact f3
            ·simp only[f2,Aa,simprocAttr];exact f3
           ·rw[if_neg c6] at hsl;obtain⟨f1,f2⟩:=fin _ hsl;simp only[c6,Aa,simprocAttr];refine Ai (IE _ f1 ?_);rcases f2 with ⟨f2,f3⟩|⟨f2,f3⟩
            ·simp only[f2,Aa,simprocAttr];exact f3
            ·simp only[f2,Aa,simprocAttr];exact f3
          ·simp only[c5,Aa,simprocAttr] at hr ⊢;rw[hr] at hk;simp only[c5,A3,BB,Aa,simprocAttr] at hk;exact hk
         ·simp only[c4,Aa,simprocAttr] at hr ⊢;rw[hr] at hk;simp only[c4,A3,BB,Aa,simprocAttr] at hk;exact hk
        ·simp only[c3,Aa,simprocAttr] at hr ⊢;rw[hr] at hk;simp only[c3,A3,BB,Aa,simprocAttr] at hk;exact hk
       ·simp only[c2,Bt,A3,BB,Aa,simprocAttr] at hk ⊢;exact hk
     ·simp only[d3,Aa,simprocAttr] at ho ⊢;rw[ho] at hk;simp only[A3,BB,Aa,simprocAttr] at hk;exact hk
    ·simp only[d2,Aa,simprocAttr] at ho ⊢;rw[ho] at hk;simp only[A3,BB,Aa,simprocAttr] at hk;exact hk
   ·simp only[d1,Aa,simprocAttr] at ho ⊢;rw[ho] at hk;simp only[A3,BB,Aa,simprocAttr] at hk;exact hk
  ·simp only[c1,Dv,A3,BB,Aa,simprocAttr] at hk ⊢;exact hk
end
theorem bT (p:UriP):Dg (G2 p).2:=by
 have op:=N0 p;have ol:=NO p;have rl:=Nq p;have hz:Dg BB:=⟨by decide,by decide,by decide,by decide,by decide,by decide⟩;unfold G2 Gk
 repeat' split
 all_goals first
  | exact hz
  | exact⟨by show (A7 p).2.1.length<=_;omega,by show _<=(((A7 p).2.2:Nat):Int);omega,by show (((A7 p).2.2:Nat):Int)<=_;omega,by show (BN p).2.path.length<=_;omega,by show (BN p).2.query.length<=_;omega,by show (BN p).2.frag.length<=_;omega⟩
theorem Q6 (s:List UInt8):Dg (BY s).2:=by
 have hz:Dg BB:=⟨by decide,by decide,by decide,by decide,by decide,by decide⟩;unfold BY
 repeat' split
 ·exact hz
 ·exact hz
 ·exact bT _
theorem Sd {u:UrlP} (h:Dg u):(Bi u).length<=5000000:=by
 obtain⟨h1,h2,h3,h4,h5,h6⟩:=h;have:=Ye u h2 h3;omega
theorem RM {b:UrlP} (h:DO b=true):(Bi b).length<=4096:=by
 unfold DO at h;simp only[Bool.and_eq_true,decide_eq_true_eq] at h;have h1:=h.1;unfold BY at h1
 split at h1
 ·cases h1
 ·omega
def OE (a b:UrlP):Bool:=decide (a.host=b.host)&&(decide (a.port=b.port)&&(decide (a.path=b.path)&&(decide (a.query=b.query)&&(decide (a.frag=b.frag)&&(a.hq==b.hq&&a.hf==b.hf)))))
theorem Po (a b:UrlP):OE a b=decide (a=b):=by
 obtain⟨a1,a2,a3,a4,a5,a6,a7⟩:=a;obtain⟨b1,b2,b3,b4,b5,b6,b7⟩:=b;rw[Bool.eq_iff_iff];simp[OE]
theorem X9 (a b:UrlP):OE a b=decide (b=a):=by
 rw[Po];exact decide_eq_decide.2 ⟨fun h=>h.symm,fun h=>h.symm⟩
section
variable [Tabs Tryz.prog] {objs:List OB} {K:List OB->AV->Prop}
theorem YI [Pow Tryz.prog] (u:UrlP) (hu:Dg u) (hk:K objs (.b (DO u))):Ag Tryz.prog 184 [A3 u] objs K:=by
 have hm:maxLen=2 ^ 63 - 1:=rfl;have hl:=Sd hu;refine AC iC rfl fun C _=>?_;simp only[TW,A3,Aa,simprocAttr];refine Ai (Jz u hu ?_);simp only[Aa,simprocAttr];refine Ai (Q5 _ (by omega) ?_);unfold DO at hk;generalize (BY (Bi u)).2=v at hk ⊢
 by_cases h:(BY (Bi u)).1=0
 ·simp only[h,A3,Aa,simprocAttr] at hk ⊢;rw[<-Po] at hk;exact hk
 ·simp only[h,A3,Aa,simprocAttr] at hk ⊢;exact hk
theorem Z3 (u:UrlP) (hu:Dg u) (hk:K objs (.b (DO u))):Ag Tryz.prog 133 [A3 u] objs K:=by
 have hm:maxLen=2 ^ 63 - 1:=rfl;have hl:=Sd hu;refine AC gK rfl fun C _=>?_;simp only[TD,A3,Aa,simprocAttr];refine Ai (IE u hu ?_);simp only[Aa,simprocAttr];refine Ai (RE _ (by omega) ?_);unfold DO at hk;generalize (BY (Bi u)).2=v at hk ⊢
 by_cases h:(BY (Bi u)).1=0
 ·simp only[h,A3,Aa,simprocAttr] at hk ⊢;rw[<-X9] at hk;exact hk
 ·simp only[h,A3,Aa,simprocAttr] at hk ⊢;exact hk
end
section
variable [Tabs Tryz.prog] {objs:List OB} {K:List OB->AV->Prop}
end
end Go.Proofs.YtbeoijfmfkifeaaGreatDoor
namespace Go.Proofs.YtbeoijfmfkifeaaGreatDoor
open Lib renaming hasPrefix->zk
open List renaming append_assoc->zr, append_nil->qf, cons->qj, cons_append->qt, length_cons->zj, mem_append->zq, mem_cons->zt, nil_append->qm, not_mem_nil->jk
def jn (l:List (List UInt8)):List UInt8:=l.flatMap fun s=>47::s
def EL (s:List UInt8):Prop:=47∉s/\s≠[46]/\s≠[46,46]
theorem I7:jn []=[]:=rfl
theorem D2 (s:List UInt8) (l:List (List UInt8)):jn (s::l)=47::(s++jn l):=by simp[jn]
theorem MF (s:List UInt8) (l:List (List UInt8)):jn (l++[s])=jn l++47::s:=by simp[jn]
theorem Qd (l:List (List UInt8)):jn l=[]\/∃r,jn l=47::r:=by
 cases l with
 | nil=>exact .inl rfl
 | cons s l=>exact .inr ⟨_,D2 s l⟩
theorem R7:∀a b:List UInt8,47∉a->Gw (a++47::b)=b
 | [],b,_=>by rw[qm,Gw,if_pos rfl]
 | x::a,b,h=>by
  simp only[zt,not_or] at h;rw[qt,Gw,if_neg (fun e=>h.1 e.symm)];exact R7 a b h.2
theorem cO (l s:List UInt8) (h:47∉s):BE (l++47::s)=l:=by
 unfold BE;have:(l++47::s).reverse=s.reverse++47::l.reverse:=by simp
 rw[this,R7 _ _ (by simpa using h),List.reverse_reverse]
theorem bZ (l:List (List UInt8)) (h:∀s∈l,EL s):BE (jn l)=jn l.dropLast:=by
 rcases List.eq_nil_or_concat l with rfl|⟨l',s,rfl⟩
 ·rfl
 ·rw[List.concat_eq_append,MF,cO _ _ (h s (by simp)).1];simp
theorem Nd (s rest:List UInt8) (hs:47∉s) (hr:rest=[]\/∃r,rest=47::r):A6 (s++rest)=s:=by
 unfold A6;rcases hr with rfl|⟨r,rfl⟩
 ·rw[qf,Fk 47 s hs]
 ·rw[Dm 47 s r hs]
theorem Yz (rest o:List UInt8) (hr:rest=[]\/∃r,rest=47::r):Bu (47::([46]++rest)) o=(if rest=[] then [47] else rest,o):=by
 rcases hr with rfl|⟨r,rfl⟩
 ·simp[Bu,zk]
 ·simp[Bu,zk]
theorem YA (rest o:List UInt8) (hr:rest=[]\/∃r,rest=47::r):Bu (47::([46,46]++rest)) o=(if rest=[] then [47] else rest,BE o):=by
 rcases hr with rfl|⟨r,rfl⟩
 ·simp[Bu,zk]
 ·simp[Bu,zk]
theorem KZ {l p:List UInt8} (h:∀u,p++u=l->False):zk l p=false:=by
 rw[Bool.eq_false_iff];intro e;obtain⟨u,hu⟩:=List.isPrefixOf_iff_prefix.1 (show List.isPrefixOf p l=true from e);exact h u hu
theorem MV (s rest o:List UInt8) (hs:EL s) (hr:rest=[]\/∃r,rest=47::r):Bu (47::(s++rest)) o=(rest,o++47::s):=by
 obtain⟨h1,h2,h3⟩:=hs;have hf:=Nd s rest h1 hr;have hseg:CR (47::(s++rest))=1+s.length:=by
  unfold CR;rw[List.drop_succ_cons,List.drop_zero,hf]
 have e1:(47::(s++rest)).drop (1+s.length)=rest:=by
  rw[Nat.add_comm,List.drop_succ_cons];simp
 have e2:(47::(s++rest)).take (1+s.length)=47::s:=by
  rw[Nat.add_comm,List.take_succ_cons];simp
 have key:Bu (47::(s++rest)) o=((47::(s++rest)).drop (CR (47::(s++rest))),o++(47::(s++rest)).take (CR (47::(s++rest)))):=by
  unfold Bu;have p1:zk (47::(s++rest)) [46,46,47]=false:=KZ fun u hu=>by simp at hu
  have p2:zk (47::(s++rest)) [46,47]=false:=KZ fun u hu=>by simp at hu
  have p7:¬(47::(s++rest)=[46]\/47::(s++rest)=[46,46]):=by simp
  have p3:zk (47::(s++rest)) [47,46,47]=false:=KZ fun u hu=>by
   rcases s with _|⟨a,_|⟨b,s⟩⟩
   ·rcases hr with rfl|⟨r,rfl⟩<;>simp at hu
   ·simp only[qt,qm,qj.injEq,true_and] at hu;exact h2 (by rw[<-hu.1])
   ·simp only[qt,qm,qj.injEq,true_and] at hu;exact h1 (by rw[hu.2.1];simp)
  have p4:¬47::(s++rest)=[47,46]:=by
   rcases s with _|⟨a,s⟩
   ·rcases hr with rfl|⟨r,rfl⟩<;>simp
   ·intro e;simp only[qt,qj.injEq,true_and,List.append_eq_nil_iff] at e;exact h2 (by rw[e.1,e.2.1])
  have p5:zk (47::(s++rest)) [47,46,46,47]=false:=KZ fun u hu=>by
   rcases s with _|⟨a,_|⟨b,_|⟨c,s⟩⟩⟩
   ·rcases hr with rfl|⟨r,rfl⟩<;>simp at hu
   ·rcases hr with rfl|⟨r,rfl⟩<;>simp at hu
   ·simp only[qt,qm,qj.injEq,true_and] at hu;exact h3 (by rw[<-hu.1,<-hu.2.1])
   ·simp only[qt,qm,qj.injEq,true_and] at hu;exact h1 (by rw[hu.2.2.1];simp)
  have p6:¬47::(s++rest)=[47,46,46]:=by
   rcases s with _|⟨a,_|⟨b,s⟩⟩
   ·rcases hr with rfl|⟨r,rfl⟩<;>simp
   ·rcases hr with rfl|⟨r,rfl⟩<;>simp
   ·intro e;simp only[qt,qj.injEq,true_and,List.append_eq_nil_iff] at e;exact h3 (by rw[e.1,e.2.1,e.2.2.1])
  rw[p1,p2,p3,p5,if_neg Bool.false_ne_true,if_neg Bool.false_ne_true,if_neg Bool.false_ne_true,if_neg p4,if_neg Bool.false_ne_true,if_neg p6,if_neg p7]
 rw[key,hseg,e1,e2]
theorem Rn:∀(l:List (List UInt8)) (o:List UInt8),(∀s∈l,EL s)->CH (jn l) o=o++jn l
 | [],o,_=>by rw[I7,JF,qf]
 | s::l,o,h=>by
  rw[D2,EA (by simp),MV s (jn l) o (h s (by simp)) (Qd l)];simp only;rw[Rn l _ (fun s hs=>h s (by simp[hs]))];simp
theorem fO (p:UriP) (h1:p.hs=true) (h2:D3 p.scheme=true) (h3:∀c∈p.scheme,Aw c [58,47,63,35]=false) (h4:p.ha=true) (h5:∀c∈p.auth,Aw c [47,63,35]=false)
  (h6:p.path=[]\/∃r,p.path=47::r) (h7:∀c∈p.path,Aw c [63,35]=false) (h8:(35:UInt8)∉p.query) (h9:p.hq=false->p.query=[]) (h10:p.hf=false->p.frag=[]) (h11:(Ec p).length<=16384):AP (Ec p)=(0,p):=by
 obtain⟨sc,au,pa,qu,fr,hs,ha,hq,hf⟩:=p;simp only at h1 h2 h3 h4 h5 h6 h7 h8 h9 h10;subst h1 h4;have n1:∀c:UInt8,Aw c [58,47,63,35]=true->c∉sc:=fun c hc hm=>by have:=h3 c hm;rw[hc] at this;cases this
 have n2:∀c:UInt8,Aw c [47,63,35]=true->c∉au:=fun c hc hm=>by have:=h5 c hm;rw[hc] at this;cases this
 have n3:∀c:UInt8,Aw c [63,35]=true->c∉pa:=fun c hc hm=>by have:=h7 c hm;rw[hc] at this;cases this
 have eb:Ec ⟨sc,au,pa,qu,fr,true,true,hq,hf⟩=sc++58::47::47::(au++pa++(if hq=true then [63]++qu else [])++(if hf=true then [35]++fr else [])):=by
  unfold Ec;simp
 have q35:(35:UInt8)∉(if hq=true then [63]++qu else []):=by
  split
  ·simp[h8]
  ·simp
 have m35:(35:UInt8)∉sc++58::47::47::(au++pa++(if hq=true then [63]++qu else [])):=by
  simp only[zq,zt,not_or];exact⟨n1 35 (by decide),by decide,by decide,by decide,⟨n2 35 (by decide),n3 35 (by decide)⟩,q35⟩
 have m63:(63:UInt8)∉sc++58::47::47::(au++pa):=by
  simp only[zq,zt,not_or];exact⟨n1 63 (by decide),by decide,by decide,by decide,n2 63 (by decide),n3 63 (by decide)⟩
 have e35:Ae 35 (Ec ⟨sc,au,pa,qu,fr,true,true,hq,hf⟩)=(sc++58::47::47::(au++pa++(if hq=true then [63]++qu else [])),fr,hf):=by
  rw[eb]
  cases hf
  ·have:=h10 rfl;subst this;have:sc++58::47::47::(au++pa++(if hq=true then [63]++qu else [])++(if false=true then [35]++[] else []))=sc++58::47::47::(au++pa++(if hq=true then [63]++qu else [])):=by simp
   rw[this,Fk 35 _ m35]
  ·have:sc++58::47::47::(au++pa++(if hq=true then [63]++qu else [])++(if true=true then [35]++fr else []))=(sc++58::47::47::(au++pa++(if hq=true then [63]++qu else [])))++35::fr:=by simp
   rw[this,Dm 35 _ fr m35]
 have e63:Ae 63 (sc++58::47::47::(au++pa++(if hq=true then [63]++qu else [])))=(sc++58::47::47::(au++pa),qu,hq):=by
  cases hq
  ·have:=h9 rfl;subst this;have:sc++58::47::47::(au++pa++(if false=true then [63]++[] else []))=sc++58::47::47::(au++pa):=by simp
   rw[this,Fk 63 _ m63]
  ·have:sc++58::47::47::(au++pa++(if true=true then [63]++qu else []))=(sc++58::47::47::(au++pa))++63::qu:=by simp
   rw[this,Dm 63 _ qu m63]
 have ef:A6 (sc++58::47::47::(au++pa))=sc++[58]:=by
  unfold A6;have:sc++58::47::47::(au++pa)=(sc++[58])++47::(47::(au++pa)):=by simp
  rw[this,Dm 47 _ _ (by simp only[zq,zt,jk,or_false,not_or];exact⟨n1 47 (by decide),by decide⟩)]
 have ec:Ae 58 (sc++[58])=(sc,[],true):=Dm 58 sc [] (n1 58 (by decide));have ed:(sc++58::47::47::(au++pa)).drop (sc.length+1)=47::47::(au++pa):=by
  have:sc++58::47::47::(au++pa)=(sc++[58])++(47::47::(au++pa)):=by simp
  rw[this,List.drop_append_of_le_length (by simp)];simp
 have et:DM (47::47::(au++pa))=true:=by simp[DM,zk]
 have ea:CY (47::47::(au++pa))=au:=by
  unfold CY;rw[if_pos et];show A6 (au++pa)=au;rcases h6 with rfl|⟨r,rfl⟩
  ·exact Nd au [] (n2 47 (by decide)) (.inl rfl)
  ·exact Nd au _ (n2 47 (by decide)) (.inr ⟨r,rfl⟩)
 have ep:DZ (47::47::(au++pa))=pa:=by
  unfold DZ;rw[if_pos et,ea];show (au++pa).drop au.length=pa;simp
 have hb:Cf (Ec ⟨sc,au,pa,qu,fr,true,true,hq,hf⟩)=sc++58::47::47::(au++pa):=by
  unfold Cf;rw[e35];simp only;rw[e63]
 have hsc:C1 (Ec ⟨sc,au,pa,qu,fr,true,true,hq,hf⟩)=(sc,[],true):=by
  unfold C1;rw[hb,ef,ec]
 have hh:EM (Ec ⟨sc,au,pa,qu,fr,true,true,hq,hf⟩)=47::47::(au++pa):=by
  unfold EM;rw[hsc,hb,if_pos rfl,ed]
 unfold AP;rw[if_neg (by omega),hsc,h2];simp only[Bool.not_true,Bool.and_false,Bool.false_eq_true,if_false,if_true];rw[hh,ea,ep,et,e35];simp only;rw[e63]
def Cn (keep l:List UInt8):Prop:=∀o r,Al (AQ keep) 0 (l++r) o=Al (AQ keep) 0 r (o++l)
theorem Cn.nil (keep:List UInt8):Cn keep []:=by intro o r;simp
theorem Cn.append {keep a b:List UInt8} (ha:Cn keep a) (hb:Cn keep b):Cn keep (a++b):=by
 intro o r;rw[zr,ha,hb,zr]
theorem Cn.one {keep:List UInt8} {c:UInt8} (hp:Bo c keep=true):Cn keep [c]:=by
 intro o r;have hc:c≠37:=RX hp;exact Ix _ _ _ _ _ hc (DD rfl hp)
theorem Cn.norm {keep l:List UInt8} (h:Cn keep l) (hl:l.length<=16384):Aj l keep=(0,l):=by
 have:=h [] [];unfold Aj BU;rw[if_neg (by omega)];rw[qf,qm,Al] at this;exact this
theorem Cn.jn {keep:List UInt8} (h47:Bo 47 keep=true):∀l:List (List UInt8),(∀s∈l,Cn keep s)->Cn keep (jn l)
 | [],_=>Cn.nil keep
 | s::l,h=>by
  rw[D2];exact(Cn.one h47).append ((h s (by simp)).append (Cn.jn h47 l fun s hs=>h s (by simp[hs])))
theorem kV:Bo 47 AX=true:=by decide
theorem lW:∀n:Fin 256,(47:UInt8)∉Bd (UInt8.ofNat n.val):=by decide +kernel
theorem Rr (c:UInt8):(47:UInt8)∉Bd c:=by
 have:=lW ⟨c.toNat,UInt8.toNat_lt c⟩;simpa using this
theorem aC:∀(n:Nat) (l out x:List UInt8),l.length<=n->Al (AQ AX) 0 l out=(0,x)->∃s m,x=out++(s++jn m)/\(47∉s/\Cn AX s)/\(∀q∈m,47∉q/\Cn AX q)/\(l=[]->s=[]/\m=[])/\(∀t,l=47::t->s=[]/\m≠[]):=by
 intro n
 induction n with
 | zero=>
  intro l out x hl h;obtain rfl:l=[]:=List.eq_nil_of_length_eq_zero (by omega);rw[Al] at h;obtain rfl:out=x:=by injection h
  exact⟨[],[],by simp[jn],⟨by simp,Cn.nil _⟩,by simp,fun _=>⟨rfl,rfl⟩,fun t e=>by cases e⟩
 | succ n ih=>
  intro l out x hl h
  cases l with
  | nil=>
   rw[Al] at h;obtain rfl:out=x:=by injection h
   exact⟨[],[],by simp[jn],⟨by simp,Cn.nil _⟩,by simp,fun _=>⟨rfl,rfl⟩,fun t e=>by cases e⟩
  | cons c t=>
   simp only[zj] at hl
   by_cases hc:c=37
   ·subst hc;rcases he:Bm (37::t) with _|_
    ·rw[Al,if_pos rfl,if_neg (by rw[he];exact Bool.false_ne_true)] at h;injection h with h1 _
     exact absurd h1 (by decide)
    ·obtain⟨a,b,r,rfl⟩:=Fj he;rcases hu:A4 (AZ (37::a::b::r)) with _|_
     ·rw[Al,if_pos rfl,if_pos he,Fz hu,if_pos rfl,DP] at h;obtain⟨s,m,e,⟨h1,h1'⟩,h2,_,_⟩:=ih r _ x (by simp at hl;omega) h;refine⟨Bd (AZ (37::a::b::r))++s,m,by rw[e];simp,⟨?_,?_⟩,h2,(fun e=>by cases e),(fun t e=>by cases e)⟩
      ·simp only[zq,not_or];exact⟨Rr _,h1⟩
      ·exact Cn.append (fun o r'=>Jr _ _ _ _ _ (Fz hu)) h1'
     ·rw[Al,if_pos rfl,if_pos he,DD (by rw[hu];rfl) (EW hu),if_pos rfl,DP] at h;obtain⟨s,m,e,⟨h1,h1'⟩,h2,_,_⟩:=ih r _ x (by simp at hl;omega) h;refine⟨[AZ (37::a::b::r)]++s,m,by rw[e];simp,⟨?_,(Cn.one (EW hu)).append h1'⟩,h2,(fun e=>by cases e),(fun t e=>by cases e)⟩;simp only[zq,zt,jk,or_false,not_or];refine⟨fun e=>?_,h1⟩;rw[<-e] at hu;exact absurd hu (by decide)
   ·rcases hp:Bo c AX with _|_
    ·rw[Al,if_neg hc,Js rfl hp,if_neg (by decide)] at h;injection h with h1 _
     exact absurd h1 (by decide)
    ·rw[Al,if_neg hc,DD rfl hp,if_pos rfl] at h;obtain⟨s,m,e,⟨h1,h1'⟩,h2,_,_⟩:=ih t _ x (by omega) h
     by_cases h47:c=47
     ·subst h47;refine⟨[],s::m,by rw[e,D2];simp,⟨by simp,Cn.nil _⟩,?_,(fun e=>by cases e),(fun t e=>⟨rfl,by simp⟩)⟩;intro q hq;rcases zt.1 hq with rfl|hq
      ·exact⟨h1,h1'⟩
      ·exact h2 q hq
     ·refine⟨[c]++s,m,by rw[e];simp,⟨?_,(Cn.one hp).append h1'⟩,h2,(fun e=>by cases e),(fun t e=>by injection e with e _;exact absurd e h47)⟩;simp only[zq,zt,jk,or_false,not_or];exact⟨fun e=>h47 e.symm,h1⟩
theorem ZF (P:List UInt8->Prop) (h0:P []):∀(n:Nat) (m l:List (List UInt8)),(jn m).length<=n->m≠[]->(∀s∈m,47∉s/\P s)->(∀s∈l,EL s/\P s)->∃k,k≠[]/\(∀s∈k,EL s/\P s)/\CH (jn m) (jn l)=jn k:=by
 intro n
 induction n with
 | zero=>
  intro m l hn hm _ _
  cases m with
  | nil=>exact absurd rfl hm
  | cons s m=>rw[D2] at hn;simp at hn
 | succ n ih=>
  intro m l hn hm hmp hl
  cases m with
  | nil=>exact absurd rfl hm
  | cons s m=>
   have hdl:∀s∈l.dropLast,EL s/\P s:=fun s hs=>hl s (List.dropLast_subset l hs);have hs:=hmp s (by simp);have hmp':∀s∈m,47∉s/\P s:=fun s hs=>hmp s (by simp[hs]);have hr:=Qd m;have hnil:∀l:List (List UInt8),(∀s∈l,EL s/\P s)->∃k,k≠[]/\(∀s∈k,EL s/\P s)/\CH [47] (jn l)=jn k:=by
    intro l hl;refine⟨l++[[]],by simp,?_,?_⟩
    ·intro s hs;rcases zq.1 hs with hs|hs
     ·exact hl s hs
     ·simp at hs;subst hs;exact⟨⟨by simp,by simp,by simp⟩,h0⟩
    ·have:=MV [] [] (jn l) ⟨by simp,by simp,by simp⟩ (.inl rfl);rw[EA (by simp)];simp only[qf] at this;rw[this,JF,MF]
   rw[D2] at hn ⊢;simp only[zj,List.length_append] at hn;rw[EA (by simp)]
   by_cases h2:s=[46]
   ·subst h2;rw[Yz (jn m) _ hr]
    by_cases hm0:m=[]
    ·subst hm0;simp only[I7,if_true];exact hnil l hl
    ·have:jn m≠[]:=by
      cases m with
      | nil=>exact absurd rfl hm0
      | cons q m=>rw[D2];simp
     simp only[this,if_false];exact ih m l (by simp at hn;omega) hm0 hmp' hl
   ·by_cases h3:s=[46,46]
    ·subst h3;rw[YA (jn m) _ hr];simp only;rw[bZ l (fun s hs=>(hl s hs).1)]
     by_cases hm0:m=[]
     ·subst hm0;simp only[I7,if_true];exact hnil _ hdl
     ·have:jn m≠[]:=by
       cases m with
       | nil=>exact absurd rfl hm0
       | cons q m=>rw[D2];simp
      simp only[this,if_false];exact ih m _ (by simp at hn;omega) hm0 hmp' hdl
    ·rw[MV s (jn m) _ ⟨hs.1,h2,h3⟩ hr,<-MF];have hl2:∀s'∈l++[s],EL s'/\P s':=by
      intro s' hs';rcases zq.1 hs' with hs' | hs'
      ·exact hl s' hs'
      ·simp at hs';subst hs';exact⟨⟨hs.1,h2,h3⟩,hs.2⟩
     by_cases hm0:m=[]
     ·subst hm0;exact⟨l++[s],by simp,hl2,by rw[I7,JF]⟩
     ·exact ih m _ (by omega) hm0 hmp' hl2
def E9 (l:List UInt8):Prop:=∃m,m≠[]/\(∀s∈m,EL s/\Cn AX s)/\l=jn m
theorem bM (l:List UInt8) (hl:l=[]\/∃t,l=47::t) (hn:(Aj l AX).1=0):E9 (Ez (Aj l AX).2):=by
 have e:Aj l AX=(0,(Aj l AX).2):=by rw[<-hn]
 have hlen:=Iq e;have hr:Al (AQ AX) 0 l []=(0,(Aj l AX).2):=by
  have e2:=e;unfold Aj BU at e2;rw[if_neg (by omega)] at e2;rw[e2];unfold Aj BU;rw[if_neg (by omega)]
 obtain⟨s,m,k1,k2,k3,k4,k5⟩:=aC l.length l [] _ (Nat.le_refl _) hr;rw[qm] at k1;rw[k1];rcases hl with rfl|⟨t,rfl⟩
 ·obtain⟨rfl,rfl⟩:=k4 rfl;refine⟨[[]],by simp,?_,?_⟩
  ·intro q hq;simp at hq;subst hq;exact⟨⟨by simp,by simp,by simp⟩,Cn.nil _⟩
  ·unfold Ez;rfl
 ·obtain⟨rfl,hm⟩:=k5 t rfl;rw[qm];obtain⟨k,q1,q2,q3⟩:=ZF (Cn AX) (Cn.nil _) (jn m).length m [] (Nat.le_refl _) hm k3 (by simp);refine⟨k,q1,q2,?_⟩;unfold Ez;have:BD (jn m)=jn k:=q3;rw[this,if_neg]
  cases k with
  | nil=>exact absurd rfl q1
  | cons a k=>rw[D2];simp
theorem E9.form {l:List UInt8} (h:E9 l):∃r,l=47::r:=by
 obtain⟨m,hm,_,rfl⟩:=h
 cases m with
 | nil=>exact absurd rfl hm
 | cons s m=>exact⟨_,D2 s m⟩
theorem E9.dots {l:List UInt8} (h:E9 l):BD l=l:=by
 obtain⟨m,hm,hs,rfl⟩:=h;have:=Rn m [] (fun s h=>(hs s h).1);simpa[BD] using this
theorem E9.norm {l:List UInt8} (h:E9 l) (hl:l.length<=16384):Aj l AX=(0,l):=by
 obtain⟨m,hm,hs,rfl⟩:=h;exact(Cn.jn kV m fun s h=>(hs s h).2).norm hl
theorem E9.slash {l:List UInt8} (h:E9 l):Ez l=l:=by
 obtain⟨r,hr⟩:=h.form;unfold Ez;rw[h.dots,if_neg (by rw[hr];simp)]
open Go.RowKit Sx
theorem cQ {P:Program} {w w':World} {name:String} {k:IntKind} {zs:List Int} (h:Lib.TabIs P w name k zs) (hk:∀k,k<w.heap.size->w'.heap[k]? = w.heap[k]?):Lib.TabIs P w' name k zs:=by
 unfold Lib.TabIs World.var? at *
 cases hg:P.globalNamed name with
 | none=>simp[hg] at h
 | some g=>
  simp only[hg,Option.bind_some] at h ⊢;have hlt:g<w.heap.size:=by
   rcases Nat.lt_or_ge g w.heap.size with h' | h'
   ·exact h'
   ·rw[Array.getElem?_eq_none h'] at h;simp at h
  rw[hk g hlt];exact h
instance tabsN : Tabs Tryz.prog := ⟨fun w => w.ShapedOpen Tryz.prog ∧ Lib.TabIs Tryz.prog w "internal/strconv.uint64pow10" .u64 Lib.pow10Tab, fun _ _ h hk _ => ⟨S4 h.1 hk, cQ h.2 hk⟩⟩
instance tabsN_shp:Shp Tryz.prog:=⟨fun _ h=>h.1⟩
instance tabsN_pow:Pow Tryz.prog:=⟨fun _ h=>h.2⟩
end Go.Proofs.YtbeoijfmfkifeaaGreatDoor
