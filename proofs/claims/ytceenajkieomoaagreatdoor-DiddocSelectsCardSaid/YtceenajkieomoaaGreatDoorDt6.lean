/- The texts that the proofs of these statements reach, in their order, as few files. -/
import Derived.Lib.OthersKept
import Derived.ProofKit
import Derived.OpenShut
import Derived.ShutString
import Derived.Carry
import Derived.WideKeyArgs
import Derived.SizedLaws
import Derived.KernelRfl
import Derived.BigRegion
import Derived.Deep.RegionLaw
import Derived.Deep.RegionHeldLaw
import Derived.Deep.DrawnRows
import Derived.Lib.Join
import Derived.Lib.LastIndexByte
import Derived.Test.YtceenajkieomoaaGreatDoorDt5
set_option linter.unusedVariables false
set_option linter.unusedSimpArgs false
set_option maxRecDepth 100000
namespace Go.Proofs.YtceenajkieomoaaGreatDoor
open Go.RowKit Sx
open Int renaming toNat_natCast->jo
open Lib renaming below_iterAt->y9, hid->zb, iterAt_heap->y8, run_next_ascii_at->y7
open List renaming drop_drop->ji, drop_eq_getElem_cons->jn, drop_length->xw, getElem?_drop->jp, getElem?_eq_getElem->zm, getElem?_set->za, length_append->zk, length_drop->zw, length_nil->qk, length_take->qc
open Nat renaming le_refl->ze, lt_or_ge->zj
open Option renaming getD_some->qh
theorem zjJ {P:Program} [Tabs P] {f:FuncId} {args:List AV} {vs:List Value} {Q:Value->Prop} {w:World} (ha:zm8 args=some vs) (hT:Tabs.T (P:=P) w) (h:zaf P f args [] (fun _ r=>∃v,val r=some v/\Q v)) :
  Calls P f vs.toArray w fun e w'=>∃v,e=.returned v/\Q v/\Qb w w':=by
 haveI:On P ⟨w,fun _=>False,fun g o v=>w.cell? ⟨g,o,none⟩=some v,Gh.none⟩:=⟨hT,fun _ h=>h⟩
 have hd:=(zcg Gh.none (fun g o v=>w.cell? ⟨g,o,none⟩=some v) args vs ha vs).2 rfl;have hc:=h ⟨w,fun _=>False,fun g o v=>w.cell? ⟨g,o,none⟩=some v,Gh.none⟩ Gh.none (fun g o v=>w.cell? ⟨g,o,none⟩=some v) w
  ⟨rfl,rfl,rfl,ze _,fun _ _ _=>rfl,fun _ _ _ h=>h,fun _ _ _ h=>.inl h,fun b g hb=>by simp[Gh.own,Gh.none] at hb,Gh.le.refl _⟩
  ⟨fun _ _ _ h=>h,by simp,by simp,by simp,fun b b' g hb=>by simp[Gh.own,Gh.none] at hb,fun b g hb=>by simp[Gh.own,Gh.none] at hb,fun b g o v hb=>by simp[Gh.own,Gh.none] at hb,fun b _=>⟨rfl,rfl⟩⟩ vs hd
 refine hc.mono ?_;rintro e w' ⟨y,objs',r,G',I',rfl,⟨v,hv,hq⟩,_,_,hin,_,hy⟩;rw[(zf4 _ _ r v hv y).1 hy];exact⟨v,rfl,hq,hin.os,hin.tape,hin.output,hin.size,fun k hk=>hin.block k hk (fun h=>h)⟩
def zmn (l:List UInt8) (v:Value):Prop:=match zdj l with|some n=>v=.tuple #[.int .i64 (n:Nat),.bool true] | none=>∃x,v=.tuple #[.int .i64 x,.bool false]
theorem znp [Tabs Tryz.prog] (s:List UInt8) (a:Nat) (ha:a<=9000000000000000000) (hs:s.length<=140737488351232) (w:World) (hT:Tabs.T (P:=Tryz.prog) w) :
  Calls Tryz.prog 119 #[.string (S s),.int .i64 (a:Nat)] w fun e w'=>∃v,e=.returned v/\zmn (s.drop a) v/\Qb w w' :=
 zjJ (args:=[.s s,.i .i64 (a:Nat)]) rfl hT (runit_k s a ha hs (by
  unfold zmn
  cases zdj (s.drop a) with
  | some n=>exact⟨_,rfl,rfl⟩
  | none=>exact fun x=>⟨_,rfl,x,rfl⟩))
def zbN (s:List UInt8) (a:Nat):List UInt8×Int×Int:=if (zfy (s.drop a)).1=0 then ((zfy (s.drop a)).2.1,((a+(zfy (s.drop a)).2.2:Nat):Int),0) else ([],0,(zfy (s.drop a)).1)
def tokEscV (r:List UInt8×Int×Int):Value:=.tuple #[.string (S r.1),.int .i64 r.2.1,.int .i64 r.2.2]
def za1:ByteArray:=⟨#[34,92,47,98,102,110,114,116]⟩
theorem zjS [Tabs Tryz.prog] (b:ByteArray) (a:Nat) (x:Int) (hx:x=(a:Nat)) (ha:a<=9000000000000000000) (hs:b.size<=140737488351232) (w:World) (hT:Tabs.T (P:=Tryz.prog) w) :
  Calls Tryz.prog 119 #[.string b,.int .i64 x] w fun e w'=>∃v,e=.returned v/\zmn (b.data.toList.drop a) v/\Qb w w':=by
 subst hx;have h:=znp b.data.toList a ha (by rw[zal];exact hs) w hT;rw[S_of b] at h;exact h
def zhC:List UInt8:=[34,92,47,98,102,110,114,116]
def zp3:List UInt8:=[34,92,47,8,12,10,13,9]
theorem codes_ok:∀i:Fin 8,zgb (zhC.getD i.val 0)=some (zp3.getD i.val 0):=by decide +kernel
theorem codes_no (c:UInt8) (h:∀j,j<8->zhC.getD j 0≠c):zgb c=none:=by
 have key:∀n:Fin 256,zgb (UInt8.ofNat n.val)=none\/∃i:Fin 8,zhC.getD i.val 0=UInt8.ofNat n.val:=by decide +kernel
 have h2:=key ⟨c.toNat,c.toNat_lt⟩;simp only[UInt8.ofNat_toNat] at h2;rcases h2 with h2|⟨i,h2⟩
 ·exact h2
 ·exact absurd h2 (h i.val i.isLt)
theorem zdN (b:ByteArray) (a k:Nat) (hk:k<8) (h:a+1<b.size) (hx:zhC.getD k 0=b[a+1]):zbN b.data.toList a=([zp3.getD k 0],((a+2:Nat):Int),0):=by
 have he:zfy (b.data.toList.drop a)=(0,[zp3.getD k 0],2):=by
  unfold zfy;rw[zgL,zm (by rw[zal];exact h),Option.bind_some,show b.data.toList[a+1]'(by rw[zal];exact h)=zhC.getD k 0 from(ziy b (a+1) h).symm.trans hx.symm,codes_ok ⟨k,hk⟩]
 unfold zbN;rw[he];rfl
theorem zqf [Tabs Tryz.prog] {w w':World} (hT:Tabs.T (P:=Tryz.prog) w) (hq:Qb w w'):Tabs.T (P:=Tryz.prog) w' :=
 Tabs.keep w w' hT (fun k hk=>hq.block k hk) hq.size
set_option maxRecDepth 1000000 in
set_option maxHeartbeats 4000000 in
theorem zjT [Tabs Tryz.prog] (b:ByteArray) (a:Nat) (ha:a<b.size) (hs:b.size<=140737488351232) (w:World) (hT:Tabs.T (P:=Tryz.prog) w) :
  Calls Tryz.prog 105 #[.string b,.int .i64 (a:Nat)] w fun e w'=>e=.returned (tokEscV (zbN b.data.toList a))/\Qb w w':=by
 by_cases c0:(a:Int)+1<b.size
 ·have c0':a+1<b.size:=by omega
  have HC:Hid (b[a+1]=b.data.toList[a+1]'(by rw[zal];exact c0')):=zb (ziy b (a+1) c0');have HG:Hid (b.data.toList[a+1]? = some b[a+1]):=zb (by rw[zm (by rw[zal];exact c0'),ziy b (a+1) c0']);have q1:IntKind.i64.wrap ((a:Int)+1)=(a:Int)+1:=IntWalk.i64_in _ (by omega);have q2:(0:Int)<=(a:Int)+1:=by omega
  have q3:((a:Int)+1).toNat=a+1:=by omega
  have q4:(a:Int)+1<b.size:=by omega
  go_enter Tryz.func105,Tryz.ntmps105
  go_wp2_with fail
  go_loopg [7] 8 (fun g _ wx=>∃i:Nat,i+g=8/\wx.heap[w.heap.size]? = some (.stringIter za1 i)/\Qb w wx/\Hid (∀j,j<i->zhC.getD j 0≠b[a+1]))
  case atStart=>exact⟨0,rfl,World.iter_heap _ _ _,(Qb.refl w).alloc _,zb (fun j hj=>absurd hj (by omega))⟩
  case round=>
   obtain⟨i,hig,hk,hq,HN⟩:=hrel
   by_cases hi:i<8
   ·obtain⟨g,rfl⟩:∃g,gk=g+1:=⟨gk - 1,by omega⟩;have hcases:i=0\/i=1\/i=2\/i=3\/i=4\/i=5\/i=6\/i=7:=by omega
    rcases hcases with rfl|rfl|rfl|rfl|rfl|rfl|rfl|rfl
    ·have hnx:=fun ty=>y7 (P:=Tryz.prog) wr w.heap.size za1 0 ty hk (by decide) (by decide);have hk':=zb (y8 wr w.heap.size za1 0 1 hk);have hq':Qb w (wr.iterAt w.heap.size za1 1):=y9 hq (ze _) za1 1;clear hk
     by_cases hx:(34:UInt8)=b[a+1]
     ·have HE:=zb (zdN b a 0 (by decide) c0' hx);have hd:∀x:Int,x=34->(x==((b[a+1].toNat:Nat):Int))=true:=by
       rintro x rfl;rw[<-hx];rfl
      clear hx
      go_wp2_with fail
      go_quiet (fail)
      rw[hd]
      rotate_left
      ·rfl
      go_wp2_with fail
      go_ret3
      exact⟨by rw[HE.out];rfl,hq'.drewN _⟩
     ·have HX:=zb hx;have hd:∀x:Int,x=34->(x==((b[a+1].toNat:Nat):Int))=false:=by
       rintro x rfl;rw[beq_eq_false_iff_ne];intro h;have h2:(34:UInt8).toNat=b[a+1].toNat:=by
        have:(34:UInt8).toNat=34:=rfl;omega
       exact hx (UInt8.toNat_inj.1 h2)
      clear hx
      go_wp2_with fail
      go_quiet (fail)
      rw[hd]
      rotate_left
      ·rfl
      go_wp2_with fail
      go_roundg g
      case measure=>omega
      case rel=>exact⟨1,by omega,hk'.out,hq'.drewN _,zb (fun j hj=>by
       rcases zj j 0 with h|h
       ·exact HN.out j h
       ·obtain rfl:j=0:=by omega
        exact HX.out)⟩
    ·have hnx:=fun ty=>y7 (P:=Tryz.prog) wr w.heap.size za1 1 ty hk (by decide) (by decide);have hk':=zb (y8 wr w.heap.size za1 1 2 hk);have hq':Qb w (wr.iterAt w.heap.size za1 2):=y9 hq (ze _) za1 2;clear hk
     by_cases hx:(92:UInt8)=b[a+1]
     ·have HE:=zb (zdN b a 1 (by decide) c0' hx);have hd:∀x:Int,x=92->(x==((b[a+1].toNat:Nat):Int))=true:=by
       rintro x rfl;rw[<-hx];rfl
      clear hx
      go_wp2_with fail
      go_quiet (fail)
      rw[hd]
      rotate_left
      ·rfl
      go_wp2_with fail
      go_ret3
      exact⟨by rw[HE.out];rfl,hq'.drewN _⟩
     ·have HX:=zb hx;have hd:∀x:Int,x=92->(x==((b[a+1].toNat:Nat):Int))=false:=by
       rintro x rfl;rw[beq_eq_false_iff_ne];intro h;have h2:(92:UInt8).toNat=b[a+1].toNat:=by
        have:(92:UInt8).toNat=92:=rfl;omega
       exact hx (UInt8.toNat_inj.1 h2)
      clear hx
      go_wp2_with fail
      go_quiet (fail)
      rw[hd]
      rotate_left
      ·rfl
      go_wp2_with fail
      go_roundg g
      case measure=>omega
      case rel=>exact⟨2,by omega,hk'.out,hq'.drewN _,zb (fun j hj=>by
       rcases zj j 1 with h|h
       ·exact HN.out j h
       ·obtain rfl:j=1:=by omega
        exact HX.out)⟩
    ·have hnx:=fun ty=>y7 (P:=Tryz.prog) wr w.heap.size za1 2 ty hk (by decide) (by decide);have hk':=zb (y8 wr w.heap.size za1 2 3 hk);have hq':Qb w (wr.iterAt w.heap.size za1 3):=y9 hq (ze _) za1 3;clear hk
     by_cases hx:(47:UInt8)=b[a+1]
     ·have HE:=zb (zdN b a 2 (by decide) c0' hx);have hd:∀x:Int,x=47->(x==((b[a+1].toNat:Nat):Int))=true:=by
       rintro x rfl;rw[<-hx];rfl
      clear hx
      go_wp2_with fail
      go_quiet (fail)
      rw[hd]
      rotate_left
      ·rfl
      go_wp2_with fail
      go_ret3
      exact⟨by rw[HE.out];rfl,hq'.drewN _⟩
     ·have HX:=zb hx;have hd:∀x:Int,x=47->(x==((b[a+1].toNat:Nat):Int))=false:=by
       rintro x rfl;rw[beq_eq_false_iff_ne];intro h;have h2:(47:UInt8).toNat=b[a+1].toNat:=by
        have:(47:UInt8).toNat=47:=rfl;omega
       exact hx (UInt8.toNat_inj.1 h2)
      clear hx
      go_wp2_with fail
      go_quiet (fail)
      rw[hd]
      rotate_left
      ·rfl
      go_wp2_with fail
      go_roundg g
      case measure=>omega
      case rel=>exact⟨3,by omega,hk'.out,hq'.drewN _,zb (fun j hj=>by
       rcases zj j 2 with h|h
       ·exact HN.out j h
       ·obtain rfl:j=2:=by omega
        exact HX.out)⟩
    ·have hnx:=fun ty=>y7 (P:=Tryz.prog) wr w.heap.size za1 3 ty hk (by decide) (by decide);have hk':=zb (y8 wr w.heap.size za1 3 4 hk);have hq':Qb w (wr.iterAt w.heap.size za1 4):=y9 hq (ze _) za1 4;clear hk
     by_cases hx:(98:UInt8)=b[a+1]
     ·have HE:=zb (zdN b a 3 (by decide) c0' hx);have hd:∀x:Int,x=98->(x==((b[a+1].toNat:Nat):Int))=true:=by
       rintro x rfl;rw[<-hx];rfl
      clear hx
      go_wp2_with fail
      go_quiet (fail)
      rw[hd]
      rotate_left
      ·rfl
      go_wp2_with fail
      go_ret3
      exact⟨by rw[HE.out];rfl,hq'.drewN _⟩
     ·have HX:=zb hx;have hd:∀x:Int,x=98->(x==((b[a+1].toNat:Nat):Int))=false:=by
       rintro x rfl;rw[beq_eq_false_iff_ne];intro h;have h2:(98:UInt8).toNat=b[a+1].toNat:=by
        have:(98:UInt8).toNat=98:=rfl;omega
       exact hx (UInt8.toNat_inj.1 h2)
      clear hx
      go_wp2_with fail
      go_quiet (fail)
      rw[hd]
      rotate_left
      ·rfl
      go_wp2_with fail
      go_roundg g
      case measure=>omega
      case rel=>exact⟨4,by omega,hk'.out,hq'.drewN _,zb (fun j hj=>by
       rcases zj j 3 with h|h
       ·exact HN.out j h
       ·obtain rfl:j=3:=by omega
        exact HX.out)⟩
    ·have hnx:=fun ty=>y7 (P:=Tryz.prog) wr w.heap.size za1 4 ty hk (by decide) (by decide);have hk':=zb (y8 wr w.heap.size za1 4 5 hk);have hq':Qb w (wr.iterAt w.heap.size za1 5):=y9 hq (ze _) za1 5;clear hk
     by_cases hx:(102:UInt8)=b[a+1]
     ·have HE:=zb (zdN b a 4 (by decide) c0' hx);have hd:∀x:Int,x=102->(x==((b[a+1].toNat:Nat):Int))=true:=by
       rintro x rfl;rw[<-hx];rfl
      clear hx
      go_wp2_with fail
      go_quiet (fail)
      rw[hd]
      rotate_left
      ·rfl
      go_wp2_with fail
      go_ret3
      exact⟨by rw[HE.out];rfl,hq'.drewN _⟩
     ·have HX:=zb hx;have hd:∀x:Int,x=102->(x==((b[a+1].toNat:Nat):Int))=false:=by
       rintro x rfl;rw[beq_eq_false_iff_ne];intro h;have h2:(102:UInt8).toNat=b[a+1].toNat:=by
        have:(102:UInt8).toNat=102:=rfl;omega
       exact hx (UInt8.toNat_inj.1 h2)
      clear hx
      go_wp2_with fail
      go_quiet (fail)
      rw[hd]
      rotate_left
      ·rfl
      go_wp2_with fail
      go_roundg g
      case measure=>omega
      case rel=>exact⟨5,by omega,hk'.out,hq'.drewN _,zb (fun j hj=>by
       rcases zj j 4 with h|h
       ·exact HN.out j h
       ·obtain rfl:j=4:=by omega
        exact HX.out)⟩
    ·have hnx:=fun ty=>y7 (P:=Tryz.prog) wr w.heap.size za1 5 ty hk (by decide) (by decide);have hk':=zb (y8 wr w.heap.size za1 5 6 hk);have hq':Qb w (wr.iterAt w.heap.size za1 6):=y9 hq (ze _) za1 6;clear hk
     by_cases hx:(110:UInt8)=b[a+1]
     ·have HE:=zb (zdN b a 5 (by decide) c0' hx);have hd:∀x:Int,x=110->(x==((b[a+1].toNat:Nat):Int))=true:=by
       rintro x rfl;rw[<-hx];rfl
      clear hx
      go_wp2_with fail
      go_quiet (fail)
      rw[hd]
      rotate_left
      ·rfl
      go_wp2_with fail
      go_ret3
      exact⟨by rw[HE.out];rfl,hq'.drewN _⟩
     ·have HX:=zb hx;have hd:∀x:Int,x=110->(x==((b[a+1].toNat:Nat):Int))=false:=by
       rintro x rfl;rw[beq_eq_false_iff_ne];intro h;have h2:(110:UInt8).toNat=b[a+1].toNat:=by
        have:(110:UInt8).toNat=110:=rfl;omega
       exact hx (UInt8.toNat_inj.1 h2)
      clear hx
      go_wp2_with fail
      go_quiet (fail)
      rw[hd]
      rotate_left
      ·rfl
      go_wp2_with fail
      go_roundg g
      case measure=>omega
      case rel=>exact⟨6,by omega,hk'.out,hq'.drewN _,zb (fun j hj=>by
       rcases zj j 5 with h|h
       ·exact HN.out j h
       ·obtain rfl:j=5:=by omega
        exact HX.out)⟩
    ·have hnx:=fun ty=>y7 (P:=Tryz.prog) wr w.heap.size za1 6 ty hk (by decide) (by decide);have hk':=zb (y8 wr w.heap.size za1 6 7 hk);have hq':Qb w (wr.iterAt w.heap.size za1 7):=y9 hq (ze _) za1 7;clear hk
     by_cases hx:(114:UInt8)=b[a+1]
     ·have HE:=zb (zdN b a 6 (by decide) c0' hx);have hd:∀x:Int,x=114->(x==((b[a+1].toNat:Nat):Int))=true:=by
       rintro x rfl;rw[<-hx];rfl
      clear hx
      go_wp2_with fail
      go_quiet (fail)
      rw[hd]
      rotate_left
      ·rfl
      go_wp2_with fail
      go_ret3
      exact⟨by rw[HE.out];rfl,hq'.drewN _⟩
     ·have HX:=zb hx;have hd:∀x:Int,x=114->(x==((b[a+1].toNat:Nat):Int))=false:=by
       rintro x rfl;rw[beq_eq_false_iff_ne];intro h;have h2:(114:UInt8).toNat=b[a+1].toNat:=by
        have:(114:UInt8).toNat=114:=rfl;omega
       exact hx (UInt8.toNat_inj.1 h2)
      clear hx
      go_wp2_with fail
      go_quiet (fail)
      rw[hd]
      rotate_left
      ·rfl
      go_wp2_with fail
      go_roundg g
      case measure=>omega
      case rel=>exact⟨7,by omega,hk'.out,hq'.drewN _,zb (fun j hj=>by
       rcases zj j 6 with h|h
       ·exact HN.out j h
       ·obtain rfl:j=6:=by omega
        exact HX.out)⟩
    ·have hnx:=fun ty=>y7 (P:=Tryz.prog) wr w.heap.size za1 7 ty hk (by decide) (by decide);have hk':=zb (y8 wr w.heap.size za1 7 8 hk);have hq':Qb w (wr.iterAt w.heap.size za1 8):=y9 hq (ze _) za1 8;clear hk
     by_cases hx:(116:UInt8)=b[a+1]
     ·have HE:=zb (zdN b a 7 (by decide) c0' hx);have hd:∀x:Int,x=116->(x==((b[a+1].toNat:Nat):Int))=true:=by
       rintro x rfl;rw[<-hx];rfl
      clear hx
      go_wp2_with fail
      go_quiet (fail)
      rw[hd]
      rotate_left
      ·rfl
      go_wp2_with fail
      go_ret3
      exact⟨by rw[HE.out];rfl,hq'.drewN _⟩
     ·have HX:=zb hx;have hd:∀x:Int,x=116->(x==((b[a+1].toNat:Nat):Int))=false:=by
       rintro x rfl;rw[beq_eq_false_iff_ne];intro h;have h2:(116:UInt8).toNat=b[a+1].toNat:=by
        have:(116:UInt8).toNat=116:=rfl;omega
       exact hx (UInt8.toNat_inj.1 h2)
      clear hx
      go_wp2_with fail
      go_quiet (fail)
      rw[hd]
      rotate_left
      ·rfl
      go_wp2_with fail
      go_roundg g
      case measure=>omega
      case rel=>exact⟨8,by omega,hk'.out,hq'.drewN _,zb (fun j hj=>by
       rcases zj j 7 with h|h
       ·exact HN.out j h
       ·obtain rfl:j=7:=by omega
        exact HX.out)⟩
   ·have hnx:=fun ty=>Lib.run_next_end_at (P:=Tryz.prog) wr w.heap.size za1 i ty hk (by show ¬i<8;exact hi);have HS:Hid ((b.data.toList.drop a)[1]?.bind zgb=none):=zb (by
     rw[zgL,HG.out,Option.bind_some];exact codes_no _ (fun j hj=>HN.out j (by omega)))
    go_wp2_with fail
    refine(zjS b a a rfl (by omega) hs _ (zqf hT hq)).mono ?_;rintro e w1 ⟨v,rfl,hv,hq1⟩;have hq2:=hq.trans hq1;unfold zmn at hv
    cases hu:zdj (b.data.toList.drop a) with
    | none=>
     rw[hu] at hv;obtain⟨x,rfl⟩:=hv;have hE:zbN b.data.toList a=([],0,130):=by
      have:zfy (b.data.toList.drop a)=(130,[],0):=by unfold zfy;rw[HS.out,hu]
      unfold zbN;rw[this];rfl
     go_wp2_with fail
     go_ret3
     exact⟨by rw[hE];rfl,hq2⟩
    | some n=>
     rw[hu] at hv;subst hv;have hul:=zc6 hu;rw[zw,zal] at hul;have HU:=zb hu;clear hu;have okE:∀(U Z:Nat),zec n ((b.data.toList.drop a).drop 6)=(U,Z)->cpB (U:Int)=true->zbN b.data.toList a=(zeM U,((a+Z:Nat):Int),0):=by
      intro U Z h1 h2;have:=zpn HS.out HU.out;rw[h1] at this;simp only at this;rw[if_pos h2] at this;unfold zbN;rw[this];rfl
     have noE:∀(U Z:Nat),zec n ((b.data.toList.drop a).drop 6)=(U,Z)->cpB (U:Int)=false->zbN b.data.toList a=([],0,7):=by
      intro U Z h1 h2;have:=zpn HS.out HU.out;rw[h1] at this;simp only at this;rw[if_neg (by rw[h2];simp)] at this;unfold zbN;rw[this];rfl
     have HO:=zb okE;have HNo:=zb noE;clear okE noE;have hq3:=zqf hT hq2;have HQ2:=zb hq2;have b1:IntKind.i64.wrap ((a:Int)+6)=(a:Int)+6:=IntWalk.i64_in _ (by omega);have b2:IntKind.i64.wrap ((a:Int)+12)=(a:Int)+12:=IntWalk.i64_in _ (by omega);have encOk:∀U:Nat,cpB (U:Int)=true->∀wz,Calls Tryz.prog 120 #[.int .i64 (U:Nat)] wz fun e w'=>e=.returned (.tuple #[.string (S (zeM U)),.int .i64 0])/\Qb wz w':=by
      intro U hU wz;have:=zdK (U:Nat) wz;unfold zir at this;rw[if_pos hU,jo] at this;exact this
     by_cases c1:n<55296\/57343<n
     ·have hU:zec n ((b.data.toList.drop a).drop 6)=(n,6):=by unfold zec;rw[if_neg (show ¬(55296<=n/\n<56320) by omega)]
      have hcp:cpB (n:Int)=true:=decide_eq_true (by omega);have hE:=zb (HO.out n 6 hU hcp);have hEn:=zb (encOk n hcp);clear hU hcp encOk
      by_cases c2:n<55296
      ·have d1:decide ((n:Int)<55296)=true:=decide_eq_true (by omega);clear c1 c2 hul
       go_wp2_with fail
       refine(hEn.out _).mono ?_;rintro e w2 ⟨rfl,hq4⟩;have HE2:=hE.out;clear hE hEn;generalize zeM n=X at *;have HE3:=zb HE2;clear HE2
       go_wp2_with fail
       go_ret3
       exact⟨by rw[HE3.out];rfl,HQ2.out.trans hq4⟩
      ·have d1:decide ((n:Int)<55296)=false:=decide_eq_false (by omega);have d2:decide ((57343:Int)<(n:Int))=true:=decide_eq_true (by omega);clear c1 c2 hul
       go_wp2_with fail
       refine(hEn.out _).mono ?_;rintro e w2 ⟨rfl,hq4⟩;have HE2:=hE.out;clear hE hEn;generalize zeM n=X at *;have HE3:=zb HE2;clear HE2
       go_wp2_with fail
       go_ret3
       exact⟨by rw[HE3.out];rfl,HQ2.out.trans hq4⟩
     ·have d1:decide ((n:Int)<55296)=false:=decide_eq_false (by omega);have d2:decide ((57343:Int)<(n:Int))=false:=decide_eq_false (by omega);have C1:=zb c1;have HL:=zb hul;clear c1 hul
      go_wp2_with fail
      refine(zjS b (a+6) _ (by omega) (by omega) hs _ hq3).mono ?_;rintro e w2 ⟨v,rfl,hv,hq4⟩;have HQ5:=zb (HQ2.out.trans hq4);unfold zmn at hv;have hdd:(b.data.toList.drop a).drop 6=b.data.toList.drop (a+6):=ji;have hcn:=C1.out;have hln:=HL.out;have hne:cpB (n:Int)=false:=decide_eq_false (by omega)
      cases hu2:zdj (b.data.toList.drop (a+6)) with
      | none=>
       rw[hu2] at hv;obtain⟨x,rfl⟩:=hv;have hU:zec n ((b.data.toList.drop a).drop 6)=(n,6):=by unfold zec;rw[hdd,hu2];simp
       have hE:=zb (HNo.out n 6 hU hne);clear hU hcn hln hne hdd encOk
       by_cases c3:(56319:Int)<n
       ·have d3:decide ((56319:Int)<(n:Int))=true:=decide_eq_true c3;clear c3
        go_wp2_with fail
        go_ret3
        exact⟨by rw[hE.out];rfl,HQ5.out⟩
       ·have d3:decide ((56319:Int)<(n:Int))=false:=decide_eq_false c3;clear c3
        go_wp2_with fail
        go_ret3
        exact⟨by rw[hE.out];rfl,HQ5.out⟩
      | some m=>
       rw[hu2] at hv;subst hv;have hml:=(zc6 hu2).2
       by_cases c3:(56319:Int)<n
       ·have hU:zec n ((b.data.toList.drop a).drop 6)=(n,6):=by unfold zec;rw[if_neg (show ¬(55296<=n/\n<56320) by omega)]
        have hE:=zb (HNo.out n 6 hU hne);have d3:decide ((56319:Int)<(n:Int))=true:=decide_eq_true c3;clear hU hcn hln hne hdd encOk c3 hml hu2
        go_wp2_with fail
        go_ret3
        exact⟨by rw[hE.out];rfl,HQ5.out⟩
       have d3:decide ((56319:Int)<(n:Int))=false:=decide_eq_false c3
       by_cases c4:(m:Int)<56320
       ·have hU:zec n ((b.data.toList.drop a).drop 6)=(n,6):=by
         unfold zec;rw[hdd,hu2,if_pos (show 55296<=n/\n<56320 by omega)];simp only;rw[if_neg (by omega)]
        have hE:=zb (HNo.out n 6 hU hne);have d4:decide ((m:Int)<56320)=true:=decide_eq_true c4;clear hU hcn hln hne hdd encOk c3 c4 hml hu2
        go_wp2_with fail
        go_ret3
        exact⟨by rw[hE.out];rfl,HQ5.out⟩
       have d4:decide ((m:Int)<56320)=false:=decide_eq_false c4
       by_cases c5:(57343:Int)<m
       ·have hU:zec n ((b.data.toList.drop a).drop 6)=(n,6):=by
         unfold zec;rw[hdd,hu2,if_pos (show 55296<=n/\n<56320 by omega)];simp only;rw[if_neg (by omega)]
        have hE:=zb (HNo.out n 6 hU hne);have d5:decide ((57343:Int)<(m:Int))=true:=decide_eq_true c5;clear hU hcn hln hne hdd encOk c3 c4 c5 hml hu2
        go_wp2_with fail
        go_ret3
        exact⟨by rw[hE.out];rfl,HQ5.out⟩
       have d5:decide ((57343:Int)<(m:Int))=false:=decide_eq_false c5;have hU:zec n ((b.data.toList.drop a).drop 6)=(65536+(n - 55296)*1024+(m - 56320),12):=by
        unfold zec;rw[hdd,hu2,if_pos (show 55296<=n/\n<56320 by omega)];simp only;rw[if_pos (by omega)]
       have hcp:cpB ((65536+(n - 55296)*1024+(m - 56320):Nat):Int)=true:=decide_eq_true (by omega);have hE:=zb (HO.out _ 12 hU hcp);have hEn:=zb (encOk _ hcp);have e1:(n:Int) - 55296=((n - 55296:Nat):Int):=by omega
       have e2:((n - 55296:Nat):Int)*1024=(((n - 55296)*1024:Nat):Int):=by omega
       have e3:(65536:Int)+(((n - 55296)*1024:Nat):Int)=((65536+(n - 55296)*1024:Nat):Int):=by omega
       have e4:((65536+(n - 55296)*1024:Nat):Int)+(m:Int)=((65536+(n - 55296)*1024+m:Nat):Int):=by omega
       have e5:((65536+(n - 55296)*1024+m:Nat):Int) - 56320=((65536+(n - 55296)*1024+(m - 56320):Nat):Int):=by omega
       have hz:(65536:Int)+((n:Int) - 55296)*1024+(m:Int) - 56320=((65536+(n - 55296)*1024+(m - 56320):Nat):Int):=by omega
       have HZ:=zb hz;clear hU hne hdd encOk c3 c4 c5 hu2 hcp e1 e2 e3 e4 e5 hz
       go_wp2_with fail
       rw[HZ.out];refine(hEn.out _).mono ?_;rintro e w3 ⟨rfl,hq6⟩;have HE2:=hE.out;clear hE hEn HZ;generalize zeM (65536+(n - 55296)*1024+(m - 56320))=X at *;have HE3:=zb HE2;clear HE2 hcn hln hml
       go_wp2_with fail
       go_ret3
       exact⟨by rw[HE3.out];rfl,HQ5.out.trans hq6⟩
 ·go_enter Tryz.func105,Tryz.ntmps105
  have hu:zdj (b.data.toList.drop a)=none:=by
   cases hu:zdj (b.data.toList.drop a) with
   | none=>rfl
   | some n=>have:=(zc6 hu).1;rw[zw,zal] at this;omega
  have hE:zbN b.data.toList a=([],0,130):=by
   have:zfy (b.data.toList.drop a)=(130,[],0):=by
    unfold zfy;rw[zgL,List.getElem?_eq_none (by rw[zal];omega),hu];rfl
   unfold zbN;rw[this];rfl
  rw[hE]
  go_wp2_with fail
  refine(zjS b a a rfl (by omega) hs _ hT).mono ?_;rintro e w1 ⟨v,rfl,hv,hq⟩;unfold zmn at hv;rw[hu] at hv;obtain⟨x,rfl⟩:=hv
  go_wp2_with fail
  go_ret3
  exact⟨rfl,hq⟩
open Nat renaming reduceAdd -> z6, reduceSub -> z7, reduceLeDiff -> z8, reduceLT -> j4, reduceMul -> j5, reduceEqDiff -> j6
open Int renaming reduceToNat -> j7, reduceAdd -> j8, reduceSub -> j9, reduceMul -> x6, reduceNeg -> x7, reduceLT -> x8, reduceLE -> x9, reduceEq -> y4, reduceNe -> y5
section
variable [Tabs Tryz.prog] {objs:List OB} {K:List OB->AV->Prop}
theorem znq (s:List UInt8) (a:Nat) (ha:a<s.length) (hs:s.length<=140737488351232) (hk:K objs (.tup [.s (zbN s a).1,.i .i64 (zbN s a).2.1,.i .i64 (zbN s a).2.2])):zaf Tryz.prog 105 [.s s,.i .i64 (a:Nat)] objs K :=
 convT (vs:=[.string (S s),.int .i64 (a:Nat)]) rfl rfl (fun w hT=>zjT (S s) a (by rw[zcb];exact ha) (by rw[zcb];exact hs) w hT) hk
set_option maxHeartbeats 4000000 in
theorem zmv (s:List UInt8) (a:Nat) (hs:s.length<=140737488351232) (ha:a<s.length) (R:Int×List UInt8×Nat) (hR:zf5 ((s.drop (a+1)).length+1) (s.drop (a+1)) [] 0=R)
  (h1:R.1≠0->K objs (.tup [.s [],.i .i64 0,.i .i64 R.1])) (h0:R.1=0->K objs (.tup [.s R.2.1,.i .i64 ((a+1+R.2.2:Nat):Int),.i .i64 0])):zaf Tryz.prog 89 [.s s,.i .i64 (a:Nat)] objs K:=by
 refine za4 is_ref13_text rfl fun C _=>?_;simp only[c_ref13_text,sxZ,z6,z7,z8,j4,j5,j6,j7,j8,j9,x6,x7,x8,x9,y4,y5,reduceCtorEq,↓reduceIte];refine⟨by omega,?_⟩;refine zaK (fun n o tm=>∃(i:Nat) (out:List UInt8) (m:Nat),i<=s.length/\a+1<=i/\n=s.length - i/\o=[]/\out.length<=i/\s.length - i<m/\zf5 m (s.drop i) out (i - (a+1))=R/\tm.length=70/\tm[0]? = some (.s s)/\tm[7]? = some (.s out)/\tm[8]? = some (.i .i64 (i:Nat))) (s.length - (a+1))
  ⟨a+1,[],(s.drop (a+1)).length+1,ha,ze _,rfl,rfl,Nat.zero_le _,by rw[zw];omega,by rw[Nat.sub_self];exact hR,rfl,rfl,rfl,rfl⟩ ?_
 rintro n _ tm ⟨i,out,m,hi,hai,rfl,rfl,ho,hm,hT,hlen,t0,t7,t8⟩;obtain⟨m,rfl⟩:∃m',m=m'+1:=⟨m - 1,by omega⟩
 by_cases hlt:(i:Int)<s.length
 ·have hlt':i<s.length:=by omega
  have hg:=zaP hlt';have hdc:=jn hlt'
  by_cases c1:((s[i].toNat:Nat):Int)=34
  ·have hc:s[i]=34:=(zeX (by decide)).1 c1;rw[hdc,zf5,if_pos hc] at hT;subst hT;have h0:=h0 rfl;rw[show a+1+(i - (a+1)+1)=i+1 by omega] at h0;simp only[hlt,hg,c1,sxZ,z6,z7,z8,j4,j5,j6,j7,j8,j9,x6,x7,x8,x9,y4,y5,reduceCtorEq,↓reduceIte,za,hlen,t0,t7,t8];exact⟨by omega,by omega,h0⟩
  ·have hc:¬s[i]=34:=fun h=>c1 ((zeX (by decide)).2 h)
   by_cases c2:((s[i].toNat:Nat):Int)=92
   ·have hc2:s[i]=92:=(zeX (by decide)).1 c2;rw[hdc,zf5,if_neg hc,if_pos hc2,<-hdc] at hT;simp only[hlt,hg,c1,c2,sxZ,z6,z7,z8,j4,j5,j6,j7,j8,j9,x6,x7,x8,x9,y4,y5,reduceCtorEq,↓reduceIte,za,hlen,t0,t7,t8];refine⟨by omega,by omega,?_⟩;refine zae (znq s i hlt' hs ?_);unfold zbN;generalize hq:zfy (s.drop i)=q at *;obtain⟨e,x,m'⟩:=q;simp only at hT
    by_cases c3:e=0
    ·subst c3;rw[if_neg (by simp)] at hT;have hl:=zlL hq;rw[zw] at hl;simp only[sxZ,z6,z7,z8,j4,j5,j6,j7,j8,j9,x6,x7,x8,x9,y4,y5,reduceCtorEq,↓reduceIte,za,hlen,t0,t7,t8];exact⟨by omega,s.length - (i+m'),by omega,i+m',out++x,m,by omega,by omega,rfl,by rw[zk];omega,by omega,by rw[<-ji,show i+m' - (a+1)=i - (a+1)+m' by omega];exact hT,rfl,rfl⟩
    ·rw[if_pos c3] at hT;subst hT;simp only[c3,sxZ,z6,z7,z8,j4,j5,j6,j7,j8,j9,x6,x7,x8,x9,y4,y5,reduceCtorEq,↓reduceIte,za,hlen,t0,t7,t8];exact h1 c3
   ·have hc2:¬s[i]=92:=fun h=>c2 ((zeX (by decide)).2 h);rw[hdc,zf5,if_neg hc,if_neg hc2,<-hdc] at hT
    by_cases c4:((s[i].toNat:Nat):Int)<32
    ·rw[if_pos (by omega)] at hT;subst hT;simp only[hlt,hg,c1,c2,c4,sxZ,z6,z7,z8,j4,j5,j6,j7,j8,j9,x6,x7,x8,x9,y4,y5,reduceCtorEq,↓reduceIte,za,hlen,t0,t7,t8];exact⟨by omega,by omega,by omega,h1 (by decide)⟩
    ·rw[if_neg (by omega)] at hT;simp only[hlt,hg,c1,c2,c4,sxZ,z6,z7,z8,j4,j5,j6,j7,j8,j9,x6,x7,x8,x9,y4,y5,reduceCtorEq,↓reduceIte,za,hlen,t0,t7,t8];refine⟨by omega,by omega,by omega,?_⟩;refine zae (zmu s i hs ?_);rw[zpT hlt']
     cases hd:zfz (s.drop i) with
     | none=>
      rw[hd] at hT;simp only at hT;subst hT;simp only[sxZ,z6,z7,z8,j4,j5,j6,j7,j8,j9,x6,x7,x8,x9,y4,y5,reduceCtorEq,↓reduceIte,za,hlen,t0,t7,t8];exact h1 (by decide)
     | some q=>
      obtain⟨r,m'⟩:=q;rw[hd] at hT;simp only at hT;have gg:m'<=(s.drop i).length/\1<=m':=⟨(zd1 hd).2.2.1,(zd1 hd).2.2.2.1⟩;have hxl:((s.drop i).take m').length<=m':=by rw[qc];omega
      rw[zw] at gg;simp only[sxZ,z6,z7,z8,j4,j5,j6,j7,j8,j9,x6,x7,x8,x9,y4,y5,reduceCtorEq,↓reduceIte,za,hlen,t0,t7,t8];rw[zf7];exact⟨by omega,by omega,s.length - (i+m'),by omega,i+m',out++(s.drop i).take m',m,by omega,by omega,rfl,by rw[zk];omega,by omega,by rw[<-ji,show i+m' - (a+1)=i - (a+1)+m' by omega];exact hT,rfl,rfl⟩
 ·obtain rfl:i=s.length:=by omega
  rw[xw,zf5] at hT;subst hT;simp only[sxZ,z6,z7,z8,j4,j5,j6,j7,j8,j9,x6,x7,x8,x9,y4,y5,reduceCtorEq,↓reduceIte,za,hlen,t0,t7,t8,hlt];exact h1 (by decide)
end
theorem zh2 {P:Program} [Tabs P] {C:Cx} {F:za0} {k:List IT} {objs:List OB} {tm:List AV} {c:SV} {x y:SCode} (h:c.ev tm=.b true) (hr:run P C (.code x::k) objs tm F):run P C (.code (.cond c x y)::k) objs tm F:=by
 rw[zh4,h,kC_t];exact hr
theorem zh3 {P:Program} [Tabs P] {C:Cx} {F:za0} {k:List IT} {objs:List OB} {tm:List AV} {c:SV} {x y:SCode} (h:c.ev tm=.b false) (hr:run P C (.code y::k) objs tm F):run P C (.code (.cond c x y)::k) objs tm F:=by
 rw[zh4,h,kC_f];exact hr
section
variable [Tabs Tryz.prog] {objs:List OB} {K:List OB->AV->Prop}
set_option maxHeartbeats 4000000 in
theorem zmw (s:List UInt8) (a:Int) (hs:s.length<=140737488351232) (hk:K objs (zot (zbz s a))):zaf Tryz.prog 63 [.s s,.i .i64 a] objs K:=by
 refine za4 is_ref13_Next rfl fun C _=>?_;unfold zbz zot at hk
 by_cases c0:a<0
 ·rw[if_pos (.inl c0)] at hk;simp only[c0,c_ref13_Next,sxZ,z6,z7,z8,j4,j5,j6,j7,j8,j9,x6,x7,x8,x9,y4,y5,reduceCtorEq,↓reduceIte];exact hk
 by_cases c1:(s.length:Int)<a
 ·rw[if_pos (.inr c1)] at hk;simp only[c0,c1,c_ref13_Next,sxZ,z6,z7,z8,j4,j5,j6,j7,j8,j9,x6,x7,x8,x9,y4,y5,reduceCtorEq,↓reduceIte];exact hk
 rw[if_neg (by omega)] at hk;obtain⟨a,rfl⟩:∃n:Nat,a=n:=⟨a.toNat,by omega⟩;rw[jo] at hk;rw[c_ref13_Next];refine zaa fun Y1 hY1=>?_;simp only[sxZ,z6,z7,z8,j4,j5,j6,j7,j8,j9,x6,x7,x8,x9,y4,y5,reduceCtorEq,↓reduceIte];subst hY1;refine zaa fun Y1 hY1=>?_;simp only[c0,c1,sxZ,z6,z7,z8,j4,j5,j6,j7,j8,j9,x6,x7,x8,x9,y4,y5,reduceCtorEq,↓reduceIte];subst hY1;refine zaa fun Y1 hY1=>?_;have hwl:=zf3 (s.drop a);rw[zw] at hwl;refine zaL (fun o t=>o=[.box 56 [.i .i64 0,.s [],.i .i64 0]]/\t.length=139/\t[0]? = some (.s s)/\t[1]? = some (.i .i64 ((a+zbQ (s.drop a):Nat):Int))/\t[4]? = some (.p 0 0)) ?_ ?_
 ·simp only[sxZ,z6,z7,z8,j4,j5,j6,j7,j8,j9,x6,x7,x8,x9,y4,y5,reduceCtorEq,↓reduceIte];refine zaK (fun n objs tm=>∃i:Nat,i<=s.length/\n=s.length - i/\objs=[.box 56 [.i .i64 0,.s [],.i .i64 0]]/\a+zbQ (s.drop a)=i+zbQ (s.drop i)/\tm.length=139/\tm[0]? = some (.s s)/\tm[1]? = some (.i .i64 i)/\tm[4]? = some (.p 0 0)) (s.length - a) ⟨a,by omega,rfl,rfl,rfl,rfl,rfl,rfl,rfl⟩ ?_;rintro n _ tm ⟨i,hil,rfl,rfl,hr,hlen,t0,t1,t4⟩
  by_cases hlt2:(i:Int)<s.length
  ·have hlt':i<s.length:=by omega
   have hg2:=zaP hlt';have hrn:=white_at s i hlt';simp only[sxZ,z6,z7,z8,j4,j5,j6,j7,j8,j9,x6,x7,x8,x9,y4,y5,reduceCtorEq,↓reduceIte,za,hlen,t0,t1,t4,hlt2];refine⟨by omega,?_⟩;rw[hg2];refine zae (rwhite_k s[i] ?_)
   by_cases hd:zim s[i]=true
   ·rw[if_pos hd] at hrn;simp only[hd,sxZ,z6,z7,z8,j4,j5,j6,j7,j8,j9,x6,x7,x8,x9,y4,y5,reduceCtorEq,↓reduceIte,za,hlen,t0,t1,t4];exact⟨⟨by omega,by omega⟩,s.length - (i+1),by omega,i+1,by omega,rfl,by omega,rfl⟩
   ·rw[if_neg hd] at hrn;simp only[Bool.not_eq_true] at hd;simp only[hd,zb3,zac,sxZ,z6,z7,z8,j4,j5,j6,j7,j8,j9,x6,x7,x8,x9,y4,y5,reduceCtorEq,↓reduceIte,za,hlen,t0,t1,t4];rw[hr,hrn];rfl
  ·obtain rfl:i=s.length:=by omega
   have hw:zbQ (s.drop s.length)=0:=by rw[xw];rfl
   simp only[hlt2,zb3,zac,sxZ,z6,z7,z8,j4,j5,j6,j7,j8,j9,x6,x7,x8,x9,y4,y5,reduceCtorEq,↓reduceIte,za,hlen,t0,t1,t4];rw[hr,hw];rfl
 rintro _ tm ⟨rfl,hlen,t0,t1,t4⟩;subst hY1;have ha:a+zbQ (s.drop a)<=s.length:=by omega
 generalize a+zbQ (s.drop a)=i at *;have h1:∀e x n k,zb7 (s.drop i)=(e,k,x,n)->e≠0->K objs (.tup [.agg [.i .i64 0,.s [],.i .i64 0],.i .i64 0,.i .i64 e]):=by
  intro e x n k h he;rw[h,if_pos he] at hk;exact hk
 have h0:∀x n k,zb7 (s.drop i)=(0,k,x,n)->K objs (.tup [.agg [.i .i64 k,.s x,.i .i64 (i:Nat)],.i .i64 ((i+n:Nat):Int),.i .i64 0]):=by
  intro x n k h;rw[h,if_neg (by simp)] at hk;exact hk
 clear hk c0 c1;refine zaa fun Y1 hY1=>?_
 by_cases c0:(i:Int)=s.length
 ·obtain rfl:i=s.length:=by omega
  have:=h0 [] 0 1 (by rw[xw];rfl);simp only[c0,sxZ,z6,z7,z8,j4,j5,j6,j7,j8,j9,x6,x7,x8,x9,y4,y5,reduceCtorEq,↓reduceIte,za,hlen,t0,t1,t4];exact this
 have hlt:i<s.length:=by omega
 have hg:=zaP hlt;have hdc:=jn hlt;simp only[c0,sxZ,z6,z7,z8,j4,j5,j6,j7,j8,j9,x6,x7,x8,x9,y4,y5,reduceCtorEq,↓reduceIte,za,hlen,t0,t1,t4];subst hY1;refine zaa fun Y1 hY1=>?_;refine zaa fun Y2 hY2=>?_;refine zaL (fun o t=>o=[.box 56 [.i .i64 0,.s [],.i .i64 0]]/\t.length=139/\t[0]? = some (.s s)/\t[1]? = some (.i .i64 (i:Nat))/\t[4]? = some (.p 0 0)/\t[7]? = some (.i .u8 (s[i].toNat:Nat))) ?_ ?_
 ·simp only[hg,zac,sxZ,z6,z7,z8,j4,j5,j6,j7,j8,j9,x6,x7,x8,x9,y4,y5,reduceCtorEq,↓reduceIte,za,hlen,t0,t1,t4]
  and_intros<;>first|omega|exact iv (by omega)|rfl|assumption
 rintro _ tm ⟨rfl,hlen,t0,t1,t4,t7⟩;subst hY2;rw[za8];refine zaa fun Y2 hY2=>?_;refine zaL (fun o t=>o=[.box 56 [.i .i64 0,.s [],.i .i64 0]]/\t.length=139/\t[0]? = some (.s s)/\t[1]? = some (.i .i64 (i:Nat))/\t[4]? = some (.p 0 0)/\t[7]? = some (.i .u8 (s[i].toNat:Nat))/\t[45]? = some (.b (zbu s[i] [123,125,91,93,58,44]))) ?_ ?_
 ·simp only[sxZ,z6,z7,z8,j4,j5,j6,j7,j8,j9,x6,x7,x8,x9,y4,y5,reduceCtorEq,↓reduceIte,za,hlen,t0,t1,t4,t7];refine zae (zi2 s[i] _ (by decide) ?_);simp only[zac,sxZ,z6,z7,z8,j4,j5,j6,j7,j8,j9,x6,x7,x8,x9,y4,y5,reduceCtorEq,↓reduceIte,za,hlen,t0,t1,t4,t7]
 rintro _ tm ⟨rfl,hlen,t0,t1,t4,t7,t45⟩;subst hY2
 by_cases c1:zbu s[i] [123,125,91,93,58,44]=true
 ·have hx:(s.take (i+1)).drop i=[s[i]]:=by rw[zf7,hdc];rfl
  have e1:((i:Int)+1).toNat=i+1:=by omega
  have:=h0 [s[i]] 1 2 (by rw[hdc,zb7,if_pos c1]);refine zh2 (by simp only[SV.ev,t45,qh,c1]) ?_;simp only[e1,hx,sxZ,z6,z7,z8,j4,j5,j6,j7,j8,j9,x6,x7,x8,x9,y4,y5,reduceCtorEq,↓reduceIte,za,hlen,t0,t1,t4,t7]
  (and_intros<;>try omega)
  exact this
 refine zh3 (by rw[Bool.not_eq_true] at c1;simp only[SV.ev,t45,qh,c1]) ?_;refine zaa fun Y2 hY2=>?_;refine zaL (fun o t=>o=[.box 56 [.i .i64 0,.s [],.i .i64 0]]/\t.length=139/\t[0]? = some (.s s)/\t[1]? = some (.i .i64 (i:Nat))/\t[4]? = some (.p 0 0)/\t[7]? = some (.i .u8 (s[i].toNat:Nat))/\t[57]? = some (.b (decide (((s[i].toNat:Nat):Int)=34)))) ?_ ?_
 ·simp only[zac,sxZ,z6,z7,z8,j4,j5,j6,j7,j8,j9,x6,x7,x8,x9,y4,y5,reduceCtorEq,↓reduceIte,za,hlen,t0,t1,t4,t7]
 rintro _ tm ⟨rfl,hlen,t0,t1,t4,t7,t57⟩;subst hY2
 by_cases c2:((s[i].toNat:Nat):Int)=34
 ·have hc:s[i]=34:=(zeX (by decide)).1 c2;refine zh2 (by simp only[SV.ev,t57,qh,c2,decide_true]) ?_;have he:zb7 (s.drop i)=if (zf5 ((s.drop (i+1)).length+1) (s.drop (i+1)) [] 0).1≠0 then ((zf5 ((s.drop (i+1)).length+1) (s.drop (i+1)) [] 0).1,0,[],0) else (0,3,(zf5 ((s.drop (i+1)).length+1) (s.drop (i+1)) [] 0).2.1,(zf5 ((s.drop (i+1)).length+1) (s.drop (i+1)) [] 0).2.2+1):=by
   rw[hdc,zb7,if_neg c1,if_pos hc]
  obtain⟨TT,hTT⟩:∃TT,zf5 ((s.drop (i+1)).length+1) (s.drop (i+1)) [] 0=TT:=⟨_,rfl⟩;rw[hTT] at he;simp only[sxZ,z6,z7,z8,j4,j5,j6,j7,j8,j9,x6,x7,x8,x9,y4,y5,reduceCtorEq,↓reduceIte,za,hlen,t0,t1,t4,t7];refine zae (zmv s i hs hlt TT hTT (fun hR=>?_) (fun hR=>?_))
  ·rw[if_pos hR] at he;have:=h1 _ _ _ _ he hR;simp only[hR,sxZ,z6,z7,z8,j4,j5,j6,j7,j8,j9,x6,x7,x8,x9,y4,y5,reduceCtorEq,↓reduceIte,za,hlen,t0,t1,t4,t7];exact this
  ·rw[if_neg (by rw[hR];simp)] at he;have:=h0 _ _ _ he;simp only[sxZ,z6,z7,z8,j4,j5,j6,j7,j8,j9,x6,x7,x8,x9,y4,y5,reduceCtorEq,↓reduceIte,za,hlen,t0,t1,t4,t7];rw[show i+(TT.2.2+1)=i+1+TT.2.2 by omega] at this;exact this
 have hc:¬s[i]=34:=fun h=>c2 ((zeX (by decide)).2 h);refine zh3 (by simp only[SV.ev,t57,qh,c2,decide_false]) ?_;refine zaa fun Y2 hY2=>?_;refine zaL (fun o t=>o=[.box 56 [.i .i64 0,.s [],.i .i64 0]]/\t.length=139/\t[0]? = some (.s s)/\t[1]? = some (.i .i64 (i:Nat))/\t[4]? = some (.p 0 0)/\t[7]? = some (.i .u8 (s[i].toNat:Nat))/\t[75]? = some (.b (decide (s[i]=45\/zaq s[i]=true)))) ?_ ?_
 ·by_cases c3:((s[i].toNat:Nat):Int)=45
  ·have hc3:s[i]=45\/zaq s[i]=true:=.inl ((zeX (by decide)).1 c3);simp only[c3,hc3,zac,sxZ,z6,z7,z8,j4,j5,j6,j7,j8,j9,x6,x7,x8,x9,y4,y5,reduceCtorEq,↓reduceIte,za,hlen,t0,t1,t4,t7]
  ·have hc3:¬s[i]=45:=fun h=>c3 ((zeX (by decide)).2 h);simp only[c3,sxZ,z6,z7,z8,j4,j5,j6,j7,j8,j9,x6,x7,x8,x9,y4,y5,reduceCtorEq,↓reduceIte,za,hlen,t0,t1,t4,t7];refine zae (zgs s[i] ?_);have e3:decide (s[i]=45\/zaq s[i]=true)=zaq s[i]:=by
    cases zaq s[i]<;>simp[hc3]
   rw[e3];generalize zaq s[i]=dg;simp only[zac,sxZ,z6,z7,z8,j4,j5,j6,j7,j8,j9,x6,x7,x8,x9,y4,y5,reduceCtorEq,↓reduceIte,za,hlen,t0,t1,t4,t7]
 rintro _ tm ⟨rfl,hlen,t0,t1,t4,t7,t75⟩;subst hY2
 by_cases c3:s[i]=45\/zaq s[i]=true
 ·refine zh2 (by simp only[SV.ev,t75,qh,c3,decide_true]) ?_;have he:zb7 (s.drop i)=if zfQ (s.drop i)=0 then (130,0,[],0) else (0,4,(s.drop i).take (zfQ (s.drop i)),zfQ (s.drop i)):=by
   conv=>lhs;rw[hdc]
   rw[zb7,if_neg c1,if_neg hc,if_pos c3,<-hdc]
  have hnl:=zos (s.drop i);rw[zw] at hnl;simp only[sxZ,z6,z7,z8,j4,j5,j6,j7,j8,j9,x6,x7,x8,x9,y4,y5,reduceCtorEq,↓reduceIte,za,hlen,t0,t1,t4,t7];refine⟨by omega,?_⟩;refine zae (zhe _ (by rw[zw];omega) ?_);generalize zfQ (s.drop i)=n at *
  by_cases c4:((n:Nat):Int)=0
  ·rw[if_pos (by omega)] at he;have:=h1 _ _ _ _ he (by decide);simp only[c4,sxZ,z6,z7,z8,j4,j5,j6,j7,j8,j9,x6,x7,x8,x9,y4,y5,reduceCtorEq,↓reduceIte,za,hlen,t0,t1,t4,t7];exact this
  ·rw[if_neg (by omega)] at he;have:=h0 _ _ _ he;have e2:((i:Int)+(n:Int)).toNat=i+n:=by omega
   simp only[c4,e2,sxZ,z6,z7,z8,j4,j5,j6,j7,j8,j9,x6,x7,x8,x9,y4,y5,reduceCtorEq,↓reduceIte,za,hlen,t0,t1,t4,t7];rw[zf7]
   (and_intros<;>try omega)
   exact this
 refine zh3 (by simp only[SV.ev,t75,qh,c3,decide_false]) ?_;have he:zb7 (s.drop i)=if (s.drop i).take (zcD (s.drop i))=[116,114,117,101]\/(s.drop i).take (zcD (s.drop i))=[102,97,108,115,101]\/(s.drop i).take (zcD (s.drop i))=[110,117,108,108] then (0,5,(s.drop i).take (zcD (s.drop i)),zcD (s.drop i)) else (130,0,[],0):=by
  conv=>lhs;rw[hdc]
  rw[zb7,if_neg c1,if_neg hc,if_neg c3,<-hdc]
 have hwl2:=zhM (s.drop i);rw[zw] at hwl2;simp only[sxZ,z6,z7,z8,j4,j5,j6,j7,j8,j9,x6,x7,x8,x9,y4,y5,reduceCtorEq,↓reduceIte];subst hY1;refine zaa fun Y1 hY1=>?_;simp only[sxZ,z6,z7,z8,j4,j5,j6,j7,j8,j9,x6,x7,x8,x9,y4,y5,reduceCtorEq,↓reduceIte];subst hY1;refine zaa fun Y1 hY1=>?_;refine zaL (fun o t=>o=[.box 56 [.i .i64 0,.s [],.i .i64 0]]/\t.length=139/\t[0]? = some (.s s)/\t[1]? = some (.i .i64 (i:Nat))/\t[4]? = some (.p 0 0)/\t[12]? = some (.i .i64 (zcD (s.drop i):Nat))) ?_ ?_
 ·simp only[sxZ,z6,z7,z8,j4,j5,j6,j7,j8,j9,x6,x7,x8,x9,y4,y5,reduceCtorEq,↓reduceIte];refine zaK (fun n o t=>∃k:Nat,i+k<=s.length/\n=s.length - (i+k)/\zcD (s.drop i)=k+zcD (s.drop (i+k))/\o=[.box 56 [.i .i64 0,.s [],.i .i64 0]]/\t.length=139/\t[0]? = some (.s s)/\t[1]? = some (.i .i64 (i:Nat))/\t[4]? = some (.p 0 0)/\t[12]? = some (.i .i64 (k:Nat))) (s.length - i) ⟨0,by omega,rfl,by simp,rfl,by simp[hlen],by simp[t0],by simp[t1],by simp[t4],by simp[hlen]⟩ ?_;rintro n _ tm ⟨k,hk,rfl,hr,rfl,hlen,t0,t1,t4,t12⟩;have e1:((i:Int)+(k:Int)).toNat=i+k:=by omega
  by_cases hlt2:(i:Int)+(k:Int)<s.length
  ·have hlt':i+k<s.length:=by omega
   have hg2:=zaP hlt';have hrn:=word_at s (i+k) hlt';simp only[e1,hg2,hlt2,sxZ,z6,z7,z8,j4,j5,j6,j7,j8,j9,x6,x7,x8,x9,y4,y5,reduceCtorEq,↓reduceIte,za,hlen,t0,t1,t4,t12];refine⟨by omega,by omega,by omega,?_⟩;refine zae (znX s[i+k] ?_)
   by_cases hd:zbB s[i+k]=true
   ·rw[if_pos hd] at hrn;simp only[hd,sxZ,z6,z7,z8,j4,j5,j6,j7,j8,j9,x6,x7,x8,x9,y4,y5,reduceCtorEq,↓reduceIte,za,hlen,t0,t1,t4,t12];exact⟨by omega,s.length - (i+(k+1)),by omega,k+1,by omega,rfl,by rw[<-Nat.add_assoc];omega,rfl⟩
   ·rw[if_neg hd] at hrn;simp only[Bool.not_eq_true] at hd;simp only[hd,zb3,zac,sxZ,z6,z7,z8,j4,j5,j6,j7,j8,j9,x6,x7,x8,x9,y4,y5,reduceCtorEq,↓reduceIte,za,hlen,t0,t1,t4,t12];rw[hr,hrn];rfl
  ·have hie:i+k=s.length:=by omega
   have hw:zcD (s.drop (i+k))=0:=by rw[hie,xw];rfl
   simp only[hlt2,zb3,zac,sxZ,z6,z7,z8,j4,j5,j6,j7,j8,j9,x6,x7,x8,x9,y4,y5,reduceCtorEq,↓reduceIte,za,hlen,t0,t1,t4,t12];refine⟨by omega,?_⟩;rw[hr,hw];rfl
 rintro _ tm ⟨rfl,hlen,t0,t1,t4,t12⟩;subst hY1;have hx:=zf7 s i (zcD (s.drop i));generalize zcD (s.drop i)=n at *;rw[<-hx] at he;have e2:((i:Int)+(n:Int)).toNat=i+n:=by omega
 have n1:¬([102,97,108,115,101]:List UInt8)=[116,114,117,101]:=by decide
 have n2:¬([110,117,108,108]:List UInt8)=[116,114,117,101]:=by decide
 have n3:¬([110,117,108,108]:List UInt8)=[102,97,108,115,101]:=by decide
 refine zaa fun Y1 hY1=>?_;refine zaa fun Y2 hY2=>?_;refine zaL (fun o t=>o=[.box 56 [.i .i64 0,.s [],.i .i64 0]]/\t.length=139/\t[1]? = some (.i .i64 (i:Nat))/\t[4]? = some (.p 0 0)/\t[12]? = some (.i .i64 (n:Nat))/\t[13]? = some (.s ((s.take (i+n)).drop i))) ?_ ?_
 ·simp only[e2,zac,sxZ,z6,z7,z8,j4,j5,j6,j7,j8,j9,x6,x7,x8,x9,y4,y5,reduceCtorEq,↓reduceIte,za,hlen,t0,t1,t4,t12]
  and_intros<;>first|omega|exact iv (by omega)|rfl|assumption
 rintro _ tm ⟨rfl,hlen,t1,t4,t12,t13⟩;subst hY2;generalize (s.take (i+n)).drop i=x at *
 by_cases hw:x=[116,114,117,101]\/x=[102,97,108,115,101]\/x=[110,117,108,108]
 ·rw[if_pos hw] at he;have:=h0 _ _ _ he;rcases hw with rfl|rfl|rfl
  ·simp only[sxZ,z6,z7,z8,j4,j5,j6,j7,j8,j9,x6,x7,x8,x9,y4,y5,reduceCtorEq,↓reduceIte,za,hlen,t1,t4,t12,t13]
   (and_intros<;>try omega)
   exact this
  ·simp only[n1,sxZ,z6,z7,z8,j4,j5,j6,j7,j8,j9,x6,x7,x8,x9,y4,y5,reduceCtorEq,↓reduceIte,za,hlen,t1,t4,t12,t13]
   (and_intros<;>try omega)
   exact this
  ·simp only[n2,n3,sxZ,z6,z7,z8,j4,j5,j6,j7,j8,j9,x6,x7,x8,x9,y4,y5,reduceCtorEq,↓reduceIte,za,hlen,t1,t4,t12,t13]
   (and_intros<;>try omega)
   exact this
 ·rw[if_neg hw] at he;have:=h1 _ _ _ _ he (by decide);have d1:¬x=[116,114,117,101]:=fun h=>hw (.inl h);have d2:¬x=[102,97,108,115,101]:=fun h=>hw (.inr (.inl h));have d3:¬x=[110,117,108,108]:=fun h=>hw (.inr (.inr h));simp only[d1,d2,d3,sxZ,z6,z7,z8,j4,j5,j6,j7,j8,j9,x6,x7,x8,x9,y4,y5,reduceCtorEq,↓reduceIte,za,hlen,t1,t4,t12,t13];subst hY1;simp only[sxZ,z6,z7,z8,j4,j5,j6,j7,j8,j9,x6,x7,x8,x9,y4,y5,reduceCtorEq,↓reduceIte,za,hlen,t1,t4,t12,t13];exact this
end
section
attribute [local irreducible] run
def intN (l:List UInt8):List UInt8:=if l[zci l]? = some 48 then [48] else (l.drop (zci l)).take (zbx (l.drop (zci l)))
def frN (l:List UInt8) (t:Nat):List UInt8:=if l[t]? = some 46/\0<zbx (l.drop (t+1)) then (l.drop (t+1)).take (zbx (l.drop (t+1))) else []
def sgnX (l:List UInt8) (f:Nat):List UInt8:=if l[f+1]? = some 43 then [43] else if l[f+1]? = some 45 then [45] else []
def exN (l:List UInt8) (f:Nat):Option (UInt8×List UInt8×List UInt8) :=
 if (l[f]? = some 101\/l[f]? = some 69)/\0<zbx (l.drop (zbY l f)) then some (if l[f]? = some 101 then 101 else 69,sgnX l f,l.drop (zbY l f)) else none
def zk4 (l:List UInt8):NumS:=⟨decide (l[0]? = some 45),intN l,frN l (zbt l),exN l (zdA l (zbt l))⟩
theorem zoa {l:List UInt8} (h0:l≠[]) (h:zfQ l=l.length):(zk4 l).Good/\l=(zk4 l).txt:=by
 have hl:0<l.length:=List.length_pos_iff.2 h0;unfold zfQ at h
 by_cases hr:zbx (l.drop (zci l))=0
 ·rw[if_pos hr] at h;omega
 rw[if_neg hr] at h;have hsg:l=sgT (decide (l[0]? = some 45))++l.drop (zci l):=by
  unfold zci sgT
  by_cases hc:l[0]? = some 45
  ·rw[if_pos hc,if_pos (by rw[hc];rfl)]
   conv=>lhs;rw[<-List.drop_zero (l:=l),zbM hc]
   rfl
  ·rw[if_neg hc,if_neg (by rw[decide_eq_false hc];exact Bool.false_ne_true)];simp
 have hrl:=zbw l (zci l) (by omega);obtain⟨I,hIe,hI0,hI1,hI2,hIl,hI⟩:∃I:List UInt8,I=intN l/\I≠[]/\I.all zaq=true/\(I[0]? = some 48->I=[48])/\zbt l<=l.length/\l.drop (zci l)=I++l.drop (zbt l):=by
  have hd:=ze7 (l.drop (zci l)) 0 (by omega);obtain⟨c,hc1,hc2⟩:=hd;rw[jp,Nat.add_zero] at hc1;have hdc:=zbM hc1;unfold zbt
  by_cases hz:l[zci l]? = some 48
  ·rw[if_pos hz];refine⟨[48],by unfold intN;rw[if_pos hz],by simp,rfl,fun _=>rfl,?_,?_⟩
   ·have:=(List.getElem?_eq_some_iff.1 hz).1;omega
   ·exact zbM hz
  ·rw[if_neg hz];refine⟨(l.drop (zci l)).take (zbx (l.drop (zci l))),by unfold intN;rw[if_neg hz],zhQ (by omega) (ze6 _),zcM _,?_,hrl,?_⟩
   ·intro h1;exfalso;rw[List.getElem?_take,if_pos (by omega),jp,Nat.add_zero] at h1;exact hz h1
   ·have:=zfX l (show zci l<=zci l+zbx (l.drop (zci l)) by omega);rw[show zci l+zbx (l.drop (zci l)) - zci l=zbx (l.drop (zci l)) by omega] at this;exact this
 unfold zk4;rw[<-hIe];clear hIe;generalize zbt l=t at *;obtain⟨F,hFe,hF1,hFl,hF⟩:∃F:List UInt8,F=frN l t/\F.all zaq=true/\zdA l t<=l.length/\l.drop t=frT F++l.drop (zdA l t):=by
  unfold zdA
  by_cases hc:l[t]? = some 46/\0<zbx (l.drop (t+1))
  ·rw[if_pos hc];have hb:=zbw l (t+1) hc.2;refine⟨(l.drop (t+1)).take (zbx (l.drop (t+1))),by unfold frN;rw[if_pos hc],zcM _,hb,?_⟩;have h1:=zfX l (show t+1<=t+1+zbx (l.drop (t+1)) by omega);rw[show t+1+zbx (l.drop (t+1)) - (t+1)=zbx (l.drop (t+1)) by omega] at h1;have hne:=zhQ hc.2 (ze6 (l.drop (t+1)));rw[zbM hc.1];generalize (l.drop (t+1)).take (zbx (l.drop (t+1)))=F at *
   cases F with
   | nil=>exact absurd rfl hne
   | cons a F=>
    show 46::l.drop (t+1)=46::(a::F++_);rw[<-h1]
  ·rw[if_neg hc];exact⟨[],by unfold frN;rw[if_neg hc],rfl,hIl,rfl⟩
 rw[<-hFe];clear hFe;generalize zdA l t=f at *;obtain⟨E,hEe,hE1,hE⟩:∃E:Option (UInt8×List UInt8×List UInt8),E=exN l f/\(∀c s d,E=some (c,s,d)->(c=101\/c=69)/\(s=[]\/s=[43]\/s=[45])/\d≠[]/\d.all zaq=true)/\l.drop f=exT E:=by
  unfold expN at h
  by_cases hc:(l[f]? = some 101\/l[f]? = some 69)/\0<zbx (l.drop (zbY l f))
  ·rw[if_pos hc] at h;have hex:exN l f=some (if l[f]? = some 101 then 101 else 69,sgnX l f,l.drop (zbY l f)):=by unfold exN;rw[if_pos hc]
   obtain⟨c,hc1,hc2,hc3⟩:∃c,l[f]? = some c/\(c=101\/c=69)/\(if l[f]? = some 101 then 101 else 69)=c:=by
    rcases hc.1 with h1|h1
    ·exact⟨_,h1,.inl rfl,by rw[if_pos h1]⟩
    ·exact⟨_,h1,.inr rfl,by rw[h1];rfl⟩
   rw[hc3] at hex;have hdig:l.drop (zbY l f)≠[]/\(l.drop (zbY l f)).all zaq=true:=by
    have h1:=zcM (l.drop (zbY l f));have h2:zbx (l.drop (zbY l f))=(l.drop (zbY l f)).length:=by rw[zw];omega
    rw[h2,List.take_length] at h1;refine⟨fun e=>?_,h1⟩;rw[e] at hc;exact absurd hc.2 (by simp[zbx])
   rw[zbM hc1];unfold zbY at hdig hc hex
   by_cases hs:l[f+1]? = some 43\/l[f+1]? = some 45
   ·rw[if_pos hs] at hdig hex;obtain⟨s,hs1,hs2,hs3⟩:∃s,l[f+1]? = some s/\(s=43\/s=45)/\sgnX l f=[s]:=by
     unfold sgnX;rcases hs with h1|h1
     ·exact⟨_,h1,.inl rfl,by rw[if_pos h1]⟩
     ·exact⟨_,h1,.inr rfl,by rw[h1];rfl⟩
    refine⟨some (c,[s],l.drop (f+2)),by rw[hex,hs3],?_,?_⟩
    ·intro c' s' d' e;injection e with e;injection e with e1 e2;injection e2 with e2 e3
     subst e1 e2 e3;exact⟨hc2,by rcases hs2 with rfl|rfl<;>simp,hdig.1,hdig.2⟩
    ·rw[zbM hs1];rfl
   ·rw[if_neg hs] at hdig hex;have hs3:sgnX l f=[]:=by
     unfold sgnX;rw[if_neg (fun h=>hs (.inl h)),if_neg (fun h=>hs (.inr h))]
    refine⟨some (c,[],l.drop (f+1)),by rw[hex,hs3],?_,rfl⟩;intro c' s' d' e;injection e with e;injection e with e1 e2;injection e2 with e2 e3
    subst e1 e2 e3;exact⟨hc2,.inl rfl,hdig.1,hdig.2⟩
  ·rw[if_neg hc] at h;subst h;exact⟨none,by unfold exN;rw[if_neg hc],fun _ _ _ e=>(by cases e),by simp[exT]⟩
 rw[<-hEe];refine⟨⟨hI0,hI1,hI2,hF1,hE1⟩,?_⟩;show l=sgT _++(I++(frT F++exT E));rw[<-hE,<-hF,<-hI,<-hsg]
def zc3 (l:List UInt8):Int×List UInt8:=if l=[]\/¬zfQ l=l.length then (130,[]) else canP 1099511627776 (zk4 l)
theorem numE_of {p:NumS} (hp:p.Good):zc3 p.txt=canP 1099511627776 p:=by
 obtain⟨h1,h2⟩:=num_txt hp;unfold zc3;rw[if_neg (fun h=>h.elim h2 (fun h=>h h1))];obtain⟨q1,q2⟩:=zoa h2 h1;exact congrArg _ (num_uniq hp q1 q2).symm
theorem can_cut2 (p:NumS) (h:p.txt.length<=1048576):canP 1099511627776 p=canP 1073741824 p:=by
 have h1:=znb p;have h2:=zlf p;have h3:=zR_len (zff p);unfold canP
 by_cases hm:zff p=[]
 ·rw[if_pos hm,if_pos hm]
 rw[if_neg hm,if_neg hm]
 by_cases he:zgK 1099511627776 p.ex=zgK 1073741824 p.ex
 ·have:zpl 1099511627776 p=zpl 1073741824 p:=by unfold zpl;rw[he]
  rw[this]
 ·have key:(zgK 1099511627776 p.ex < -100000000/\zgK 1073741824 p.ex < -100000000)\/(100000000<zgK 1099511627776 p.ex/\100000000<zgK 1073741824 p.ex):=by
   cases hx:p.ex with
   | none=>rw[hx] at he;exact absurd rfl he
   | some e=>
    obtain⟨c,s,d⟩:=e;rw[hx] at he;simp only[zgK] at he ⊢
    by_cases hs:s=[45]
    ·rw[if_pos hs,if_pos hs] at he ⊢;left;omega
    ·rw[if_neg hs,if_neg hs] at he ⊢;right;omega
  rw[if_pos,if_pos]
  ·unfold zpl;omega
  ·unfold zpl;omega
theorem zhO:∀(n:Nat) (l out x:List UInt8) (k m:Nat),zf5 n l out k=(0,x,m)->k<m/\m<=k+l.length/\x.length<=out.length+(m - k)
 | 0,l,out,x,k,m,h=>by rw[zf5] at h;cases h
 | n+1,[],out,x,k,m,h=>by rw[zf5] at h;cases h
 | n+1,c::t,out,x,k,m,h=>by
  rw[zf5] at h;have hl:(c::t).length=t.length+1:=rfl
  split at h
  ·cases h;exact⟨by omega,by omega,by omega⟩
  ·split at h
   ·split at h
    ·rename_i g;injection h with h _;exact absurd h g
    ·rename_i g;have g:(zfy (c::t)).1=0:=by simpa using g
     obtain⟨⟨e,y,j⟩,hE⟩:∃r,zfy (c::t)=r:=⟨_,rfl⟩;rw[hE] at h g;simp only at g h;subst g;have hl2:=zlL hE;have:=zhO n _ _ _ _ _ h;rw[zw,zk] at this;omega
   ·split at h
    ·cases h
    ·split at h
     ·cases h
     ·rename_i r j hd;have hd':=zd1 hd;have:=zhO n _ _ _ _ _ h;rw[zw,zk,qc] at this;omega
theorem znV {l:List UInt8} (h:(zb7 l).1=0):(zb7 l).2.2.2<=l.length/\(¬(zb7 l).2.1=1->1<=(zb7 l).2.2.2)/\((zb7 l).2.1=1->l=[])/\(zb7 l).2.2.1.length<=l.length/\1<=(zb7 l).2.1/\(zb7 l).2.1<=5:=by
 cases l with
 | nil=>exact⟨by simp[zb7],fun h=>absurd rfl h,fun _=>rfl,by simp[zb7],by decide,by decide⟩
 | cons c t=>
  have hl:(c::t).length=t.length+1:=rfl;rw[zb7] at h ⊢
  by_cases c1:zbu c [123,125,91,93,58,44]=true
  ·simp only[if_pos c1];exact⟨by simp,fun _=>by simp,fun h=>by simp at h,by simp,by decide,by decide⟩
  simp only[if_neg c1] at h ⊢
  by_cases c2:c=34
  ·simp only[if_pos c2] at h ⊢
   by_cases c3:(zf5 (t.length+1) t [] 0).1≠0
   ·simp only[if_pos c3] at h;exact absurd h c3
   ·simp only[if_neg c3] at h ⊢;obtain⟨⟨e,x,m⟩,hE⟩:∃r,zf5 (t.length+1) t [] 0=r:=⟨_,rfl⟩;have c3:e=0:=by rw[hE] at c3;simpa using c3
    subst c3;have:=zhO _ _ _ _ _ _ hE;rw[qk] at this;rw[hE];exact⟨by show m+1<=_;omega,fun _=>by show 1<=m+1;omega,fun h=>by simp at h,by show x.length<=_;omega,by decide,by decide⟩
  simp only[if_neg c2] at h ⊢
  by_cases c3:c=45\/zaq c=true
  ·simp only[if_pos c3] at h ⊢
   by_cases c4:zfQ (c::t)=0
   ·simp only[if_pos c4] at h;cases h
   ·simp only[if_neg c4] at h ⊢;have:=zos (c::t);exact⟨by show zfQ (c::t)<=_;omega,fun _=>by show 1<=zfQ (c::t);omega,fun h=>by simp at h,by show (List.take _ _).length<=_;rw[qc];omega,by decide,by decide⟩
  simp only[if_neg c3] at h ⊢
  split at h
  ·rename_i c4;rw[if_pos c4];have hw:=zhM (c::t);refine⟨hw,fun _=>?_,fun h=>by simp at h,by show (List.take _ _).length<=_;rw[qc];omega,by show (1:Int)<=5;decide,by show (5:Int)<=5;decide⟩;show 1<=zcD (c::t);rcases Nat.eq_zero_or_pos (zcD (c::t)) with h0|h0
   ·rw[h0] at c4;simp at c4
   ·exact h0
  ·cases h
theorem zif {s:List UInt8} {a:Int} (h0:0<=a) (h:(zbz s a).2.2=0) :
  (a<=(zbz s a).2.1/\(zbz s a).2.1<=s.length/\((zbz s a).1.1≠1->a<(zbz s a).2.1)/\((zbz s a).1.1=1->(zbz s a).2.1=s.length))/\(zbz s a).1.2.1.length<=s.length/\1<=(zbz s a).1.1/\(zbz s a).1.1<=5/\0<=(zbz s a).1.2.2/\(zbz s a).1.2.2<=s.length:=by
 unfold zbz at h ⊢
 by_cases c1:a<0\/(s.length:Int)<a
 ·simp only[if_pos c1] at h;cases h
 simp only[if_neg c1] at h ⊢;obtain⟨x,hx⟩:=Int.eq_ofNat_of_zero_le h0;subst hx;simp only[jo] at h ⊢;have hw:=zf3 (s.drop x);rw[zw] at hw;generalize hA:x+zbQ (s.drop x)=A at *
 by_cases c2:(zb7 (s.drop A)).1≠0
 ·simp only[if_pos c2] at h;exact absurd h c2
 simp only[if_neg c2];have c2:(zb7 (s.drop A)).1=0:=by simpa using c2
 obtain⟨r1,r2,r3,r4,r5,r6⟩:=znV c2;rw[zw] at r1 r4;refine⟨⟨?_,?_,?_,?_⟩,?_,r5,r6,?_,?_⟩
 ·show (x:Int)<=((A+_:Nat):Int);omega
 ·show ((A+_:Nat):Int)<=_;omega
 ·intro h;have:=r2 h;show (x:Int)<((A+_:Nat):Int);omega
 ·intro h;have h1:=r3 h;have h2:=congrArg List.length h1;rw[zw,qk] at h2;show ((A+_:Nat):Int)=_;omega
 ·show (zb7 (s.drop A)).2.2.1.length<=_;omega
 ·show (0:Int)<=((A:Nat):Int);omega
 ·show ((A:Nat):Int)<=_;omega
theorem next_lt {s:List UInt8} {a:Int} (h0:0<=a) (h:(zbz s a).2.2=0):a<=(zbz s a).2.1/\(zbz s a).2.1<=s.length/\((zbz s a).1.1≠1->a<(zbz s a).2.1)/\((zbz s a).1.1=1->(zbz s a).2.1=s.length):=(zif h0 h).1
section
variable [Tabs Tryz.prog] [Pow Tryz.prog] {objs:List OB} {K:List OB->AV->Prop}
omit [Pow Tryz.prog] in
theorem zny (s:List UInt8) (hs:s.length<=1048576) (hk:K objs (.tup [.s (zc3 s).2,.i .i64 (zc3 s).1])):zaf Tryz.prog 59 [.s s] objs K :=
 znx s (by omega) (fun h=>by unfold zc3 at hk;rw[if_pos (by simpa using h)] at hk;exact hk) (fun p hp e=>by subst e;rw[numE_of hp,can_cut2 p hs] at hk;exact hk)
end
end
section
attribute [local irreducible] run
inductive JV where
 | mk (k:Int) (t:List UInt8) (ks:List (List UInt8)) (its:List JV)
def jvZ:JV:=.mk 0 [] [] []
abbrev Tk:=Int×List UInt8×Int
def tkZ:Tk:=(0,[],0)
def isP (t:Tk) (c:UInt8):Bool:=decide (t.1=2)&&decide (t.2.1=[c])
def trueL:List UInt8:=[116,114,117,101]
def zpk:List UInt8:=[102,97,108,115,101]
def zfA (l:List UInt8):Int:=if l=trueL then 3 else if l=zpk then 2 else 1
def vkE (t:Tk):Int :=
 if t.1=3 then 5 else if t.1=4 then 4 else if isP t 91=true then 6 else if isP t 123=true then 7 else if ¬t.1=5 then 0 else zfA t.2.1
structure Fr where
 obj:Bool
 ks:List (List UInt8)
 its:List JV
structure Ms where
 st:Int
 stk:List Fr
 nodes:Nat
 root:JV
def Fr.val (f:Fr):JV:=.mk (if f.obj=true then 7 else 6) [] f.ks f.its
structure Rs where
 pos:Int
 nodes:Nat
 fail:Int
 wh:Int
def za3 (ρ:Rs) (a e:Int):Rs:=if ρ.fail=0 then ⟨ρ.pos,ρ.nodes,e,a⟩ else ρ
def zag (s:List UInt8) (ρ:Rs):Tk×Rs :=
 if ¬ρ.fail=0 then (tkZ,ρ)
 else if ¬(zbz s ρ.pos).2.2=0 then (tkZ,za3 ρ ρ.pos (zbz s ρ.pos).2.2)
 else ((zbz s ρ.pos).1,⟨(zbz s ρ.pos).2.1,ρ.nodes,ρ.fail,ρ.wh⟩)
def zbb (ρ:Rs) (t:Tk) (c:UInt8):Rs:=if ρ.fail=0/\isP t c=false then za3 ρ t.2.2 140 else ρ
def zcS (s:List UInt8) (val:Rs->Tk->JV×Rs):Nat->Rs->Tk->List JV->List JV×Rs
 | 0,ρ,_,acc=>(acc,ρ)
 | n+1,ρ,t,acc=>
  if ¬ρ.fail=0 then (acc,ρ) else
  let a:=val ρ t
  let b:=zag s a.2
  if isP b.1 93=true then (acc++[a.1],b.2) else
  let c:=zag s (zbb b.2 b.1 44)
  zcS s val n c.2 c.1 (acc++[a.1])
def zkU (ρ:Rs) (t:Tk) (ks:List (List UInt8)):Rs :=
 let ρ:=if ¬t.1=3 then za3 ρ t.2.2 140 else ρ
 if t.2.1∈ks then za3 ρ t.2.2 143 else ρ
def zb6 (s:List UInt8) (val:Rs->Tk->JV×Rs):Nat->Rs->Tk->List (List UInt8)->List JV->(List (List UInt8)×List JV)×Rs
 | 0,ρ,_,ks,its=>((ks,its),ρ)
 | n+1,ρ,t,ks,its=>
  if ¬ρ.fail=0 then ((ks,its),ρ) else
  let a:=zag s (zkU ρ t ks)
  let b:=zag s (zbb a.2 a.1 58)
  let v:=val b.2 b.1
  let c:=zag s v.2
  if isP c.1 125=true then ((ks++[t.2.1],its++[v.1]),c.2) else
  let d:=zag s (zbb c.2 c.1 44)
  zb6 s val n d.2 d.1 (ks++[t.2.1]) (its++[v.1])
def zgV (s:List UInt8) (val:Rs->Tk->JV×Rs) (ρ:Rs):JV×Rs :=
 let a:=zag s ρ
 if isP a.1 93=true then (.mk 6 [] [] [],a.2) else
 let b:=zcS s val (s.length+2) a.2 a.1 []
 (.mk 6 [] [] b.1,b.2)
def zgY (s:List UInt8) (val:Rs->Tk->JV×Rs) (ρ:Rs):JV×Rs :=
 let a:=zag s ρ
 if isP a.1 125=true then (.mk 7 [] [] [],a.2) else
 let b:=zb6 s val (s.length+2) a.2 a.1 [] []
 (.mk 7 [] b.1.1 b.1.2,b.2)
def zaZ (ρ:Rs) (t:Tk):Rs :=
 let ρ:=if t.1=4/\¬(zc3 t.2.1).1=0 then za3 ρ t.2.2 (zc3 t.2.1).1 else ρ
 if 20000<ρ.nodes+1 then za3 ⟨ρ.pos,ρ.nodes+1,ρ.fail,ρ.wh⟩ t.2.2 142 else ⟨ρ.pos,ρ.nodes+1,ρ.fail,ρ.wh⟩
def zav (s:List UInt8):Nat->Rs->Tk->Nat->JV×Rs
 | 0,ρ,_,_=>(jvZ,ρ)
 | f+1,ρ,t,d=>
  if ¬ρ.fail=0 then (jvZ,ρ)
  else if vkE t=0 then (jvZ,za3 ρ t.2.2 140)
  else if t.1=2/\d=64 then (jvZ,za3 ρ t.2.2 141)
  else if t.1=5 then (.mk (zfA t.2.1) [] [] [],zaZ ρ t)
  else if isP t 91=true then zgV s (fun ρ t=>zav s f ρ t (d+1)) (zaZ ρ t)
  else if isP t 123=true then zgY s (fun ρ t=>zav s f ρ t (d+1)) (zaZ ρ t)
  else if t.1=4 then (.mk 4 (zc3 t.2.1).2 [] [],zaZ ρ t)
  else (.mk 5 t.2.1 [] [],zaZ ρ t)
def rs0:Rs:=⟨0,0,0,0⟩
def zcO (s:List UInt8):JV×Int×Int :=
 if 1048576<s.length then (jvZ,0,142) else
 let a:=zag s rs0
 let v:=zav s 65 a.2 a.1 0
 let b:=zag s v.2
 let ρ:=if b.2.fail=0/\¬b.1.1=1 then za3 b.2 b.1.2.2 140 else b.2
 if ¬ρ.fail=0 then (jvZ,ρ.wh,ρ.fail) else (v.1,s.length,0)
def zmZ (ρ ρ':Rs):Prop:=¬ρ.fail=0->ρ'.fail=ρ.fail/\ρ'.wh=ρ.wh
theorem zmZ.refl (ρ:Rs):zmZ ρ ρ:=fun _=>⟨rfl,rfl⟩
theorem zmZ.trans {a b c:Rs} (h:zmZ a b) (k:zmZ b c):zmZ a c:=fun ha=>by
 obtain⟨h1,h2⟩:=h ha;obtain⟨k1,k2⟩:=k (by rw[h1];exact ha);exact⟨k1.trans h1,k2.trans h2⟩
theorem zmx (ρ:Rs) (a e:Int):zmZ ρ (za3 ρ a e):=fun h=>by unfold za3;rw[if_neg h];exact⟨rfl,rfl⟩
theorem zcH (s:List UInt8) (ρ:Rs):zmZ ρ (zag s ρ).2:=fun h=>by unfold zag;rw[if_pos h];exact⟨rfl,rfl⟩
theorem ze4 (ρ:Rs) (t:Tk) (c:UInt8):zmZ ρ (zbb ρ t c):=by
 unfold zbb;split
 ·exact zmx _ _ _
 ·exact zmZ.refl _
theorem zjR (s:List UInt8) (f:Nat) (ρ:Rs) (t:Tk) (d:Nat):zmZ ρ (zav s f ρ t d).2:=fun h=>by
 cases f with
 | zero=>exact⟨rfl,rfl⟩
 | succ f=>rw[zav,if_pos h];exact⟨rfl,rfl⟩
theorem vk_val (t:Tk):vkE t=0\/vkE t=1\/vkE t=2\/vkE t=3\/vkE t=4\/vkE t=5\/vkE t=6\/vkE t=7:=by
 unfold vkE zfA
 repeat' split
 all_goals simp
theorem vk_kind {t:Tk}:(vkE t=5↔t.1=3)/\(vkE t=4↔t.1=4)/\((vkE t=1\/vkE t=2\/vkE t=3)↔t.1=5)/\(vkE t=6↔isP t 91=true)/\(vkE t=7↔isP t 123=true)/\(t.1=5->vkE t=zfA t.2.1):=by
 have e1:∀c,isP t c=true↔t.1=2/\t.2.1=[c]:=fun c=>by simp[isP]
 have hw:zfA t.2.1=1\/zfA t.2.1=2\/zfA t.2.1=3:=by
  unfold zfA
  by_cases a1:t.2.1=trueL
  ·rw[if_pos a1];exact .inr (.inr rfl)
  ·rw[if_neg a1]
   by_cases a2:t.2.1=zpk
   ·rw[if_pos a2];exact .inr (.inl rfl)
   ·rw[if_neg a2];exact .inl rfl
 unfold vkE;simp only[e1]
 by_cases h3:t.1=3
 ·simp[h3]
 by_cases h4:t.1=4
 ·simp[h4]
 by_cases h6:t.1=2/\t.2.1=[91]
 ·simp[h6]
 by_cases h7:t.1=2/\t.2.1=[123]
 ·simp[h7]
 by_cases h5:t.1=5
 ·simp only[h5];rcases hw with h|h|h<;>simp[h]
 ·simp only[h3,h4,h6,h7,h5];simp
def ValFroz (val:Rs->Tk->JV×Rs):Prop:=∀ρ t,zmZ ρ (val ρ t).2
theorem zlA {t:Tk} {c:UInt8} (h:isP t c=true):t.1=2/\t.2.1=[c]:=by
 simpa[isP] using h
end
end Go.Proofs.YtceenajkieomoaaGreatDoor
namespace Go.Proofs.YtceenajkieomoaaGreatDoor.Sx
open Go.RowKit
def zb5 (b gen n:Nat) (xs:List AV):AV->AV
 | .orow b' g'=>if b'=b/\g'=gen then .row n xs else .orow b' g'
 | x=>x
def ziL (b gen n:Nat) (xs:List AV):OB->OB
 | .box T cs=>.box T (cs.map (zb5 b gen n xs))
 | x=>x
def zk0 (objs:List OB) (b gen n:Nat) (xs:List AV):List OB:=(objs.map (ziL b gen n xs)).set b .dead
def zjF (G:Gh) (b gen:Nat):Gh:=⟨G.blk,fun x=>if x=b then some (gen+1,.slice none 0 0) else G.cur x⟩
theorem zj0 {G:Gh} {b gen:Nat} {v:Value} (h:G.cur b=some (gen,v)):G.le (zjF G b gen) where
 blk:=fun _ _ h=>h
 cur:=fun x n w hx=>by
  by_cases hb:x=b
  ·subst hb;rw[h] at hx;injection hx with hx;injection hx with h1 h2
   exact⟨gen+1,.slice none 0 0,by simp[zjF],.inr (by omega)⟩
  ·exact⟨n,w,by simp[zjF,hb,hx],.inl ⟨rfl,rfl⟩⟩
theorem zeE {G:Gh} {b gen:Nat} (hb:G.blk b=none) {x g:Nat} (h:(zjF G b gen).own x=some g):x≠b/\G.own x=some g:=by
 by_cases hx:x=b
 ·subst hx;exfalso;unfold Gh.own zjF at h;simp only[hb] at h;simp[Value.ownBlock] at h
 ·refine⟨hx,?_⟩;unfold Gh.own zjF at h;simp only[if_neg hx] at h;exact h
def pubI (I:Imm) (G:Gh) (b:Nat) (w:World):Imm:=fun g o v=>I g o v\/(w.cell? ⟨g,o,none⟩=some v/\G.own b=some g)
theorem zpP {G:Gh} {I:Imm} {objs:List OB} {w:World} (hm:MemOk G I objs w) {b E sz gen n:Nat} {xs:List AV} (hb:objs[b]? = some (.orow E sz gen n xs)) (x:AV) (y:Value) (h:Den G I x y):Den (zjF G b gen) (pubI I G b w) (zb5 b gen n xs x) y:=by
 obtain⟨v',vs,m1,m2,m3,m4,m5⟩:=hm.row b E sz gen n xs hb;have hG:=zj0 m1;have hI:Imm.le I (pubI I G b w):=fun _ _ _ h=>.inl h;have other:zb5 b gen n xs x=x->Den (zjF G b gen) (pubI I G b w) (zb5 b gen n xs x) y:=fun e=>by rw[e];exact Den.mono hG hI x y h
 cases x with
 | orow b' g'=>
  by_cases hh:b'=b/\g'=gen
  ·obtain⟨rfl,rfl⟩:=hh;have e:zb5 b' g' n xs (.orow b' g')=.row n xs:=by simp[zb5]
   rw[e];simp only[Den] at h ⊢;obtain⟨g0,v,k1,k2,k3,_⟩:=h;rw[k1] at m1;injection m1 with m1;injection m1 with m1 m6
   have hv:=k3 m1.symm;subst m1 m6 hv;have hown:=zbT m5 k1;have q1:=zaj.mono hG hI xs vs m3;rcases m2.2 with ⟨rfl,rfl⟩|⟨g,cap,cur,rfl,hx1,hx2,hx3,hx4⟩
   ·have hvs:vs=[]:=List.eq_nil_of_length_eq_zero (by simpa using m2.1);subst hvs;exact⟨none,0,[],rfl,⟨Nat.le_refl _,by intro _ e;cases e⟩,q1,by simp,by simp⟩
   ·refine⟨some ⟨g,0,none⟩,cap,vs,rfl,⟨hx3,by rintro _ ⟨⟩ _;rfl⟩,q1,m4,fun j u hj=>⟨g,0,rfl,.inr ⟨?_,hown⟩⟩⟩;have:=m2.cells (g:=g) rfl j u hj
    rwa [zaD] at this
  ·exact other (by simp only[zb5,if_neg hh])
 | _=>exact other rfl
theorem zit {G:Gh} {I:Imm} {objs:List OB} {w:World} (hm:MemOk G I objs w) {b E sz gen n:Nat} {xs:List AV} (hb:objs[b]? = some (.orow E sz gen n xs)):∀(l:List AV) (ys:List Value),zaj G I l ys->zaj (zjF G b gen) (pubI I G b w) (l.map (zb5 b gen n xs)) ys
 | [],ys,h=>by simpa[zaj] using h
 | x::l,ys,h=>by
  simp only[zaj] at h;obtain⟨y,ys',rfl,h1,h2⟩:=h;exact zaj.cons (zpP hm hb x y h1) (zit hm hb l ys' h2)
theorem mem_pub {P:Program} [Tabs P] {C:Cx} {G:Gh} {I:Imm} {w:World} {objs:List OB} {b E sz gen n:Nat} {xs:List AV} (hb:objs[b]? = some (.orow E sz gen n xs)) (hin:In C G I w) (hm:MemOk G I objs w) :
  In C (zjF G b gen) (pubI I G b w) w/\MemOk (zjF G b gen) (pubI I G b w) (zk0 objs b gen n xs) w:=by
 obtain⟨v',vs,m1,m2,m3,m4,m5⟩:=hm.row b E sz gen n xs hb;have hlt:b<objs.length:=by
  by_cases h:b<objs.length
  ·exact h
  ·rw[List.getElem?_eq_none (by omega)] at hb;cases hb
 have hG:=zj0 m1;have hI:Imm.le I (pubI I G b w):=fun _ _ _ h=>.inl h;have hin':In C (zjF G b gen) (pubI I G b w) w:={
  os:=hin.os,tape:=hin.tape,output:=hin.output,size:=hin.size,block:=hin.block
  imm:=fun g o v h=>.inl (hin.imm g o v h)
  news:=fun g o v h=>by
   rcases h with h|⟨_,h⟩
   ·exact hin.news g o v h
   ·exact .inr (hin.blk b g h)
  blk:=fun x g h=>hin.blk x g (zeE m5 h).2
  gh:=hin.gh.trans hG }
 have hat:∀x o,(zk0 objs b gen n xs)[x]? = some o->o=.dead\/(x≠b/\∃o',objs[x]? = some o'/\ziL b gen n xs o'=o):=by
  intro x o h;unfold zk0 at h
  by_cases hx:x=b
  ·subst hx;rw[List.getElem?_set_self (by simpa using hlt)] at h;injection h with h;exact .inl h.symm
  ·rw[List.getElem?_set_ne (Ne.symm hx),List.getElem?_map] at h;obtain⟨o',h1,h2⟩:=Option.map_eq_some_iff.1 h;exact .inr ⟨hx,o',h1,h2⟩
 have hm':MemOk (zjF G b gen) (pubI I G b w) (zk0 objs b gen n xs) w:={
  imm:=fun g o v h=>by
   rcases h with h|⟨h,_⟩
   ·exact hm.imm g o v h
   ·exact h
  box:=fun x T cs h=>by
   rcases hat x _ h with h|⟨hx,o',h1,h2⟩
   ·cases h
   ·cases o' with
    | box T' cs'=>
     injection h2 with e1 e2
     subst e1 e2;obtain⟨g,ys,k1,k2,k3,k4⟩:=hm.box x _ _ h1;exact⟨g,ys,k1,k2,zit hm hb _ _ k3,k4⟩
    | orow=>cases h2
    | mp=>cases h2
    | dead=>cases h2
  row:=fun x E' sz' gen' n' xs' h=>by
   rcases hat x _ h with h|⟨hx,o',h1,h2⟩
   ·cases h
   ·cases o' with
    | box T' cs'=>cases h2
    | orow=>
     injection h2 with e1 e2 e3 e4 e5
     subst e1 e2 e3 e4 e5;obtain⟨v,ys,k1,k2,k3,k4,k5⟩:=hm.row x _ _ _ _ _ h1;exact⟨v,ys,by simp[zjF,hx,k1],k2,zaj.mono hG hI _ _ k3,k4,k5⟩
    | mp=>cases h2
    | dead=>cases h2
  map:=fun x es h=>by
   rcases hat x _ h with h|⟨hx,o',h1,h2⟩
   ·cases h
   ·cases o' with
    | box T' cs'=>cases h2
    | orow=>cases h2
    | mp=>
     injection h2 with e1
     subst e1;obtain⟨g,en,ck,k1,k2,k3⟩:=hm.map x _ h1;exact⟨g,en,ck,k1,k2,k3.mono hG hI⟩
    | dead=>cases h2
  inj:=fun x x' g h h'=>hm.inj x x' g (zeE m5 h).2 (zeE m5 h').2
  lt:=fun x g h=>hm.lt x g (zeE m5 h).2
  apart:=fun x g o v h h'=>by
   obtain⟨hx,h1⟩:=zeE m5 h;rcases h' with h' | ⟨_,h'⟩
   ·exact hm.apart x g o v h1 h'
   ·exact hx (hm.inj x b g h1 h')
  fresh:=fun x hx=>by
   have hx':objs.length<=x:=by simpa[zk0] using hx
   obtain⟨k1,k2⟩:=hm.fresh x hx';exact⟨k1,by simp[zjF,k2];omega⟩ }
 exact⟨hin',hm'⟩
section
variable {P:Program} [Tabs P] {C:Cx} [On P C] {F:za0} {objs:List OB} {tm:List AV}
end
section
variable {P:Program} [Tabs P]
end
end Go.Proofs.YtceenajkieomoaaGreatDoor.Sx
namespace Go.Proofs.YtceenajkieomoaaGreatDoor
open Go.RowKit Sx
open List renaming getElem?_eq_some_iff->zf, getElem?_set_ne->zi, map_append->jg, map_cons->zo, mem_append->zq, mem_append_left->jr, mem_append_right->xf, mem_cons->zv, mem_cons_of_mem->qm, mem_map_of_mem->yd, nodup_cons->xy
theorem zni (G:Gh) (I:Imm):∀l:List (List UInt8),zaj G I (l.map .s) (sv l)
 | []=>zaj.nil
 | x::l=>by
  show zaj G I (AV.s x::l.map .s) (.string (S x)::sv l);exact zaj.cons (by simp[Den]) (zni G I l)
theorem zkr {P:Program} [Tabs P] {f:FuncId} {args:List AV} {vs:List Value} {objs:List OB} {K:List OB->AV->Prop} (l:List (List UInt8)) (hne:0<l.length) (hk:K objs (.row l.length (l.map .s))) (ha:zm8 args=some vs)
  (h:∀w,Calls P f vs.toArray w fun e w'=>∃v,e=.returned v/\zeV w' w.heap.size v l/\Qb w w'):zaf P f args objs K:=by
 intro C _ G I w hin hm ys hd;rw[(zcg G I args vs ha ys).1 hd];refine(h w).mono ?_;rintro e w' ⟨v,rfl,hr,hb⟩;obtain⟨g,cap,rfl,h1,h2,h3⟩:=hr.form hne;have hg:w.grownBy w' none:=⟨hb.os,hb.tape,hb.output,Below.size hb,fun k hk _=>Below.block hb k hk⟩;obtain⟨I',s1,s2,s3,s4⟩:=zjc hin hm hg g l.length cap (l.map .s) (sv l) h1 h3 (zni G I l) (sv_one l) (fun j u hj=>by
  have hjl:j<l.length:=by
   have:=(zf.1 hj).1
   rwa [ziJ] at this
  rw[hr.cell j hjl,<-sv_get l j hjl];exact hj)
 exact⟨_,objs,.row l.length (l.map .s),G,I',rfl,hk,Gh.le.refl G,s1,s2,s3,s4⟩
section
variable [Tabs Tryz.prog] {objs:List OB} {K:List OB->AV->Prop}
theorem rSplit_k (s:List UInt8) (c:UInt8) (hs:s.length<=1000000) (hk:K objs (.row (zaJ c s).length ((zaJ c s).map .s))):zaf Tryz.prog 71 [.s s,.i .u8 c.toNat] objs K :=
 zkr (vs:=[.string (S s),.int .u8 c.toNat]) _ (zeZ c s) hk rfl (fun w=>zmC (S s) c w (by rw[zcb];exact hs))
end
section
attribute [local irreducible] run
mutual
/-- a JSON value, cell for cell -/
def zap:JV->List AV
 | .mk k t ks its=>[.i .i64 k,.s t,.row ks.length (ks.map .s),.row its.length (zab its)]
def zab:List JV->List AV
 | []=>[]
 | v::l=>zap v++zab l
end
def JV.kind:JV->Int | .mk k _ _ _=>k
def JV.text:JV->List UInt8 | .mk _ t _ _=>t
def JV.keys:JV->List (List UInt8) | .mk _ _ ks _=>ks
def JV.items:JV->List JV | .mk _ _ _ its=>its
theorem zad (v:JV):zap v=[.i .i64 v.kind,.s v.text,.row v.keys.length (v.keys.map .s),.row v.items.length (zab v.items)]:=by cases v;rw[zap];rfl
theorem zaH:zab []=[]:=by rw[zab]
theorem zaO (v:JV) (l:List JV):zab (v::l)=zap v++zab l:=by rw[zab]
theorem zdZ (v:JV):(zap v).length=4:=by rw[zad];rfl
theorem zaI (l:List JV):(zab l).length=l.length*4:=by
 induction l with
 | nil=>rw[zaH];rfl
 | cons v l ih=>rw[zaO,List.length_append,zdZ,ih,List.length_cons];omega
theorem zgA (a b:List JV):zab (a++b)=zab a++zab b:=by
 induction a with
 | nil=>rw[zaH];rfl
 | cons v l ih=>rw[List.cons_append,zaO,zaO,ih,List.append_assoc]
theorem zea:∀{l:List JV} {i:Nat} (hi:i<l.length),((zab l).drop (i*4)).take 4=zap l[i]
 | a::l,0,hi=>by
  rw[zaO,Nat.zero_mul,List.drop_zero];exact List.take_left' (zdZ a)
 | a::l,i+1,hi=>by
  rw[zaO,show (i+1)*4=4+i*4 by omega,<-List.drop_drop,List.drop_left' (zdZ a)];simpa using zea (l:=l) (i:=i) (by simpa using hi)
theorem zaS (l:List (List UInt8)):zao (l.map AV.s)=true:=by
 induction l with
 | nil=>rfl
 | cons a l ih=>simp[zao,AV.plain,ih]
theorem zen (a b:List AV):zao (a++b)=(zao a&&zao b):=by
 induction a with
 | nil=>simp[zao]
 | cons x a ih=>simp[zao,ih,Bool.and_assoc]
mutual
theorem zaN:∀v:JV,zao (zap v)=true
 | .mk k t ks its=>by
  rw[zap];simp only[zao,AV.plain,zaS,zbA its,Bool.and_self]
theorem zbA:∀l:List JV,zao (zab l)=true
 | []=>by rw[zab];rfl
 | v::l=>by rw[zab,zen,zaN v,zbA l];rfl
end
mutual
/-- equal field by field -/
def zdE:JV->JV->Bool
 | .mk k t ks its,.mk k' t' ks' its'=>decide (k=k')&&(decide (t=t')&&(decide (ks=ks')&&zcp its its'))
def zcp:List JV->List JV->Bool
 | [],[]=>true
 | v::l,w::m=>zdE v w&&zcp l m
 | _,_=>false
end
mutual
theorem zha:∀v,zdE v v=true
 | .mk k t ks its=>by rw[zdE,zge its];simp
theorem zge:∀l,zcp l l=true
 | []=>by rw[zcp]
 | v::l=>by rw[zcp,zha v,zge l];rfl
end
mutual
/-- how many values there are in a value -/
def JV.size:JV->Nat
 | .mk _ _ _ its=>JV.sizes its+1
def JV.sizes:List JV->Nat
 | []=>0
 | v::l=>JV.size v+JV.sizes l
end
theorem znl:∀{l:List JV} {i:Nat} (hi:i<l.length),JV.size l[i]<=JV.sizes l
 | a::l,0,hi=>by rw[JV.sizes];simp
 | a::l,i+1,hi=>by
  rw[JV.sizes];have:=znl (l:=l) (i:=i) (by simpa using hi);simp only[List.getElem_cons_succ];omega
theorem ziO {v:JV} {i:Nat} (hi:i<v.items.length):JV.size v.items[i]<JV.size v:=by
 cases v with
 | mk k t ks its=>
  have:=znl (l:=its) (i:=i) hi;rw[JV.size.eq_def (.mk k t ks its)];show JV.size its[i]<_;simp only;omega
def zaV {α:Type} (L:List (Nat×α)) (o:List α):Prop:=(L.map (·.1)).Nodup/\∀x∈L,o[x.1]? = some x.2
theorem zaV.get {α:Type} {L:List (Nat×α)} {o:List α} (h:zaV L o) {i:Nat} {x:α} (hx:(i,x)∈L):o[i]? = some x:=h.2 _ hx
theorem zaV.perm {α:Type} {L L':List (Nat×α)} {o:List α} (h:zaV L o) (p:L.Perm L'):zaV L' o :=
 ⟨(p.map _).nodup_iff.1 h.1,fun x hx=>h.2 x (p.mem_iff.2 hx)⟩
theorem zaV.sub {α:Type} {L L':List (Nat×α)} {o:List α} (h:zaV L o) (p:L'.Sublist L):zaV L' o :=
 ⟨(p.map _).nodup h.1,fun x hx=>h.2 x (p.subset hx)⟩
theorem zaV.set {α:Type} {A B:List (Nat×α)} {o:List α} {i:Nat} {x:α} (y:α) (h:zaV (A++(i,x)::B) o):zaV (A++(i,y)::B) (o.set i y):=by
 obtain⟨h1,h2⟩:=h;simp only[jg,zo] at h1;have hi:o[i]? = some x:=h2 (i,x) (by simp);have hlt:=(zf.1 hi).1;have hne:∀z∈A++B,z.1≠i:=by
  intro z hz e;rw[List.nodup_append] at h1;obtain⟨n1,n2,n3⟩:=h1;rcases zq.1 hz with hz|hz
  ·exact n3 z.1 (yd hz) i (by simp) e
  ·rw[xy] at n2;exact n2.1 (e▸yd hz)
 refine⟨by simpa only[jg,zo] using h1,fun z hz=>?_⟩;rcases zq.1 hz with hz|hz
 ·rw[zi (hne z (jr _ hz)).symm];exact h2 z (jr _ hz)
 ·rcases zv.1 hz with rfl|hz
  ·exact List.getElem?_set_self hlt
  ·rw[zi (hne z (xf _ hz)).symm];exact h2 z (xf _ (qm _ hz))
theorem zaV.lt {α:Type} {L:List (Nat×α)} {o:List α} (h:zaV L o) {i:Nat} {x:α} (hx:(i,x)∈L):i<o.length:=(zf.1 (h.get hx)).1
theorem zaV.app {α:Type} {L:List (Nat×α)} {o:List α} (h:zaV L o) (more:List α):zaV L (o++more) :=
 ⟨h.1,fun x hx=>by rw[List.getElem?_append_left (h.lt (i:=x.1) (x:=x.2) hx)];exact h.2 x hx⟩
theorem zaV.new {α:Type} {L:List (Nat×α)} {o:List α} (h:zaV L o) (x:α):zaV ((o.length,x)::L) (o++[x]):=by
 refine⟨?_,fun z hz=>?_⟩
 ·rw[zo,xy];refine⟨fun hm=>?_,h.1⟩;obtain⟨z,hz,e⟩:=List.mem_map.1 hm;have:=h.lt (i:=z.1) (x:=z.2) hz;simp only at e;omega
 ·rcases zv.1 hz with rfl|hz
  ·simp
  ·exact(h.app [x]).2 z hz
theorem zaV.mapset {α:Type} {L:List (Nat×α)} {o:List α} {b:Nat} {x d:α} (f:α->α) (h:zaV ((b,x)::L) o) (hf:∀z∈L,f z.2=z.2):zaV L ((o.map f).set b d):=by
 obtain⟨h1,h2⟩:=h;rw[zo,xy] at h1;refine⟨h1.2,fun z hz=>?_⟩;have hne:¬b=z.1:=fun e=>h1.1 (by show b∈_;rw[e];exact yd hz);rw[zi hne,List.getElem?_map,h2 z (qm _ hz),Option.map_some,hf z hz]
theorem jnil_row {G:Gh} {I:Imm} {y:Value} (h:Den G I .nil y):Den G I (.row 0 []) y:=by
 simp only[Den] at h ⊢;exact⟨none,0,[],h,⟨Nat.le_refl _,fun ad h=>by cases h⟩,zaj.nil,by simp,by simp⟩
def subD (b gen n:Nat) (xs:List AV):AV->AV
 | .agg cs=>.agg (cs.map (zb5 b gen n xs))
 | x=>zb5 b gen n xs x
theorem den_subD {G:Gh} {I:Imm} {objs:List OB} {w:World} (hm:MemOk G I objs w) {b E sz gen n:Nat} {xs:List AV} (hb:objs[b]? = some (.orow E sz gen n xs)) (x:AV) (y:Value) (h:Den G I x y):Den (zjF G b gen) (pubI I G b w) (subD b gen n xs x) y:=by
 cases x with
 | agg cs=>
  simp only[Den,subD] at h ⊢;obtain⟨ys,h1,h2,h3⟩:=h;exact⟨ys,h1,zit hm hb _ _ h2,h3⟩
 | _=>exact zpP hm hb _ _ h
theorem ziK {b gen n:Nat} {xs:List AV} {x:AV} (h:x.plain=true):zb5 b gen n xs x=x:=by
 cases x<;>first|rfl|(simp[AV.plain] at h)
end
end Go.Proofs.YtceenajkieomoaaGreatDoor
namespace Go.Proofs.YtceenajkieomoaaGreatDoor.Sx
open Go.RowKit Go.WideShapes Go.ChangeShapes Go.ChangeAt
open List renaming append_nil->jh, getElem?_eq_getElem->zm, getElem?_eq_some_iff->zf, getElem?_map->qo, mem_append->zq, mem_append_left->jr, mem_append_right->xf, mem_cons->zv, mem_cons_of_mem->qm, mem_cons_self->xt
inductive TT where
 | s
 | b
 | i (k:IntKind)
 | st (ts:List TT)
 | sl (t:TT)
 | rv
inductive RV where
 | mk (k:Int) (t:List UInt8) (ks:List (List UInt8)) (its:List RV)
mutual
def zhi:RV->List AV
 | .mk k t ks its=>[.i .i64 k,.s t,.row ks.length (ks.map .s),.row its.length (zgr its)]
def zgr:List RV->List AV
 | []=>[]
 | v::l=>zhi v++zgr l
end
mutual
def RVok:RV->Prop
 | .mk k t ks its=>(Lit.int .i64 k).wf=true/\t.length<=140737488351232/\ks.length<=140737488351232/\(∀k∈ks,k.length<=140737488351232)/\its.length<=140737488351232/\zqi its
def zqi:List RV->Prop
 | []=>True
 | v::l=>RVok v/\zqi l
end
mutual
def ShT:TT->List AV->Prop
 | .s,xs=>∃l:List UInt8,xs=[.s l]/\l.length<=140737488351232
 | .b,xs=>∃b,xs=[.b b]
 | .i k,xs=>∃n,xs=[.i k n]/\(Lit.int k n).wf=true
 | .st ts,xs=>ShTs ts xs
 | .sl t,xs=>∃gs:List (List AV),xs=[.row gs.length gs.flatten]/\gs.length<=140737488351232/\∀g∈gs,ShT t g
 | .rv,xs=>∃r:RV,xs=zhi r/\RVok r
def ShTs:List TT->List AV->Prop
 | [],xs=>xs=[]
 | t::ts,xs=>∃a b,xs=a++b/\ShT t a/\ShTs ts b
end
def ShA:TT->AV->Prop
 | .st ts,x=>∃cs,x=.agg cs/\ShTs ts cs
 | .rv,x=>∃r:RV,x=.agg (zhi r)/\RVok r
 | t,x=>ShT t [x]
def ShAs:List TT->List AV->Prop
 | [],xs=>xs=[]
 | t::ts,xs=>∃x ys,xs=x::ys/\ShA t x/\ShAs ts ys
def trTs (P:Program) (rc:TypeId->Option TT):Nat->List Field->Option (List TT)
 | o,[]=>some []
 | o,f::fs=>match rc f.type,trTs P rc (o+P.cellsOf f.type) fs with
  | some t,some ts=>if f.offset=o then some (t::ts) else none
  | _,_=>none
def zgS (P:Program):List Field->Nat
 | []=>0
 | f::fs=>P.cellsOf f.type+zgS P fs
def isRV (P:Program) (t:TypeId):List Field->Bool
 | [a,b,c,d]=>(a.offset==0&&b.offset==1&&c.offset==2&&d.offset==3)&&(P.cellsOf t==4&&P.cellsOf a.type==1&&P.cellsOf b.type==1&&P.cellsOf c.type==1&&P.cellsOf d.type==1)&&decide (0<P.bytesOf t)&&(match P.underlying a.type,P.underlying b.type,P.underlying c.type,P.underlying d.type with
  | some (.int .i64),some .string,some (.slice e),some (.slice f)=>f==t&&P.cellsOf e==1&&decide (0<P.bytesOf e)&&(match P.underlying e with|some .string=>true|_=>false)
  | _,_,_,_=>false)
 | _=>false
def trT (P:Program):Nat->TypeId->Option TT
 | 0,_=>none
 | d+1,t=>match P.underlying t with
  | some .string=>some .s
  | some .bool=>some .b
  | some (.int k)=>some (.i k)
  | some (.struct fs)=>if isRV P t fs.toList=true then some .rv else if P.cellsOf t=zgS P fs.toList then (trTs P (trT P d) 0 fs.toList).map .st else none
  | some (.slice e)=>if 0<P.cellsOf e/\0<P.bytesOf e then (trT P d e).map .sl else none
  | _=>none
theorem zdD {H:Type} {P:Program} {e:TypeId}:∀{ds:List (DataW H)} {d:DataW H},d∈ds->∀n∈d.weights P e,n∈DataW.weightsAll P e ds
 | [],d,hd,n,hn=>by cases hd
 | d0::ds,d,hd,n,hn=>by
  simp only[DataW.weightsAll,zq];rcases zv.1 hd with rfl|hd
  ·exact .inl hn
  ·exact .inr (zdD hd n hn)
theorem zkG {w:World} {G:Gh} {I:Imm} {t:TT} (a:Addr) (c:Nat) (hI:∀g o v,w.cell? ⟨g,o,none⟩=some v->I g o v):∀k:Nat,
  (∀i,i<k->∃(g:List AV) (ys:List Value),ys.length=c/\(∀j,j<c->w.cell? ((a.add (i*c)).add j)=ys[j]?)/\zaj G I g ys/\ShT t g/\∀u∈ys,u.oneCell'=true) ->
  ∃(gs:List (List AV)) (ys:List Value),gs.length=k/\ys.length=k*c/\zaj G I gs.flatten ys/\(∀g∈gs,ShT t g)/\(∀u∈ys,u.oneCell'=true)/\∀j,j<k*c->w.cell? (a.add j)=ys[j]?
 | 0,_=>⟨[],[],rfl,by simp,zaj.nil,by simp,by simp,fun j hj=>by simp at hj⟩
 | k+1,h=>by
  obtain⟨gs,ys,h1,h2,h3,h4,h5,h6⟩:=zkG a c hI k (fun i hi=>h i (by omega));obtain⟨g,zs,k1,k2,k3,k4,k5⟩:=h k (by omega);have hm:(k+1)*c=k*c+c:=Nat.succ_mul k c;refine⟨gs++[g],ys++zs,by simp[h1],by rw[List.length_append,h2,k1,hm],?_,?_,?_,?_⟩
  ·rw[List.flatten_append,List.flatten_cons,List.flatten_nil,jh];exact zaj.append h3 k3
  ·intro x hx;rcases zq.1 hx with hx|hx
   ·exact h4 x hx
   ·rw[List.mem_singleton] at hx;subst hx;exact k4
  ·intro u hu;rcases zq.1 hu with hu|hu
   ·exact h5 u hu
   ·exact k5 u hu
  ·intro j hj
   by_cases hjk:j<k*c
   ·rw[h6 j hjk,List.getElem?_append_left (by omega)]
   ·have:=k2 (j - k*c) (by omega);rw[Addr.add_add,show k*c+(j - k*c)=j by omega] at this;rw[this,List.getElem?_append_right (by omega),h2]
theorem add_flat {a:Addr} {j:Nat} (ha:a.spot=none):a.add j=⟨a.block,a.off+j,none⟩:=by
 cases a
 simp only at ha;subst ha;unfold Addr.add
 split
 ·rename_i h;subst h;rfl
 ·rfl
section
variable {H:Type} {enc:TypeId×Value->H} {P:Program} {w:World} {base:Nat} {spare:Nat->Bool} {held:Bool} {G:Gh} {I:Imm}
theorem zhl (d:Nat) (ih:∀(t:TypeId) (tt:TT) (fuel:Nat) (cs:List Value) (x:DataW H×List MemPlace),trT P d t=some tt->DataW.trod enc P w base spare held fuel t cs=some x->(∀n∈x.1.weights P t,n<=reachBytes)->∃xs,zaj G I xs cs/\ShT tt xs/\∀u∈cs,u.oneCell'=true) (n:Nat) :
  ∀(fs:List Field) (ts:List TT) (o:Nat) (cs:List Value),trTs P (trT P d) o fs=some ts->cs.length=o+zgS P fs->(∀f∈fs,∃x,DataW.trod enc P w base spare held n f.type ((cs.drop f.offset).take (P.cellsOf f.type))=some x/\∀m∈x.1.weights P f.type,m<=reachBytes) ->
   ∃xs,zaj G I xs (cs.drop o)/\ShTs ts xs/\∀u∈cs.drop o,u.oneCell'=true
 | [],ts,o,cs,ht,hl,hf=>by
  simp only[trTs,Option.some.injEq] at ht;subst ht;have:cs.drop o=[]:=List.drop_eq_nil_of_le (by simp[zgS] at hl;omega);rw[this];exact⟨[],zaj.nil,rfl,by simp⟩
 | f::fs,ts,o,cs,ht,hl,hf=>by
  simp only[trTs] at ht
  split at ht
  ·rename_i t ts' h1 h2
   split at ht
   ·rename_i ho;injection ht with ht;subst ht
    obtain⟨x,hx,hxw⟩:=hf f (xt ..);rw[ho] at hx;obtain⟨xs,k1,k2,k3⟩:=ih _ _ _ _ _ h1 hx hxw;simp only[zgS] at hl;obtain⟨ys,m1,m2,m3⟩:=zhl d ih n fs ts' (o+P.cellsOf f.type) cs h2 (by omega) (fun f' hf'=>hf f' (qm _ hf'));have e:cs.drop o=(cs.drop o).take (P.cellsOf f.type)++cs.drop (o+P.cellsOf f.type):=by
     rw[<-List.drop_drop,List.take_append_drop]
    refine⟨xs++ys,?_,?_,?_⟩
    ·rw[e];exact zaj.append k1 m1
    ·exact⟨xs,ys,rfl,k2,m2⟩
    ·rw[e];intro u hu;rcases zq.1 hu with hu|hu
     ·exact k3 u hu
     ·exact m3 u hu
   ·cases ht
  ·cases ht
theorem zfb (hI:∀g o v,w.cell? ⟨g,o,none⟩=some v->I g o v) (hspa:∀b,spare b=true) {t e:TypeId} {te:TT} {fuel:Nat} {cs:List Value} {x:DataW H×List MemPlace} (hu:P.underlying t=some (.slice e)) (hc:0<P.cellsOf e/\0<P.bytesOf e)
  (ih:∀(n:Nat) (ys:List Value) (x:DataW H×List MemPlace),n<fuel->DataW.trod enc P w base spare held n e ys=some x->(∀n∈x.1.weights P e,n<=reachBytes)->∃g,zaj G I g ys/\ShT te g/\∀u∈ys,u.oneCell'=true)
  (h:DataW.trod enc P w base spare held fuel t cs=some x) (hwt:∀n∈x.1.weights P t,n<=reachBytes):∃xs,zaj G I xs cs/\ShT (.sl te) xs/\∀u∈cs,u.oneCell'=true:=by
 rcases DataW.trod_slice hu h with ⟨rfl,rfl⟩|⟨a,len,cap,elems,rest,n,hfu,rfl,rfl,hb,hl,hm,hlen,hel,hsr,_⟩
 ·exact⟨[.row 0 []],zaj.cons (by simp only[Den];exact⟨none,0,[],rfl,⟨Nat.le_refl _,fun ad h=>by cases h⟩,zaj.nil,by simp,by simp⟩) zaj.nil,⟨[],rfl,by simp,by simp⟩,by simp;rfl⟩
 ·have hw2:(elems.length+rest.length)*P.bytesOf e<=reachBytes:=by
   have:=hwt ((elems.map (·.1)).length+(rest.map (·.1)).length |> (·*P.bytesOf e)) (by simp[DataW.weights,hu]);simpa using this
  have hel2:elems.length<=140737488351232:=by
   have h1:elems.length*1<=(elems.length+rest.length)*P.bytesOf e:=Nat.mul_le_mul (by omega) hc.2;have:reachBytes=140737488351232:=rfl;omega
  have hel3:∀i,i<len->∃(g:List AV) (ys:List Value),ys.length=P.cellsOf e/\(∀j,j<P.cellsOf e->w.cell? ((a.add (i*P.cellsOf e)).add j)=ys[j]?)/\zaj G I g ys/\ShT te g/\∀u∈ys,u.oneCell'=true:=by
   intro i hi;have h1:=hel i hi;have hil:i<elems.length:=by omega
   rw[zm hil,Option.bind_eq_some_iff] at h1;obtain⟨ys,y1,y2⟩:=h1;obtain⟨_,z1,z2⟩:=World.cells?_some y1;obtain⟨g,g1,g2,g3⟩:=ih n ys _ (by omega) y2 (fun m hm=>hwt m (by
    simp only[DataW.weights,hu,zv,zq];exact .inr (.inl (zdD (List.mem_map.2 ⟨_,List.getElem_mem hil,rfl⟩) m hm))))
   exact⟨g,ys,z1,z2,g1,g2,g3⟩
  obtain⟨gs,ys,k1,k2,k3,k4,k5,k6⟩:=zkG (G:=G) a (P.cellsOf e) hI len hel3;have hsp0:cap≠0->a.spot=none:=by
   intro hcap
   by_cases hl0:0<len
   ·have hp:0<len*P.cellsOf e:=Nat.mul_pos hl0 hc.1;have h2:=k6 0 hp;rw[zm (by omega)] at h2;have:=World.cell?_spot h2;simpa[Addr.add] using this
   ·have hr:=(hsr (hspa _)).2 0 (by omega);have hrl:=(hsr (hspa _)).1;rw[zm (by omega),Option.bind_eq_some_iff] at hr;obtain⟨zs,y1,_⟩:=hr;obtain⟨_,z1,z2⟩:=World.cells?_some y1;have h2:=z2 0 hc.1;rw[zm (by omega)] at h2;have:=World.cell?_spot h2;have hl1:len=0:=by omega
    subst hl1;simpa[Addr.add] using this
  refine⟨[.row gs.length gs.flatten],zaj.cons ?_ zaj.nil,⟨gs,rfl,by omega,k4⟩,by simp;rfl⟩;simp only[Den];refine⟨some a,cap,ys,by rw[k1],⟨by omega,fun ad h hc0=>by injection h with h;subst h;exact hsp0 hc0⟩,k3,k5,fun j u hj=>?_⟩;have hjl:=(zf.1 hj).1;have hlp:len≠0:=by rintro rfl;rw[k2,Nat.zero_mul] at hjl;omega
  have hs:=hsp0 (by omega);refine⟨a.block,a.off,by cases a;simp only at hs;subst hs;rfl,hI _ _ _ ?_⟩;have h2:=k6 j (k2▸hjl);rw[add_flat hs] at h2;rw[h2,hj]
theorem isRV_of {t:TypeId} {fs:List Field} (h:isRV P t fs=true):∃a b c d e,fs=[a,b,c,d]/\(a.offset=0/\b.offset=1/\c.offset=2/\d.offset=3)/\(P.cellsOf t=4/\P.cellsOf a.type=1/\P.cellsOf b.type=1/\P.cellsOf c.type=1/\P.cellsOf d.type=1)/\0<P.bytesOf t /\
  P.underlying a.type=some (.int .i64)/\P.underlying b.type=some .string/\P.underlying c.type=some (.slice e)/\P.underlying d.type=some (.slice t)/\P.cellsOf e=1/\0<P.bytesOf e/\P.underlying e=some .string:=by
 unfold isRV at h
 split at h
 ·rename_i a b c d;simp only[Bool.and_eq_true,beq_iff_eq,decide_eq_true_eq] at h;obtain⟨⟨⟨h1,h2⟩,h3⟩,h4⟩:=h
  split at h4
  ·rename_i e f u1 u2 u3 u4;simp only[Bool.and_eq_true,beq_iff_eq,decide_eq_true_eq] at h4;obtain⟨⟨⟨k1,k2⟩,k3⟩,k4⟩:=h4;subst k1
   split at k4
   ·rename_i u5;exact⟨a,b,c,d,e,rfl,⟨h1.1.1.1,h1.1.1.2,h1.1.2,h1.2⟩,⟨h2.1.1.1.1,h2.1.1.1.2,h2.1.1.2,h2.1.2,h2.2⟩,h3,u1,u2,u3,u4,k2,k3,u5⟩
   ·cases k4
  ·cases h4
 ·cases h
theorem zno:∀gs:List (List AV),(∀g∈gs,ShT .s g)->∃ks:List (List UInt8),gs.flatten=ks.map .s/\ks.length=gs.length/\∀k∈ks,k.length<=140737488351232
 | [],_=>⟨[],rfl,rfl,by simp⟩
 | g::gs,h=>by
  obtain⟨ks,h1,h2,h3⟩:=zno gs (fun g hg=>h g (qm _ hg));obtain⟨l,hl,hl2⟩:=h g (xt ..);refine⟨l::ks,by rw[List.flatten_cons,hl,h1];rfl,by simp[h2],fun k hk=>?_⟩;rcases zv.1 hk with rfl|hk
  ·exact hl2
  ·exact h3 k hk
theorem zkF:∀gs:List (List AV),(∀g∈gs,ShT .rv g)->∃rs:List RV,gs.flatten=zgr rs/\rs.length=gs.length/\zqi rs
 | [],_=>⟨[],by rw[zgr];rfl,rfl,by rw[zqi];trivial⟩
 | g::gs,h=>by
  obtain⟨rs,h1,h2,h3⟩:=zkF gs (fun g hg=>h g (qm _ hg));obtain⟨r,hr,hr2⟩:=h g (xt ..);exact⟨r::rs,by rw[List.flatten_cons,hr,h1,zgr],by simp[h2],by rw[zqi];exact⟨hr2,h3⟩⟩
theorem open_rv (hI:∀g o v,w.cell? ⟨g,o,none⟩=some v->I g o v) (hspa:∀b,spare b=true) {t:TypeId} {fs:Array Field} (hu:P.underlying t=some (.struct fs)) (hrv:isRV P t fs.toList=true):∀(m fuel:Nat) (cs:List Value) (x:DataW H×List MemPlace),fuel<m->DataW.trod enc P w base spare held fuel t cs=some x->(∀n∈x.1.weights P t,n<=reachBytes)->∃xs,zaj G I xs cs/\ShT .rv xs/\∀u∈cs,u.oneCell'=true:=by
 intro m
 induction m with
 | zero=>intro fuel cs x hm;omega
 | succ m ih=>
  intro fuel cs x hm h hwt;obtain⟨a,b,c,d,e,hfs,⟨o1,o2,o3,o4⟩,⟨c0,c1,c2,c3,c4⟩,hb,u1,u2,u3,u4,e1,e2,e3⟩:=isRV_of hrv;obtain⟨xs,n,hfu,rfl,hlen,hxl,hf⟩:=DataW.trod_struct hu h;have hsz:fs.size=4:=by rw[<-Array.length_toList,hfs];rfl
  have gf:∀j,fs[j]? = [a,b,c,d][j]?:=fun j=>by rw[<-hfs,Array.getElem?_toList]
  have hall:∀(j:Nat) (f:Field),[a,b,c,d][j]? = some f->∃x,DataW.trod enc P w base spare held n f.type ((cs.drop f.offset).take (P.cellsOf f.type))=some x/\∀m∈x.1.weights P f.type,m<=reachBytes:=by
   intro j f hj;have h1:=hf j f (by rw[gf];exact hj);have hjl:j<xs.length:=by
    rw[hxl,hsz];exact(zf.1 hj).1
   rw[zm hjl] at h1;refine⟨_,h1,fun m hm=>hwt m ?_⟩;have hj2:(fs.toList.map (·.type))[j]? = some f.type:=by rw[qo,hfs,hj];rfl
   have:=DataW.weights_mem_each hj2 (show (xs.map (·.1))[j]? = some xs[j].1 by rw[qo,zm hjl];rfl) m hm;simpa[DataW.weights,hu] using this
  obtain⟨xa,ha,wa⟩:=hall 0 a rfl;obtain⟨xb,hb',wb⟩:=hall 1 b rfl;obtain⟨xc,hc',wc⟩:=hall 2 c rfl;obtain⟨xd,hd',wd⟩:=hall 3 d rfl;rw[o1,c1] at ha;rw[o2,c2] at hb';rw[o3,c3] at hc';rw[o4,c4] at hd';rw[c0] at hlen;obtain⟨v0,v1,v2,v3,rfl⟩:∃v0 v1 v2 v3,cs=[v0,v1,v2,v3]:=by
   match cs,hlen with
   | [v0,v1,v2,v3],_=>exact⟨v0,v1,v2,v3,rfl⟩
  simp only[List.drop_zero,List.drop_succ_cons,List.take_succ_cons,List.take_zero] at ha hb' hc' hd';obtain⟨i0,r0,_,w0⟩:=DataW.trod_int u1 ha;injection r0 with r0 _
  obtain⟨s0,r1,rx1,_⟩:=DataW.trod_string u2 hb';injection r1 with r1 _
  subst r0 r1;obtain⟨ys2,d2,⟨g2,q2,l2,m2⟩,oc2⟩:=zfb (te:=.s) (G:=G) (I:=I) hI hspa u3 ⟨by omega,e2⟩ (fun n' ys y hn' hy hyw=>by
   obtain⟨s,rfl,rfl,hs⟩:=DataW.trod_string e3 hy;exact⟨[.s s.data.toList],zaj.cons (by simp[Den]) zaj.nil,⟨_,rfl,hyw _ (by simp[DataW.weights])⟩,by simp;rfl⟩) hc' wc
  obtain⟨ys3,d3,⟨g3,q3,l3,m3⟩,oc3⟩:=zfb (te:=.rv) (G:=G) (I:=I) hI hspa u4 ⟨by omega,hb⟩ (fun n' ys y hn' hy hyw=>ih n' ys y (by omega) hy hyw) hd' wd;subst q2 q3;obtain⟨ks,k1,k2,k3⟩:=zno g2 m2;obtain⟨rs,j1,j2,j3⟩:=zkF g3 m3;refine⟨zhi (.mk i0 s0.data.toList ks rs),?_,⟨_,rfl,?_⟩,?_⟩
  ·rw[zhi,k2,j2,<-k1,<-j1];exact zaj.cons (by simp[Den]) (zaj.cons (by simp[Den]) (zaj.append d2 d3))
  ·rw[RVok];refine⟨w0,?_,by omega,k3,by omega,j3⟩;subst rx1;exact wb _ (by simp[DataW.weights])
  ·intro u hu';simp only[zv,List.not_mem_nil,or_false] at hu';rcases hu' with rfl|rfl|rfl|rfl
   ·rfl
   ·rfl
   ·exact oc2 _ (by simp)
   ·exact oc3 _ (by simp)
theorem zoh (hI:∀g o v,w.cell? ⟨g,o,none⟩=some v->I g o v) (hspa:∀b,spare b=true):∀(d:Nat) (t:TypeId) (tt:TT) (fuel:Nat) (cs:List Value) (x:DataW H×List MemPlace),trT P d t=some tt->DataW.trod enc P w base spare held fuel t cs=some x->(∀n∈x.1.weights P t,n<=reachBytes)->∃xs,zaj G I xs cs/\ShT tt xs/\∀u∈cs,u.oneCell'=true:=by
 intro d
 induction d with
 | zero=>intro t tt fuel cs x ht;simp[trT] at ht
 | succ d ih=>
  intro t tt fuel cs x ht h hwt;simp only[trT] at ht
  split at ht
  ·rename_i hu;injection ht with ht;subst ht
   obtain⟨s,rfl,rfl,hs⟩:=DataW.trod_string hu h;refine⟨[.s s.data.toList],zaj.cons (by simp[Den]) zaj.nil,⟨_,rfl,?_⟩,by simp;rfl⟩;exact hwt _ (by simp[DataW.weights])
  ·rename_i hu;injection ht with ht;subst ht
   obtain⟨b,rfl,_⟩:=DataW.trod_bool hu h;exact⟨[.b b],zaj.cons (by simp[Den]) zaj.nil,⟨_,rfl⟩,by simp;rfl⟩
  ·rename_i k hu;injection ht with ht;subst ht
   obtain⟨n,rfl,_,hw⟩:=DataW.trod_int hu h;exact⟨[.i k n],zaj.cons (by simp[Den]) zaj.nil,⟨_,rfl,hw⟩,by simp;rfl⟩
  ·rename_i fs hu
   split at ht
   ·rename_i hrv;injection ht with ht;subst ht
    exact open_rv hI hspa hu hrv (fuel+1) fuel cs x (by omega) h hwt
   split at ht
   ·rename_i hc
    cases hts:trTs P (trT P d) 0 fs.toList with
    | none=>rw[hts] at ht;cases ht
    | some ts=>
     rw[hts] at ht;injection ht with ht;subst ht
     obtain⟨xs,n,_,rfl,hlen,hxl,hf⟩:=DataW.trod_struct hu h;have hall:∀f∈fs.toList,∃x,DataW.trod enc P w base spare held n f.type ((cs.drop f.offset).take (P.cellsOf f.type))=some x/\∀m∈x.1.weights P f.type,m<=reachBytes:=by
      intro f hfm;obtain⟨j,hj⟩:=List.mem_iff_getElem?.1 hfm;have h1:=hf j f (by simpa using hj);have hjl:j<xs.length:=by
       rw[hxl];have:=(zf.1 hj).1;simpa using this
      rw[zm hjl] at h1;refine⟨_,h1,fun m hm=>hwt m ?_⟩;have hj2:(fs.toList.map (·.type))[j]? = some f.type:=by rw[qo,hj];rfl
      have:=DataW.weights_mem_each hj2 (show (xs.map (·.1))[j]? = some xs[j].1 by rw[qo,zm hjl];rfl) m hm;simpa[DataW.weights,hu] using this
     obtain⟨ys,k1,k2,k3⟩:=zhl d ih n fs.toList ts 0 cs hts (by rw[hlen,hc];omega) hall;exact⟨ys,by simpa using k1,k2,by simpa using k3⟩
   ·cases ht
  ·rename_i e hu
   split at ht
   ·rename_i hc
    cases hte:trT P d e with
    | none=>rw[hte] at ht;cases ht
    | some te=>
     rw[hte] at ht;injection ht with ht;subst ht
     exact zfb hI hspa hu hc (fun n ys y _ hy hyw=>ih e te n ys y hte hy hyw) h hwt
   ·cases ht
  ·cases ht
theorem open_arg (hI:∀g o v,w.cell? ⟨g,o,none⟩=some v->I g o v) (hspa:∀b,spare b=true) {r:Reach} {b0:Nat} {t:TypeId} {tt:TT} {v:Value} {dd:DataW H} {ps:List MemPlace} (ht:trT P 20 t=some tt) (hv:Value.okWide P w r b0 t v) (h:DataW.Trod enc P w base spare held t v dd ps) (hwt:∀n∈dd.weights P t,n<=reachBytes):∃x,Den G I x v/\ShA tt x:=by
 obtain⟨fuel,hf⟩:=h;obtain⟨xs,h1,h2,h3⟩:=zoh hI hspa 20 t tt fuel _ _ ht hf hwt;have ht':=ht;unfold trT at ht
 cases tt with
 | st ts=>
  split at ht<;>first|(injection ht with ht;cases ht;done)|skip
  ·rename_i fs hu;obtain⟨cs,rfl,_⟩:=okWide_struct hu hv;refine⟨.agg xs,?_,⟨xs,rfl,h2⟩⟩;simp only[Den];exact⟨cs.toList,by simp,h1,h3⟩
  ·split at ht
   ·cases hq:trT P 19 _ with
    | none=>rw[hq] at ht;cases ht
    | some q=>rw[hq] at ht;injection ht with ht;cases ht
   ·cases ht
  ·cases ht
 | rv=>
  split at ht<;>first|(injection ht with ht;cases ht;done)|skip
  ·rename_i fs hu;obtain⟨cs,rfl,_⟩:=okWide_struct hu hv;obtain⟨r,rfl,hr⟩:=h2;refine⟨.agg (zhi r),?_,⟨r,rfl,hr⟩⟩;simp only[Den];exact⟨cs.toList,by simp,h1,h3⟩
  ·split at ht
   ·cases hq:trT P 19 _ with
    | none=>rw[hq] at ht;cases ht
    | some q=>rw[hq] at ht;injection ht with ht;cases ht
   ·cases ht
  ·cases ht
 | sl t=>
  split at ht<;>first|(injection ht with ht;cases ht;done)|skip
  ·split at ht
   ·injection ht with ht;cases ht
   split at ht
   ·cases hq:trTs P (trT P 19) 0 _ with
    | none=>rw[hq] at ht;cases ht
    | some q=>rw[hq] at ht;injection ht with ht;cases ht
   ·cases ht
  ·rename_i e hu;obtain⟨a,len,cap,rfl⟩:=okWide_slice hu hv;obtain⟨gs,rfl,hl,hg⟩:=h2;simp only[zaj] at h1;obtain⟨y,ys,e1,k1,k2⟩:=h1;subst k2;have e2:[Value.slice a len cap]=[y]:=e1;injection e2 with e2 _
   subst e2;exact⟨.row gs.length gs.flatten,k1,⟨gs,rfl,hl,hg⟩⟩
  ·cases ht
 | s=>
  split at ht<;>first|(injection ht with ht;cases ht;done)|skip
  ·rename_i hu;obtain⟨s,rfl⟩:=okWide_string hu hv;obtain⟨l,rfl,hl⟩:=h2;simp only[zaj] at h1;obtain⟨y,ys,e,k1,k2⟩:=h1;subst k2;have e2:[Value.string s]=[y]:=e;injection e2 with e2 _
   subst e2;exact⟨.s l,k1,⟨l,rfl,hl⟩⟩
  ·split at ht
   ·injection ht with ht;cases ht
   split at ht
   ·cases hq:trTs P (trT P 19) 0 _ with
    | none=>rw[hq] at ht;cases ht
    | some q=>rw[hq] at ht;injection ht with ht;cases ht
   ·cases ht
  ·split at ht
   ·cases hq:trT P 19 _ with
    | none=>rw[hq] at ht;cases ht
    | some q=>rw[hq] at ht;injection ht with ht;cases ht
   ·cases ht
  ·cases ht
 | b=>
  split at ht<;>first|(injection ht with ht;cases ht;done)|skip
  ·rename_i hu;obtain⟨s,rfl⟩:=okWide_bool hu hv;obtain⟨l,rfl⟩:=h2;simp only[zaj] at h1;obtain⟨y,ys,e,k1,k2⟩:=h1;subst k2;have e2:[Value.bool s]=[y]:=e;injection e2 with e2 _
   subst e2;exact⟨.b l,k1,⟨l,rfl⟩⟩
  ·split at ht
   ·injection ht with ht;cases ht
   split at ht
   ·cases hq:trTs P (trT P 19) 0 _ with
    | none=>rw[hq] at ht;cases ht
    | some q=>rw[hq] at ht;injection ht with ht;cases ht
   ·cases ht
  ·split at ht
   ·cases hq:trT P 19 _ with
    | none=>rw[hq] at ht;cases ht
    | some q=>rw[hq] at ht;injection ht with ht;cases ht
   ·cases ht
  ·cases ht
 | i k=>
  split at ht<;>first|(injection ht with ht;cases ht;done)|skip
  ·rename_i k' hu;injection ht with ht;injection ht with ht;subst ht
   obtain⟨s,rfl⟩:=okWide_int hu hv;obtain⟨l,rfl,hl⟩:=h2;simp only[zaj] at h1;obtain⟨y,ys,e,k1,k2⟩:=h1;subst k2;have e2:[Value.int _ s]=[y]:=e;injection e2 with e2 _
   subst e2;exact⟨.i _ l,k1,⟨l,rfl,hl⟩⟩
  ·split at ht
   ·injection ht with ht;cases ht
   split at ht
   ·cases hq:trTs P (trT P 19) 0 _ with
    | none=>rw[hq] at ht;cases ht
    | some q=>rw[hq] at ht;injection ht with ht;cases ht
   ·cases ht
  ·split at ht
   ·cases hq:trT P 19 _ with
    | none=>rw[hq] at ht;cases ht
    | some q=>rw[hq] at ht;injection ht with ht;cases ht
   ·cases ht
  ·cases ht
theorem open_args (hI:∀g o v,w.cell? ⟨g,o,none⟩=some v->I g o v) (hspa:∀b,spare b=true) {r:Reach} {b0:Nat}:∀(ts:List TypeId) (tts:List TT) (vs:List Value) (ds:List (DataW H)) (ps:List MemPlace),ts.mapM (trT P 20)=some tts->(∀(j:Nat) t v,ts[j]? = some t->vs[j]? = some v->Value.okWide P w r b0 t v)->DataW.TrodAll enc P w base spare held ts vs ds ps->(∀n∈DataW.weightsEach P ts ds,n<=reachBytes)->∃xs,zaj G I xs vs/\ShAs tts xs
 | [],tts,vs,ds,ps,ht,hv,h,hwt=>by
  simp at ht;subst ht;obtain⟨rfl,_,_⟩:=trodAll_nil h;exact⟨[],zaj.nil,rfl⟩
 | t::ts,tts,vs,ds,ps,ht,hv,h,hwt=>by
  simp only[List.mapM_cons,Option.bind_eq_bind,Option.pure_def] at ht
  cases h1:trT P 20 t with
  | none=>simp[h1] at ht
  | some tt=>
   cases h2:ts.mapM (trT P 20) with
   | none=>simp[h1,h2] at ht
   | some tts'=>
    simp[h1,h2] at ht;subst ht;obtain⟨v,vs',d,ds',p,q,rfl,rfl,rfl,k1,k2⟩:=trodAll_cons h;obtain⟨x,x1,x2⟩:=open_arg (G:=G) (I:=I) hI hspa h1 (hv 0 t v rfl rfl) k1 (fun n hn=>hwt n (by simp only[DataW.weightsEach,zq];exact .inl hn));obtain⟨xs,y1,y2⟩:=open_args hI hspa ts tts' vs' ds' q h2 (fun j t v hj hv'=>hv (j+1) t v (by simpa using hj) (by simpa using hv')) k2 (fun n hn=>hwt n (by simp only[DataW.weightsEach,zq];exact .inr hn));exact⟨x::xs,zaj.cons x1 y1,⟨x,xs,rfl,x2,y2⟩⟩
theorem zew (hl:laidOutB P=true) {W W':World} {sp':Nat->Bool}:∀(ts:List TypeId) (vs:List Value) (ds:List (DataW H)) (ps:List MemPlace),(∀t∈ts,P.readableRec t=true/\t<P.types.size)->DataW.TrodAll enc P W 0 (fun _=>true) true ts vs ds ps->Below W.heap.size W W'->(∀p∈ps,p.block<W.heap.size)->(∀p∈ps,sp' p.block=true)->DataW.TrodAll enc P W' 0 sp' true ts vs ds ps
 | [],vs,ds,ps,hr,h,hb,hlt,hs=>by
  obtain⟨rfl,rfl,rfl⟩:=trodAll_nil h;exact trodAll_mk0
 | t::ts,vs,ds,ps,hr,h,hb,hlt,hs=>by
  obtain⟨v,vs',d,ds',p,q,rfl,rfl,rfl,k1,k2⟩:=trodAll_cons h;have h1:=hr t (xt ..);exact trodAll_cons_mk (WideElems.Trod_stays hl h1.1 h1.2 k1 (fun x hx=>hb.same (hlt x (jr _ hx))) (fun x hx=>hs x (jr _ hx)))
   (zew hl ts vs' ds' q (fun t ht=>hr t (qm _ ht)) k2 hb (fun x hx=>hlt x (xf _ hx)) (fun x hx=>hs x (xf _ hx)))
end
theorem post_true {H:Type} {enc:TypeId×Value->H} {P:Program} {f:Func} {s:ChangeSpec} {apart fresh handsOn again:Bool} {W W':World} {args:Array Value} {ds gs:List (DataW H)} {before:List MemPlace}
  (hl:laidOutB P=true) (hts:∀t∈f.params.toList,P.readableRec t=true/\t<P.types.size) {tb:TypeId} (hrt:f.resultTypes=#[tb]) (hub:P.underlying tb=some .bool) (hsv:s.vars=[])
  (hW:DataW.Whole enc P f.params.toList s.vars apart W args.toList ds gs before) (hfn:s.fn H (ds++gs)={ results:=[.lit (.bool true)],args:=ds }) (hb:Below W.heap.size W W'):s.post enc P f apart fresh handsOn again W args (.bool true) W':=by
 have hlt:∀p∈before,p.block<W.heap.size:=fun p hp=>hW.lt p hp;have hold:∀p∈before,(fun b=>decide (b<W.heap.size)) p.block=true:=fun p hp=>by simpa using hlt p hp
 have hW':=hW;obtain⟨p,q,hA,hV,rfl,hz,hn⟩:=hW';rw[hsv] at hV;have hvars:gs=[]/\q=[]:=by
  cases gs with
  | nil=>exact⟨rfl,hV⟩
  | cons g gs=>exact hV.elim
 obtain⟨rfl,rfl⟩:=hvars;simp only[jh] at *;have hres:∀(b:Nat) (sp:Nat->Bool) (hd:Bool),DataW.TrodAll enc P W' b sp hd f.resultTypes.toList ((Value.bool true).resultList f.resultTypes.size) (s.fn H ds).results []:=by
  intro b sp hd;rw[hfn,hrt];exact trodAll_cons_mk (shut_bool hub _) trodAll_mk0
 have hargs:∀sp:Nat->Bool,(∀x∈p,sp x.block=true)->DataW.TrodAll enc P W' 0 sp true f.params.toList args.toList (s.fn H ds).args p:=by
  intro sp hsp;rw[hfn];exact zew hl _ _ _ _ hts hA hb hlt hsp
 have hvs:∀sp:Nat->Bool,DataW.TrodVars enc P W' sp s.vars (s.fn H ds).vars []:=by
  intro sp;rw[hsv,hfn];rfl
 refine⟨ds,[],p,[],p,[],hW,by simpa using hres _ _ _,by simpa using hargs _ hold,by simpa using hvs _,World.keptBut_mono (fun x hx=>⟨hx,?_⟩) (hb.frame (·∈p)),fun _=>?_⟩
 ·exact Or.inr (Or.inl hx)
 ·refine⟨?_,_,_,([]++p)++[],⟨[]++p,[],trodAll_append (by simpa using hargs _ (fun _ _=>rfl)) (by simpa using hres _ _ _),by simpa using hvs _,rfl,?_,?_⟩,?_⟩
  ·intro j t r hj hr;rw[hrt] at hj hr
   cases j with
   | zero=>
    simp at hj;subst hj;have:r=.bool true:=by simpa[Value.resultList] using hr.symm
    subst this;exact okWide_bool_mk hub _
   | succ j=>simp at hj
  ·intro b off hp;have hin:MemPlace.cell b off∈p:=by simpa using hp
   rw[hb.frozen (hlt _ hin)];exact hz b off hin
  ·intro ha;simpa using hn ha
  ·intro x hx _;simpa using hx
section
variable {H:Type} {enc:TypeId×Value->H}
end
end Go.Proofs.YtceenajkieomoaaGreatDoor.Sx
namespace Go.Proofs.YtceenajkieomoaaGreatDoor
open Nat renaming reduceAdd -> z6, reduceSub -> z7, reduceLeDiff -> z8, reduceLT -> j4, reduceMul -> j5, reduceEqDiff -> j6
open Int renaming reduceToNat -> j7, reduceAdd -> j8, reduceSub -> j9, reduceMul -> x6, reduceNeg -> x7, reduceLT -> x8, reduceLE -> x9, reduceEq -> y4, reduceNe -> y5
open Go.RowKit Sx
open Int renaming cast_ofNat_Int->ye
open List renaming Perm->qw, cons_append->qy, getElem?_append_left->qd, getElem?_eq_getElem->zm, getElem?_eq_none->zx, getElem?_eq_some_iff->zf, getElem?_map->qo, getElem?_set->za, getElem?_set_ne->zi, getElem?_set_self->zl, length_append->zk, length_cons->zu, length_map->qq, length_nil->qk, length_set->zh, map_cons->zo, map_nil->qb, mem_append->zq, mem_append_left->jr, mem_append_right->xf, mem_cons->zv, nodup_cons->xy, sublist_cons_self->jm, take_append_drop->jt
open Nat renaming le_refl->ze, le_trans->jk, zero_le->zd
open Option renaming map_some->jl
section
attribute [local irreducible] run
mutual
def JOk:JV->Prop
 | .mk k t ks its=>(Lit.int .i64 k).wf=true/\t.length<=140737488351232/\ks.length<=140737488351232/\(∀k∈ks,k.length<=140737488351232)/\its.length<=140737488351232/\zdC its
def zdC:List JV->Prop
 | []=>True
 | v::l=>JOk v/\zdC l
end
theorem zo3:∀{l:List JV} (h:zdC l) {i:Nat} (hi:i<l.length),JOk l[i]
 | a::l,h,0,hi=>by rw[zdC] at h;exact h.1
 | a::l,h,i+1,hi=>by rw[zdC] at h;exact zo3 h.2 (by simpa using hi)
theorem JOk.its {v:JV} (h:JOk v) {i:Nat} (hi:i<v.items.length):JOk v.items[i]:=by
 cases v with
 | mk k t ks its=>rw[JOk] at h;exact zo3 h.2.2.2.2.2 hi
theorem JOk.lens {v:JV} (h:JOk v):v.keys.length<=140737488351232/\v.items.length<=140737488351232/\v.text.length<=140737488351232/\∀k∈v.keys,k.length<=140737488351232:=by
 cases v with
 | mk k t ks its=>rw[JOk] at h;exact⟨h.2.2.1,h.2.2.2.2.1,h.2.1,h.2.2.2.1⟩
mutual
/-- not too many keys and items, wherever -/
def JBd:JV->Prop
 | .mk k t ks its=>ks.length<=1099511627780/\its.length<=1099511627776/\zdf its
def zdf:List JV->Prop
 | []=>True
 | v::l=>JBd v/\zdf l
end
theorem zo9:∀{l:List JV},(∀(i:Nat) (h:i<l.length),JBd l[i])->zdf l
 | [],_=>by rw[zdf];trivial
 | v::l,h=>by
  rw[zdf];exact⟨h 0 (by simp),zo9 fun i hi=>by have:=h (i+1) (by simpa using hi);simpa only[List.getElem_cons_succ] using this⟩
theorem zj9:∀{l:List JV} (h:zdf l) {i:Nat} (hi:i<l.length),JBd l[i]
 | a::l,h,0,hi=>by rw[zdf] at h;exact h.1
 | a::l,h,i+1,hi=>by rw[zdf] at h;exact zj9 h.2 (by simpa using hi)
theorem JBd.lens {v:JV} (h:JBd v):v.keys.length<=1099511627780/\v.items.length<=1099511627776:=by
 cases v;rw[JBd] at h;exact⟨h.1,h.2.1⟩
theorem JBd.its {v:JV} (h:JBd v) {i:Nat} (hi:i<v.items.length):JBd v.items[i]:=by
 cases v with
 | mk k t ks its=>rw[JBd] at h;exact zj9 h.2.2 hi
theorem JBd.of {v:JV} (h1:v.keys.length<=1099511627780) (h2:v.items.length<=1099511627776) (h3:∀(i:Nat) (h:i<v.items.length),JBd v.items[i]):JBd v:=by
 cases v;rw[JBd];exact⟨h1,h2,zo9 h3⟩
theorem zdm (v w:JV):zdE v w=(decide (v.kind=w.kind)&&(decide (v.text=w.text)&&(decide (v.keys=w.keys)&&zcp v.items w.items))):=by
 cases v;cases w;rw[zdE];rfl
theorem zg9:∀{l m:List JV},l.length≠m.length->zcp l m=false
 | [],[],h=>absurd rfl h
 | [],_::_,_=>by rw[zcp];all_goals simp
 | _::_,[],_=>by rw[zcp];all_goals simp
 | v::l,w::m,h=>by rw[zcp,zg9 (l:=l) (m:=m) (by simpa using h)];simp
theorem ziQ:∀{l m:List JV} {i:Nat} (h1:i<l.length) (h2:i<m.length),zdE l[i] m[i]=false->zcp l m=false
 | v::l,w::m,0,_,_,h=>by rw[zcp];simp only[List.getElem_cons_zero] at h;rw[h];rfl
 | v::l,w::m,i+1,h1,h2,h=>by
  rw[zcp,ziQ (l:=l) (m:=m) (i:=i) (by simpa using h1) (by simpa using h2) (by simpa using h)];simp
theorem zg8:∀{l m:List JV},l.length=m.length->(∀(i:Nat) (h1:i<l.length) (h2:i<m.length),zdE l[i] m[i]=true)->zcp l m=true
 | [],[],_,_=>by rw[zcp]
 | [],_::_,h,_=>by simp at h
 | _::_,[],h,_=>by simp at h
 | v::l,w::m,h,k=>by
  rw[zcp,zg8 (l:=l) (m:=m) (by simpa using h) (fun i h1 h2=>by have:=k (i+1) (by simpa using h1) (by simpa using h2);simp only[List.getElem_cons_succ] at this;exact this)];have:=k 0 (by simp) (by simp);simp only[List.getElem_cons_zero] at this;rw[this];rfl
mutual
/-- short texts, not too many keys and items, wherever -/
def JKp:JV->Prop
 | .mk k t ks its=>ks.length<=1099511627780/\its.length<=1099511627776/\t.length<=300/\(∀k∈ks,k.length<=300)/\zkt its
def zkt:List JV->Prop
 | []=>True
 | v::l=>JKp v/\zkt l
end
theorem zo7:∀{l:List JV},(∀(i:Nat) (h:i<l.length),JKp l[i])->zkt l
 | [],_=>by rw[zkt];trivial
 | v::l,h=>by
  rw[zkt];exact⟨h 0 (by simp),zo7 fun i hi=>by have:=h (i+1) (by simpa using hi);simpa only[List.getElem_cons_succ] using this⟩
theorem zo8:∀{l:List JV} (h:zkt l) {i:Nat} (hi:i<l.length),JKp l[i]
 | a::l,h,0,hi=>by rw[zkt] at h;exact h.1
 | a::l,h,i+1,hi=>by rw[zkt] at h;exact zo8 h.2 (by simpa using hi)
theorem JKp.lens {v:JV} (h:JKp v):v.keys.length<=1099511627780/\v.items.length<=1099511627776/\v.text.length<=300/\∀k∈v.keys,k.length<=300:=by
 cases v;rw[JKp] at h;exact⟨h.1,h.2.1,h.2.2.1,h.2.2.2.1⟩
theorem JKp.its {v:JV} (h:JKp v) {i:Nat} (hi:i<v.items.length):JKp v.items[i]:=by
 cases v with
 | mk k t ks its=>rw[JKp] at h;exact zo8 h.2.2.2.2 hi
theorem JKp.of {v:JV} (h1:v.keys.length<=1099511627780) (h2:v.items.length<=1099511627776) (h3:v.text.length<=300) (h4:∀k∈v.keys,k.length<=300) (h5:∀(i:Nat) (h:i<v.items.length),JKp v.items[i]):JKp v:=by
 cases v;rw[JKp];exact⟨h1,h2,h3,h4,zo7 h5⟩
mutual
theorem JKp.bd:∀{v:JV},JKp v->JBd v
 | .mk k t ks its,h=>by rw[JKp] at h;rw[JBd];exact⟨h.1,h.2.1,zkt.bd h.2.2.2.2⟩
theorem zkt.bd:∀{l:List JV},zkt l->zdf l
 | [],_=>by rw[zdf];trivial
 | v::l,h=>by rw[zkt] at h;rw[zdf];exact⟨JKp.bd h.1,zkt.bd h.2⟩
end
mutual
/-- no slice too long, wherever -/
def JLn:JV->Prop
 | .mk k t ks its=>ks.length<=140737488351232/\its.length<=140737488351232/\zqj its
def zqj:List JV->Prop
 | []=>True
 | v::l=>JLn v/\zqj l
end
mutual
theorem JOk.ln:∀{v:JV},JOk v->JLn v
 | .mk k t ks its,h=>by rw[JOk] at h;rw[JLn];exact⟨h.2.2.1,h.2.2.2.2.1,zdC.ln h.2.2.2.2.2⟩
theorem zdC.ln:∀{l:List JV},zdC l->zqj l
 | [],_=>by rw[zqj];trivial
 | v::l,h=>by rw[zdC] at h;rw[zqj];exact⟨JOk.ln h.1,zdC.ln h.2⟩
end
mutual
theorem JBd.ln:∀{v:JV},JBd v->JLn v
 | .mk k t ks its,h=>by rw[JBd] at h;rw[JLn];exact⟨by omega,by omega,zdf.ln h.2.2⟩
theorem zdf.ln:∀{l:List JV},zdf l->zqj l
 | [],_=>by rw[zqj];trivial
 | v::l,h=>by rw[zdf] at h;rw[zqj];exact⟨JBd.ln h.1,zdf.ln h.2⟩
end
theorem zo6:∀{l:List JV} (h:zqj l) {i:Nat} (hi:i<l.length),JLn l[i]
 | a::l,h,0,hi=>by rw[zqj] at h;exact h.1
 | a::l,h,i+1,hi=>by rw[zqj] at h;exact zo6 h.2 (by simpa using hi)
theorem JLn.its {v:JV} (h:JLn v) {i:Nat} (hi:i<v.items.length):JLn v.items[i]:=by
 cases v with
 | mk k t ks its=>rw[JLn] at h;exact zo6 h.2.2 hi
theorem JLn.lens {v:JV} (h:JLn v):v.keys.length<=140737488351232/\v.items.length<=140737488351232:=by
 cases v with
 | mk k t ks its=>rw[JLn] at h;exact⟨h.1,h.2.1⟩
section
variable [Tabs Tryz.prog]
theorem same14_l:∀(m:Nat) (v w:JV),v.size<m->JLn v->∀{objs:List OB} {K:List OB->AV->Prop},K objs (.b (zdE v w))->zaf Tryz.prog 15 [.agg (zap v),.agg (zap w)] objs K:=by
 intro m
 induction m with
 | zero=>intro v w h;omega
 | succ m ih=>
  intro v w hm hv objs K hk;obtain⟨l1,l2⟩:=hv.lens;refine za4 is_ref14_Same (by simp only[zao,AV.plain,zaN,Bool.and_self]) fun C _=>?_;rw[c_ref14_Same];refine zaa fun Y hY=>?_;simp only[sxZ,z6,z7,z8,j4,j5,j6,j7,j8,j9,x6,x7,x8,x9,y4,y5,reduceCtorEq,↓reduceIte];have e0:OB.box 25 (zap v)=OB.box 25 [.i .i64 v.kind,.s v.text,.row v.keys.length (v.keys.map .s),.row v.items.length (zab v.items)]:=by rw[zad]
  have e1:OB.box 25 (zap w)=OB.box 25 [.i .i64 w.kind,.s w.text,.row w.keys.length (w.keys.map .s),.row w.items.length (zab w.items)]:=by rw[zad]
  rw[e0,e1];subst hY;refine zaa fun Y hY=>?_;have no:zdE v w=false->K objs (.b false):=fun h=>by rw[h] at hk;exact hk
  by_cases c1:v.kind=w.kind
  rotate_left
  ·simp only[sxZ,z6,z7,z8,j4,j5,j6,j7,j8,j9,x6,x7,x8,x9,y4,y5,reduceCtorEq,↓reduceIte,c1,decide_false,Bool.not_false];exact no (by rw[zdm,decide_eq_false c1];rfl)
  by_cases c2:v.text=w.text
  rotate_left
  ·simp only[sxZ,z6,z7,z8,j4,j5,j6,j7,j8,j9,x6,x7,x8,x9,y4,y5,reduceCtorEq,↓reduceIte,c1,c2,decide_false,decide_true,Bool.not_false,Bool.not_true];exact no (by rw[zdm,decide_eq_false c2];simp)
  by_cases c3:v.items.length=w.items.length
  rotate_left
  ·have c3':¬(v.items.length:Int)=w.items.length:=by omega
   simp only[sxZ,z6,z7,z8,j4,j5,j6,j7,j8,j9,x6,x7,x8,x9,y4,y5,reduceCtorEq,↓reduceIte,c1,c2,c3',decide_false,decide_true,Bool.not_false,Bool.not_true];exact no (by rw[zdm,zg9 c3];simp)
  by_cases c4:v.keys.length=w.keys.length
  rotate_left
  ·have c4':¬(v.keys.length:Int)=w.keys.length:=by omega
   simp only[sxZ,z6,z7,z8,j4,j5,j6,j7,j8,j9,x6,x7,x8,x9,y4,y5,reduceCtorEq,↓reduceIte,c1,c2,c3,c4',decide_false,decide_true,Bool.not_false,Bool.not_true];exact no (by rw[zdm,decide_eq_false (p:=v.keys=w.keys) (fun h=>c4 (by rw[h]))];simp)
  simp only[sxZ,z6,z7,z8,j4,j5,j6,j7,j8,j9,x6,x7,x8,x9,y4,y5,reduceCtorEq,↓reduceIte,c1,c2,c3,c4,decide_false,decide_true,Bool.not_false,Bool.not_true];subst hY;refine zaa fun Y hY=>?_;simp only[sxZ,z6,z7,z8,j4,j5,j6,j7,j8,j9,x6,x7,x8,x9,y4,y5,reduceCtorEq,↓reduceIte];have q1:v.items.length=w.items.length:=c3;have q2:v.keys.length=w.keys.length:=c4;refine zaK (fun n o tm=>∃i:Nat,i<=w.items.length/\n=w.items.length - i/\o=[OB.box 25 [.i .i64 w.kind,.s w.text,.row w.keys.length (v.keys.map .s),.row w.items.length (zab v.items)],OB.box 25 [.i .i64 w.kind,.s w.text,.row w.keys.length (w.keys.map .s),.row w.items.length (zab w.items)]]/\(∀(j:Nat) (h1:j<v.items.length) (h2:j<w.items.length),j<i->zdE v.items[j] w.items[j]=true)/\tm.length=74/\tm[2]? = some (.p 0 0)/\tm[3]? = some (.p 1 0)/\tm[38]? = some (.row w.items.length (zab v.items))/\tm[39]? = some (.i .i64 (w.items.length:Int))/\tm[40]? = some (.i .i64 (i:Int))) w.items.length ⟨0,zd _,rfl,rfl,fun j _ _ h=>by omega,rfl,rfl,rfl,rfl,rfl,rfl⟩ ?_;rintro n _ tm ⟨i,hi,rfl,rfl,hall,hlen,t2,t3,t38,t39,t40⟩;refine zaa fun Z hZ=>?_
  by_cases hlt:(i:Int)<(w.items.length:Int)
  ·have hw':i<w.items.length:=by omega
   have hv':i<v.items.length:=by omega
   have jv:=zea hv';have jw:=zea hw';have jvl:=zaI v.items;have jwl:=zaI w.items;have hit:=hv.its hv';have hsz:=ziO hv';have hcall:=fun {objs:List OB} {K:List OB->AV->Prop} (h:K objs (.b (zdE v.items[i] w.items[i])))=>ih v.items[i] w.items[i] (by omega) hit (objs:=objs) (K:=K) h;simp only[sxZ,z6,z7,z8,j4,j5,j6,j7,j8,j9,x6,x7,x8,x9,y4,y5,reduceCtorEq,↓reduceIte,za,hlen,t2,t3,t38,t39,t40,hlt];subst hZ;refine zaa fun Z hZ=>?_;simp only[sxZ,z6,z7,z8,j4,j5,j6,j7,j8,j9,x6,x7,x8,x9,y4,y5,reduceCtorEq,↓reduceIte,za,hlen];subst hZ;refine zaa fun W hW=>?_;rw[za8];refine zaa fun Z hZ=>?_;simp only[sxZ,z6,z7,z8,j4,j5,j6,j7,j8,j9,x6,x7,x8,x9,y4,y5,reduceCtorEq,↓reduceIte,za,hlen,t40];subst hZ;refine zaa fun Z hZ=>?_;simp only[sxZ,z6,z7,z8,j4,j5,j6,j7,j8,j9,x6,x7,x8,x9,y4,y5,reduceCtorEq,↓reduceIte,za,hlen,t2,t3,jv,jw];refine⟨⟨by omega,by omega,by omega⟩,by omega,⟨by omega,by omega,by omega⟩,by omega,?_⟩;refine zhr (hcall ⟨rfl,rfl⟩) ?_;have hno:=ziQ hv' hw';have hall2:zdE v.items[i] w.items[i]=true->∀(j:Nat) (h1:j<v.items.length) (h2:j<w.items.length),j<i+1->zdE v.items[j] w.items[j]=true:=by
    intro hs j h1 h2 hj
    by_cases e:j=i
    ·subst e;exact hs
    ·exact hall j h1 h2 (by omega)
   generalize zdE v.items[i] w.items[i]=sm at hno hall2;simp only[sxZ,z6,z7,z8,j4,j5,j6,j7,j8,j9,x6,x7,x8,x9,y4,y5,reduceCtorEq,↓reduceIte,za,hlen,t2,t3];subst hZ
   cases sm with
   | false=>
    simp only[sxZ,z6,z7,z8,j4,j5,j6,j7,j8,j9,x6,x7,x8,x9,y4,y5,reduceCtorEq,↓reduceIte,za,hlen,Bool.not_false,Bool.not_true];exact no (by rw[zdm,hno rfl];simp)
   | true=>
    simp only[sxZ,z6,z7,z8,j4,j5,j6,j7,j8,j9,x6,x7,x8,x9,y4,y5,reduceCtorEq,↓reduceIte,za,hlen,Bool.not_false,Bool.not_true];subst hW;simp only[sxZ,z6,z7,z8,j4,j5,j6,j7,j8,j9,x6,x7,x8,x9,y4,y5,reduceCtorEq,↓reduceIte,za,hlen,t2,t3,t38,t39,t40];exact⟨by omega,w.items.length - (i+1),by omega,i+1,by omega,rfl,hall2 rfl,rfl⟩
  simp only[sxZ,z6,z7,z8,j4,j5,j6,j7,j8,j9,x6,x7,x8,x9,y4,y5,reduceCtorEq,↓reduceIte,za,hlen,t2,t3,t38,t39,t40,hlt];subst hZ;simp only[sxZ,z6,z7,z8,j4,j5,j6,j7,j8,j9,x6,x7,x8,x9,y4,y5,reduceCtorEq,↓reduceIte,za,hlen,t2,t3,t38,t39,t40,hlt];refine zbK (fun t=>t.length=74/\t[2]? = some (.p 0 0)/\t[3]? = some (.p 1 0)) ?_ ?_
  ·simp only[sxZ,z6,z7,z8,j4,j5,j6,j7,j8,j9,x6,x7,x8,x9,y4,y5,reduceCtorEq,↓reduceIte,zh,za,hlen,t2,t3,and_self]
  have hyes:zcp v.items w.items=true:=zg8 c3 fun j h1 h2=>hall j h1 h2 (by omega);clear hlen t2 t3 t38 t39 t40 hlt;rintro tm ⟨hlen,t2,t3⟩;subst hY;refine zaa fun Y hY=>?_;simp only[sxZ,z6,z7,z8,j4,j5,j6,j7,j8,j9,x6,x7,x8,x9,y4,y5,reduceCtorEq,↓reduceIte,za,hlen,t2,t3];refine zaK (fun n o tm=>∃i:Nat,i<=w.keys.length/\n=w.keys.length - i/\o=[OB.box 25 [.i .i64 w.kind,.s w.text,.row w.keys.length (v.keys.map .s),.row w.items.length (zab v.items)],OB.box 25 [.i .i64 w.kind,.s w.text,.row w.keys.length (w.keys.map .s),.row w.items.length (zab w.items)]]/\(∀j:Nat,j<i->v.keys[j]? = w.keys[j]?)/\tm.length=74/\tm[2]? = some (.p 0 0)/\tm[3]? = some (.p 1 0)/\tm[58]? = some (.i .i64 (w.keys.length:Int))/\tm[59]? = some (.i .i64 (i:Int))) w.keys.length ⟨0,zd _,rfl,rfl,fun j h=>by omega,?_⟩ ?_
  ·simp only[sxZ,z6,z7,z8,j4,j5,j6,j7,j8,j9,x6,x7,x8,x9,y4,y5,reduceCtorEq,↓reduceIte,zh,za,hlen,t2,t3,ye,and_self]
  clear hlen t2 t3 hall hi i;rintro n _ tm ⟨i,hi,rfl,rfl,hall,hlen,t2,t3,t58,t59⟩;refine zaa fun Z hZ=>?_
  by_cases hlt:(i:Int)<(w.keys.length:Int)
  ·have hw':i<w.keys.length:=by omega
   have hv':i<v.keys.length:=by omega
   have kv:(v.keys.map AV.s)[i*1]? = some (.s v.keys[i]):=by rw[Nat.mul_one,qo,zm hv'];rfl
   have kw:(w.keys.map AV.s)[i*1]? = some (.s w.keys[i]):=by rw[Nat.mul_one,qo,zm hw'];rfl
   have hne:¬v.keys[i]=w.keys[i]->¬v.keys=w.keys:=fun h e=>h (by simp only[e]);have hall2:v.keys[i]=w.keys[i]->∀j:Nat,j<i+1->v.keys[j]? = w.keys[j]?:=by
    intro hs j hj
    by_cases e:j=i
    ·subst e;rw[zm hv',zm hw',hs]
    ·exact hall j (by omega)
   generalize v.keys[i]=x at kv hne hall2;generalize w.keys[i]=y at kw hne hall2;simp only[sxZ,z6,z7,z8,j4,j5,j6,j7,j8,j9,x6,x7,x8,x9,y4,y5,reduceCtorEq,↓reduceIte,za,hlen,t2,t3,t58,t59,hlt];subst hZ;refine zaa fun Z hZ=>?_;simp only[sxZ,z6,z7,z8,j4,j5,j6,j7,j8,j9,x6,x7,x8,x9,y4,y5,reduceCtorEq,↓reduceIte,za,hlen];subst hZ;refine zaa fun W hW=>?_;rw[za8];refine zaa fun Z hZ=>?_;simp only[sxZ,z6,z7,z8,j4,j5,j6,j7,j8,j9,x6,x7,x8,x9,y4,y5,reduceCtorEq,↓reduceIte,za,hlen,t59];subst hZ;refine zaa fun Z hZ=>?_;simp only[sxZ,z6,z7,z8,j4,j5,j6,j7,j8,j9,x6,x7,x8,x9,y4,y5,reduceCtorEq,↓reduceIte,za,hlen,t2,t3,kv,kw,qq];refine⟨⟨by omega,by omega,by omega⟩,⟨by omega,by omega,by omega⟩,?_⟩;subst hZ
   by_cases c5:x=y
   rotate_left
   ·simp only[sxZ,z6,z7,z8,j4,j5,j6,j7,j8,j9,x6,x7,x8,x9,y4,y5,reduceCtorEq,↓reduceIte,za,hlen,c5,decide_false,decide_true,Bool.not_false,Bool.not_true];exact no (by rw[zdm,decide_eq_false (hne c5)];simp)
   ·simp only[sxZ,z6,z7,z8,j4,j5,j6,j7,j8,j9,x6,x7,x8,x9,y4,y5,reduceCtorEq,↓reduceIte,za,hlen,c5,decide_false,decide_true,Bool.not_false,Bool.not_true];subst hW;simp only[sxZ,z6,z7,z8,j4,j5,j6,j7,j8,j9,x6,x7,x8,x9,y4,y5,reduceCtorEq,↓reduceIte,za,hlen,t2,t3,t58,t59];exact⟨by omega,w.keys.length - (i+1),by omega,i+1,by omega,rfl,hall2 c5,rfl⟩
  simp only[sxZ,z6,z7,z8,j4,j5,j6,j7,j8,j9,x6,x7,x8,x9,y4,y5,reduceCtorEq,↓reduceIte,za,hlen,t2,t3,t58,t59,hlt];subst hZ;subst hY;simp only[sxZ,z6,z7,z8,j4,j5,j6,j7,j8,j9,x6,x7,x8,x9,y4,y5,reduceCtorEq,↓reduceIte,za,hlen,t2,t3,t58,t59,hlt];have hkeys:v.keys=w.keys:=List.ext_getElem? fun j=>by
   by_cases h:j<i
   ·exact hall j h
   ·rw[zx (by omega),zx (by omega)]
  have:zdE v w=true:=by rw[zdm,hyes,decide_eq_true c1,decide_eq_true c2,decide_eq_true hkeys];rfl
  rw[<-this];exact hk
theorem same14_k (m:Nat) (v w:JV) (hm:v.size<m) (h:JOk v) {objs:List OB} {K:List OB->AV->Prop} (hk:K objs (.b (zdE v w))):zaf Tryz.prog 15 [.agg (zap v),.agg (zap w)] objs K:=same14_l m v w hm h.ln hk
end
end
section
attribute [local irreducible] run
def zg0 (key:List UInt8):List (List UInt8)->Nat
 | []=>0
 | k::l=>if k=key then 0 else zg0 key l+1
theorem zgD {key:List UInt8}:∀{l:List (List UInt8)},zg0 key l<l.length->l[zg0 key l]? = some key
 | [],h=>by simp[zg0] at h
 | k::l,h=>by
  unfold zg0 at h ⊢
  by_cases c:k=key
  ·rw[if_pos c,c];rfl
  ·rw[if_neg c] at h ⊢;simpa using zgD (l:=l) (by simpa using h)
theorem zkc {key:List UInt8}:∀{l:List (List UInt8)} {i:Nat},l[i]? = some key->zg0 key l<=i
 | [],i,h=>by simp at h
 | k::l,0,h=>by
  simp only[List.getElem?_cons_zero,Option.some.injEq] at h;unfold zg0;rw[if_pos h];omega
 | k::l,i+1,h=>by
  unfold zg0
  split
  ·omega
  ·have:=zkc (l:=l) (i:=i) (by simpa using h);omega
def zaB (v:JV) (key:List UInt8):JV×Bool :=
 if v.kind=7/\zg0 key v.keys<v.keys.length then (match v.items[zg0 key v.keys]? with|some x=>(x,true)|none=>(jvZ,false)) else (jvZ,false)
def zbd (R:JV×Bool):AV:=.tup [.agg (zap R.1),.b R.2]
theorem zgI {v:JV} {key:List UInt8} (h:¬v.kind=7):zaB v key=(jvZ,false):=by unfold zaB;rw[if_neg (fun k=>h k.1)]
theorem getJ_at {v:JV} {key:List UInt8} {i:Nat} (h:v.kind=7) (hk:v.keys[i]? = some key) (hi:i<v.items.length) (hall:∀j,j<i->v.keys[j]?≠some key\/v.items.length<=j):zaB v key=(v.items[i],true):=by
 have hl:=(zf.1 hk).1;have h1:=zkc hk;have h2:zg0 key v.keys=i:=by
  rcases Nat.lt_or_ge (zg0 key v.keys) i with h3|h3
  ·have h4:=zgD (l:=v.keys) (key:=key) (by omega);rcases hall _ h3 with h5|h5
   ·exact absurd h4 h5
   ·omega
  ·omega
 unfold zaB;rw[if_pos ⟨h,by omega⟩,h2,zm hi]
theorem getJ_no {v:JV} {key:List UInt8} (hall:∀j,j<v.keys.length->v.keys[j]?≠some key\/v.items.length<=j):zaB v key=(jvZ,false):=by
 unfold zaB
 split
 ·rename_i h;have h4:=zgD h.2;rcases hall _ h.2 with h5|h5
  ·exact absurd h4 h5
  ·rw[zx h5]
 ·rfl
theorem zpO {b:Bool} {G:Gh} {I:Imm} {y:Value} (h:Den G I (.tup [.agg [.i .i64 0,.s [],.nil,.nil],.b b]) y):Den G I (zbd (jvZ,b)) y:=by
 unfold zbd jvZ;rw[zap,zaH];simp only[zaj,Den] at h ⊢;obtain⟨ys,h1,y0,l0,rfl,⟨zs,rfl,⟨z0,m0,rfl,q0,z1,m1,rfl,q1,z2,m2,rfl,q2,z3,m3,rfl,q3,q4⟩,hz⟩,h2⟩:=h;refine⟨_,h1,_,_,rfl,⟨_,rfl,⟨_,_,rfl,q0,_,_,rfl,q1,_,_,rfl,?_,_,_,rfl,?_,q4⟩,hz⟩,h2⟩
 ·exact⟨none,0,[],q2,⟨ze _,fun ad h=>by cases h⟩,rfl,by simp,by simp⟩
 ·exact⟨none,0,[],q3,⟨ze _,fun ad h=>by cases h⟩,rfl,by simp,by simp⟩
theorem jres2 {P:Program} [Tabs P] {f:FuncId} {args:List AV} {objs:List OB} {K:List OB->AV->Prop} (r':AV) (hc:zaf P f args objs (fun o r=>(∀G I y,Den G I r y->Den G I r' y)/\K o r')):zaf P f args objs K:=by
 intro C _ G I w hin hm ys hd;refine(hc C G I w hin hm ys hd).mono ?_;rintro e w' ⟨y,objs',r,G',I',he,⟨hr,hk⟩,h1,h2,h3,h4,hy⟩;exact⟨y,objs',r',G',I',he,hk,h1,h2,h3,h4,hr _ _ _ hy⟩
section
variable [Tabs Tryz.prog] {objs:List OB} {K:List OB->AV->Prop}
theorem zcc (v:JV) (key:List UInt8) (hv:JOk v) (hk:K objs (zbd (zaB v key))):zaf Tryz.prog 42 [.agg (zap v),.s key] objs K:=by
 obtain⟨l1,l2,l3,l4⟩:=hv.lens;refine jres2 (zbd (zaB v key)) ?_;refine za4 is_ref14_Get (by simp only[zao,AV.plain,zaN,Bool.and_self]) fun C _=>?_;have fin:∀{o:List OB},zaB v key=(jvZ,false)->((∀G I y,Den G I (.tup [.agg [.i .i64 0,.s [],.nil,.nil],.b false]) y->Den G I (zbd (zaB v key)) y)/\K objs (zbd (zaB v key))):=fun {o} h=>⟨fun G I y hy=>by rw[h];exact zpO hy,hk⟩;rw[c_ref14_Get];refine zaa fun Y hY=>?_;simp only[sxZ,z6,z7,z8,j4,j5,j6,j7,j8,j9,x6,x7,x8,x9,y4,y5,reduceCtorEq,↓reduceIte];have e0:OB.box 25 (zap v)=OB.box 25 [.i .i64 v.kind,.s v.text,.row v.keys.length (v.keys.map .s),.row v.items.length (zab v.items)]:=by rw[zad]
 rw[e0];subst hY;refine zaa fun Y hY=>?_
 by_cases c1:v.kind=7
 rotate_left
 ·simp only[sxZ,z6,z7,z8,j4,j5,j6,j7,j8,j9,x6,x7,x8,x9,y4,y5,reduceCtorEq,↓reduceIte,c1,decide_false,Bool.not_false];exact fin (o:=[]) (zgI c1)
 simp only[sxZ,z6,z7,z8,j4,j5,j6,j7,j8,j9,x6,x7,x8,x9,y4,y5,reduceCtorEq,↓reduceIte,c1,decide_true,Bool.not_true];subst hY;refine zaa fun Y hY=>?_;simp only[sxZ,z6,z7,z8,j4,j5,j6,j7,j8,j9,x6,x7,x8,x9,y4,y5,reduceCtorEq,↓reduceIte];refine zaK (fun n o tm=>∃i:Nat,i<=v.keys.length/\n=v.keys.length - i/\o=[OB.box 25 [.i .i64 7,.s v.text,.row v.keys.length (v.keys.map .s),.row v.items.length (zab v.items)],OB.box 25 [.i .i64 0,.s [],.nil,.nil]]/\(∀j,j<i->v.keys[j]?≠some key\/v.items.length<=j)/\tm.length=38/\tm[1]? = some (.s key)/\tm[2]? = some (.p 0 0)/\tm[4]? = some (.p 1 0)/\tm[13]? = some (.i .i64 (v.keys.length:Int))/\tm[14]? = some (.i .i64 (i:Int))) v.keys.length ⟨0,zd _,rfl,rfl,fun j h=>by omega,rfl,rfl,rfl,rfl,rfl,rfl⟩ ?_;rintro n _ tm ⟨i,hi,rfl,rfl,hall,hlen,t1,t2,t4,t13,t14⟩;refine zaa fun Z hZ=>?_
 by_cases hlt:(i:Int)<(v.keys.length:Int)
 ·have hi':i<v.keys.length:=by omega
  have kv:(v.keys.map AV.s)[i*1]? = some (.s v.keys[i]):=by rw[Nat.mul_one,qo,zm hi'];rfl
  have kv2:v.keys[i]? = some v.keys[i]:=zm hi';generalize v.keys[i]=x at kv kv2;simp only[sxZ,z6,z7,z8,j4,j5,j6,j7,j8,j9,x6,x7,x8,x9,y4,y5,reduceCtorEq,↓reduceIte,za,hlen,t1,t2,t4,t13,t14,hlt];subst hZ;refine zaa fun Z hZ=>?_;simp only[sxZ,z6,z7,z8,j4,j5,j6,j7,j8,j9,x6,x7,x8,x9,y4,y5,reduceCtorEq,↓reduceIte,za,hlen];subst hZ;refine zaa fun W hW=>?_;rw[za8];refine zaa fun Z hZ=>?_;simp only[sxZ,z6,z7,z8,j4,j5,j6,j7,j8,j9,x6,x7,x8,x9,y4,y5,reduceCtorEq,↓reduceIte,za,hlen,t14];subst hZ;refine zaa fun Z hZ=>?_;have next:(x=key->v.items.length<=i)->∀j,j<i+1->v.keys[j]?≠some key\/v.items.length<=j:=by
   intro h j hj
   by_cases e:j=i
   ·subst e
    by_cases ex:x=key
    ·exact .inr (h ex)
    ·left;rw[kv2];intro h;injection h with h;exact ex h
   ·exact hall j (by omega)
  by_cases c2:x=key
  ·by_cases c3:(i:Int)<v.items.length
   ·have hi2:i<v.items.length:=by omega
    have hg:=getJ_at c1 (by rw[kv2,c2]) hi2 hall;have jv:=zea hi2;have jvl:=zaI v.items;have hq:=zad v.items[i];rw[hq] at jv;simp only[sxZ,z6,z7,z8,j4,j5,j6,j7,j8,j9,x6,x7,x8,x9,y4,y5,reduceCtorEq,↓reduceIte,za,hlen,t1,t2,kv,qq,c2,c3,decide_true];refine⟨by omega,?_⟩;subst hZ;simp only[sxZ,z6,z7,z8,j4,j5,j6,j7,j8,j9,x6,x7,x8,x9,y4,y5,reduceCtorEq,↓reduceIte,za,hlen,t1,t2,t4,jv];refine⟨by omega,by omega,?_⟩;simp only[pub,AV.plain,zaS,zbA,sxZ,z6,z7,z8,j4,j5,j6,j7,j8,j9,x6,x7,x8,x9,y4,y5,reduceCtorEq,↓reduceIte];refine⟨fun G I y hy=>?_,hk⟩;rw[hg,zbd,hq];exact hy
   ·simp only[sxZ,z6,z7,z8,j4,j5,j6,j7,j8,j9,x6,x7,x8,x9,y4,y5,reduceCtorEq,↓reduceIte,za,hlen,t1,t2,kv,qq,c2,c3,decide_true,decide_false];refine⟨by omega,?_⟩;subst hZ;simp only[sxZ,z6,z7,z8,j4,j5,j6,j7,j8,j9,x6,x7,x8,x9,y4,y5,reduceCtorEq,↓reduceIte,za,hlen,t1,t2,t4];subst hW;simp only[sxZ,z6,z7,z8,j4,j5,j6,j7,j8,j9,x6,x7,x8,x9,y4,y5,reduceCtorEq,↓reduceIte,za,hlen,t1,t2,t4,t13,t14];exact⟨by omega,v.keys.length - (i+1),by omega,i+1,by omega,rfl,next (fun _=>by omega),rfl⟩
  ·simp only[sxZ,z6,z7,z8,j4,j5,j6,j7,j8,j9,x6,x7,x8,x9,y4,y5,reduceCtorEq,↓reduceIte,za,hlen,t1,t2,kv,qq,c2,decide_false];refine⟨by omega,?_⟩;subst hZ;simp only[sxZ,z6,z7,z8,j4,j5,j6,j7,j8,j9,x6,x7,x8,x9,y4,y5,reduceCtorEq,↓reduceIte,za,hlen,t1,t2,t4];subst hW;simp only[sxZ,z6,z7,z8,j4,j5,j6,j7,j8,j9,x6,x7,x8,x9,y4,y5,reduceCtorEq,↓reduceIte,za,hlen,t1,t2,t4,t13,t14];exact⟨by omega,v.keys.length - (i+1),by omega,i+1,by omega,rfl,next (fun h=>absurd h c2),rfl⟩
 simp only[sxZ,z6,z7,z8,j4,j5,j6,j7,j8,j9,x6,x7,x8,x9,y4,y5,reduceCtorEq,↓reduceIte,za,hlen,t1,t2,t4,t13,t14,hlt];subst hZ;subst hY;simp only[sxZ,z6,z7,z8,j4,j5,j6,j7,j8,j9,x6,x7,x8,x9,y4,y5,reduceCtorEq,↓reduceIte,za,hlen,t1,t2,t4,t13,t14,hlt];exact fin (o:=[]) (getJ_no fun j hj=>hall j (by omega))
theorem zo4 (ks:List (List UInt8)) (key:List UInt8) (hl:ks.length<=140737488351232) (hk:K objs (.i .i64 (if zg0 key ks<ks.length then (zg0 key ks:Int) else -1))):zaf Tryz.prog 77 [.row ks.length (ks.map .s),.s key] objs K:=by
 refine za4 is_slices_Index__string_string (by simp only[zao,AV.plain,zaS,Bool.and_self]) fun C _=>?_;rw[c_slices_Index__string_string];refine zaa fun Y hY=>?_;simp only[sxZ,z6,z7,z8,j4,j5,j6,j7,j8,j9,x6,x7,x8,x9,y4,y5,reduceCtorEq,↓reduceIte];subst hY;refine zaa fun Y hY=>?_;simp only[sxZ,z6,z7,z8,j4,j5,j6,j7,j8,j9,x6,x7,x8,x9,y4,y5,reduceCtorEq,↓reduceIte];refine zaK (fun n o tm=>∃i:Nat,i<=ks.length/\n=ks.length - i/\o=[]/\(∀j,j<i->ks[j]?≠some key)/\tm.length=19/\tm[0]? = some (.row ks.length (ks.map .s))/\tm[1]? = some (.s key)/\tm[7]? = some (.i .i64 (ks.length:Int))/\tm[8]? = some (.i .i64 (i:Int))) ks.length ⟨0,zd _,rfl,rfl,fun j h=>by omega,rfl,rfl,rfl,rfl,rfl⟩ ?_;rintro n _ tm ⟨i,hi,rfl,rfl,hall,hlen,t0,t1,t7,t8⟩;refine zaa fun Z hZ=>?_
 by_cases hlt:(i:Int)<(ks.length:Int)
 ·have hi':i<ks.length:=by omega
  have kv:(ks.map AV.s)[i*1]? = some (.s ks[i]):=by rw[Nat.mul_one,qo,zm hi'];rfl
  have kv2:ks[i]? = some ks[i]:=zm hi';generalize ks[i]=x at kv kv2;simp only[sxZ,z6,z7,z8,j4,j5,j6,j7,j8,j9,x6,x7,x8,x9,y4,y5,reduceCtorEq,↓reduceIte,za,hlen,t0,t1,t7,t8,hlt];subst hZ;refine zaa fun Z hZ=>?_;simp only[sxZ,z6,z7,z8,j4,j5,j6,j7,j8,j9,x6,x7,x8,x9,y4,y5,reduceCtorEq,↓reduceIte,za,hlen];subst hZ;refine zaa fun W hW=>?_;rw[za8];refine zaa fun Z hZ=>?_;simp only[sxZ,z6,z7,z8,j4,j5,j6,j7,j8,j9,x6,x7,x8,x9,y4,y5,reduceCtorEq,↓reduceIte,za,hlen,t8];subst hZ;refine zaa fun Z hZ=>?_
  by_cases c2:key=x
  ·have h2:zg0 key ks=i:=by
    have h1:=zkc (key:=key) (l:=ks) (i:=i) (by rw[kv2,c2]);rcases Nat.lt_or_ge (zg0 key ks) i with h3|h3
    ·exact absurd (zgD (by omega)) (hall _ h3)
    ·omega
   rw[if_pos (by omega),h2] at hk;simp only[sxZ,z6,z7,z8,j4,j5,j6,j7,j8,j9,x6,x7,x8,x9,y4,y5,reduceCtorEq,↓reduceIte,za,hlen,t0,t1,kv,qq,c2,decide_true];refine⟨by omega,?_⟩;subst hZ;simp only[sxZ,z6,z7,z8,j4,j5,j6,j7,j8,j9,x6,x7,x8,x9,y4,y5,reduceCtorEq,↓reduceIte,za,hlen];exact hk
  ·simp only[sxZ,z6,z7,z8,j4,j5,j6,j7,j8,j9,x6,x7,x8,x9,y4,y5,reduceCtorEq,↓reduceIte,za,hlen,t0,t1,kv,qq,c2,decide_false];refine⟨by omega,?_⟩;subst hZ;simp only[sxZ,z6,z7,z8,j4,j5,j6,j7,j8,j9,x6,x7,x8,x9,y4,y5,reduceCtorEq,↓reduceIte,za,hlen];subst hW;simp only[sxZ,z6,z7,z8,j4,j5,j6,j7,j8,j9,x6,x7,x8,x9,y4,y5,reduceCtorEq,↓reduceIte,za,hlen,t0,t1,t7,t8];refine⟨by omega,ks.length - (i+1),by omega,i+1,by omega,rfl,fun j hj=>?_,rfl⟩
   by_cases e:j=i
   ·subst e;rw[kv2];intro h;injection h with h;exact c2 h.symm
   ·exact hall j (by omega)
 simp only[sxZ,z6,z7,z8,j4,j5,j6,j7,j8,j9,x6,x7,x8,x9,y4,y5,reduceCtorEq,↓reduceIte,za,hlen,t0,t1,t7,t8,hlt];subst hZ;subst hY;simp only[sxZ,z6,z7,z8,j4,j5,j6,j7,j8,j9,x6,x7,x8,x9,y4,y5,reduceCtorEq,↓reduceIte,za,hlen,t0,t1,t7,t8,hlt];rw[if_neg (fun h=>hall _ (by omega) (zgD h))] at hk;exact hk
end
end
section
attribute [local irreducible] run
theorem zjA {P:Program} [Tabs P] {f:FuncId} {objs:List OB} {K:List OB->AV->Prop} (h:∀b,zaf P f [.zn b] objs K):zaf P f [.row 0 []] objs K:=by
 intro C _ G I w hin hm ys hd;have hd':=hd;simp only[zaj,Den] at hd';obtain⟨y,l,rfl,⟨a,c,cells,rfl,hq,hc⟩,hl⟩:=hd';refine h a.isNone C G I w hin hm _ ?_;simp only[zaj,Den];exact⟨_,_,rfl,⟨a,c,by simp,rfl,by simpa using hq.2⟩,hl⟩
theorem den_nil0 {G:Gh} {I:Imm} {y:Value} (h:Den G I .nil y):Den G I (.row 0 []) y:=by
 simp only[zaj,Den] at h ⊢;exact⟨none,0,[],h,⟨ze _,fun ad h=>by cases h⟩,rfl,by simp,by simp⟩
theorem zi5:∀(ks:List (List UInt8)) (o:List OB) (d:Nat),zft o (d+1) (ks.map AV.s)=some (ks.map AV.s)
 | [],o,d=>by simp only[qb,zft]
 | k::ks,o,d=>by simp only[zo,zft,pub,AV.plain,if_true,zi5 ks o d]
theorem zn1:∀(l:List JV) (o:List OB) (d:Nat),zft o (d+1) (zab l)=some (zab l)
 | [],o,d=>by rw[zaH];simp only[zft]
 | v::l,o,d=>by
  rw[zaO,zad];simp only[qy,List.nil_append,zft,pub,AV.plain,zaS,zbA,if_true,zn1 l o d]
theorem jc_back {l:List JV} {i:Nat} (hi:i<l.length):List.take (i*4) (zab l)++zap l[i]++List.drop (i*4+4) (zab l)=zab l:=by
 rw[<-zea hi,<-List.drop_drop,List.append_assoc,jt,jt]
theorem den_it0 {a b c:AV} {G:Gh} {I:Imm} {y:Value} (h:Den G I (.agg [a,b,c,.nil]) y):Den G I (.agg [a,b,c,.row 0 []]) y:=by
 simp only[Den,zaj] at h ⊢;obtain⟨zs,rfl,⟨z0,m0,rfl,q0,z1,m1,rfl,q1,z2,m2,rfl,q2,z3,m3,rfl,q3,q4⟩,hz⟩:=h;exact⟨_,rfl,⟨_,_,rfl,q0,_,_,rfl,q1,_,_,rfl,q2,_,_,rfl,⟨none,0,[],q3,⟨ze _,fun ad h=>by cases h⟩,rfl,by simp,by simp⟩,q4⟩,hz⟩
section
variable [Tabs Tryz.prog] {objs:List OB} {K:List OB->AV->Prop}
theorem cloneS_k (ks:List (List UInt8)) (hl:ks.length<=1099511627780) (hk:K objs (.row ks.length (ks.map .s))):zaf Tryz.prog 98 [.row ks.length (ks.map .s)] objs K:=by
 cases ks with
 | nil=>
  refine zjA fun b=>?_;refine jres2 (.row 0 []) ?_;refine za4 is_slices_Clone__string_string rfl fun C _=>?_;rw[c_slices_Clone__string_string]
  cases b with
  | true=>
   simp only[sxZ,z6,z7,z8,j4,j5,j6,j7,j8,j9,x6,x7,x8,x9,y4,y5,reduceCtorEq,↓reduceIte,Bool.false_eq_true];exact⟨fun G I y hy=>den_nil0 hy,hk⟩
  | false=>
   simp only[sxZ,z6,z7,z8,j4,j5,j6,j7,j8,j9,x6,x7,x8,x9,y4,y5,reduceCtorEq,↓reduceIte,Bool.false_eq_true];exact⟨by decide,fun G I y hy=>hy,hk⟩
 | cons k ks=>
  refine za4 is_slices_Clone__string_string (by simp only[zao,AV.plain,zaS,Bool.and_self]) fun C _=>?_;rw[c_slices_Clone__string_string];have hp:∀(o:List OB) (d:Nat),zft o (d+1) (ks.map AV.s)=some (ks.map AV.s):=fun o d=>zi5 ks o d;simp only[zo,sxZ,z6,z7,z8,j4,j5,j6,j7,j8,j9,x6,x7,x8,x9,y4,y5,reduceCtorEq,↓reduceIte,hp,qq];simp only[zu] at hl;refine⟨by omega,⟨by omega,by omega,by omega⟩,?_⟩;rw[Nat.zero_add];exact hk
theorem cloneV_k (v:JV) (l:List JV) (hl:(v::l).length<=1099511627776) (hk:K (objs++[.orow 25 4 1 (v::l).length (zab (v::l))]) (.orow objs.length 1)):zaf Tryz.prog 99 [.row (v::l).length (zab (v::l))] objs K:=by
 have hjl:=zaI (v::l);have e0:zab (v::l)=.i .i64 v.kind::(.s v.text::.row v.keys.length (v.keys.map .s)::.row v.items.length (zab v.items)::zab l):=by rw[zaO,zad];rfl
 generalize hX:AV.s v.text::.row v.keys.length (v.keys.map .s)::.row v.items.length (zab v.items)::zab l=X at e0;rw[e0] at hk hjl ⊢;generalize (v::l).length=n at hk hl hjl ⊢;refine zcu is_slices_Clone__api_Value_api_Value fun C _=>?_;rw[c_slices_Clone__api_Value_api_Value];simp only[sxZ,z6,z7,z8,j4,j5,j6,j7,j8,j9,x6,x7,x8,x9,y4,y5,reduceCtorEq,↓reduceIte];refine⟨by omega,?_⟩;simp only[sxZ,z6,z7,z8,j4,j5,j6,j7,j8,j9,x6,x7,x8,x9,y4,y5,reduceCtorEq,↓reduceIte,gn1,sn1];rw[Nat.zero_add];exact⟨⟨by simp only[zu] at hjl;omega,by omega,by omega⟩,hk⟩
theorem zpZ (h1:K objs .nil) (h2:K (objs++[.orow 25 4 1 0 []]) (.orow objs.length 1)):zaf Tryz.prog 99 [.row 0 []] objs K:=by
 refine zjA fun b=>?_;refine zcu is_slices_Clone__api_Value_api_Value fun C _=>?_;rw[c_slices_Clone__api_Value_api_Value]
 cases b with
 | true=>
  simp only[sxZ,z6,z7,z8,j4,j5,j6,j7,j8,j9,x6,x7,x8,x9,y4,y5,reduceCtorEq,↓reduceIte,Bool.false_eq_true];exact h1
 | false=>
  simp only[sxZ,z6,z7,z8,j4,j5,j6,j7,j8,j9,x6,x7,x8,x9,y4,y5,reduceCtorEq,↓reduceIte,Bool.false_eq_true];refine⟨by decide,?_⟩;simp only[sxZ,z6,z7,z8,j4,j5,j6,j7,j8,j9,x6,x7,x8,x9,y4,y5,reduceCtorEq,↓reduceIte,gn1,sn1];exact h2
theorem zp0:∀(m:Nat) (v:JV),v.size<m->JBd v->∀{objs:List OB} {K:List OB->AV->Prop},K objs (.agg (zap v))->zaf Tryz.prog 78 [.agg (zap v)] objs K:=by
 intro m
 induction m with
 | zero=>intro v h;omega
 | succ m ih=>
  intro v hm hv objs K hk;obtain⟨l1,l2⟩:=hv.lens;refine jres2 (.agg (zap v)) ?_;refine za4 is_jsondoc_clone (by simp only[zao,AV.plain,zaN,Bool.and_self]) fun C _=>?_;rw[c_jsondoc_clone];refine zaa fun Y hY=>?_;simp only[sxZ,z6,z7,z8,j4,j5,j6,j7,j8,j9,x6,x7,x8,x9,y4,y5,reduceCtorEq,↓reduceIte];have e0:OB.box 25 (zap v)=OB.box 25 [.i .i64 v.kind,.s v.text,.row v.keys.length (v.keys.map .s),.row v.items.length (zab v.items)]:=by rw[zad]
  rw[e0];subst hY;refine zaa fun Y hY=>?_;simp only[sxZ,z6,z7,z8,j4,j5,j6,j7,j8,j9,x6,x7,x8,x9,y4,y5,reduceCtorEq,↓reduceIte];refine zae (cloneS_k v.keys l1 ?_);simp only[sxZ,z6,z7,z8,j4,j5,j6,j7,j8,j9,x6,x7,x8,x9,y4,y5,reduceCtorEq,↓reduceIte];subst hY;refine zaa fun Y hY=>?_;have tailA:∀tm:List AV,tm.length=30->tm[1]? = some (.p 0 0)->tm[2]? = some (.p 1 0)->run Tryz.prog C [.code Y] [OB.box 25 [.i .i64 v.kind,.s v.text,.row v.keys.length (v.keys.map .s),.orow 2 1],OB.box 25 [.i .i64 0,.s [],.nil,.nil],.orow 25 4 1 v.items.length (zab v.items)] tm (endK [.celln 2 4] fun r=>(∀G I y,Den G I r y->Den G I (.agg (zap v)) y)/\K objs (.agg (zap v))):=by
   intro tm hlen t1 t2;subst hY;refine zaa fun Y hY=>?_;simp only[sxZ,z6,z7,z8,j4,j5,j6,j7,j8,j9,x6,x7,x8,x9,y4,y5,reduceCtorEq,↓reduceIte,za,hlen,t1,t2];refine zaK (fun n o tm=>∃i:Nat,i<=v.items.length/\n=v.items.length - i/\o=[OB.box 25 [.i .i64 v.kind,.s v.text,.row v.keys.length (v.keys.map .s),.orow 2 1],OB.box 25 [.i .i64 0,.s [],.nil,.nil],.orow 25 4 1 v.items.length (zab v.items)]/\tm.length=30/\tm[1]? = some (.p 0 0)/\tm[2]? = some (.p 1 0)/\tm[14]? = some (.i .i64 (v.items.length:Int))/\tm[15]? = some (.i .i64 (i:Int))) v.items.length ⟨0,zd _,rfl,rfl,?_⟩ ?_
   ·simp only[sxZ,z6,z7,z8,j4,j5,j6,j7,j8,j9,x6,x7,x8,x9,y4,y5,reduceCtorEq,↓reduceIte,zh,za,hlen,t1,t2,ye,and_self]
   clear hlen t1 t2;rintro n _ tm ⟨i,hi,rfl,rfl,hlen,t1,t2,t14,t15⟩;refine zaa fun Z hZ=>?_
   by_cases hlt:(i:Int)<(v.items.length:Int)
   ·have hi':i<v.items.length:=by omega
    have hjc:=zea hi';have hjl:=zaI v.items;have hit:=hv.its hi';have hsz:=ziO hi';have hcall:=fun {objs:List OB} {K:List OB->AV->Prop} (h:K objs (.agg (zap v.items[i])))=>ih v.items[i] (by omega) hit (objs:=objs) (K:=K) h;simp only[sxZ,z6,z7,z8,j4,j5,j6,j7,j8,j9,x6,x7,x8,x9,y4,y5,reduceCtorEq,↓reduceIte,za,hlen,t1,t2,t14,t15,hlt];subst hZ;refine zaa fun Z hZ=>?_;simp only[sxZ,z6,z7,z8,j4,j5,j6,j7,j8,j9,x6,x7,x8,x9,y4,y5,reduceCtorEq,↓reduceIte,za,hlen];subst hZ;refine zaa fun W hW=>?_;rw[za8];refine zaa fun Z hZ=>?_;simp only[sxZ,z6,z7,z8,j4,j5,j6,j7,j8,j9,x6,x7,x8,x9,y4,y5,reduceCtorEq,↓reduceIte,za,hlen,t15];subst hZ;have hbk:=jc_back hi';have hcl:=zdZ v.items[i];simp only[sxZ,z6,z7,z8,j4,j5,j6,j7,j8,j9,x6,x7,x8,x9,y4,y5,reduceCtorEq,↓reduceIte,za,hlen,t1,hjc];refine⟨⟨by omega,by omega⟩,by omega,?_⟩;refine zhr (hcall ⟨rfl,rfl⟩) ?_;simp only[sxZ,z6,z7,z8,j4,j5,j6,j7,j8,j9,x6,x7,x8,x9,y4,y5,reduceCtorEq,↓reduceIte,za,hlen,t1,t2];refine⟨by omega,?_⟩;simp only[sxZ,z6,z7,z8,j4,j5,j6,j7,j8,j9,x6,x7,x8,x9,y4,y5,reduceCtorEq,↓reduceIte,za,hlen,t1,t2,hbk,hcl];refine⟨by omega,?_⟩;subst hW;simp only[sxZ,z6,z7,z8,j4,j5,j6,j7,j8,j9,x6,x7,x8,x9,y4,y5,reduceCtorEq,↓reduceIte,za,hlen,t1,t2,t14,t15];exact⟨by omega,v.items.length - (i+1),by omega,i+1,by omega,rfl,rfl⟩
   simp only[sxZ,z6,z7,z8,j4,j5,j6,j7,j8,j9,x6,x7,x8,x9,y4,y5,reduceCtorEq,↓reduceIte,za,hlen,t1,t2,t14,t15,hlt];subst hZ;subst hY;simp only[sxZ,z6,z7,z8,j4,j5,j6,j7,j8,j9,x6,x7,x8,x9,y4,y5,reduceCtorEq,↓reduceIte,za,hlen,t1,t2,t14,t15,hlt];simp only[zaS,zn1,pub,sxZ,z6,z7,z8,j4,j5,j6,j7,j8,j9,x6,x7,x8,x9,y4,y5,reduceCtorEq,↓reduceIte];refine⟨fun G I y hy=>?_,hk⟩;rw[zad];exact hy
  simp only[sxZ,z6,z7,z8,j4,j5,j6,j7,j8,j9,x6,x7,x8,x9,y4,y5,reduceCtorEq,↓reduceIte]
  cases hits:v.items with
  | nil=>
   rw[hits] at tailA;rw[zaH] at tailA ⊢;refine zpZ ?_ ?_
   ·simp only[sxZ,z6,z7,z8,j4,j5,j6,j7,j8,j9,x6,x7,x8,x9,y4,y5,reduceCtorEq,↓reduceIte];subst hY;refine zaa fun Y hY=>?_;simp only[sxZ,z6,z7,z8,j4,j5,j6,j7,j8,j9,x6,x7,x8,x9,y4,y5,reduceCtorEq,↓reduceIte];refine zaK (fun n o tm=>n=0/\o=[OB.box 25 [.i .i64 v.kind,.s v.text,.row v.keys.length (v.keys.map .s),.nil],OB.box 25 [.i .i64 0,.s [],.nil,.nil]]/\tm.length=30/\tm[1]? = some (.p 0 0)/\tm[2]? = some (.p 1 0)/\tm[14]? = some (.i .i64 0)/\tm[15]? = some (.i .i64 0)) 0 ⟨rfl,rfl,rfl,rfl,rfl,rfl,rfl⟩ ?_;rintro n _ tm ⟨rfl,rfl,hlen,t1,t2,t14,t15⟩;refine zaa fun Z hZ=>?_;simp only[sxZ,z6,z7,z8,j4,j5,j6,j7,j8,j9,x6,x7,x8,x9,y4,y5,reduceCtorEq,↓reduceIte,za,hlen,t1,t2,t14,t15];subst hZ;subst hY;simp only[sxZ,z6,z7,z8,j4,j5,j6,j7,j8,j9,x6,x7,x8,x9,y4,y5,reduceCtorEq,↓reduceIte,za,hlen,t1,t2,t14,t15];simp only[zaS,pub,sxZ,z6,z7,z8,j4,j5,j6,j7,j8,j9,x6,x7,x8,x9,y4,y5,reduceCtorEq,↓reduceIte];refine⟨fun G I y hy=>?_,hk⟩;rw[zad,hits,zaH];exact den_it0 hy
   ·simp only[sxZ,z6,z7,z8,j4,j5,j6,j7,j8,j9,x6,x7,x8,x9,y4,y5,reduceCtorEq,↓reduceIte];exact tailA _ rfl rfl rfl
  | cons a l=>
   rw[hits] at tailA;refine zae (cloneV_k a l (by rw[<-hits];exact l2) ?_);simp only[sxZ,z6,z7,z8,j4,j5,j6,j7,j8,j9,x6,x7,x8,x9,y4,y5,reduceCtorEq,↓reduceIte];exact tailA _ rfl rfl rfl
end
end
section
attribute [local irreducible] run
end
section
attribute [local irreducible] run
structure WfM (σ:Ms) (a:Nat):Prop where
 top:(σ.st=1\/σ.st=2\/σ.st=3\/σ.st=4\/σ.st=5)->σ.stk≠[]
 obj:(σ.st=2\/σ.st=3\/σ.st=4)->∀f r,σ.stk=f::r->f.obj=true
 len:∀f∈σ.stk,f.ks.length<=a/\f.its.length<=a
 deep:σ.stk.length<=64
 few:σ.nodes<=20000
end
section
attribute [local irreducible] run
def tkC (t:Tk):List AV:=[.i .i64 t.1,.s t.2.1,.i .i64 t.2.2]
def ziG (t:Tk):AV:=.agg (tkC t)
def SlO (E sz n:Nat) (xs:List AV) (X:AV) (L:List (Nat×OB)):Prop :=
 (n=0/\xs=[]/\X=.nil/\L=[])\/∃b g,X=.orow b g/\L=[(b,.orow E sz g n xs)]
section
variable [Tabs Tryz.prog] {objs:List OB} {K:List OB->AV->Prop}
end
end
section
attribute [local irreducible] run
section
variable [Tabs Tryz.prog] {objs:List OB} {K:List OB->AV->Prop}
end
end
section
attribute [local irreducible] run
theorem zaV.set0 {α:Type} {B:List (Nat×α)} {o:List α} {i:Nat} {x:α} (y:α) (h:zaV ((i,x)::B) o):zaV ((i,y)::B) (o.set i y):=zaV.set (A:=[]) y h
theorem zaV.set1 {α:Type} {a:Nat×α} {B:List (Nat×α)} {o:List α} {i:Nat} {x:α} (y:α) (h:zaV (a::(i,x)::B) o):zaV (a::(i,y)::B) (o.set i y):=zaV.set (A:=[a]) y h
theorem zaV.set2 {α:Type} {a b:Nat×α} {B:List (Nat×α)} {o:List α} {i:Nat} {x:α} (y:α) (h:zaV (a::b::(i,x)::B) o):zaV (a::b::(i,y)::B) (o.set i y):=zaV.set (A:=[a,b]) y h
theorem zaV.ne {α:Type} {a b:Nat×α} {A B C:List (Nat×α)} {o:List α} (h:zaV (A++a::(B++b::C)) o):a.1≠b.1:=by
 have:=h.1;simp only[List.map_append,zo] at this;rw[List.nodup_append] at this;obtain⟨_,h2,_⟩:=this;rw[xy] at h2;intro e;exact h2.1 (by rw[e];simp)
theorem sub_self {b g n:Nat} {xs:List AV}:zb5 b g n xs (.orow b g)=.row n xs:=by simp[zb5]
section
variable {P:Program} [Tabs P] {f:FuncId} {o:List OB} {K:List OB->AV->Prop} {p rr g st' nodes E sz n E' g' n' sz':Nat} {st k:Int} {txt:List UInt8} {xs cs ys:List AV} {X Y r0 r1 r2 r3:AV} {Lx L:List (Nat×OB)}
end
section
variable [Tabs Tryz.prog] {objs:List OB} {K:List OB->AV->Prop}
end
end
section
attribute [local irreducible] run
def zba (t:Tk):OB:=.box 56 (tkC t)
section
variable [Tabs Tryz.prog] [Pow Tryz.prog] {objs:List OB} {K:List OB->AV->Prop} {M:List (Nat×OB)}
end
end
section
attribute [local irreducible] run
theorem WfM.mono {σ:Ms} {a b:Nat} (h:WfM σ a) (hab:a<=b):WfM σ b:=⟨h.top,h.obj,fun f hf=>by have:=h.len f hf;omega,h.deep,h.few⟩
theorem jres {P:Program} [Tabs P] {f:FuncId} {args:List AV} {objs:List OB} {K:List OB->AV->Prop} (r':AV) (hc:zaf P f args objs (fun o r=>(∀G I y,Den G I r y->Den G I r' y)/\K o r')):zaf P f args objs K:=by
 intro C _ G I w hin hm ys hd;refine(hc C G I w hin hm ys hd).mono ?_;rintro e w' ⟨y,objs',r,G',I',he,⟨hr,hk⟩,h1,h2,h3,h4,hy⟩;exact⟨y,objs',r',G',I',he,hk,h1,h2,h3,h4,hr _ _ _ hy⟩
def zvC:List AV:=[.i .i64 0,.s [],.nil,.nil]
def zh8 (R:JV×Int×Int):AV:=.tup [.agg (zap R.1),.i .i64 R.2.1,.i .i64 R.2.2]
theorem den_zv {a e:Int} {G:Gh} {I:Imm} {y:Value} (h:Den G I (.tup [.agg zvC,.i .i64 a,.i .i64 e]) y):Den G I (zh8 (jvZ,a,e)) y:=by
 unfold zh8 jvZ;rw[zap,zaH];unfold zvC at h;simp only[zaj,Den] at h ⊢;obtain⟨ys,h1,y0,l0,rfl,⟨zs,rfl,⟨z0,m0,rfl,q0,z1,m1,rfl,q1,z2,m2,rfl,q2,z3,m3,rfl,q3,q4⟩,hz⟩,h2⟩:=h;refine⟨_,h1,_,_,rfl,⟨_,rfl,⟨_,_,rfl,q0,_,_,rfl,q1,_,_,rfl,?_,_,_,rfl,?_,q4⟩,hz⟩,h2⟩
 ·exact⟨none,0,[],q2,⟨ze _,fun ad h=>by cases h⟩,rfl,by simp,by simp⟩
 ·exact⟨none,0,[],q3,⟨ze _,fun ad h=>by cases h⟩,rfl,by simp,by simp⟩
section
variable [Tabs Tryz.prog] [Pow Tryz.prog] [Utf Tryz.prog] {objs:List OB} {K:List OB->AV->Prop}
end
end
section
attribute [local irreducible] run
section
variable [Tabs Tryz.prog] [Pow Tryz.prog] [Utf Tryz.prog] {objs:List OB} {K:List OB->AV->Prop}
end
end
section
attribute [local irreducible] run
section
variable [Tabs Tryz.prog] {objs:List OB} {K:List OB->AV->Prop}
theorem zlz (v:JV) (key:List UInt8) (hv:JOk v) (hb:JBd v) (hk:K objs (zbd (zaB v key))):zaf Tryz.prog 40 [.agg (zap v),.s key] objs K:=by
 obtain⟨l1,l2,l3,l4⟩:=hv.lens;refine jres2 (zbd (zaB v key)) ?_;refine za4 is_jsondoc_Get (by simp only[zao,AV.plain,zaN,Bool.and_self]) fun C _=>?_;have fin:∀{o:List OB},zaB v key=(jvZ,false)->((∀G I y,Den G I (.tup [.agg [.i .i64 0,.s [],.nil,.nil],.b false]) y->Den G I (zbd (zaB v key)) y)/\K objs (zbd (zaB v key))):=fun {o} h=>⟨fun G I y hy=>by rw[h];exact zpO hy,hk⟩;rw[c_jsondoc_Get];refine zaa fun Y hY=>?_;simp only[sxZ,z6,z7,z8,j4,j5,j6,j7,j8,j9,x6,x7,x8,x9,y4,y5,reduceCtorEq,↓reduceIte];have e0:OB.box 25 (zap v)=OB.box 25 [.i .i64 v.kind,.s v.text,.row v.keys.length (v.keys.map .s),.row v.items.length (zab v.items)]:=by rw[zad]
 rw[e0];subst hY;refine zaa fun Y hY=>?_
 by_cases c1:v.kind=7
 rotate_left
 ·simp only[sxZ,z6,z7,z8,j4,j5,j6,j7,j8,j9,x6,x7,x8,x9,y4,y5,reduceCtorEq,↓reduceIte,c1,decide_false,Bool.not_false];exact fin (o:=[]) (zgI c1)
 simp only[sxZ,z6,z7,z8,j4,j5,j6,j7,j8,j9,x6,x7,x8,x9,y4,y5,reduceCtorEq,↓reduceIte,c1,decide_true,Bool.not_true];subst hY;refine zaa fun Y hY=>?_;simp only[sxZ,z6,z7,z8,j4,j5,j6,j7,j8,j9,x6,x7,x8,x9,y4,y5,reduceCtorEq,↓reduceIte];refine zae (zo4 v.keys key l1 ?_);have hg:zaB v key=if zg0 key v.keys<v.keys.length then (match v.items[zg0 key v.keys]? with|some x=>(x,true)|none=>(jvZ,false)) else (jvZ,false):=by
  unfold zaB
  by_cases c:zg0 key v.keys<v.keys.length
  ·rw[if_pos ⟨c1,c⟩,if_pos c];try (cases v.items[zg0 key v.keys]?<;>rfl)
  ·rw[if_neg (fun h=>c h.2),if_neg c]
 generalize zg0 key v.keys=i at hg ⊢;simp only[sxZ,z6,z7,z8,j4,j5,j6,j7,j8,j9,x6,x7,x8,x9,y4,y5,reduceCtorEq,↓reduceIte];subst hY;refine zaa fun Y hY=>?_
 by_cases c2:i<v.keys.length
 rotate_left
 ·rw[if_neg c2] at hg;simp only[if_neg c2,sxZ,z6,z7,z8,j4,j5,j6,j7,j8,j9,x6,x7,x8,x9,y4,y5,reduceCtorEq,↓reduceIte,decide_true];exact fin (o:=[]) hg
 have c2':¬(i:Int)<0:=by omega
 simp only[if_pos c2] at hg ⊢
 by_cases c3:(v.items.length:Int)<=i
 ·have:v.items[i]? = none:=zx (by omega);rw[this] at hg;simp only[sxZ,z6,z7,z8,j4,j5,j6,j7,j8,j9,x6,x7,x8,x9,y4,y5,reduceCtorEq,↓reduceIte,c2',c3,decide_true];exact fin (o:=[]) hg
 have hi:i<v.items.length:=by omega
 rw[zm hi] at hg;have jv:=zea hi;have jvl:=zaI v.items;have hbi:=hb.its hi;have hq:=zad v.items[i];have hcl:=fun {objs:List OB} {K:List OB->AV->Prop} (h:K objs (.agg (zap v.items[i])))=>zp0 (v.items[i].size+1) v.items[i] (Nat.lt_succ_self _) hbi (objs:=objs) (K:=K) h;simp only[sxZ,z6,z7,z8,j4,j5,j6,j7,j8,j9,x6,x7,x8,x9,y4,y5,reduceCtorEq,↓reduceIte,c2',c3,decide_true];subst hY;simp only[sxZ,z6,z7,z8,j4,j5,j6,j7,j8,j9,x6,x7,x8,x9,y4,y5,reduceCtorEq,↓reduceIte,jv];refine⟨⟨by omega,by omega,by omega⟩,by omega,?_⟩;refine zae (hcl ?_);rw[hq];simp only[sxZ,z6,z7,z8,j4,j5,j6,j7,j8,j9,x6,x7,x8,x9,y4,y5,reduceCtorEq,↓reduceIte];simp only[pub,AV.plain,zaS,zbA,sxZ,z6,z7,z8,j4,j5,j6,j7,j8,j9,x6,x7,x8,x9,y4,y5,reduceCtorEq,↓reduceIte];refine⟨fun G I y hy=>?_,hk⟩;rw[hg,zbd,hq];exact hy
end
section
variable [Tabs Tryz.prog] [Pow Tryz.prog] [Utf Tryz.prog]
end
end
section
attribute [local irreducible] run
structure GB (s:List UInt8) (ρ:Rs):Prop where
 p0:0<=ρ.pos
 p1:ρ.pos<=s.length
 n0:ρ.fail=0->(ρ.nodes:Int)<=ρ.pos
 n1:(ρ.nodes:Int)<=s.length+1
def GT (ρ:Rs) (t:Tk):Prop:=ρ.fail=0->t.1=1\/(ρ.nodes:Int)+1<=ρ.pos
theorem zeo {s:List UInt8} {ρ:Rs} (h:GB s ρ) (a e:Int) (he:¬e=0):GB s (za3 ρ a e):=by
 unfold za3
 split
 ·exact⟨h.p0,h.p1,fun h'=>absurd h' he,h.n1⟩
 ·exact h
theorem zbC {s:List UInt8} {ρ:Rs} (h:GB s ρ):GB s (zag s ρ).2/\GT (zag s ρ).2 (zag s ρ).1:=by
 unfold zag
 by_cases c1:ρ.fail=0
 ·rw[if_neg (fun h=>h c1)]
  by_cases c2:(zbz s ρ.pos).2.2=0
  ·rw[if_neg (fun h=>h c2)];obtain⟨n1,n2,n3,n4⟩:=next_lt h.p0 c2;have hn:=h.n0 c1;refine⟨⟨by have:=h.p0;show 0<=(zbz s ρ.pos).2.1;omega,n2,fun _=>by show (ρ.nodes:Int)<=(zbz s ρ.pos).2.1;omega,h.n1⟩,fun _=>?_⟩
   by_cases c3:(zbz s ρ.pos).1.1=1
   ·exact .inl c3
   ·have:=n3 c3;exact .inr (by show (ρ.nodes:Int)+1<=(zbz s ρ.pos).2.1;omega)
  ·rw[if_pos c2];refine⟨zeo h _ _ c2,fun hf=>?_⟩;exfalso;unfold za3 at hf;rw[if_pos c1] at hf;exact c2 hf
 ·rw[if_pos c1];exact⟨h,fun hf=>absurd hf c1⟩
theorem zfg {s:List UInt8} {ρ:Rs} (h:GB s ρ) (t:Tk) (c:UInt8):GB s (zbb ρ t c):=by
 unfold zbb
 split
 ·exact zeo h _ _ (by decide)
 ·exact h
theorem gb_key {s:List UInt8} {ρ:Rs} (h:GB s ρ) (t:Tk) (ks:List (List UInt8)):GB s (zkU ρ t ks):=by
 unfold zkU;have h1:GB s (if ¬t.1=3 then za3 ρ t.2.2 140 else ρ):=by
  split
  ·exact zeo h _ _ (by decide)
  ·exact h
 dsimp only
 split
 ·exact zeo h1 _ _ (by decide)
 ·exact h1
def GV (s:List UInt8) (val:Rs->Tk->JV×Rs):Prop:=∀ρ t,GB s ρ->GT ρ t->GB s (val ρ t).2
theorem zpg {s:List UInt8} {val:Rs->Tk->JV×Rs} (hv:GV s val):∀(n:Nat) (ρ:Rs) (t:Tk) (acc:List JV),GB s ρ->GT ρ t->GB s (zcS s val n ρ t acc).2
 | 0,ρ,t,acc,h,_=>h
 | n+1,ρ,t,acc,h,ht=>by
  rw[zcS]
  split
  ·exact h
  dsimp only;have h1:=hv ρ t h ht;generalize val ρ t=a at h1 ⊢;have h2:=(zbC h1).1;generalize zag s a.2=b at h2 ⊢
  split
  ·exact h2
  ·obtain⟨h3,h4⟩:=zbC (zfg h2 b.1 44);exact zpg hv n _ _ _ h3 h4
theorem zpf {s:List UInt8} {val:Rs->Tk->JV×Rs} (hv:GV s val):∀(n:Nat) (ρ:Rs) (t:Tk) (ks:List (List UInt8)) (its:List JV),GB s ρ->GB s (zb6 s val n ρ t ks its).2
 | 0,ρ,t,ks,its,h=>h
 | n+1,ρ,t,ks,its,h=>by
  rw[zb6]
  split
  ·exact h
  dsimp only;have h1:=(zbC (gb_key h t ks)).1;generalize zag s (zkU ρ t ks)=a at h1 ⊢;obtain⟨h2,h2'⟩:=zbC (zfg h1 a.1 58);generalize zag s (zbb a.2 a.1 58)=b at h2 h2' ⊢;have h3:=hv _ _ h2 h2';generalize val b.2 b.1=v at h3 ⊢;have h4:=(zbC h3).1;generalize zag s v.2=c at h4 ⊢
  split
  ·exact h4
  ·have h5:=(zbC (zfg h4 c.1 44)).1;exact zpf hv n _ _ _ _ h5
theorem zlE {s:List UInt8} {ρ:Rs} {t:Tk} (h:GB s ρ) (ht:GT ρ t) (h1:¬t.1=1) (hf:ρ.fail=0):GB s (zaZ ρ t):=by
 have hn:=(ht hf).resolve_left h1;have hp1:=h.p1;unfold zaZ;dsimp only;have h2:∃fa wa,(if t.1=4/\¬(zc3 t.2.1).1=0 then za3 ρ t.2.2 (zc3 t.2.1).1 else ρ)=⟨ρ.pos,ρ.nodes,fa,wa⟩:=by
  split
  ·unfold za3;rw[if_pos hf];exact⟨_,_,rfl⟩
  ·exact⟨_,_,rfl⟩
 obtain⟨fa,wa,h2⟩:=h2;rw[h2];have h3:∀f w,GB s ⟨ρ.pos,ρ.nodes+1,f,w⟩:=fun f w=>⟨h.p0,h.p1,fun _=>by show ((ρ.nodes+1:Nat):Int)<=ρ.pos;omega,by show ((ρ.nodes+1:Nat):Int)<=_;omega⟩
 split
 ·exact zeo (h3 _ _) _ _ (by decide)
 ·exact h3 _ _
theorem gb_arr {s:List UInt8} {val:Rs->Tk->JV×Rs} (hv:GV s val) {ρ:Rs} (h:GB s ρ):GB s (zgV s val ρ).2:=by
 unfold zgV;dsimp only;obtain⟨h1,h2⟩:=zbC h
 split
 ·exact h1
 ·exact zpg hv _ _ _ _ h1 h2
theorem gb_obj {s:List UInt8} {val:Rs->Tk->JV×Rs} (hv:GV s val) {ρ:Rs} (h:GB s ρ):GB s (zgY s val ρ).2:=by
 unfold zgY;dsimp only;have h1:=(zbC h).1
 split
 ·exact h1
 ·exact zpf hv _ _ _ _ _ h1
theorem vk_end {t:Tk} (h:¬vkE t=0):¬t.1=1:=by
 intro h1
 apply h
 have e1:∀c,isP t c=false:=fun c=>by simp[isP,h1]
 simp[vkE,h1,e1]
theorem zfV (s:List UInt8):∀(f:Nat) (d:Nat),GV s (fun ρ t=>zav s f ρ t d)
 | 0,d=>fun ρ t h _=>h
 | f+1,d=>fun ρ t h ht=>by
  dsimp only;rw[zav]
  by_cases c0:ρ.fail=0
  ·rw[if_neg (fun h=>h c0)]
   split
   ·exact zeo h _ _ (by decide)
   rename_i c1;have hc:=zlE h ht (vk_end c1) c0
   split
   ·exact zeo h _ _ (by decide)
   split
   ·exact hc
   split
   ·exact gb_arr (zfV s f (d+1)) hc
   split
   ·exact gb_obj (zfV s f (d+1)) hc
   split
   ·exact hc
   ·exact hc
  ·rw[if_pos c0];exact h
end
section
attribute [local irreducible] run
theorem zfT:∀{a b:List JV},zdf a->zdf b->zdf (a++b)
 | [],b,_,hb=>hb
 | v::l,b,ha,hb=>by
  rw[zdf] at ha;rw[qy,zdf];exact⟨ha.1,zfT ha.2 hb⟩
theorem zcl (k:Int) (t:List UInt8):JBd (.mk k t [] []):=by rw[JBd];exact⟨by simp,by simp,by rw[zdf];trivial⟩
def BdV (val:Rs->Tk->JV×Rs):Prop:=∀ρ t,JBd (val ρ t).1
theorem zh5 {s:List UInt8} {val:Rs->Tk->JV×Rs} (hv:BdV val):∀(n:Nat) (ρ:Rs) (t:Tk) (acc:List JV),zdf acc->zdf (zcS s val n ρ t acc).1/\(zcS s val n ρ t acc).1.length<=acc.length+n
 | 0,ρ,t,acc,h=>⟨h,ze acc.length⟩
 | n+1,ρ,t,acc,h=>by
  rw[zcS]
  split
  ·exact⟨h,by show acc.length<=_;omega⟩
  dsimp only;have h1:=hv ρ t;generalize val ρ t=a at h1 ⊢;have h2:zdf (acc++[a.1]):=zfT h (by rw[zdf,zdf];exact⟨h1,trivial⟩)
  split
  ·exact⟨h2,by simp only[zk,zu,qk];omega⟩
  ·obtain⟨h3,h4⟩:=zh5 hv n (zag s (zbb (zag s a.2).2 (zag s a.2).1 44)).2 (zag s (zbb (zag s a.2).2 (zag s a.2).1 44)).1 (acc++[a.1]) h2;refine⟨h3,jk h4 ?_⟩;simp only[zk,zu,qk];omega
theorem zh1 {s:List UInt8} {val:Rs->Tk->JV×Rs} (hv:BdV val):∀(n:Nat) (ρ:Rs) (t:Tk) (ks:List (List UInt8)) (its:List JV),zdf its->zdf (zb6 s val n ρ t ks its).1.2/\(zb6 s val n ρ t ks its).1.2.length<=its.length+n/\(zb6 s val n ρ t ks its).1.1.length<=ks.length+n
 | 0,ρ,t,ks,its,h=>⟨h,ze its.length,ze ks.length⟩
 | n+1,ρ,t,ks,its,h=>by
  rw[zb6]
  split
  ·exact⟨h,by show its.length<=_;omega,by show ks.length<=_;omega⟩
  dsimp only;generalize zag s (zkU ρ t ks)=a;generalize zag s (zbb a.2 a.1 58)=b;have h1:=hv b.2 b.1;generalize val b.2 b.1=v at h1 ⊢;have h2:zdf (its++[v.1]):=zfT h (by rw[zdf,zdf];exact⟨h1,trivial⟩);generalize zag s v.2=c
  split
  ·exact⟨h2,by simp only[zk,zu,qk];omega,by simp only[zk,zu,qk];omega⟩
  ·generalize zag s (zbb c.2 c.1 44)=d;obtain⟨h3,h4,h5⟩:=zh1 hv n d.2 d.1 (ks++[t.2.1]) (its++[v.1]) h2;refine⟨h3,jk h4 ?_,jk h5 ?_⟩
   ·simp only[zk,zu,qk];omega
   ·simp only[zk,zu,qk];omega
theorem zdF {s:List UInt8} (hs:s.length<=1048576):∀(f d:Nat),BdV (fun ρ t=>zav s f ρ t d)
 | 0,d=>fun ρ t=>zcl _ _
 | f+1,d=>fun ρ t=>by
  dsimp only;rw[zav]
  split
  ·exact zcl _ _
  split
  ·exact zcl _ _
  split
  ·exact zcl _ _
  split
  ·exact zcl _ _
  split
  ·unfold zgV;dsimp only
   split
   ·exact zcl _ _
   ·obtain⟨h1,h2⟩:=zh5 (s:=s) (zdF hs f (d+1)) (s.length+2) (zag s (zaZ ρ t)).2 (zag s (zaZ ρ t)).1 [] (by rw[zdf];trivial);rw[JBd];refine⟨by simp,?_,h1⟩;simp only[qk] at h2;omega
  split
  ·unfold zgY;dsimp only
   split
   ·exact zcl _ _
   ·obtain⟨h1,h2,h3⟩:=zh1 (s:=s) (zdF hs f (d+1)) (s.length+2) (zag s (zaZ ρ t)).2 (zag s (zaZ ρ t)).1 [] [] (by rw[zdf];trivial);rw[JBd];simp only[qk] at h2 h3;refine⟨?_,?_,h1⟩
    ·show (zb6 s _ _ _ _ [] []).1.1.length<=_;omega
    ·show (zb6 s _ _ _ _ [] []).1.2.length<=_;omega
  split
  ·exact zcl _ _
  ·exact zcl _ _
theorem znv {s:List UInt8} (hs:s.length<=1048576):JBd (zcO s).1:=by
 unfold zcO;rw[if_neg (by omega)];dsimp only;generalize hρ:(if (zag s (zav s 65 (zag s rs0).2 (zag s rs0).1 0).2).2.fail=0/\¬(zag s (zav s 65 (zag s rs0).2 (zag s rs0).1 0).2).1.1=1 then za3 (zag s (zav s 65 (zag s rs0).2 (zag s rs0).1 0).2).2 (zag s (zav s 65 (zag s rs0).2 (zag s rs0).1 0).2).1.2.2 140 else (zag s (zav s 65 (zag s rs0).2 (zag s rs0).1 0).2).2)=ρ
 by_cases c:¬ρ.fail=0
 ·rw[if_pos c];exact zcl _ _
 ·rw[if_neg c];exact zdF hs 65 0 _ _
theorem zei (ρ:Rs) (a e:Int):(za3 ρ a e).nodes=ρ.nodes:=by unfold za3;split<;>rfl
theorem zbs (s:List UInt8) (ρ:Rs):(zag s ρ).2.nodes=ρ.nodes:=by
 unfold zag
 split
 ·rfl
 split
 ·exact zei _ _ _
 ·rfl
theorem ze3 (ρ:Rs) (t:Tk) (c:UInt8):(zbb ρ t c).nodes=ρ.nodes:=by
 unfold zbb
 split
 ·exact zei _ _ _
 ·rfl
theorem rkey_n (ρ:Rs) (t:Tk) (ks:List (List UInt8)):(zkU ρ t ks).nodes=ρ.nodes:=by
 unfold zkU;dsimp only
 split<;>split<;>simp only[zei]
theorem rcount_n (ρ:Rs) (t:Tk):(zaZ ρ t).nodes=ρ.nodes+1:=by
 unfold zaZ;dsimp only;generalize hx:(if t.1=4/\¬(zc3 t.2.1).1=0 then za3 ρ t.2.2 (zc3 t.2.1).1 else ρ)=x;have h:x.nodes=ρ.nodes:=by
  rw[<-hx]
  split
  ·exact zei _ _ _
  ·rfl
 by_cases c:20000<x.nodes+1
 ·rw[if_pos c,zei];show x.nodes+1=_;omega
 ·rw[if_neg c];show x.nodes+1=_;omega
def MonV (val:Rs->Tk->JV×Rs):Prop:=∀ρ t,ρ.nodes<=(val ρ t).2.nodes
theorem znW {s:List UInt8} {val:Rs->Tk->JV×Rs} (hv:MonV val):∀(n:Nat) (ρ:Rs) (t:Tk) (acc:List JV),ρ.nodes<=(zcS s val n ρ t acc).2.nodes
 | 0,ρ,t,acc=>ze _
 | n+1,ρ,t,acc=>by
  rw[zcS]
  split
  ·exact ze _
  dsimp only;have h1:=hv ρ t;generalize val ρ t=a at h1 ⊢
  split
  ·rw[zbs];exact h1
  ·have h2:=znW (s:=s) hv n (zag s (zbb (zag s a.2).2 (zag s a.2).1 44)).2 (zag s (zbb (zag s a.2).2 (zag s a.2).1 44)).1 (acc++[a.1]);rw[zbs,ze3,zbs] at h2;omega
theorem znw {s:List UInt8} {val:Rs->Tk->JV×Rs} (hv:MonV val):∀(n:Nat) (ρ:Rs) (t:Tk) (ks:List (List UInt8)) (its:List JV),ρ.nodes<=(zb6 s val n ρ t ks its).2.nodes
 | 0,ρ,t,ks,its=>ze _
 | n+1,ρ,t,ks,its=>by
  rw[zb6]
  split
  ·exact ze _
  dsimp only;have e1:=zbs s (zkU ρ t ks);rw[rkey_n] at e1;generalize zag s (zkU ρ t ks)=a at e1 ⊢;have e2:=zbs s (zbb a.2 a.1 58);rw[ze3] at e2;generalize zag s (zbb a.2 a.1 58)=b at e2 ⊢;have h1:=hv b.2 b.1;generalize val b.2 b.1=v at h1 ⊢;have e3:=zbs s v.2;generalize zag s v.2=c at e3 ⊢
  split
  ·show _<=c.2.nodes;omega
  ·have e4:=zbs s (zbb c.2 c.1 44);rw[ze3] at e4;generalize zag s (zbb c.2 c.1 44)=d at e4 ⊢;have h2:=znw (s:=s) hv n d.2 d.1 (ks++[t.2.1]) (its++[v.1]);omega
theorem zhY (s:List UInt8):∀(f d:Nat),MonV (fun ρ t=>zav s f ρ t d)/\∀ρ t,0<f->(zav s f ρ t d).2.fail=0->ρ.nodes+1<=(zav s f ρ t d).2.nodes
 | 0,d=>⟨fun ρ t=>ze _,fun ρ t h=>absurd h (Nat.lt_irrefl 0)⟩
 | f+1,d=>by
  have hm:=(zhY s f (d+1)).1;have key:∀ρ t,((zav s (f+1) ρ t d).2.nodes=ρ.nodes/\¬(zav s (f+1) ρ t d).2.fail=0)\/ρ.nodes+1<=(zav s (f+1) ρ t d).2.nodes:=by
   intro ρ t;rw[zav]
   by_cases c0:ρ.fail=0
   rotate_left
   ·rw[if_pos c0];exact .inl ⟨rfl,c0⟩
   rw[if_neg (fun h=>h c0)];have hst:∀a e:Int,¬e=0->(za3 ρ a e).nodes=ρ.nodes/\¬(za3 ρ a e).fail=0:=fun a e he=>⟨zei _ _ _,by unfold za3;rw[if_pos c0];exact he⟩
   split
   ·exact .inl (hst _ _ (by decide))
   split
   ·exact .inl (hst _ _ (by decide))
   have hc:=rcount_n ρ t
   split
   ·right;show _<=(zaZ ρ t).nodes;omega
   split
   ·right;unfold zgV;dsimp only
    split
    ·rw[zbs];omega
    ·have h:=znW (s:=s) hm (s.length+2) (zag s (zaZ ρ t)).2 (zag s (zaZ ρ t)).1 [];rw[zbs] at h;show _<=(zcS s _ _ _ _ []).2.nodes;omega
   split
   ·right;unfold zgY;dsimp only
    split
    ·rw[zbs];omega
    ·have h:=znw (s:=s) hm (s.length+2) (zag s (zaZ ρ t)).2 (zag s (zaZ ρ t)).1 [] [];rw[zbs] at h;show _<=(zb6 s _ _ _ _ [] []).2.nodes;omega
   split
   ·right;show _<=(zaZ ρ t).nodes;omega
   ·right;show _<=(zaZ ρ t).nodes;omega
  refine⟨fun ρ t=>?_,fun ρ t _ hf=>?_⟩
  ·rcases key ρ t with h|h
   ·exact Nat.le_of_eq h.1.symm
   ·show ρ.nodes<=(zav s (f+1) ρ t d).2.nodes;omega
  ·rcases key ρ t with h|h
   ·exact absurd hf h.2
   ·exact h
end
section
attribute [local irreducible] run
def zaR (s:List UInt8) (ρ:Rs):OB:=.box 53 [.s s,.i .i64 ρ.pos,.i .i64 (ρ.nodes:Int),.i .i64 ρ.fail,.i .i64 ρ.wh]
section
variable [Tabs Tryz.prog] {objs:List OB} {K:List OB->AV->Prop} {L:List (Nat×OB)} {p:Nat} {s:List UInt8} {ρ:Rs}
theorem zgk (t:Tk) (c:UInt8) (hk:K objs (.b (isP t c))):zaf Tryz.prog 58 [ziG t,.s [c]] objs K:=by
 refine za4 is_ref14_is rfl fun C _=>?_;unfold isP at hk
 by_cases c1:t.1=2
 ·by_cases c2:t.2.1=[c]
  ·simp only[c1,c2,decide_true,Bool.and_self] at hk;simp only[c_ref14_is,ziG,tkC,sxZ,z6,z7,z8,j4,j5,j6,j7,j8,j9,x6,x7,x8,x9,y4,y5,reduceCtorEq,↓reduceIte,c1,c2];exact hk
  ·simp only[c1,c2,decide_true,decide_false,Bool.and_false] at hk;simp only[c_ref14_is,ziG,tkC,sxZ,z6,z7,z8,j4,j5,j6,j7,j8,j9,x6,x7,x8,x9,y4,y5,reduceCtorEq,↓reduceIte,c1,c2];exact hk
 ·simp only[c1,decide_false,Bool.false_and] at hk;simp only[c_ref14_is,ziG,tkC,sxZ,z6,z7,z8,j4,j5,j6,j7,j8,j9,x6,x7,x8,x9,y4,y5,reduceCtorEq,↓reduceIte,c1];exact hk
theorem rword_k (l:List UInt8) (hk:K objs (.i .i64 (zfA l))):zaf Tryz.prog 60 [.s l] objs K:=by
 refine za4 is_ref14_word rfl fun C _=>?_;unfold zfA trueL zpk at hk
 by_cases c1:l=[116,114,117,101]
 ·rw[if_pos c1] at hk;simp only[c_ref14_word,sxZ,z6,z7,z8,j4,j5,j6,j7,j8,j9,x6,x7,x8,x9,y4,y5,reduceCtorEq,↓reduceIte,c1];exact hk
 rw[if_neg c1] at hk
 by_cases c2:l=[102,97,108,115,101]
 ·rw[if_pos c2] at hk;have n1:¬([102,97,108,115,101]:List UInt8)=[116,114,117,101]:=by decide
  simp only[c_ref14_word,sxZ,z6,z7,z8,j4,j5,j6,j7,j8,j9,x6,x7,x8,x9,y4,y5,reduceCtorEq,↓reduceIte,c2,n1];exact hk
 ·rw[if_neg c2] at hk;simp only[c_ref14_word,sxZ,z6,z7,z8,j4,j5,j6,j7,j8,j9,x6,x7,x8,x9,y4,y5,reduceCtorEq,↓reduceIte,c1,c2];exact hk
theorem zcN (hO:zaV ((p,zaR s ρ)::L) objs) (a e:Int) (hk:∀o,zaV ((p,zaR s (za3 ρ a e))::L) o->K o (.tup [])):zaf Tryz.prog 22 [.p p 0,.i .i64 a,.i .i64 e] objs K:=by
 refine zcu is_ref14_parser_stop fun C _=>?_;have e1:=hO.get (i:=p) (x:=zaR s ρ) (by simp);have hlt:=hO.lt (i:=p) (x:=zaR s ρ) (by simp);have gs:∀x,(objs.set p x)[p]? = some x:=fun x=>zl hlt;unfold zaR at e1;unfold za3 at hk
 by_cases c1:ρ.fail=0
 ·rw[if_pos c1] at hk;simp only[c_ref14_parser_stop,sxZ,z6,z7,z8,j4,j5,j6,j7,j8,j9,x6,x7,x8,x9,y4,y5,reduceCtorEq,↓reduceIte,e1,c1,gs,List.set_set];exact hk _ (hO.set0 _)
 ·rw[if_neg c1] at hk;simp only[c_ref14_parser_stop,sxZ,z6,z7,z8,j4,j5,j6,j7,j8,j9,x6,x7,x8,x9,y4,y5,reduceCtorEq,↓reduceIte,e1,c1];exact hk _ hO
theorem zc2 [Utf Tryz.prog] (hs:s.length<=140737488351232) (hO:zaV ((p,zaR s ρ)::L) objs) (hk:∀o,zaV ((p,zaR s (zag s ρ).2)::L) o->K o (ziG (zag s ρ).1)):zaf Tryz.prog 21 [.p p 0] objs K:=by
 refine zcu is_ref14_parser_next fun C _=>?_;have hO1:=hO.new (.box 56 [.i .i64 0,.s [],.i .i64 0]);have e1:=hO1.get (i:=p) (x:=zaR s ρ) (by simp);unfold zaR at e1;unfold zag at hk;rw[c_ref14_parser_next];refine zaa fun Y hY=>?_;simp only[sxZ,z6,z7,z8,j4,j5,j6,j7,j8,j9,x6,x7,x8,x9,y4,y5,reduceCtorEq,↓reduceIte];have hlen:objs.length<(objs++[OB.box 56 [.i .i64 0,.s [],.i .i64 0]]).length:=by simp
 generalize hq:objs.length=q at hO1 hlen ⊢;generalize objs++[OB.box 56 [.i .i64 0,.s [],.i .i64 0]]=o1 at hO1 e1 hlen ⊢;have e0:=hO1.get (i:=q) (x:=.box 56 [.i .i64 0,.s [],.i .i64 0]) (by simp);have gs:∀x,(o1.set q x)[q]? = some x:=fun x=>zl hlen;subst hY;refine zaa fun Y hY=>?_
 by_cases c1:ρ.fail=0
 rotate_left
 ·rw[if_pos c1] at hk;simp only[sxZ,z6,z7,z8,j4,j5,j6,j7,j8,j9,x6,x7,x8,x9,y4,y5,reduceCtorEq,↓reduceIte,e1,c1,e0,gs];exact hk _ ((hO1.set0 (.box 56 [.i .i64 0,.s [],.i .i64 0])).sub (jm _ _))
 rw[if_neg (fun h=>h c1)] at hk;simp only[sxZ,z6,z7,z8,j4,j5,j6,j7,j8,j9,x6,x7,x8,x9,y4,y5,reduceCtorEq,↓reduceIte,e1,c1];subst hY;refine zaa fun Y hY=>?_;have hne:¬p=o1.length:=fun h=>by
  have:=hO1.lt (i:=p) (x:=zaR s ρ) (by simp);omega
 simp only[sxZ,z6,z7,z8,j4,j5,j6,j7,j8,j9,x6,x7,x8,x9,y4,y5,reduceCtorEq,↓reduceIte,e1];refine kpcall (zmw s ρ.pos hs rfl) rfl rfl ?_;generalize zbz s ρ.pos=N at hk ⊢;obtain⟨T,too,e⟩:=N;simp only at hk;unfold zot;simp only[sxZ,z6,z7,z8,j4,j5,j6,j7,j8,j9,x6,x7,x8,x9,y4,y5,reduceCtorEq,↓reduceIte,gn1,sn1,hne];have f1:∀x y z,OB.box 56 [.i .i64 x,.s y,.i .i64 z]=zba (x,y,z):=fun _ _ _=>rfl;rw[f1];have hO2:=hO1.new (zba T);have g0:=hO2.get (i:=o1.length) (x:=zba T) (by simp);have g1:=hO2.get (i:=p) (x:=zaR s ρ) (by simp);have g2:=hO2.get (i:=q) (x:=.box 56 [.i .i64 0,.s [],.i .i64 0]) (by simp);have hq2:=hO2.lt (i:=q) (x:=.box 56 [.i .i64 0,.s [],.i .i64 0]) (by simp);generalize o1++[zba T]=o2 at hO2 g0 g1 g2 hq2 ⊢;unfold zba tkC at g0;unfold zaR at g1;have gs2:∀x,(o2.set q x)[q]? = some x:=fun x=>zl hq2;subst hY;refine zaa fun Y hY=>?_
 by_cases c2:e=0
 rotate_left
 ·rw[if_pos c2] at hk;simp only[sxZ,z6,z7,z8,j4,j5,j6,j7,j8,j9,x6,x7,x8,x9,y4,y5,reduceCtorEq,↓reduceIte,c2,g1];refine zae (zcN (L:=(o1.length,zba T)::(q,.box 56 [.i .i64 0,.s [],.i .i64 0])::L) (hO2.perm (qw.trans (qw.cons _ (qw.swap _ _ _)) (qw.swap _ _ _))) ρ.pos e fun o ho=>?_);have k2:=ho.get (i:=q) (x:=.box 56 [.i .i64 0,.s [],.i .i64 0]) (by simp);have kq:=ho.lt (i:=q) (x:=.box 56 [.i .i64 0,.s [],.i .i64 0]) (by simp);have gs3:∀x,(o.set q x)[q]? = some x:=fun x=>zl kq;simp only[sxZ,z6,z7,z8,j4,j5,j6,j7,j8,j9,x6,x7,x8,x9,y4,y5,reduceCtorEq,↓reduceIte,k2,gs3];exact hk _ ((zaV.set2 (.box 56 [.i .i64 0,.s [],.i .i64 0]) ho).sub (((jm _ _).trans (jm _ _)).cons_cons _))
 subst c2;rw[if_neg (fun h=>h rfl)] at hk;have hne2:¬p=q:=fun h=>hO2.ne (A:=[_]) (B:=[]) h.symm;have hne3:¬p=o1.length:=fun h=>hO2.ne (A:=[]) (B:=[_]) h.symm;have gx0:∀x,(o2.set p x)[o1.length]? = some (.box 56 [.i .i64 T.1,.s T.2.1,.i .i64 T.2.2]):=fun x=>by rw[zi hne3];exact g0
 have gx2:∀x,(o2.set p x)[q]? = some (.box 56 [.i .i64 0,.s [],.i .i64 0]):=fun x=>by rw[zi hne2];exact g2
 have gx3:∀x y,((o2.set p x).set q y)[q]? = some y:=fun x y=>zl (by rw[zh];exact hq2);simp only[sxZ,z6,z7,z8,j4,j5,j6,j7,j8,j9,x6,x7,x8,x9,y4,y5,reduceCtorEq,↓reduceIte];subst hY;simp only[sxZ,z6,z7,z8,j4,j5,j6,j7,j8,j9,x6,x7,x8,x9,y4,y5,reduceCtorEq,↓reduceIte,g1,gx0,gx2,gx3];have hF:=(zaV.set1 (zba T) (zaV.set2 (zaR s ⟨too,ρ.nodes,ρ.fail,ρ.wh⟩) hO2)).sub (L':=(p,zaR s ⟨too,ρ.nodes,ρ.fail,ρ.wh⟩)::L) ((jm _ _).trans (jm _ _));exact hk _ hF
end
end
section
attribute [local irreducible] run
def zvB:OB:=.box 25 [.i .i64 0,.s [],.nil,.nil]
def jvB (k:Int) (X Y:AV):OB:=.box 25 [.i .i64 k,.s [],X,Y]
def zaU (L:List (Nat×OB)):Prop:=∀z∈L,∀b g n xs,(∀y∈L,y.1≠b)->ziL b g n xs z.2=z.2
theorem zef {b g n:Nat} {xs:List AV}:∀{l:List AV},zao l=true->l.map (zb5 b g n xs)=l
 | [],_=>rfl
 | x::l,h=>by
  simp only[zao,Bool.and_eq_true] at h;rw[zo,ziK h.1,zef h.2]
theorem zkq {z:Nat×OB} {L:List (Nat×OB)} (h:zaU L) (hz:∀b g n xs,(∀y∈z::L,y.1≠b)->ziL b g n xs z.2=z.2):zaU (z::L):=by
 intro y hy b g n xs hb;rcases zv.1 hy with rfl|hy
 ·exact hz b g n xs hb
 ·exact h y hy b g n xs fun y hy=>hb y (List.mem_cons_of_mem _ hy)
theorem zdS {i:Nat} {T:Nat} {cs:List AV} {L:List (Nat×OB)} (h:zaU L) (hp:zao cs=true):zaU ((i,.box T cs)::L) :=
 zkq h fun b g n xs _=>by show OB.box T _=_;rw[zef hp]
theorem zmT {E sz n:Nat} {xs:List AV} {X:AV} {R A B:List (Nat×OB)} (hs:SlO E sz n xs X R) (h:zaU (A++B)):zaU (A++(R++B)):=by
 intro y hy b g m ys hb;have hAB:∀y∈A++B,y.1≠b:=fun y hy=>hb y (by
  rcases zq.1 hy with h|h
  ·exact jr _ h
  ·exact xf _ (xf _ h))
 rcases zq.1 hy with hy|hy
 ·exact h y (jr _ hy) b g m ys hAB
 rcases zq.1 hy with hy|hy
 ·rcases hs with ⟨_,_,_,rfl⟩|⟨b',g',_,rfl⟩
  ·cases hy
  ·simp only[zv,List.not_mem_nil,or_false] at hy;subst hy;rfl
 ·exact h y (xf _ hy) b g m ys hAB
theorem zjO {E sz n:Nat} {xs:List AV} {X:AV} {R:List (Nat×OB)} (hs:SlO E sz n xs X R) {b g m:Nat} {ys:List AV} (hb:∀y∈R,y.1≠b):zb5 b g m ys X=X:=by
 rcases hs with ⟨_,_,rfl,_⟩|⟨b',g',rfl,rfl⟩
 ·rfl
 ·exact if_neg (fun h=>hb (b',.orow E sz g' n xs) (by simp) h.1)
def giv (n:Nat) (xs:List AV) (X:AV):Prop:=(n=0/\xs=[]/\X=.nil)\/X=.row n xs
theorem zpS {n:Nat} {xs:List AV} {X:AV} (h:giv n xs X) {G:Gh} {I:Imm} {y:Value} (hd:Den G I X y):Den G I (.row n xs) y:=by
 rcases h with ⟨rfl,rfl,rfl⟩|rfl
 ·exact jnil_row hd
 ·exact hd
section
variable {P:Program} [Tabs P] {f:FuncId} {args:List AV} {objs:List OB} {K:List OB->AV->Prop}
theorem zes (hc:zaf P f args objs (fun o r=>K o r\/∃b E sz gen n xs,o[b]? = some (.orow E sz gen n xs)/\K (zk0 o b gen n xs) (subD b gen n xs r))):zaf P f args objs K:=by
 intro C _ G I w hin hm ys hd;refine(hc C G I w hin hm ys hd).mono ?_;rintro e w' ⟨y,objs',r,G',I',he,hk,h1,h2,h3,h4,hy⟩;rcases hk with hk|⟨b,E,sz,gen,n,xs,hb,hk⟩
 ·exact⟨y,objs',r,G',I',he,hk,h1,h2,h3,h4,hy⟩
 ·obtain⟨v',vs,m1,m2,m3,m4,m5⟩:=h4.row b E sz gen n xs hb;obtain⟨hin',hm'⟩:=mem_pub (P:=P) hb h3 h4;exact⟨y,_,_,_,_,he,hk,h1.trans (zj0 m1),fun g o v h=>.inl (h2 g o v h),hin',hm',den_subD h4 hb r y hy⟩
end
theorem zod {E sz n:Nat} {xs:List AV} {X:AV} {R A B:List (Nat×OB)} {o:List OB} (hs:SlO E sz n xs X R) (hO:zaV (A++(R++B)) o) (hA:zaU (A++B)) :
  (R=[]/\giv n xs X)\/∃b g,X=.orow b g/\o[b]? = some (.orow E sz g n xs)/\zaV (A++B) (zk0 o b g n xs)/\∀y∈A++B,y.1≠b:=by
 rcases hs with ⟨h1,h2,h3,rfl⟩|⟨b,g,rfl,rfl⟩
 ·exact .inl ⟨rfl,.inl ⟨h1,h2,h3⟩⟩
 ·right;have hP:zaV ((b,.orow E sz g n xs)::(A++B)) o:=hO.perm (by simp);have hne:∀y∈A++B,y.1≠b:=by
   have:=hP.1;rw[zo,xy] at this;exact fun y hy e=>this.1 (by show b∈_;rw[<-e];exact List.mem_map_of_mem hy)
  exact⟨b,g,rfl,hP.get (by simp),hP.mapset (ziL b g n xs) (fun z hz=>hA z hz b g n xs hne),hne⟩
theorem znS {P:Program} [Tabs P] {f:FuncId} {args:List AV} {objs:List OB} {K:List OB->AV->Prop} {E1 s1 E2 s2:Nat} (v:JV) {z:Nat×OB} {L:List (Nat×OB)} (hC:zaU (z::L)) (hk:∀o,zaV (z::L) o->K o (.agg (zap v)))
  (hc:zaf P f args objs (fun o r=>∃X R1 Y R2,SlO E1 s1 v.keys.length (v.keys.map .s) X R1/\SlO E2 s2 v.items.length (zab v.items) Y R2/\zaV (z::(R1++(R2++L))) o/\r=.agg [.i .i64 v.kind,.s v.text,X,Y])):zaf P f args objs K:=by
 refine jres (.agg (zap v)) ?_;refine zes ?_;refine zes ?_;refine hc.mono ?_;rintro o r ⟨X,R1,Y,R2,hX,hY,hO,rfl⟩;have fin:∀{X' Y':AV},giv v.keys.length (v.keys.map .s) X'->giv v.items.length (zab v.items) Y'->∀G I y,Den G I (.agg [.i .i64 v.kind,.s v.text,X',Y']) y->Den G I (.agg (zap v)) y:=by
  intro X' Y' h1 h2 G I y hy;rw[zad];simp only[zaj,Den] at hy ⊢;obtain⟨zs,rfl,⟨z0,m0,rfl,q0,z1,m1,rfl,q1,z2,m2,rfl,q2,z3,m3,rfl,q3,q4⟩,hz⟩:=hy;exact⟨_,rfl,⟨_,_,rfl,q0,_,_,rfl,q1,_,_,rfl,zpS h1 q2,_,_,rfl,zpS h2 q3,q4⟩,hz⟩
 have hC2:zaU ([z]++(R2++L)):=zmT (A:=[z]) hY hC;have step2:∀(o:List OB) (X':AV),giv v.keys.length (v.keys.map .s) X'->zaV ([z]++(R2++L)) o ->
   (((∀G I y,Den G I (.agg [.i .i64 v.kind,.s v.text,X',Y]) y->Den G I (.agg (zap v)) y)/\K o (.agg (zap v)))\/∃b E sz gen n xs,o[b]? = some (.orow E sz gen n xs)/\(∀G I y,Den G I (subD b gen n xs (.agg [.i .i64 v.kind,.s v.text,X',Y])) y->Den G I (.agg (zap v)) y)/\K (zk0 o b gen n xs) (.agg (zap v))):=by
  intro o X' h1 hO;rcases zod hY hO hC with ⟨rfl,h2⟩|⟨b,g,rfl,hb,hO2,hne⟩
  ·exact .inl ⟨fin h1 h2,hk _ hO⟩
  ·refine .inr ⟨b,_,_,g,_,_,hb,fun G I y hy=>?_,hk _ hO2⟩;refine fin h1 (.inr rfl) G I y ?_;have e1:zb5 b g v.items.length (zab v.items) (.orow b g)=.row v.items.length (zab v.items):=if_pos ⟨rfl,rfl⟩;have e2:zb5 b g v.items.length (zab v.items) X'=X':=by
    rcases h1 with ⟨_,_,rfl⟩|rfl<;>rfl
   simp only[subD,zo,qb,e1,e2] at hy;exact hy
 rcases zod (A:=[z]) hX hO hC2 with ⟨rfl,h1⟩|⟨b,g,rfl,hb,hO2,hne⟩
 ·exact .inl (step2 o X h1 hO)
 ·refine .inr ⟨b,_,_,g,_,_,hb,?_⟩;have h1:giv v.keys.length (v.keys.map .s) (.row v.keys.length (v.keys.map AV.s)):=.inr rfl;have e1:zb5 b g v.keys.length (v.keys.map .s) (.orow b g)=.row v.keys.length (v.keys.map .s):=if_pos ⟨rfl,rfl⟩;have e2:zb5 b g v.keys.length (v.keys.map .s) Y=Y:=zjO hY fun y hy=>hne y (by simp[hy]);have e3:subD b g v.keys.length (v.keys.map .s) (.agg [.i .i64 v.kind,.s v.text,.orow b g,Y])=.agg [.i .i64 v.kind,.s v.text,.row v.keys.length (v.keys.map .s),Y]:=by
   simp only[subD,zo,qb,e1,e2];rfl
  rw[e3];exact step2 _ _ h1 hO2
end
section
attribute [local irreducible] run
structure PrP where
 name:List UInt8
 val:List UInt8
 nul:Bool
structure LkP where
 rel:List UInt8
 typ:List UInt8
 href:List UInt8
 tmp:List UInt8
 tit:List PrP
 pro:List PrP
end
section
attribute [local irreducible] run
theorem zaz {G:Gh} {I:Imm} {y:Value} (h:Den G I .nil y):Den G I (.row 0 []) y:=by
 simp only[zaj,Den] at h ⊢;exact⟨none,0,[],h,⟨ze _,fun ad h=>by cases h⟩,rfl,by simp,by simp⟩
theorem zfG {P:Program} [Tabs P] {f:FuncId} {args:List AV} {objs:List OB} {K:List OB->AV->Prop} (r':AV) (hc:zaf P f args objs (fun o r=>(∀G I y,Den G I r y->Den G I r' y)/\K o r')):zaf P f args objs K:=by
 intro C _ G I w hin hm ys hd;refine(hc C G I w hin hm ys hd).mono ?_;rintro e w' ⟨y,objs',r,G',I',he,⟨hr,hk⟩,h1,h2,h3,h4,hy⟩;exact⟨y,objs',r',G',I',he,hk,h1,h2,h3,h4,hr _ _ _ hy⟩
theorem set_same {α:Type} {l:List α} {i:Nat} {x:α} (h:l[i]? = some x):l.set i x=l:=by
 obtain⟨h1,h2⟩:=zf.1 h;rw[<-h2,List.set_getElem_self]
theorem zbe:∀l:List (List UInt8),zao (l.map AV.s)=true
 | []=>rfl
 | _::l=>zbe l
mutual
theorem zi6 {o:List OB}:∀{d:Nat} {x:AV},x.plain=true->pub o d x=some x
 | d,.agg cs,h=>by
  simp only[pub];rw[zdL (show zao cs=true from h)];rfl
 | d,.tup cs,h=>by
  simp only[pub];rw[zdL (show zao cs=true from h)];rfl
 | d,.s l,h=>by cases d<;>(simp only[pub];rfl)
 | d,.i k n,h=>by cases d<;>(simp only[pub];rfl)
 | d,.b x,h=>by cases d<;>(simp only[pub];rfl)
 | d,.nil,h=>by cases d<;>(simp only[pub];rfl)
 | d,.zn x,h=>by cases d<;>(simp only[pub];rfl)
 | d,.o v,h=>by cases d<;>(simp only[pub];rfl)
 | d,.u,h=>by cases d<;>(simp only[pub];rfl)
 | d,.row n xs,h=>by cases d<;>(simp only[pub];rw[if_pos h])
 | d,.crow n xs,h=>by cases d<;>(simp only[pub];rw[if_pos h])
 | d,.prow xs j,h=>by cases d<;>(simp only[pub];rw[if_pos h])
 | d,.fn f fs cs,h=>by cases d<;>(simp only[pub];rw[if_pos h])
 | d,.p b off,h=>by simp[AV.plain] at h
 | d,.orow b g,h=>by simp[AV.plain] at h
 | d,.porow b g j,h=>by simp[AV.plain] at h
 | d,.bsl b off n,h=>by simp[AV.plain] at h
 | d,.m b,h=>by simp[AV.plain] at h
theorem zdL {o:List OB}:∀{d:Nat} {xs:List AV},zao xs=true->zft o d xs=some xs
 | d,[],h=>by simp only[zft]
 | d,x::xs,h=>by
  simp only[zao,Bool.and_eq_true] at h;simp only[zft];rw[zi6 h.1,zdL h.2]
end
end
section
attribute [local irreducible] run
def orE (a b:Int):Int:=if a=0 then b else a
def PlO:OB->Prop
 | .box _ cs=>zao cs=true
 | _=>True
theorem sub_plo {X:OB} (h:PlO X) (b g n:Nat) (xs:List AV):ziL b g n xs X=X:=by
 cases X with
 | box T cs=>show OB.box T _=_;rw[zef h]
 | _=>rfl
def PlM (m:Nat):OB->Prop
 | .box _ cs=>∀c∈cs,c.plain=true\/∃r g,c=.orow r g/\r<m
 | _=>True
theorem zhj:∀{l:List AV},zao l=true->∀c∈l,c.plain=true
 | [],_,c,h=>by cases h
 | a::l,hp,c,h=>by
  simp only[zao,Bool.and_eq_true] at hp;rcases zv.1 h with rfl|h
  ·exact hp.1
  ·exact zhj hp.2 c h
theorem PlO.m {Y:OB} (h:PlO Y) (m:Nat):PlM m Y:=by
 cases Y with
 | box T cs=>exact fun c hc=>.inl (zhj h c hc)
 | _=>trivial
theorem PlM.mono {m m':Nat} {Y:OB} (h:PlM m Y) (hm:m<=m'):PlM m' Y:=by
 cases Y with
 | box T cs=>
  intro c hc;rcases h c hc with h|⟨r,g,h1,h2⟩
  ·exact .inl h
  ·exact .inr ⟨r,g,h1,Nat.lt_of_lt_of_le h2 hm⟩
 | _=>trivial
theorem sub_plm {m b g n:Nat} {xs:List AV} {X:OB} (h:PlM m X) (hm:m<=b):ziL b g n xs X=X:=by
 cases X with
 | box T cs=>
  have e:∀c∈cs,zb5 b g n xs c=id c:=by
   intro c hc;rcases h c hc with h|⟨r,g',rfl,h2⟩
   ·exact ziK h
   ·simp only[zb5];rw[if_neg (by omega)];rfl
  show OB.box T _=_;rw[show cs.map (zb5 b g n xs)=cs from(List.map_congr_left e).trans (List.map_id cs)]
 | _=>rfl
def Ext (o o':List OB) (b:Nat) (X:OB):Prop:=o'[b]? = some X/\o.length<=o'.length/\∀i Y,i≠b->o[i]? = some Y->PlM o.length Y->o'[i]? = some Y
theorem Ext.app {o o':List OB} {b:Nat} {X:OB} (h:Ext o o' b X) (z:OB):Ext o (o'++[z]) b X:=by
 obtain⟨h1,h2,h3⟩:=h;refine⟨by rw[qd (zf.1 h1).1];exact h1,by simp;omega,fun i Y hb hi hp=>?_⟩;have:=h3 i Y hb hi hp;rw[qd (zf.1 this).1];exact this
theorem Ext.refl {o:List OB} {b:Nat} {X:OB} (h:o[b]? = some X):Ext o o b X:=⟨h,ze _,fun _ _ _ h _=>h⟩
theorem Ext.trans {o o1 o2:List OB} {b:Nat} {X Y:OB} (h1:Ext o o1 b X) (h2:Ext o1 o2 b Y):Ext o o2 b Y :=
 ⟨h2.1,jk h1.2.1 h2.2.1,fun i Z hb hi hp=>h2.2.2 i Z hb (h1.2.2 i Z hb hi hp) (hp.mono h1.2.1)⟩
theorem Ext.set {o o':List OB} {b:Nat} {X:OB} (h:Ext o o' b X) (Y:OB):Ext o (o'.set b Y) b Y:=by
 obtain⟨h1,h2,h3⟩:=h;refine⟨zl (zf.1 h1).1,by simp;exact h2,fun i Z hb hi hp=>?_⟩;rw[zi (fun e=>hb e.symm)];exact h3 i Z hb hi hp
theorem Ext.own {o o':List OB} {b:Nat} {X:OB} (h:Ext o o' b X) (j:Nat) (Y:OB) (hj:o.length<=j) (hb:b<o.length):Ext o (o'.set j Y) b X:=by
 obtain⟨h1,h2,h3⟩:=h;refine⟨by rw[zi (by omega)];exact h1,by simp;exact h2,fun i Z hn hi hp=>?_⟩;have:=(zf.1 hi).1;rw[zi (by omega)];exact h3 i Z hn hi hp
theorem Ext.pub {o o':List OB} {b:Nat} {X:OB} (h:Ext o o' b X) (hX:PlO X) (r g n:Nat) (xs:List AV) (hr:o.length<=r) (hb:b<o.length):Ext o (zk0 o' r g n xs) b X:=by
 obtain⟨h1,h2,h3⟩:=h;unfold zk0;refine⟨by rw[zi (by omega),qo,h1,jl,sub_plo hX],by simp;exact h2,fun i Z hn hi hp=>?_⟩;have:=(zf.1 hi).1;rw[zi (by omega),qo,h3 i Z hn hi hp,jl,sub_plm hp hr]
def zmX (m:Nat) (l:List (List UInt8)) (o:List OB) (X:AV):Prop:=(l=[]/\X=.nil)\/∃r g,X=.orow r g/\m<=r/\o[r]? = some (.orow 9 1 g l.length (l.map .s))
theorem zmX.mono {m:Nat} {l:List (List UInt8)} {o:List OB} {X:AV} (h:zmX m l o X) (z:OB):zmX m l (o++[z]) X:=by
 rcases h with h|⟨r,g,h1,h0,h2⟩
 ·exact .inl h
 ·exact .inr ⟨r,g,h1,h0,by rw[qd (zf.1 h2).1];exact h2⟩
theorem zij {v:JV} (hv:JOk v) (key:List UInt8):JOk (zaB v key).1:=by
 unfold zaB
 split
 ·split
  ·rename_i x hx;obtain⟨hi,rfl⟩:=zf.1 hx;exact hv.its hi
  ·rw[jvZ,JOk];exact⟨by decide,by simp,by simp,by simp,by simp,by rw[zdC];trivial⟩
 ·rw[jvZ,JOk];exact⟨by decide,by simp,by simp,by simp,by simp,by rw[zdC];trivial⟩
theorem jbd_z:JBd jvZ:=by rw[jvZ,JBd];exact⟨by simp,by simp,by rw[zdf];trivial⟩
theorem jok_z:JOk jvZ:=by rw[jvZ,JOk];exact⟨by decide,by simp,by simp,by simp,by simp,by rw[zdC];trivial⟩
theorem zil {v:JV} (hv:JBd v) (key:List UInt8):JBd (zaB v key).1:=by
 unfold zaB
 split
 ·split
  ·rename_i x hx;obtain⟨hi,rfl⟩:=zf.1 hx;obtain⟨k,t,ks,its⟩:=v;rw[JBd] at hv;exact zj9 hv.2.2 hi
  ·exact jbd_z
 ·exact jbd_z
end
end Go.Proofs.YtceenajkieomoaaGreatDoor
namespace Go.Proofs.YtceenajkieomoaaGreatDoor
open Go.RowKit
theorem pre_len {s p:List UInt8} (h:Lib.hasPrefix s p=true):p.length<=s.length:=(List.isPrefixOf_iff_prefix.1 h).length_le
theorem zcz.form {w:World} {B:Nat} {v:Value} {l:List UInt8} (h:zcz w B v l) (hl:0<l.length):∃g cap,v=.slice (some ⟨g,0,none⟩) l.length cap/\B<=g/\g<w.heap.size/\l.length<=cap:=by
 rcases h.2 with ⟨rfl,hn⟩|⟨g,cap,cur,rfl,hb,hg,hnc,_⟩
 ·omega
 ·refine⟨g,cap,rfl,hb,?_,hnc⟩;rcases Nat.lt_or_ge g w.heap.size with h1|h1
  ·exact h1
  ·rw[Array.getElem?_eq_none h1] at hg;cases hg
theorem zcz.cap {w:World} {B g n cap:Nat} {l:List UInt8} (h:zcz w B (.slice (some ⟨g,0,none⟩) n cap) l):n=l.length/\n<=cap/\cap<=maxLen:=by
 rcases h.2 with ⟨e,_⟩|⟨g',cap',cur,e,hb,hg,hnc,hcm,_⟩
 ·simp at e
 ·simp only[Value.slice.injEq] at e;obtain⟨_,rfl,rfl⟩:=e;exact⟨rfl,hnc,hcm⟩
theorem zcz.pre {w:World} {B g n cap:Nat} {l:List UInt8} (h:zcz w B (.slice (some ⟨g,0,none⟩) n cap) l) (k:Nat) (hk:k<=l.length):zcz w B (.slice (some ⟨g,0,none⟩) k cap) (l.take k):=by
 rcases h.2 with ⟨e,_⟩|⟨g',cap',cur,e,hb,hg,hnc,hcm,hcs,ht⟩
 ·simp at e
 ·simp only[Value.slice.injEq] at e;obtain⟨hgg,rfl,rfl⟩:=e;obtain rfl:g=g':=by simpa using hgg
  have hlen:(l.take k).length=k:=by rw[List.length_take];omega
  refine⟨by rw[zdT];simp,.inr ⟨g,cap,cur,by rw[hlen],hb,hg,by rw[hlen];omega,hcm,hcs,?_⟩⟩;rw[hlen];have:=congrArg (List.take k) ht;rw[Nat.mul_one] at this ⊢;rw[List.take_take,Nat.min_eq_left hk] at this;rw[this];simp[bv,List.map_take]
end Go.Proofs.YtceenajkieomoaaGreatDoor
namespace Go.Proofs.YtceenajkieomoaaGreatDoor
open Go.RowKit
attribute [local go_sem ↓] Go.wp_at_zero Go.wp_at_succ
end Go.Proofs.YtceenajkieomoaaGreatDoor
namespace Go.Proofs.YtceenajkieomoaaGreatDoor
open Go.RowKit Sx
section
variable [Tabs Tryz.prog] {objs:List OB} {K:List OB->AV->Prop}
end
theorem zjj (x:UInt8) (t set:List UInt8):zb8 (x::t) set=if zbu x set=true then 0 else zb8 t set+1:=by
 unfold zb8;rw[List.findIdx_cons]
 cases zbu x set<;>rfl
theorem zgO (c:UInt8):∀l:List UInt8,(zb8 l [c]<l.length->zaw c l=(l.take (zb8 l [c]),l.drop (zb8 l [c]+1),true))/\(¬zb8 l [c]<l.length->zaw c l=(l,[],false))
 | []=>⟨fun h=>absurd h (by simp),fun _=>rfl⟩
 | x::t=>by
  have ih:=zgO c t;rw[zjj,zaF]
  by_cases hx:x=c
  ·subst hx;have:zbu x [x]=true:=by simp[zbu]
   rw[if_pos this,if_pos rfl];exact⟨fun _=>by simp,fun h=>absurd (by simp) h⟩
  ·have:¬zbu x [c]=true:=by simp[zbu,hx]
   rw[if_neg this,if_neg hx];refine⟨fun h=>?_,fun h=>?_⟩
   ·rw[ih.1 (by simp at h;omega)];simp
   ·rw[ih.2 (by simp at h ⊢;omega)]
section
variable [Tabs Tryz.prog] {objs:List OB} {K:List OB->AV->Prop}
end
end Go.Proofs.YtceenajkieomoaaGreatDoor
namespace Go.Proofs.YtceenajkieomoaaGreatDoor
open Go.RowKit
open Lib renaming hid->zb
open List renaming append_assoc->zy, append_nil->jh, getElem?_eq_getElem->zm, mem_cons->zv
open Nat renaming le_refl->ze, sub_self->xl, zero_le->zd
theorem zeF (c:UInt8):∀(l x:List UInt8),x∈zaJ c l->x.length<=l.length
 | [],x,h=>by simp[zaJ] at h;subst h;simp
 | y::t,x,h=>by
  rw[zaQ] at h
  by_cases hy:y=c
  ·rw[if_pos hy] at h;rcases zv.1 h with rfl|h
   ·simp
   ·have:=zeF c t x h;simp;omega
  ·obtain⟨p,ps,e⟩:=za7 c t;have ih:=zeF c t;rw[if_neg hy,e] at h;rw[e] at ih;rcases zv.1 h with rfl|h
   ·have:=ih p (by simp);simp;omega
   ·have:=ih x (List.mem_cons_of_mem _ h);simp;omega
theorem zfI {α:Type} (l:List α) (d:α) (h:0<l.length):l.getLastD d=l[l.length - 1]:=by
 rw[List.getLastD_eq_getLast?,List.getLast?_eq_getElem?,zm (by omega)];rfl
def hvN (c:UInt8):Nat:=if c.toNat<=57 then c.toNat - 48 else if c.toNat<=70 then c.toNat - 55 else c.toNat - 87
def hv (c:UInt8):UInt8:=UInt8.ofNat (hvN c)
theorem zgG {c:UInt8} (h:zaT c=true):48<=c.toNat/\c.toNat<=57\/97<=c.toNat/\c.toNat<=102\/65<=c.toNat/\c.toNat<=70:=of_decide_eq_true h
theorem zct {c:UInt8} (h:zaT c=true):(hv c).toNat=hvN c/\hvN c<16:=by
 have:=zgG h;have h2:hvN c<16:=by unfold hvN;(repeat' split)<;>omega
 exact⟨by unfold hv;rw[UInt8.toNat_ofNat'];omega,h2⟩
theorem and_223:∀n:Fin 256,bits .and .u8 ((n.val:Nat):Int) 223=((n.val &&& 223:Nat):Int):=by decide +kernel
theorem and_15:∀n:Fin 256,bits .and .u8 ((n.val:Nat):Int) 15=((n.val % 16:Nat):Int):=by decide +kernel
theorem hex_223:∀n:Fin 256,(97<=n.val/\n.val<=102\/65<=n.val/\n.val<=70)->(n.val &&& 223)=(if n.val<=70 then n.val else n.val - 32):=by decide +kernel
theorem zhk (c:UInt8) (h:zaT c=true) (w:World) :
  Calls Tryz.prog 138 #[.int .u8 c.toNat] w fun e w'=>e=.returned (.int .u8 (hv c).toNat)/\w=w':=by
 have H:=zb h;clear h
 go_enter Tryz.func138,Tryz.ntmps138
 go_wp2_with (go_at_call 109;refine(zeu _ _).mono ?_;rintro e w' ⟨rfl,rfl⟩)
 ·have hd:zaq c=true:=by assumption
  go_ret
  refine⟨zdo ?_,rfl⟩;have h1:=zct H.out;have h2:48<=c.toNat/\c.toNat<=57:=of_decide_eq_true hd;rw[h1.1];unfold hvN;rw[if_pos h2.2];omega
 ·have hd:zaq c=false:=by assumption
  go_ret
  refine⟨zdo ?_,rfl⟩;have h1:=zct H.out;have h2:¬(48<=c.toNat/\c.toNat<=57):=of_decide_eq_false hd;have h3:=zgG H.out;rw[h1.1,and_223 ⟨c.toNat,c.toNat_lt⟩,hex_223 ⟨c.toNat,c.toNat_lt⟩ (by show _\/_;simp only;omega)];unfold hvN;simp only
  split<;>split<;>(try split)<;>omega
theorem zmz (c:UInt8) (h:zaT c=true) (w:World) :
  Calls Tryz.prog 115 #[.int .u8 c.toNat] w fun e w'=>e=.returned (.int .u8 (hv c).toNat)/\w=w':=by
 have h1:=zct h;have h3:=zgG h;have H:=zb (And.intro h1 h3);clear h h1 h3
 go_enter Tryz.func115,Tryz.ntmps115
 go_wp2
 all_goals go_ret
 all_goals refine⟨zdo ?_,rfl⟩
 all_goals have h1:=H.out.1
 all_goals have h3:=H.out.2
 all_goals rw[h1.1]
 all_goals unfold hvN
 all_goals (repeat' split)<;>omega
def zeb (n:Nat):UInt8:=[48,49,50,51,52,53,54,55,56,57,65,66,67,68,69,70].getD n 0
def zdB (c:UInt8):List UInt8:=[37,zeb (c.toNat / 16),zeb (c.toNat % 16)]
theorem zfU (i:Nat) (h:i<ByteArray.size { data:=#[48,49,50,51,52,53,54,55,56,57,65,66,67,68,69,70] }) :
  ({ data:=#[48,49,50,51,52,53,54,55,56,57,65,66,67,68,69,70] }:ByteArray)[i]=zeb i:=by
 have h':i<[(48:UInt8),49,50,51,52,53,54,55,56,57,65,66,67,68,69,70].length:=h;unfold zeb;rw[List.getD_eq_getElem?_getD,zm h']
 rfl
theorem news3 (W:World) (a b c:Value):∀j u,[a,b,c][j]? = some u->(W.alloc (.cells #[a,b,c] 5)).cell? ((⟨W.heap.size,0,none⟩:Addr).add j)=some u:=by
 intro j u hj;rw[zaD,World.cell?_alloc_at _ _ _ _ rfl];simpa using hj
theorem zjb (W:World) (a:Value):∀j u,[a][j]? = some u->(W.alloc (.cells #[a] 5)).cell? ((⟨W.heap.size,0,none⟩:Addr).add j)=some u:=by
 intro j u hj;rw[zaD,World.cell?_alloc_at _ _ _ _ rfl];simpa using hj
theorem zmL (c:UInt8) (i j:Nat) (hi:i=c.toNat / 16) (hj:j=c.toNat % 16) (h1:i<ByteArray.size { data:=#[48,49,50,51,52,53,54,55,56,57,65,66,67,68,69,70] }) (h2:j<ByteArray.size { data:=#[48,49,50,51,52,53,54,55,56,57,65,66,67,68,69,70] }) :
  bv (zdB c)=[.int .u8 37,.int .u8 (({ data:=#[48,49,50,51,52,53,54,55,56,57,65,66,67,68,69,70] }:ByteArray)[i]).toNat,.int .u8 (({ data:=#[48,49,50,51,52,53,54,55,56,57,65,66,67,68,69,70] }:ByteArray)[j]).toNat]:=by
 rw[zfU,zfU,hi,hj];rfl
theorem zfK (v:Value) (l:List UInt8) (c:UInt8) (B:Nat) (w:World) (h:zcz w B v l) (hl:l.length<=1000000000) (hB:B<=w.heap.size) :
  Calls Tryz.prog 128 #[v,.int .u8 c.toNat] w fun e w'=>∃v',e=.returned v'/\zcz w' B v' (l++zdB c)/\Below B w w':=by
 have hc:=c.toNat_lt;have a1:(0:Int)<=(c.toNat:Int) / 16:=by omega
 have a2:(c.toNat:Int) / 16<16:=by omega
 have b1:(0:Int)<=(c.toNat:Int) % 16:=by omega
 have b2:(c.toNat:Int) % 16<16:=by omega
 have hand:=and_15 ⟨c.toNat,c.toNat_lt⟩;simp only at hand;have hcells:=zb (zmL c ((c.toNat:Int) / 16).toNat ((c.toNat:Int) % 16).toNat (by omega) (by omega) (by show _<16;omega) (by show _<16;omega))
 go_enter Tryz.func128,Tryz.ntmps128
 go_wp2_with fail
 go_region_law (first|(refine zga rfl (.tmp 5) (.tmp 12) rfl B v l (zdB c) rfl (zcz.drew (h.alloc _)) _ _ _ rfl rfl (by rw[hcells.out];exact news3 _ _ _ _) (by simp[zdB];omega) (by simp;omega) ?_;intro v1 w1 hr1 hb1)|fail)
 all_goals have hb2:Below B w w1:=(((Below.refl B w).alloc hB _).drew).trans hb1
 all_goals (try go_wp2_with fail)
 all_goals go_ret
 all_goals exact⟨_,rfl,hr1,hb2⟩
theorem crow3 (W:World) (x y z:UInt8):Crow ((W.alloc (.cells #[.int .u8 x.toNat,.int .u8 y.toNat,.int .u8 z.toNat] 5)).drew) W.heap.size [x,y,z]:=by
 intro j hj;refine⟨?_,World.frozen?_alloc_at _ _ _ _ rfl⟩;show (W.alloc _).cell? _=_;rw[World.cell?_alloc_at _ _ _ _ rfl]
 match j,hj with
 | 0,_=>rfl
 | 1,_=>rfl
 | 2,_=>rfl
theorem zgt (c:UInt8) (w:World) :
  Calls Tryz.prog 97 #[.int .u8 c.toNat] w fun e w'=>e=.returned (.string (S (zdB c)))/\Qb w w':=by
 have hc:=c.toNat_lt;have e1:=zfU (c.toNat / 16) (by show _<16;omega);have e2:=zfU (c.toNat % 16) (by show _<16;omega);have hst:(convert 132 9 (.slice (some ⟨w.heap.size,0,none⟩) 3 3)).run Tryz.prog ((w.alloc (.cells #[.int .u8 37,.int .u8 (zeb (c.toNat / 16)).toNat,.int .u8 (zeb (c.toNat % 16)).toNat] 5)).drew)=.ok (.string ⟨[37,zeb (c.toNat / 16),zeb (c.toNat % 16)].toArray⟩) _:=(crow3 w 37 (zeb (c.toNat / 16)) (zeb (c.toNat % 16))).str 3 3 rfl;rw[<-e1,<-e2] at hst;have H:=zb (And.intro e1 e2);clear e1 e2;have a1:(0:Int)<=(c.toNat:Int) / 16:=by omega
 have a2:(c.toNat:Int) / 16<16:=by omega
 have b1:(0:Int)<=(c.toNat:Int) % 16:=by omega
 have b2:(c.toNat:Int) % 16<16:=by omega
 go_enter Tryz.func97,Tryz.ntmps97
 go_wp2_with fail
 go_region
 all_goals (try go_wp2_with fail)
 all_goals go_ret
 all_goals refine⟨znR ?_,((Qb.refl w).alloc _).drew⟩
 all_goals rw[H.out.1,H.out.2]
 all_goals rfl
def zbS (c:UInt8) (also:List UInt8):Bool:=zaG c||(c.toNat != 37&&zbu c also)
theorem zds (c:UInt8) (s:ByteArray) (w:World) :
  Calls Tryz.prog 129 #[.int .u8 c.toNat,.string s] w fun e w'=>e=.returned (.bool (zbS c s.data.toList))/\w=w':=by
 go_enter Tryz.func129,Tryz.ntmps129
 go_wp2_with (first|(go_at_call 127;refine(zdz _ _).mono ?_;rintro e w' ⟨rfl,rfl⟩)|(go_at_call 102;refine(Tryz.strings_IndexByte _ _ _).mono ?_;rintro e w' ⟨rfl,rfl⟩))
 ·have h1:zaG c=true:=by assumption
  go_ret
  exact⟨zaX (by unfold zbS;rw[h1];rfl),rfl⟩
 ·have h1:¬zaG c=true:=by assumption
  have h2:(c.toNat:Int)=37:=by assumption
  go_ret
  refine⟨zaX ?_,rfl⟩;unfold zbS;have h3:c.toNat=37:=by omega
  rw[Bool.eq_false_iff.2 h1,h3];rfl
 ·have h1:¬zaG c=true:=by assumption
  have h2:¬(c.toNat:Int)=37:=by assumption
  go_ret
  refine⟨zaX ?_,rfl⟩;unfold zbS zbu;have h3:¬c.toNat=37:=by omega
  rw[Bool.eq_false_iff.2 h1,Lib.contains_iff_indexByte,bne_iff_ne.2 h3,bne_iff_ne.2 h2];rfl
def zbi:List UInt8->Bool
 | _::a::b::_=>zaT a&&zaT b
 | _=>false
def zcf:List UInt8->UInt8
 | _::a::b::_=>UInt8.ofNat (16*hvN a+hvN b)
 | _=>0
theorem drop3 (s:ByteArray) (k:Nat) (h:k+2<s.size):s.data.toList.drop k=s[k]::s[k+1]::s[k+2]::s.data.toList.drop (k+3):=by
 rw[za9 s k (by omega),za9 s (k+1) (by omega),za9 s (k+2) (by omega)]
theorem zep (s:ByteArray) (k:Nat) (h:¬k+2<s.size):zbi (s.data.toList.drop k)=false:=by
 have hl:(s.data.toList.drop k).length<=2:=by rw[List.length_drop,zal];omega
 revert hl
 generalize s.data.toList.drop k=l;intro hl
 match l,hl with
 | [],_=>rfl
 | [_],_=>rfl
 | [_,_],_=>rfl
theorem zcm (s:ByteArray) (k:Nat) (hk:k<=s.size) (hs:s.size<=maxLen) (w:World) :
  Calls Tryz.prog 137 #[.string s,.int .i64 k] w fun e w'=>e=.returned (.bool (zbi (s.data.toList.drop k)))/\w=w':=by
 unfold maxLen at hs
 by_cases hlt:k+2<s.size
 ·have HD:=zb (drop3 s k hlt)
  go_enter Tryz.func137,Tryz.ntmps137
  go_wp2_with (go_at_call 150;refine(zqk _ _).mono ?_;rintro e w' ⟨rfl,rfl⟩)
  ·have h1:zaT s[k+1]=true:=by assumption
   go_ret
   exact⟨zaX (by rw[HD.out];simp only[zbi,h1,Bool.true_and]),rfl⟩
  ·have h1:¬zaT s[k+1]=true:=by assumption
   go_ret
   exact⟨zaX (by rw[HD.out];simp only[zbi,Bool.eq_false_iff.2 h1,Bool.false_and]),rfl⟩
 ·have HD:=zb (zep s k hlt)
  go_enter Tryz.func137,Tryz.ntmps137
  go_wp2_with fail
  go_ret
  exact⟨zaX HD.out.symm,rfl⟩
theorem zlJ {a b:UInt8} (ha:zaT a=true) (hb:zaT b=true):(UInt8.ofNat (16*hvN a+hvN b)).toNat=16*(hv a).toNat+(hv b).toNat:=by
 have h1:=zct ha;have h2:=zct hb;rw[UInt8.toNat_ofNat',h1.1,h2.1];omega
def zmK (l:List UInt8):UInt8:=if zbi l=true then zcf l else 0
theorem zkj {l:List UInt8} (h:zbi l=false):zmK l=0:=by unfold zmK;rw[if_neg (by rw[h];exact Bool.false_ne_true)]
theorem ziq {l:List UInt8} (h:zbi l=true):zmK l=zcf l:=if_pos h
theorem zcP (s:ByteArray) (k:Nat) (hk:k<s.size) (hs:s.size<=140737488351232) (h37:s[k]=37) (w:World) :
  Calls Tryz.prog 96 #[.string s,.int .i64 k] w fun e w'=>e=.returned (.tuple #[.int .u8 (zmK (s.data.toList.drop k)).toNat,.bool (zbi (s.data.toList.drop k))])/\Qb w w':=by
 have hne:((s[k].toNat:Int) != 37)=false:=by rw[h37];rfl
 have H37:=zb h37;clear h37
 by_cases hlt:k+2<s.size
 ·have HD:=zb (drop3 s k hlt);rcases ha:zaT s[k+1] with _|_
  ·have ho:zbi (s.data.toList.drop k)=false:=by rw[HD.out];simp only[zbi,ha,Bool.false_and]
   have hr:=zkj ho;have HO:=zb (And.intro ho hr);clear ho hr
   go_enter Tryz.func96,Tryz.ntmps96
   go_wp2_with (go_at_call 114;refine(zdb _ _).mono ?_;rintro e w' ⟨rfl,rfl⟩)
   go_ret2
   exact⟨by rw[HO.out.1,HO.out.2];rfl,Qb.refl w⟩
  ·rcases hb:zaT s[k+2] with _|_
   ·have ho:zbi (s.data.toList.drop k)=false:=by rw[HD.out];simp only[zbi,hb,Bool.and_false]
    have hr:=zkj ho;have HO:=zb (And.intro ho hr);clear ho hr
    go_enter Tryz.func96,Tryz.ntmps96
    go_wp2_with (go_at_call 114;refine(zdb _ _).mono ?_;rintro e w' ⟨rfl,rfl⟩)
    go_ret2
    exact⟨by rw[HO.out.1,HO.out.2];rfl,Qb.refl w⟩
   ·have n1:=(zct ha).2;rw[<-(zct ha).1] at n1;have n2:=(zct hb).2;rw[<-(zct hb).1] at n2;have ho:zbi (s.data.toList.drop k)=true:=by rw[HD.out];simp only[zbi,ha,hb,Bool.and_true]
    have hr:=ziq ho;have hv2:(zcf (s.data.toList.drop k)).toNat=16*(hv s[k+1]).toNat+(hv s[k+2]).toNat:=by
     rw[HD.out];exact zlJ ha hb
    have HO:=zb (And.intro ho (And.intro hr hv2));clear ho hr hv2
    go_enter Tryz.func96,Tryz.ntmps96
    go_wp2_with (go_at_call 114;refine(zdb _ _).mono ?_;rintro e w' ⟨rfl,rfl⟩)
    go_quiet ((go_at_call 115;exact zfa (zmz _ (by assumption) _)))
    go_wp2_with fail
    go_ret2
    exact⟨by rw[HO.out.1,HO.out.2.1,HO.out.2.2,Int.natCast_add,Int.natCast_mul];rfl,(Qb.refl w).drewN _⟩
 ·have ho:=zep s k hlt;have hr:=zkj ho;have HO:=zb (And.intro ho hr);clear ho hr
  go_enter Tryz.func96,Tryz.ntmps96
  go_wp2_with fail
  go_ret2
  exact⟨by rw[HO.out.1,HO.out.2];rfl,Qb.refl w⟩
abbrev ziD:=List UInt8->UInt8->Bool->Int×List UInt8
def rwS (add:ziD):Nat->List UInt8->List UInt8->Int×List UInt8
 | _,[],out=>(0,out)
 | n+1,_::l,out=>rwS add n l out
 | 0,c::l,out=>
  if c=37 then
   if zbi (c::l)=true then
    if (add out (zcf (c::l)) true).1=0 then rwS add 2 l (add out (zcf (c::l)) true).2 else ((add out (zcf (c::l)) true).1,[])
   else (2,[])
  else if (add out c false).1=0 then rwS add 0 l (add out c false).2 else ((add out c false).1,[])
section
variable (add:ziD) (s:ByteArray) (k:Nat) (out:List UInt8)
theorem zhW (n:Nat) (h:¬k<s.size):rwS add n (s.data.toList.drop k) out=(0,out):=by
 rw[List.drop_of_length_le (by rw[zal];omega),rwS]
theorem zkD (m:Nat) (h:k<s.size) (hm:k<m):rwS add (m - k) (s.data.toList.drop k) out=rwS add (m - (k+1)) (s.data.toList.drop (k+1)) out:=by
 rw[za9 s k h,show m - k=(m - (k+1))+1 from by omega,rwS]
theorem zhX (h:k<s.size) (hc:s[k]=37) (he:zbi (s.data.toList.drop k)=false):rwS add 0 (s.data.toList.drop k) out=(2,[]):=by
 rw[za9 s k h] at he ⊢;rw[rwS,if_pos hc,if_neg (by rw[he];exact Bool.false_ne_true)]
theorem zgg (h:k<s.size) (hc:s[k]=37) (he:zbi (s.data.toList.drop k)=true) (ha:(add out (zcf (s.data.toList.drop k)) true).1=0) :
  rwS add 0 (s.data.toList.drop k) out=rwS add (k+3 - (k+1)) (s.data.toList.drop (k+1)) (add out (zcf (s.data.toList.drop k)) true).2:=by
 rw[za9 s k h] at he ha;rw[show k+3 - (k+1)=2 from by omega]
 conv=>lhs;rw[za9 s k h]
 rw[rwS,if_pos hc,if_pos he,if_pos ha,<-za9 s k h]
theorem zgf (h:k<s.size) (hc:s[k]=37) (he:zbi (s.data.toList.drop k)=true) (ha:(add out (zcf (s.data.toList.drop k)) true).1≠0) :
  rwS add 0 (s.data.toList.drop k) out=((add out (zcf (s.data.toList.drop k)) true).1,[]):=by
 rw[za9 s k h] at he ha ⊢;rw[rwS,if_pos hc,if_pos he,if_neg ha]
theorem zhV (h:k<s.size) (hc:s[k]≠37) (ha:(add out s[k] false).1=0) :
  rwS add 0 (s.data.toList.drop k) out=rwS add (k+1 - (k+1)) (s.data.toList.drop (k+1)) (add out s[k] false).2:=by
 rw[xl]
 conv=>lhs;rw[za9 s k h]
 rw[rwS,if_neg hc,if_pos ha]
theorem zeh (h:k<s.size) (hc:s[k]≠37) (ha:(add out s[k] false).1≠0) :
  rwS add 0 (s.data.toList.drop k) out=((add out s[k] false).1,[]):=by
 conv=>lhs;rw[za9 s k h]
 rw[rwS,if_neg hc,if_neg ha]
theorem zfi (he:zbi (s.data.toList.drop k)=true):k+2<s.size:=by
 rcases Nat.lt_or_ge (k+2) s.size with h|h
 ·exact h
 ·rw[zep s k (by omega)] at he;cases he
theorem zjo (he:zbi (s.data.toList.drop k)=true):∃h:k+2<s.size,zaT s[k+1]=true/\zaT s[k+2]=true/\(zcf (s.data.toList.drop k)).toNat=16*(hv s[k+1]).toNat+(hv s[k+2]).toNat:=by
 have h:=zfi s k he;rw[drop3 s k h] at he ⊢;simp only[zbi,Bool.and_eq_true] at he;exact⟨h,he.1,he.2,zlJ he.1 he.2⟩
end
def zca:ziD:=fun out x _=>(0,out++[x])
def zb4 (also:List UInt8):ziD:=fun out x e=>if (e&&!zaG x)=true then (0,out++zdB x) else if zbS x also=true then (0,out++[x]) else (1,[])
def zgz (r:Int×List UInt8) (n:Nat):Int×List UInt8:=if 16384<n then (5,[]) else r
def zcF (l:List UInt8):Int×List UInt8:=zgz (rwS zca 0 l []) l.length
def zat (l also:List UInt8):Int×List UInt8:=zgz (rwS (zb4 also) 0 l []) l.length
theorem or_shl:∀a b:Fin 16,bits .or .u8 (((a.val*16:Nat):Int)) ((b.val:Nat):Int)=((16*a.val+b.val:Nat):Int):=by decide +kernel
def zqm (r:Int×List UInt8) (B:Nat) (w:World) (en:Ending) (w':World):Prop :=
 ∃v',en=.returned (.tuple #[v',.int .i64 r.1])/\(r.1=0->zcz w' B v' r.2)/\Below B w w'
theorem zhB (v:Value) (l:List UInt8) (x:UInt8) (e:Bool) (B:Nat) (w:World) (h:zcz w B v l) (hl:l.length<=1000000000) (hB:B<=w.heap.size) :
  Calls Tryz.prog 124 #[v,.int .u8 x.toNat,.bool e] w (zqm (zca l x e) B w):=by
 go_enter Tryz.func124,Tryz.ntmps124
 go_wp2_with (at_builtin;refine zaM rfl (.tmp 8) (.tmp 10) rfl B v l [x] rfl (h.alloc _) _ _ _ rfl rfl (zjb _ _) (by simp;omega) (by simp;omega) ?_;intro v1 w1 hr1 hb1)
 go_ret2
 exact⟨v1,rfl,fun _=>hr1,((Below.refl B w).alloc hB _).trans hb1⟩
theorem zd7 {also l:List UInt8} {x:UInt8} (hu:zaG x=false):zb4 also l x true=(0,l++zdB x):=by unfold zb4;rw[if_pos (by rw[hu];rfl)]
theorem zbc {also l:List UInt8} {x:UInt8} {e:Bool} (hu:(e&&!zaG x)=false) (hp:zbS x also=true):zb4 also l x e=(0,l++[x]):=by
 unfold zb4;rw[if_neg (by rw[hu];exact Bool.false_ne_true),if_pos hp]
theorem zf0 {also l:List UInt8} {x:UInt8} {e:Bool} (hu:(e&&!zaG x)=false) (hp:zbS x also=false):zb4 also l x e=(1,[]):=by
 unfold zb4;rw[if_neg (by rw[hu];exact Bool.false_ne_true),if_neg (by rw[hp];exact Bool.false_ne_true)]
theorem zmi {also l:List UInt8} {x:UInt8} {e:Bool}:(zb4 also l x e).2.length<=l.length+3:=by
 unfold zb4
 repeat' split
 all_goals simp[zdB]
theorem zmj {l:List UInt8} {x:UInt8} {e:Bool}:(zca l x e).2.length<=l.length+3:=by simp[zca]
theorem zgx (v:Value) (l:List UInt8) (x:UInt8) (e:Bool) (B g:Nat) (also:ByteArray) (w:World) (h:zcz w B v l) (hl:l.length<=1000000000) (hB:B<=w.heap.size) (hc:w.cell? ⟨g,0,none⟩=some (.string also)) :
  Calls Tryz.prog 126 #[v,.int .u8 x.toNat,.bool e,.pointer (some ⟨g,0,none⟩)] w (zqm (zb4 also.data.toList l x e) B w):=by
 rcases hu:(e&&!zaG x) with _|_
 ·rcases hp:zbS x also.data.toList with _|_
  ·rw[zf0 hu hp]
   cases e
   ·clear hu
    go_enter Tryz.func126,Tryz.ntmps126
    go_wp2_with (go_at_call 129;refine(zds _ _ _).mono ?_;rintro e w' ⟨rfl,rfl⟩)
    go_ret2
    exact⟨_,rfl,fun h=>absurd h (by decide),Below.refl _ _⟩
   ·have hu':zaG x=true:=by simpa using hu
    clear hu
    go_enter Tryz.func126,Tryz.ntmps126
    go_wp2_with (first|(go_at_call 127;refine(zdz _ _).mono ?_;rintro e w' ⟨rfl,rfl⟩)|(go_at_call 129;refine(zds _ _ _).mono ?_;rintro e w' ⟨rfl,rfl⟩))
    go_ret2
    exact⟨_,rfl,fun h=>absurd h (by decide),Below.refl _ _⟩
  ·rw[zbc hu hp]
   cases e
   ·clear hu
    go_enter Tryz.func126,Tryz.ntmps126
    go_wp2_with (first|(go_at_call 129;refine(zds _ _ _).mono ?_;rintro e w' ⟨rfl,rfl⟩)|(at_builtin;refine zaM rfl (.tmp 23) (.tmp 25) rfl B v l [x] rfl (h.alloc _) _ _ _ rfl rfl (zjb _ _) (by simp;omega) (by simp;omega) ?_;intro v1 w1 hr1 hb1))
    go_ret2
    exact⟨v1,rfl,fun _=>hr1,((Below.refl B _).alloc hB _).trans hb1⟩
   ·have hu':zaG x=true:=by simpa using hu
    clear hu
    go_enter Tryz.func126,Tryz.ntmps126
    go_wp2_with (first|(go_at_call 127;refine(zdz _ _).mono ?_;rintro e w' ⟨rfl,rfl⟩)|(go_at_call 129;refine(zds _ _ _).mono ?_;rintro e w' ⟨rfl,rfl⟩)|(at_builtin;refine zaM rfl (.tmp 23) (.tmp 25) rfl B v l [x] rfl (h.alloc _) _ _ _ rfl rfl (zjb _ _) (by simp;omega) (by simp;omega) ?_;intro v1 w1 hr1 hb1))
    go_ret2
    exact⟨v1,rfl,fun _=>hr1,((Below.refl B _).alloc hB _).trans hb1⟩
 ·have he:e=true:=by cases e<;>simp_all
  subst he;have hu':zaG x=false:=by simpa using hu
  clear hu;rw[zd7 hu']
  go_enter Tryz.func126,Tryz.ntmps126
  go_wp2_with (first|(go_at_call 127;refine(zdz _ _).mono ?_;rintro e w' ⟨rfl,rfl⟩)|(go_at_call 128;refine(zfK v l x B _ h hl hB).mono ?_;rintro e w1 ⟨v1,rfl,hr1,hb1⟩))
  go_ret2
  exact⟨v1,rfl,fun _=>hr1,hb1⟩
set_option maxHeartbeats 800000 in
theorem ziY (s:ByteArray) (w:World) (hs:s.size<=16384) :
  Calls Tryz.prog 123 #[.string s,.func (.func 124) #[] #[]] w fun e w'=>e=.returned (zjW (rwS zca 0 s.data.toList []))/\Qb w w':=by
 have hmk:=fun W=>zjd s.size (by omega) W
 go_enter Tryz.func123,Tryz.ntmps123
 go_wp2_with fail
 clear hmk
 go_loopw [6,7,8,9,10,11,20] (fun v m _ _ _ _ i wr=>∃k j:Nat,∃l,k<=s.size/\k<=j/\j<=s.size/\m=.int .i64 j/\i=.int .i64 k/\zcz wr w.heap.size v l/\l.length<=3*k/\Hid (rwS zca 0 s.data.toList []=rwS zca (j - k) (s.data.toList.drop k) l)/\Qb w wr) (fun _ _ _ _ _ _ i _=>s.size - (intOf i).toNat)
 case atStart=>exact⟨0,0,[],zd _,ze _,zd _,rfl,rfl,zjB w _ 0 _ (ze _) (zd _) (by omega),zd _,zb rfl,(Qb.refl w).alloc _⟩
 case round=>
  obtain⟨k,j,l,hk,hkj,hj,rfl,rfl,hrow,hlen,HR,hq⟩:=hrel
  by_cases hlt:k<s.size
  ·by_cases hskip:k<j
   ·have HS:=zb (zkD zca s k l j hlt hskip)
    go_wp2_with fail
    go_roundw
    case rel=>exact⟨k+1,j,l,by omega,by omega,hj,rfl,by go_num,hrow,by omega,zb (HR.out.trans HS.out),hq⟩
    case measure=>simp[intOf];omega
   ·obtain rfl:k=j:=by omega
    rw[xl] at HR;have hB:w.heap.size<=wr.heap.size:=hq.size
    by_cases hc:s[k]=37
    ·have h37:((s[k].toNat:Int)==37)=true:=by rw[hc];rfl
     have HC:=zb hc;clear hc;rcases he:zbi (s.data.toList.drop k) with _|_
     ·have HE:=zb (zhX zca s k l hlt HC.out he)
      go_wp2_with (go_at_call 137;refine(zcm s k (by omega) (by unfold maxLen;omega) _).mono ?_;rintro e w' ⟨rfl,rfl⟩)
      go_ret2
      exact⟨by rw[HR.out,HE.out];rfl,hq⟩
     ·obtain⟨h2,ha,hb,hv2⟩:=zjo s k he;have n1:=(zct ha).2;rw[<-(zct ha).1] at n1;have n2:=(zct hb).2;rw[<-(zct hb).1] at n2;have hor:bits .or .u8 (((hv s[k+1]).toNat:Int)*16) ((hv s[k+2]).toNat:Int)=((zcf (s.data.toList.drop k)).toNat:Int):=by
       rw[hv2,<-or_shl ⟨_,n1⟩ ⟨_,n2⟩];rfl
      have HV:=zb hor;have HE0:=zb he;clear hv2 hor;have q1:IntKind.i64.wrap ((k:Int)+1)=(k:Int)+1:=IntWalk.i64_in _ (by omega);have q2:(0:Int)<=(k:Int)+1:=by omega
      have q3:((k:Int)+1).toNat=k+1:=by omega
      have q4:(k:Int)+1<s.size:=by omega
      have q5:IntKind.i64.wrap ((k:Int)+2)=(k:Int)+2:=IntWalk.i64_in _ (by omega);have q6:(0:Int)<=(k:Int)+2:=by omega
      have q7:((k:Int)+2).toNat=k+2:=by omega
      have q8:(k:Int)+2<s.size:=by omega
      go_wp2_with (go_at_call 137;refine(zcm s k (by omega) (by unfold maxLen;omega) _).mono ?_;rintro e w' ⟨rfl,rfl⟩)
      go_quiet ((go_at_call 138;exact zfa (zhk _ (by assumption) _)))
      clear he
      go_wp2_with fail
      rw[HV.out];refine(zhB _ l (zcf (s.data.toList.drop k)) true w.heap.size _ (by exact hrow) (by omega) (by exact hB)).mono ?_;rintro en w2 ⟨v2,rfl,hr2,hb2⟩;have hq2:Qb w w2:=Below.trans (hq.drewN _) hb2;have hl2:=zmj (l:=l) (x:=zcf (s.data.toList.drop k)) (e:=true)
      by_cases h0:(zca l (zcf (s.data.toList.drop k)) true).1=0
      ·have hr3:=hr2 h0;have HE:=zb (zgg zca s k l hlt HC.out HE0.out h0);clear hr2;generalize hout:(zca l (zcf (s.data.toList.drop k)) true).2=l2 at *;have HO:=zb hout;clear hout
       go_wp2_with fail
       go_roundw
       case rel=>exact⟨k+1,k+3,l2,by omega,by omega,by omega,by go_num,by go_num,hr3,by omega,zb (HR.out.trans HE.out),hq2⟩
       case measure=>simp[intOf];omega
      ·have HE:=zb (zgf zca s k l hlt HC.out HE0.out h0);have h1:(((zca l (zcf (s.data.toList.drop k)) true).1) != 0)=true:=bne_iff_ne.2 h0;clear h0 hr2
       go_wp2_with fail
       go_ret2
       exact⟨by rw[HR.out,HE.out];rfl,hq2⟩
    ·have h37:((s[k].toNat:Int)==37)=false:=by
      rw[beq_eq_false_iff_ne];intro e;exact hc (UInt8.toNat_inj.1 (show s[k].toNat=37 from by omega))
     have HC:=zb hc;clear hc
     all_goals
      go_wp2_with fail
      refine(zhB _ l (s[k]) false w.heap.size _ (by exact hrow) (by omega) (by exact hB)).mono ?_;rintro en w2 ⟨v2,rfl,hr2,hb2⟩;have hq2:Qb w w2:=Below.trans hq hb2;have hl2:=zmj (l:=l) (x:=s[k]) (e:=false)
      by_cases h0:(zca l (s[k]) false).1=0
      ·have hr3:=hr2 h0;have HE:=zb (zhV zca s k l hlt HC.out h0);clear hr2;generalize hout:(zca l (s[k]) false).2=l2 at *;have HO:=zb hout;clear hout
       go_wp2_with fail
       go_roundw
       case rel=>exact⟨k+1,k+1,l2,by omega,by omega,by omega,by go_num,by go_num,hr3,by omega,zb (HR.out.trans HE.out),hq2⟩
       case measure=>simp[intOf];omega
      ·have HE:=zb (zeh zca s k l hlt HC.out h0);have h1:(((zca l (s[k]) false).1) != 0)=true:=bne_iff_ne.2 h0;clear h0 hr2
       go_wp2_with fail
       go_ret2
       exact⟨by rw[HR.out,HE.out];rfl,hq2⟩
  ·have HE:=zb (zhW zca s k l (j - k) hlt);have hst:=zhZ hrow
   go_wp2_with fail
   go_ret2
   exact⟨by rw[HR.out,HE.out];rfl,hq⟩
set_option maxHeartbeats 800000 in
theorem ziX (s:ByteArray) (g:Nat) (also:ByteArray) (w:World) (hs:s.size<=16384) (hg:g<w.heap.size) (hc0:w.cell? ⟨g,0,none⟩=some (.string also)) :
  Calls Tryz.prog 123 #[.string s,.func (.func 126) #[] #[.pointer (some ⟨g,0,none⟩)]] w fun e w'=>e=.returned (zjW (rwS (zb4 also.data.toList) 0 s.data.toList []))/\Qb w w':=by
 have hmk:=fun W=>zjd s.size (by omega) W
 go_enter Tryz.func123,Tryz.ntmps123
 go_wp2_with fail
 clear hmk
 go_loopw [6,7,8,9,10,11,20] (fun v m _ _ _ _ i wr=>∃k j:Nat,∃l,k<=s.size/\k<=j/\j<=s.size/\m=.int .i64 j/\i=.int .i64 k/\zcz wr w.heap.size v l/\l.length<=3*k/\Hid (rwS (zb4 also.data.toList) 0 s.data.toList []=rwS (zb4 also.data.toList) (j - k) (s.data.toList.drop k) l)/\Qb w wr) (fun _ _ _ _ _ _ i _=>s.size - (intOf i).toNat)
 case atStart=>exact⟨0,0,[],zd _,ze _,zd _,rfl,rfl,zjB w _ 0 _ (ze _) (zd _) (by omega),zd _,zb rfl,(Qb.refl w).alloc _⟩
 case round=>
  obtain⟨k,j,l,hk,hkj,hj,rfl,rfl,hrow,hlen,HR,hq⟩:=hrel
  by_cases hlt:k<s.size
  ·by_cases hskip:k<j
   ·have HS:=zb (zkD (zb4 also.data.toList) s k l j hlt hskip)
    go_wp2_with fail
    go_roundw
    case rel=>exact⟨k+1,j,l,by omega,by omega,hj,rfl,by go_num,hrow,by omega,zb (HR.out.trans HS.out),hq⟩
    case measure=>simp[intOf];omega
   ·obtain rfl:k=j:=by omega
    rw[xl] at HR;have hB:w.heap.size<=wr.heap.size:=hq.size;have hcw:wr.cell? ⟨g,0,none⟩=some (.string also):=(hq.below.cell (p:=⟨g,0,none⟩) hg).trans hc0
    by_cases hc:s[k]=37
    ·have h37:((s[k].toNat:Int)==37)=true:=by rw[hc];rfl
     have HC:=zb hc;clear hc;rcases he:zbi (s.data.toList.drop k) with _|_
     ·have HE:=zb (zhX (zb4 also.data.toList) s k l hlt HC.out he)
      go_wp2_with (go_at_call 137;refine(zcm s k (by omega) (by unfold maxLen;omega) _).mono ?_;rintro e w' ⟨rfl,rfl⟩)
      go_ret2
      exact⟨by rw[HR.out,HE.out];rfl,hq⟩
     ·obtain⟨h2,ha,hb,hv2⟩:=zjo s k he;have n1:=(zct ha).2;rw[<-(zct ha).1] at n1;have n2:=(zct hb).2;rw[<-(zct hb).1] at n2;have hor:bits .or .u8 (((hv s[k+1]).toNat:Int)*16) ((hv s[k+2]).toNat:Int)=((zcf (s.data.toList.drop k)).toNat:Int):=by
       rw[hv2,<-or_shl ⟨_,n1⟩ ⟨_,n2⟩];rfl
      have HV:=zb hor;have HE0:=zb he;clear hv2 hor;have q1:IntKind.i64.wrap ((k:Int)+1)=(k:Int)+1:=IntWalk.i64_in _ (by omega);have q2:(0:Int)<=(k:Int)+1:=by omega
      have q3:((k:Int)+1).toNat=k+1:=by omega
      have q4:(k:Int)+1<s.size:=by omega
      have q5:IntKind.i64.wrap ((k:Int)+2)=(k:Int)+2:=IntWalk.i64_in _ (by omega);have q6:(0:Int)<=(k:Int)+2:=by omega
      have q7:((k:Int)+2).toNat=k+2:=by omega
      have q8:(k:Int)+2<s.size:=by omega
      go_wp2_with (go_at_call 137;refine(zcm s k (by omega) (by unfold maxLen;omega) _).mono ?_;rintro e w' ⟨rfl,rfl⟩)
      go_quiet ((go_at_call 138;exact zfa (zhk _ (by assumption) _)))
      clear he
      go_wp2_with fail
      rw[HV.out];refine(zgx _ l (zcf (s.data.toList.drop k)) true w.heap.size g also _ (by exact hrow) (by omega) (by exact hB) (by exact hcw)).mono ?_;rintro en w2 ⟨v2,rfl,hr2,hb2⟩;have hq2:Qb w w2:=Below.trans (hq.drewN _) hb2;have hl2:=zmi (also:=also.data.toList) (l:=l) (x:=zcf (s.data.toList.drop k)) (e:=true)
      by_cases h0:((zb4 also.data.toList) l (zcf (s.data.toList.drop k)) true).1=0
      ·have hr3:=hr2 h0;have HE:=zb (zgg (zb4 also.data.toList) s k l hlt HC.out HE0.out h0);clear hr2;generalize hout:((zb4 also.data.toList) l (zcf (s.data.toList.drop k)) true).2=l2 at *;have HO:=zb hout;clear hout
       go_wp2_with fail
       go_roundw
       case rel=>exact⟨k+1,k+3,l2,by omega,by omega,by omega,by go_num,by go_num,hr3,by omega,zb (HR.out.trans HE.out),hq2⟩
       case measure=>simp[intOf];omega
      ·have HE:=zb (zgf (zb4 also.data.toList) s k l hlt HC.out HE0.out h0);have h1:((((zb4 also.data.toList) l (zcf (s.data.toList.drop k)) true).1) != 0)=true:=bne_iff_ne.2 h0;clear h0 hr2
       go_wp2_with fail
       go_ret2
       exact⟨by rw[HR.out,HE.out];rfl,hq2⟩
    ·have h37:((s[k].toNat:Int)==37)=false:=by
      rw[beq_eq_false_iff_ne];intro e;exact hc (UInt8.toNat_inj.1 (show s[k].toNat=37 from by omega))
     have HC:=zb hc;clear hc
     all_goals
      go_wp2_with fail
      refine(zgx _ l (s[k]) false w.heap.size g also _ (by exact hrow) (by omega) (by exact hB) (by exact hcw)).mono ?_;rintro en w2 ⟨v2,rfl,hr2,hb2⟩;have hq2:Qb w w2:=Below.trans hq hb2;have hl2:=zmi (also:=also.data.toList) (l:=l) (x:=s[k]) (e:=false)
      by_cases h0:((zb4 also.data.toList) l (s[k]) false).1=0
      ·have hr3:=hr2 h0;have HE:=zb (zhV (zb4 also.data.toList) s k l hlt HC.out h0);clear hr2;generalize hout:((zb4 also.data.toList) l (s[k]) false).2=l2 at *;have HO:=zb hout;clear hout
       go_wp2_with fail
       go_roundw
       case rel=>exact⟨k+1,k+1,l2,by omega,by omega,by omega,by go_num,by go_num,hr3,by omega,zb (HR.out.trans HE.out),hq2⟩
       case measure=>simp[intOf];omega
      ·have HE:=zb (zeh (zb4 also.data.toList) s k l hlt HC.out h0);have h1:((((zb4 also.data.toList) l (s[k]) false).1) != 0)=true:=bne_iff_ne.2 h0;clear h0 hr2
       go_wp2_with fail
       go_ret2
       exact⟨by rw[HR.out,HE.out];rfl,hq2⟩
  ·have HE:=zb (zhW (zb4 also.data.toList) s k l (j - k) hlt);have hst:=zhZ hrow
   go_wp2_with fail
   go_ret2
   exact⟨by rw[HR.out,HE.out];rfl,hq⟩
theorem zez (s:ByteArray) (f:Value) (w:World) (hs:¬s.size<=16384) :
  Calls Tryz.prog 123 #[.string s,f] w fun e w'=>e=.returned (zjW (5,[]))/\w=w':=by
 go_enter Tryz.func123,Tryz.ntmps123
 go_wp2_with fail
 go_ret2
 exact⟨rfl,rfl⟩
theorem zj2 (s:ByteArray) (w:World) :
  Calls Tryz.prog 110 #[.string s] w fun e w'=>e=.returned (zjW (zcF s.data.toList))/\Qb w w':=by
 have hmf:∀(fn:Fn) (first cap:Array Value) (w:World),(Instr.makeFunc fn first cap).run Tryz.prog w=.ok (.func fn first cap) w:=fun _ _ _ _=>rfl
 by_cases hs:s.size<=16384
 ·have hd:zcF s.data.toList=rwS zca 0 s.data.toList []:=by unfold zcF zgz;rw[if_neg (by rw[zal];omega)]
  rw[hd]
  go_enter Tryz.func110,Tryz.ntmps110
  go_wp2_with fail
  refine(ziY s _ hs).mono ?_;rintro e w1 ⟨rfl,hq1⟩;unfold zjW
  go_wp2_with fail
  go_ret2
  exact⟨rfl,hq1⟩
 ·have hd:zcF s.data.toList=(5,[]):=by unfold zcF zgz;rw[if_pos (by rw[zal];omega)]
  rw[hd]
  go_enter Tryz.func110,Tryz.ntmps110
  go_wp2_with fail
  refine(zez s _ _ hs).mono ?_;rintro e w1 ⟨rfl,rfl⟩;unfold zjW
  go_wp2_with fail
  go_ret2
  exact⟨rfl,Qb.refl _⟩
theorem zob (s a:ByteArray) (w:World) :
  Calls Tryz.prog 112 #[.string s,.string a] w fun e w'=>e=.returned (zjW (zat s.data.toList a.data.toList))/\Qb w w':=by
 have hmf:∀(fn:Fn) (first cap:Array Value) (w:World),(Instr.makeFunc fn first cap).run Tryz.prog w=.ok (.func fn first cap) w:=fun _ _ _ _=>rfl
 by_cases hs:s.size<=16384
 ·have hd:zat s.data.toList a.data.toList=rwS (zb4 a.data.toList) 0 s.data.toList []:=by unfold zat zgz;rw[if_neg (by rw[zal];omega)]
  rw[hd]
  go_enter Tryz.func112,Tryz.ntmps112
  go_wp2_with fail
  refine(ziX s w.heap.size a _ hs (by simp) (by rw[World.cell?_alloc_at _ _ _ _ rfl];rfl)).mono ?_;rintro e w1 ⟨rfl,hq1⟩;unfold zjW
  go_wp2_with fail
  go_ret2
  exact⟨rfl,((Qb.refl w).alloc _).trans hq1⟩
 ·have hd:zat s.data.toList a.data.toList=(5,[]):=by unfold zat zgz;rw[if_pos (by rw[zal];omega)]
  rw[hd]
  go_enter Tryz.func112,Tryz.ntmps112
  go_wp2_with fail
  refine(zez s _ _ hs).mono ?_;rintro e w1 ⟨rfl,rfl⟩;unfold zjW
  go_wp2_with fail
  go_ret2
  exact⟨rfl,(Qb.refl w).alloc _⟩
theorem zfW (c:UInt8):(zdB c).length=3:=rfl
theorem zbI (add:ziD):∀(n:Nat) (l out:List UInt8),rwS add n l out=rwS add 0 (l.drop n) out
 | 0,l,out=>rfl
 | n+1,[],out=>by rw[List.drop_nil,rwS,rwS]
 | n+1,_::l,out=>by rw[rwS,List.drop_succ_cons];exact zbI add n l out
theorem znm (add:ziD) (s:ByteArray) (k j:Nat) (h:k<=j) (out:List UInt8):rwS add (j - k) (s.data.toList.drop k) out=rwS add 0 (s.data.toList.drop j) out:=by
 rw[zbI,List.drop_drop,show k+(j - k)=j from by omega]
theorem zjY (s:ByteArray) (w:World) :
  Calls Tryz.prog 72 #[.string s] w fun e w'=>e=.returned (zjW (zcF s.data.toList))/\Qb w w':=by
 by_cases hs:s.size<=16384
 ·have hd:zcF s.data.toList=rwS zca 0 s.data.toList []:=by unfold zcF zgz;rw[if_neg (by rw[zal];omega)]
  rw[hd]
  go_enter Tryz.func72,Tryz.ntmps72
  go_wp2_with fail
  go_loopw [4,5,6,7,8] (fun v i _ _ _ wr=>∃k:Nat,∃l,k<=s.size/\i=.int .i64 k/\zcz wr w.heap.size v l/\l.length<=k/\Hid (rwS zca 0 s.data.toList []=rwS zca 0 (s.data.toList.drop k) l)/\Qb w wr) (fun _ i _ _ _ _=>s.size - (intOf i).toNat)
  case atStart=>exact⟨0,[],zd _,rfl,zcz.nil _ _,ze _,zb rfl,Qb.refl w⟩
  case round=>
   obtain⟨k,l,hk,rfl,hrow,hlen,HR,hq⟩:=hrel;have hB:w.heap.size<=wr.heap.size:=hq.size
   by_cases hlt:k<s.size
   ·by_cases hc:s[k]=37
    ·have h37:((s[k].toNat:Int)==37)=true:=by rw[hc];rfl
     have HC:=zb hc;clear hc;rcases he:zbi (s.data.toList.drop k) with _|_
     ·have HE:=zb (zhX zca s k l hlt HC.out he)
      go_wp2_with (go_at_call 96;refine(zcP s k hlt (by omega) HC.out _).mono ?_;rintro e w1 ⟨rfl,hq1⟩)
      go_ret2
      exact⟨by rw[HR.out,HE.out];rfl,hq.trans hq1⟩
     ·have HE:=zb (zgg zca s k l hlt HC.out he rfl);have HJ:=zb (znm zca s (k+1) (k+3) (by omega) (l++[zmK (s.data.toList.drop k)]));have HV:=zb (ziq he);have h2:=zfi s k he
      go_wp2_with (first|(go_at_call 96;refine(zcP s k hlt (by omega) HC.out _).mono ?_;rintro e w0 ⟨rfl,hq1⟩;have hrow0:=hrow.below hq1)|(at_builtin;refine zaM rfl (.tmp 34) (.tmp 36) rfl w.heap.size _ l [zmK (s.data.toList.drop k)] rfl (hrow0.alloc _) _ _ _ rfl rfl (zjb _ _) (by simp;omega) (by have:=hq1.size;simp;omega) ?_;intro v1 w1 hr1 hb1))
      go_roundw
      case rel=>exact⟨k+3,_,by omega,by go_num,hr1,by simp;omega,zb (by rw[HR.out,HE.out,<-HJ.out,HV.out];rfl),Below.trans ((hq.trans hq1).alloc _) hb1⟩
      case measure=>simp[intOf];omega
    ·have h37:((s[k].toNat:Int)==37)=false:=by
      rw[beq_eq_false_iff_ne];intro e;exact hc (UInt8.toNat_inj.1 (show s[k].toNat=37 from by omega))
     have HC:=zb hc;clear hc;have HE:=zb (zhV zca s k l hlt HC.out rfl)
     go_wp2_with (at_builtin;refine zaM rfl (.tmp 34) (.tmp 36) rfl w.heap.size _ l [s[k]] rfl (hrow.alloc _) _ _ _ rfl rfl (zjb _ _) (by simp;omega) (by simp;omega) ?_;intro v1 w1 hr1 hb1)
     go_roundw
     case rel=>exact⟨k+1,_,by omega,by go_num,hr1,by simp;omega,zb (by rw[HR.out,HE.out,xl];rfl),Below.trans (hq.alloc _) hb1⟩
     case measure=>simp[intOf];omega
   ·have HE:=zb (zhW zca s k l 0 hlt);have hst:=zhZ hrow
    go_wp2_with fail
    go_ret2
    exact⟨by rw[HR.out,HE.out];rfl,hq⟩
 ·have hd:zcF s.data.toList=(5,[]):=by unfold zcF zgz;rw[if_pos (by rw[zal];omega)]
  rw[hd]
  go_enter Tryz.func72,Tryz.ntmps72
  go_wp2_with fail
  go_ret2
  exact⟨rfl,Qb.refl _⟩
theorem ne37 {c:UInt8} (h:c≠37):((c.toNat:Int)==37)=false:=by
 rw[beq_eq_false_iff_ne];intro e;exact h (UInt8.toNat_inj.1 (show c.toNat=37 from by omega))
theorem zbR {c:UInt8} {l:List UInt8} (h:zaG c=true):zbS c l=true:=by unfold zbS;rw[h];rfl
theorem zi8 {c:UInt8} {l:List UInt8} (h:zaG c=false) (hc:c≠37):zbS c l=zbu c l:=by
 have h1:(c.toNat != 37)=true:=bne_iff_ne.2 (fun e=>hc (UInt8.toNat_inj.1 e));unfold zbS;rw[h,h1];rfl
theorem u37:zaG 37=false:=by decide
set_option maxHeartbeats 800000 in
theorem znY (s also:ByteArray) (w:World) (ha:also.size<=maxLen) :
  Calls Tryz.prog 103 #[.string s,.string also] w fun e w'=>e=.returned (zjW (zat s.data.toList also.data.toList))/\Qb w w':=by
 by_cases hs:s.size<=16384
 ·have hd:zat s.data.toList also.data.toList=rwS (zb4 also.data.toList) 0 s.data.toList []:=by unfold zat zgz;rw[if_neg (by rw[zal];omega)]
  rw[hd]
  go_enter Tryz.func103,Tryz.ntmps103
  go_wp2_with fail
  go_loopw [6,7,8,9] (fun v i _ _ wr=>∃k:Nat,∃l,k<=s.size/\i=.int .i64 k/\zcz wr w.heap.size v l/\l.length<=3*k/\Hid (rwS (zb4 also.data.toList) 0 s.data.toList []=rwS (zb4 also.data.toList) 0 (s.data.toList.drop k) l)/\Qb w wr) (fun _ i _ _ _=>s.size - (intOf i).toNat)
  case atStart=>exact⟨0,[],zd _,rfl,zcz.nil _ _,zd _,zb rfl,Qb.refl w⟩
  case round=>
   obtain⟨k,l,hk,rfl,hrow,hlen,HR,hq⟩:=hrel;have hB:w.heap.size<=wr.heap.size:=hq.size
   by_cases hlt:k<s.size
   ·by_cases hc:s[k]=37
    ·have h37:((s[k].toNat:Int) != 37)=false:=by rw[hc];rfl
     have HC:=zb hc;clear hc;rcases he:zbi (s.data.toList.drop k) with _|_
     ·have HE:=zb (zhX (zb4 also.data.toList) s k l hlt HC.out he)
      go_wp2_with (go_at_call 96;refine(zcP s k hlt (by omega) HC.out _).mono ?_;rintro e w0 ⟨rfl,hq1⟩;have hrow0:=hrow.below hq1)
      go_ret2
      exact⟨by rw[HR.out,HE.out];rfl,hq.trans hq1⟩
     ·have HV:=zb (ziq he);have HE0:=zb he;have h2:=zfi s k he;rcases hu:zaG (zmK (s.data.toList.drop k)) with _|_
      ·have ha1:zb4 also.data.toList l (zcf (s.data.toList.drop k)) true=(0,l++zdB (zmK (s.data.toList.drop k))):=by rw[<-HV.out];exact zd7 hu
       have HE:=zb (zgg (zb4 also.data.toList) s k l hlt HC.out he (by rw[ha1]));have HJ:=zb (znm (zb4 also.data.toList) s (k+1) (k+3) (by omega) (l++zdB (zmK (s.data.toList.drop k))));have HA:=zb ha1;have hsz:(S (zdB (zmK (s.data.toList.drop k)))).size<=3:=by rw[zcb];exact ze _
       clear ha1
       go_wp2_with (first|(go_at_call 96;refine(zcP s k hlt (by omega) HC.out _).mono ?_;rintro e w0 ⟨rfl,hq1⟩;have hrow0:=hrow.below hq1)|(go_at_call 118;refine(zcr _ _).mono ?_;rintro e w' ⟨rfl,rfl⟩)|(go_at_call 97;refine(zgt _ _).mono ?_;rintro e w3 ⟨rfl,hq3⟩;have hrow3:=hrow0.below hq3)|(at_builtin;refine zeW rfl (.tmp 56) (.tmp 58) rfl w.heap.size _ l rfl hrow3 _ rfl (by omega) (by have:=hq1.size;have:=hq3.size;omega) ?_;intro v1 w1 hr1 hb1))
       go_roundw
       case rel=>exact⟨k+3,_,by omega,by go_num,hr1,by simp[zdB];omega,zb (by rw[HR.out,HE.out,HA.out,<-HJ.out]),Below.trans ((hq.trans hq1).trans hq3) hb1⟩
       case measure=>simp[intOf];omega
      ·have ha1:zb4 also.data.toList l (zcf (s.data.toList.drop k)) true=(0,l++[zmK (s.data.toList.drop k)]):=by
        rw[<-HV.out];exact zbc (by rw[hu];rfl) (zbR hu)
       have HE:=zb (zgg (zb4 also.data.toList) s k l hlt HC.out he (by rw[ha1]));have HJ:=zb (znm (zb4 also.data.toList) s (k+1) (k+3) (by omega) (l++[zmK (s.data.toList.drop k)]));have HA:=zb ha1;clear ha1
       go_wp2_with (first|(go_at_call 96;refine(zcP s k hlt (by omega) HC.out _).mono ?_;rintro e w0 ⟨rfl,hq1⟩;have hrow0:=hrow.below hq1)|(go_at_call 118;refine(zcr _ _).mono ?_;rintro e w' ⟨rfl,rfl⟩)|(at_builtin;refine zaM rfl (.tmp 52) (.tmp 54) rfl w.heap.size _ l [zmK (s.data.toList.drop k)] rfl (hrow0.alloc _) _ _ _ rfl rfl (zjb _ _) (by simp;omega) (by have:=hq1.size;simp;omega) ?_;intro v1 w1 hr1 hb1))
       go_roundw
       case rel=>exact⟨k+3,_,by omega,by go_num,hr1,by simp;omega,zb (by rw[HR.out,HE.out,HA.out,<-HJ.out]),Below.trans ((hq.trans hq1).alloc _) hb1⟩
       case measure=>simp[intOf];omega
    ·have h37:((s[k].toNat:Int) != 37)=true:=by have:=ne37 hc;simpa using this
     have HC:=zb hc;clear hc;rcases hp:zbS s[k] also.data.toList with _|_
     ·have hu:zaG s[k]=false:=by
       rcases hu:zaG s[k] with _|_
       ·rfl
       ·rw[zbR hu] at hp;cases hp
      have hi:zbu s[k] also.data.toList=false:=by rw[<-zi8 hu HC.out];exact hp
      have ha1:zb4 also.data.toList l s[k] false=(1,[]):=zf0 rfl hp;have HE:=zb (zeh (zb4 also.data.toList) s k l hlt HC.out (by rw[ha1];decide));have HA:=zb ha1;clear ha1 hp
      go_wp2_with (first|(go_at_call 118;refine(zcr _ _).mono ?_;rintro e w' ⟨rfl,rfl⟩)|(go_at_call 82;refine(zdJ _ _ _ ha).mono ?_;rintro e w' ⟨rfl,rfl⟩))
      go_ret2
      exact⟨by rw[HR.out,HE.out,HA.out];rfl,hq⟩
     ·have ha1:zb4 also.data.toList l s[k] false=(0,l++[s[k]]):=zbc rfl hp;have HE:=zb (zhV (zb4 also.data.toList) s k l hlt HC.out (by rw[ha1]));have HA:=zb ha1;clear ha1;rcases hu:zaG s[k] with _|_
      ·have hi:zbu s[k] also.data.toList=true:=by rw[<-zi8 hu HC.out];exact hp
       clear hp
       go_wp2_with (first|(go_at_call 118;refine(zcr _ _).mono ?_;rintro e w' ⟨rfl,rfl⟩)|(go_at_call 82;refine(zdJ _ _ _ ha).mono ?_;rintro e w' ⟨rfl,rfl⟩)|(at_builtin;refine zaM rfl (.tmp 36) (.tmp 40) rfl w.heap.size _ l [s[k]] rfl (hrow.alloc _) _ _ _ rfl rfl (zjb _ _) (by simp;omega) (by simp;omega) ?_;intro v1 w1 hr1 hb1))
       go_roundw
       case rel=>exact⟨k+1,_,by omega,by go_num,hr1,by simp;omega,zb (by rw[HR.out,HE.out,HA.out,xl]),Below.trans (hq.alloc _) hb1⟩
       case measure=>simp[intOf];omega
      ·clear hp
       go_wp2_with (first|(go_at_call 118;refine(zcr _ _).mono ?_;rintro e w' ⟨rfl,rfl⟩)|(go_at_call 82;refine(zdJ _ _ _ ha).mono ?_;rintro e w' ⟨rfl,rfl⟩)|(at_builtin;refine zaM rfl (.tmp 36) (.tmp 40) rfl w.heap.size _ l [s[k]] rfl (hrow.alloc _) _ _ _ rfl rfl (zjb _ _) (by simp;omega) (by simp;omega) ?_;intro v1 w1 hr1 hb1))
       go_roundw
       case rel=>exact⟨k+1,_,by omega,by go_num,hr1,by simp;omega,zb (by rw[HR.out,HE.out,HA.out,xl]),Below.trans (hq.alloc _) hb1⟩
       case measure=>simp[intOf];omega
   ·have HE:=zb (zhW (zb4 also.data.toList) s k l 0 hlt);have hst:=zhZ hrow
    go_wp2_with fail
    go_ret2
    exact⟨by rw[HR.out,HE.out];rfl,hq⟩
 ·have hd:zat s.data.toList also.data.toList=(5,[]):=by unfold zat zgz;rw[if_pos (by rw[zal];omega)]
  rw[hd]
  go_enter Tryz.func103,Tryz.ntmps103
  go_wp2_with fail
  go_ret2
  exact⟨rfl,Qb.refl _⟩
theorem zhv:∀n:Fin 16,zaT (zeb n.val)=true/\hvN (zeb n.val)=n.val/\zeb n.val≠37:=by decide
theorem zpp (c:UInt8) (r:List UInt8):zbi (zdB c++r)=true/\zcf (zdB c++r)=c:=by
 have hc:=c.toNat_lt;have h1:=zhv ⟨c.toNat / 16,by omega⟩;have h2:=zhv ⟨c.toNat % 16,by omega⟩;simp only at h1 h2
 constructor
 ·show (zaT (zeb (c.toNat / 16))&&zaT (zeb (c.toNat % 16)))=true;rw[h1.1,h2.1];rfl
 ·show UInt8.ofNat (16*hvN (zeb (c.toNat / 16))+hvN (zeb (c.toNat % 16)))=c;rw[h1.2.1,h2.2.1,show 16*(c.toNat / 16)+c.toNat % 16=c.toNat from by omega];exact UInt8.ofNat_toNat
theorem zkE (add:ziD) (c:UInt8) (r out:List UInt8) (o2:List UInt8) (h:add out c true=(0,o2)):rwS add 0 (zdB c++r) out=rwS add 0 r o2:=by
 have h1:=zpp c r;show rwS add 0 (37::([zeb (c.toNat / 16),zeb (c.toNat % 16)]++r)) out=_;have e:(37::([zeb (c.toNat / 16),zeb (c.toNat % 16)]++r):List UInt8)=zdB c++r:=rfl;rw[rwS,if_pos rfl,e,if_pos h1.1,h1.2,h,if_pos rfl,zbI]
 rfl
theorem zey (add:ziD) (c:UInt8) (r out:List UInt8) (o2:List UInt8) (hc:c≠37) (h:add out c false=(0,o2)):rwS add 0 ([c]++r) out=rwS add 0 r o2:=by
 show rwS add 0 (c::r) out=_;rw[rwS,if_neg hc,h,if_pos rfl]
def Canon (also l y a:List UInt8):Prop :=
 (∀o r,rwS (zb4 also) 0 (y++r) o=rwS (zb4 also) 0 r (o++y))/\(∀o,rwS zca 0 l o=(0,o++a))/\(∀o r,rwS zca 0 (y++r) o=rwS zca 0 r (o++a))/\y.length<=l.length
theorem zbF {c:UInt8} {t:List UInt8} (h:zbi (c::t)=true):∃a b r,t=a::b::r:=by
 match t,h with
 | a::b::r,_=>exact⟨a,b,r,rfl⟩
theorem zhu {x:UInt8} (h:zaG x=true):x≠37:=by
 rintro rfl;rw[u37] at h;cases h
theorem zgv (also:List UInt8):∀(n:Nat) (l out x:List UInt8),l.length<=n->rwS (zb4 also) 0 l out=(0,x)->∃y a,x=out++y/\Canon also l y a:=by
 intro n
 induction n with
 | zero=>
  intro l out x hl h;have:l=[]:=List.eq_nil_of_length_eq_zero (by omega);subst this;rw[rwS] at h;obtain rfl:out=x:=by injection h
  exact⟨[],[],by simp,by simp,by intro o;rw[rwS,jh],by simp,ze _⟩
 | succ n ih=>
  intro l out x hl h
  cases l with
  | nil=>
   rw[rwS] at h;obtain rfl:out=x:=by injection h
   exact⟨[],[],by simp,by simp,by intro o;rw[rwS,jh],by simp,ze _⟩
  | cons c t=>
   by_cases hc:c=37
   ·rcases he:zbi (c::t) with _|_
    ·rw[rwS,if_pos hc,if_neg (by rw[he];exact Bool.false_ne_true)] at h;injection h with h1 _
     exact absurd h1 (by decide)
    ·obtain⟨a,b,r,rfl⟩:=zbF he;have hd:∀o,rwS zca 0 (c::a::b::r) o=rwS zca 0 r (o++[zcf (c::a::b::r)]):=by
      intro o;rw[rwS,if_pos hc,if_pos he];show (if (0:Int)=0 then rwS zca 2 (a::b::r) _ else _)=_;rw[if_pos rfl,zbI]
      rfl
     rcases hu:zaG (zcf (c::a::b::r)) with _|_
     ·rw[rwS,if_pos hc,if_pos he,zd7 hu,if_pos rfl,zbI] at h;obtain⟨y,m,rfl,h1,h2,h3,h4⟩:=ih r _ x (by simp at hl ⊢;omega) h;refine⟨zdB (zcf (c::a::b::r))++y,zcf (c::a::b::r)::m,by simp,?_,?_,?_,?_⟩
      ·intro o r';rw[zy,zkE _ _ _ _ _ (zd7 hu),h1,zy]
      ·intro o;rw[hd,h2,zy];rfl
      ·intro o r';rw[zy,zkE zca _ _ _ _ rfl,h3,zy];rfl
      ·rw[List.length_append,zfW];simp;omega
     ·rw[rwS,if_pos hc,if_pos he,zbc (by rw[hu];rfl) (zbR hu),if_pos rfl,zbI] at h;obtain⟨y,m,rfl,h1,h2,h3,h4⟩:=ih r _ x (by simp at hl ⊢;omega) h;refine⟨[zcf (c::a::b::r)]++y,zcf (c::a::b::r)::m,by simp,?_,?_,?_,?_⟩
      ·intro o r';rw[zy,zey _ _ _ _ _ (zhu hu) (zbc rfl (zbR hu)),h1,zy]
      ·intro o;rw[hd,h2,zy];rfl
      ·intro o r';rw[zy,zey zca _ _ _ _ (zhu hu) rfl,h3,zy];rfl
      ·simp;omega
   ·rcases hp:zbS c also with _|_
    ·rw[rwS,if_neg hc,zf0 rfl hp,if_neg (by decide)] at h;injection h with h1 _
     exact absurd h1 (by decide)
    ·rw[rwS,if_neg hc,zbc rfl hp,if_pos rfl] at h;obtain⟨y,m,rfl,h1,h2,h3,h4⟩:=ih t _ x (by simp at hl;omega) h;refine⟨[c]++y,c::m,by simp,?_,?_,?_,?_⟩
     ·intro o r';rw[zy,zey _ _ _ _ _ hc (zbc rfl hp),h1,zy]
     ·intro o;rw[rwS,if_neg hc];show (if (0:Int)=0 then rwS zca 0 t _ else _)=_;rw[if_pos rfl,h2];show (0,(o++[c])++m)=_;rw[zy];rfl
     ·intro o r';rw[zy,zey zca _ _ _ _ hc rfl,h3,zy];rfl
     ·simp;omega
theorem zbg (l also x:List UInt8) (h:zat l also=(0,x)):zat x also=(0,x)/\(∃a,zcF l=(0,a)/\zcF x=(0,a))/\x.length<=l.length:=by
 unfold zat zgz at h
 by_cases hlen:16384<l.length
 ·rw[if_pos hlen] at h;injection h with h1 _
  exact absurd h1 (by decide)
 ·rw[if_neg hlen] at h;obtain⟨y,a,rfl,h1,h2,h3,h4⟩:=zgv also l.length l [] x (ze _) h;have e1:=h1 [] [];have e3:=h3 [] [];rw[jh,rwS,List.nil_append] at e1 e3;refine⟨?_,⟨a,?_,?_⟩,h4⟩
  ·unfold zat zgz;rw[if_neg (by omega),e1]
  ·unfold zcF zgz;rw[if_neg hlen,h2];rfl
  ·unfold zcF zgz;rw[if_neg (by omega),e3]
theorem zdn (add:ziD):∀(l out:List UInt8) (n:Nat),(rwS add n l out).1≠0->(rwS add n l out).2=[]
 | [],out,n=>by intro h;cases n<;>(rw[rwS] at h;exact absurd rfl h)
 | c::l,out,n+1=>by intro h;rw[rwS] at h ⊢;exact zdn add l out n h
 | c::l,out,0=>by
  intro h;rw[rwS] at h ⊢
  split at h
  ·rename_i hc;rw[if_pos hc]
   split at h
   ·rename_i he;rw[if_pos he]
    split at h
    ·rename_i ha;rw[if_pos ha];exact zdn add l _ 2 h
    ·rename_i ha;rw[if_neg ha]
   ·rename_i he;rw[if_neg he]
  ·rename_i hc;rw[if_neg hc]
   split at h
   ·rename_i ha;rw[if_pos ha];exact zdn add l _ 0 h
   ·rename_i ha;rw[if_neg ha]
theorem zja (l also:List UInt8) (h:(zat l also).1≠0):(zat l also).2=[]:=by
 unfold zat zgz at h ⊢
 split
 ·rfl
 ·rename_i hl;rw[if_neg hl] at h;exact zdn _ _ _ _ h
end Go.Proofs.YtceenajkieomoaaGreatDoor
namespace Go.Proofs.YtceenajkieomoaaGreatDoor
open List renaming mem_cons->zv
def okB (also:List UInt8) (c:UInt8):Bool:=c==37||zaT c||zbS c also
theorem zgw (also:List UInt8):∀(n:Nat) (l out x:List UInt8),l.length<=n->rwS (zb4 also) 0 l out=(0,x)->l.all (okB also)=true:=by
 intro n
 induction n with
 | zero=>
  intro l out x hl h;have:l=[]:=List.eq_nil_of_length_eq_zero (by omega);subst this;rfl
 | succ n ih=>
  intro l out x hl h
  cases l with
  | nil=>rfl
  | cons c t=>
   by_cases hc:c=37
   ·rcases he:zbi (c::t) with _|_
    ·rw[rwS,if_pos hc,if_neg (by rw[he];exact Bool.false_ne_true)] at h;injection h with h1 _
     exact absurd h1 (by decide)
    ·obtain⟨a,b,r,rfl⟩:=zbF he;have hab:zaT a=true/\zaT b=true:=by
      have:(zaT a&&zaT b)=true:=he;simpa using this
     have hr:∃o2,rwS (zb4 also) 0 r o2=(0,x):=by
      rcases hu:zaG (zcf (c::a::b::r)) with _|_
      ·rw[rwS,if_pos hc,if_pos he,zd7 hu,if_pos rfl,zbI] at h;exact⟨_,h⟩
      ·rw[rwS,if_pos hc,if_pos he,zbc (by rw[hu];rfl) (zbR hu),if_pos rfl,zbI] at h;exact⟨_,h⟩
     obtain⟨o2,hr⟩:=hr;have:=ih r o2 x (by simp at hl ⊢;omega) hr;simp[okB,hc,hab.1,hab.2,this]
   ·rcases hp:zbS c also with _|_
    ·rw[rwS,if_neg hc,zf0 rfl hp,if_neg (by decide)] at h;injection h with h1 _
     exact absurd h1 (by decide)
    ·rw[rwS,if_neg hc,zbc rfl hp,if_pos rfl] at h;have:=ih t _ x (by simp at hl;omega) h;simp[okB,hp,this]
theorem zmG {l also x:List UInt8} (h:zat l also=(0,x)):l.all (okB also)=true:=by
 unfold zat zgz at h
 split at h
 ·injection h with h1 _
  exact absurd h1 (by decide)
 ·exact zgw also l.length l [] x (Nat.le_refl _) h
theorem zeI {l also x:List UInt8} (h:zat l also=(0,x)):l.length<=16384:=by
 unfold zat zgz at h
 split at h
 ·injection h with h1 _
  exact absurd h1 (by decide)
 ·omega
theorem zee {l also x:List UInt8} (h:zat l also=(0,x)):x.all (okB also)=true:=zmG (zbg l also x h).1
theorem zcI (c:UInt8):∀(a b:List UInt8),c∉a->zaw c (a++c::b)=(a,b,true)
 | [],b,_=>by simp[zaw]
 | x::a,b,h=>by
  simp only[zv,not_or] at h;rw[List.cons_append,zaF,if_neg (fun e=>h.1 e.symm),zcI c a b h.2]
theorem zdR (c:UInt8):∀(a:List UInt8),c∉a->zaw c a=(a,[],false)
 | [],_=>rfl
 | x::a,h=>by
  simp only[zv,not_or] at h;rw[zaF,if_neg (fun e=>h.1 e.symm),zdR c a h.2]
open Go.RowKit Sx
section
variable [Tabs Tryz.prog] {objs:List OB} {K:List OB->AV->Prop}
theorem zh9 (s also:List UInt8) (hk:K objs (.tup [.s (zat s also).2,.i .i64 (zat s also).1])):zaf Tryz.prog 112 [.s s,.s also] objs K :=
 conv (vs:=[.string (S s),.string (S also)]) rfl rfl (fun w=>zob (S s) (S also) w) hk
theorem zbJ (s also:List UInt8) (ha:also.length<=maxLen) (hk:K objs (.tup [.s (zat s also).2,.i .i64 (zat s also).1])):zaf Tryz.prog 103 [.s s,.s also] objs K :=
 conv (vs:=[.string (S s),.string (S also)]) rfl rfl (fun w=>znY (S s) (S also) w (by rw[zcb];exact ha)) hk
theorem zoc (s:List UInt8) (hk:K objs (.tup [.s (zcF s).2,.i .i64 (zcF s).1])):zaf Tryz.prog 110 [.s s] objs K :=
 conv (vs:=[.string (S s)]) rfl rfl (fun w=>zj2 (S s) w) hk
theorem zhd (s:List UInt8) (hk:K objs (.tup [.s (zcF s).2,.i .i64 (zcF s).1])):zaf Tryz.prog 72 [.s s] objs K :=
 conv (vs:=[.string (S s)]) rfl rfl (fun w=>zjY (S s) w) hk
end
section
variable [Tabs Tryz.prog] {objs:List OB} {K:List OB->AV->Prop}
end
section
variable [Tabs Tryz.prog] {objs:List OB} {K:List OB->AV->Prop}
end
section
variable [Tabs Tryz.prog] {objs:List OB} {K:List OB->AV->Prop}
end
end Go.Proofs.YtceenajkieomoaaGreatDoor
namespace Go.Proofs.YtceenajkieomoaaGreatDoor
theorem zdx (c:UInt8):∀l:List UInt8,l=(zaw c l).1++(if (zaw c l).2.2=true then [c]++(zaw c l).2.1 else [])
 | []=>rfl
 | x::t=>by
  have ih:=zdx c t;rw[zaF]
  by_cases hx:x=c
  ·subst hx;simp
  ·rw[if_neg hx];show x::t=x::((zaw c t).1++_);rw[<-ih]
theorem ziw (c:UInt8) (l:List UInt8):(zaw c l).1.length<=l.length:=by
 have h:=congrArg List.length (zdx c l);rw[List.length_append] at h;omega
structure UrlP where
 host:List UInt8
 port:Int
 path:List UInt8
 query:List UInt8
 frag:List UInt8
 hq:Bool
 hf:Bool
def zax:List UInt8:=[33,36,38,39,40,41,42,43,44,59,61,58,64,47]
def zak:List UInt8:=[33,36,38,39,40,41,42,43,44,59,61,58,64,47,63]
instance:DecidableEq UrlP:=fun a b=>
 decidable_of_iff (a.host=b.host/\a.port=b.port/\a.path=b.path/\a.query=b.query/\a.frag=b.frag/\a.hq=b.hq/\a.hf=b.hf) (by
  cases a;cases b;simp)
theorem zfc (l also:List UInt8):(zat l also).2.length<=l.length/\(zat l also).2.length<=16384:=by
 by_cases h:(zat l also).1=0
 ·have e:zat l also=(0,(zat l also).2):=by rw[<-h]
  have h1:=(zbg l also _ e).2.2;have h2:=zeI e;omega
 ·rw[zja l also h];simp
open Go.RowKit Sx
section
variable [Tabs Tryz.prog] {objs:List OB} {K:List OB->AV->Prop}
end
end Go.Proofs.YtceenajkieomoaaGreatDoor
