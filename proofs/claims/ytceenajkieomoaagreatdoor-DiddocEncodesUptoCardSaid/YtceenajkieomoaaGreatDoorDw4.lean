/- The texts that the proofs of these statements reach, in their order, as few files. -/
import Derived.Lib.LaidTab
import Derived.Lib.ItoaNum
import Derived.ChangeAgain
import Derived.Lib.Walk
import Derived.Lib.ItoaWalk
import Derived.Lib.ItoaMem
import Derived.Lib.AppendIntMem
import Derived.BigCall
import Derived.BigGuard
import Derived.Lib.ItoaLen
import Derived.Test.YtceenajkieomoaaGreatDoorProg
import Derived.Laws.BitsAllLaws
import Derived.Laws.BitsLemmas
import Derived.Test.YtceenajkieomoaaGreatDoorDw3
set_option linter.unusedVariables false
set_option linter.unusedSimpArgs false
set_option maxRecDepth 100000
namespace Go.Proofs.YtceenajkieomoaaGreatDoor.Sx
open Go.RowKit
open List renaming replicate->qo
inductive IT where
 | code (c:SCode)
 | ops (l:List SO)
 | dops (l:List SO)
 | ap (l:List (Nat×Nat×Option (Nat×Bool)))
 | blk (id:Nat)
def zfY (P:Program) [Tabs P] (C:Cx) (F:zaN):List IT->zaN
 | []=>F
 | .code c::k=>zeZ (fun o t=>wpC P C c (zfY P C F k) o t) (zfY P C F k)
 | .ops l::k=>zeZ (fun o t=>wpR P l o t fun o t=>zfY P C F k .normal o t) (zfY P C F k)
 | .dops l::k=>zeZ (fun o t=>wpD P l o t fun o t=>zfY P C F k .normal o t) (zfY P C F k)
 | .ap l::k=>zeZ (fun o t=>zf4 l t/\zfY P C F k .normal o t) (zfY P C F k)
 | .blk id::k=>blkK id (zfY P C F k)
def run (P:Program) [Tabs P] (C:Cx) (k:List IT) (objs:List OB) (tm:List AV) (F:zaN):Prop:=zfY P C F k .normal objs tm
def xit (P:Program) [Tabs P] (C:Cx) (id:Nat) (k:List IT) (objs:List OB) (tm:List AV) (F:zaN):Prop:=zfY P C F k (.exit id) objs tm
def loopF (P:Program) [Tabs P] (C:Cx) (J:Nat->List OB->List AV->Prop) (n:Nat) (k:List IT) (F:zaN):zaN:=zeZ (fun o t=>∃m,m<n/\J m o t) (zfY P C F k)
def evs (tm:List AV):List SV->List AV
 | []=>[]
 | x::xs=>x.ev tm::evs tm xs
theorem zeT (tm:List AV):∀l:List SV,evs tm l=l.map fun x=>x.ev tm
 | []=>rfl
 | x::l=>by rw[evs,zeT tm l];rfl
def evp (tm:List AV):List (Nat×Nat×SV)->List (Nat×Nat×AV)
 | []=>[]
 | (o,s,x)::xs=>(o,s,x.ev tm)::evp tm xs
theorem zkB (tm:List AV):∀l:List (Nat×Nat×SV),evp tm l=l.map fun p=>(p.1,p.2.1,p.2.2.ev tm)
 | []=>rfl
 | (o,s,x)::l=>by rw[evp,zkB tm l];rfl
def bxs:Option OB->Option (List AV)
 | some (.box _ cs)=>some cs
 | _=>none
theorem zoT (T:TypeId) (cs:List AV):bxs (some (.box T cs))=some cs:=Eq.trans rfl rfl
section
variable {P:Program} [Tabs P] {C:Cx} {F:zaN} {k:List IT} {r:List SO} {objs:List OB} {tm:List AV} {d:Option Nat}
theorem rn_nil:run P C [] objs tm F=F .normal objs tm:=Eq.trans rfl rfl
theorem rn_seq (x y:SCode):run P C (.code (.seq x y)::k) objs tm F=run P C (.code x::.code y::k) objs tm F:=Eq.trans rfl rfl
theorem zms:run P C (.code .skip::k) objs tm F=run P C k objs tm F:=Eq.trans rfl rfl
theorem rn_reg (l:List SO):run P C (.code (.reg l)::k) objs tm F=run P C (.ops l::k) objs tm F:=Eq.trans rfl rfl
theorem rn_ap (l:List (Nat×Nat×Option (Nat×Bool))):run P C (.ap l::k) objs tm F=(zf4 l tm/\run P C k objs tm F):=Eq.trans rfl rfl
theorem apOk_n:zf4 [] tm=True:=Eq.trans rfl rfl
theorem apOk_c (s s':Nat) (g:Option (Nat×Bool)) (l:List (Nat×Nat×Option (Nat×Bool))):zf4 ((s,s',g)::l) tm=((if s'<1000000 then apG g tm (zdV tm[s]? tm[s']?) else apS tm[s]? tm[s' - 1000000]?)/\zf4 l tm):=Eq.trans rfl rfl
theorem apG_n (p:Prop):apG none tm p=p:=Eq.trans rfl rfl
theorem apG_s (g:Nat) (b:Bool) (p:Prop):apG (some (g,b)) tm p=apB tm[g]? b p:=Eq.trans rfl rfl
theorem apB_tt (p:Prop):apB (some (.b true)) true p=p:=Eq.trans rfl rfl
theorem apB_ff (p:Prop):apB (some (.b false)) false p=p:=Eq.trans rfl rfl
theorem apB_tf (p:Prop):apB (some (.b true)) false p=True:=Eq.trans rfl rfl
theorem apB_ft (p:Prop):apB (some (.b false)) true p=True:=Eq.trans rfl rfl
theorem apS_o (b g j b' g' j':Nat):apS (some (.porow b g j)) (some (.porow b' g' j'))=(¬b=b'):=Eq.trans rfl rfl
theorem apS_p (b g j b' o':Nat):apS (some (.porow b g j)) (some (.p b' o'))=(¬b=b'):=Eq.trans rfl rfl
theorem zk2 (b o b' g':Nat):zdV (some (.p b o)) (some (.orow b' g'))=(¬b=b'):=Eq.trans rfl rfl
theorem zk1 (b o b' g' j':Nat):zdV (some (.p b o)) (some (.porow b' g' j'))=(¬b=b'):=Eq.trans rfl rfl
theorem zk0 (xs:List AV) (j b' g':Nat):zdV (some (.prow xs j)) (some (.orow b' g'))=True:=Eq.trans rfl rfl
theorem zkZ (xs:List AV) (j b' g' j':Nat):zdV (some (.prow xs j)) (some (.porow b' g' j'))=True:=Eq.trans rfl rfl
theorem zo1 (b o b' o':Nat):zdV (some (.p b o)) (some (.p b' o'))=(¬b=b'):=Eq.trans rfl rfl
theorem zo0 (xs:List AV) (j b' o':Nat):zdV (some (.prow xs j)) (some (.p b' o'))=True:=Eq.trans rfl rfl
theorem rn_drw (l:List SO) (n:Nat) (ap:List (Nat×Nat×Option (Nat×Bool))):run P C (.code (.drw l n ap)::k) objs tm F=run P C (.dops (l.take n)::.ap ap::.ops (l.drop n)::k) objs tm F:=Eq.trans rfl rfl
theorem rn_crg (pre:List SO) (cl:SO) (post:List SO):run P C (.code (.crg pre cl post)::k) objs tm F=run P C [.ops pre] objs tm (fun _ _ t1=>run P C [.ops [cl]] objs t1 (fun _ o2 t2=>run P C [.ops pre] o2 tm (fun _ _ t=>t=t1)/\run P C (.ops post::k) o2 t2 F)):=Eq.trans rfl rfl
def rcr (P:Program) [Tabs P] (C:Cx):List (List SO×List AV×List AV)->List OB->Prop
 | [],_=>True
 | e::r,o=>run P C [.ops e.1] o e.2.1 (fun _ _ x=>x=e.2.2)/\rcr P C r o
def rst (P:Program) [Tabs P] (C:Cx) (st:List (List SO×SO)) (hist:List (List SO×List AV×List AV)) (last:List SO) (k:List IT) (objs:List OB) (tm:List AV) (F:zaN):Prop:=wpT P st hist last objs tm fun o t=>run P C k o t F
theorem rcr_n (o:List OB):rcr P C [] o=True:=Eq.trans rfl rfl
theorem rcr_c (L:List SO) (b u:List AV) (h:List (List SO×List AV×List AV)) (o:List OB):rcr P C ((L,b,u)::h) o=(run P C [.ops L] o b (fun _ _ x=>x=u)/\rcr P C h o):=Eq.trans rfl rfl
theorem zjT:∀(h:List (List SO×List AV×List AV)) (o:List OB),zbt P h o=rcr P C h o
 | [],o=>rfl
 | e::h,o=>by
  unfold zbt rcr;rw[zjT h o]
  rfl
theorem rn_crs (st:List (List SO×SO)) (last:List SO):run P C (.code (.crs st last)::k) objs tm F=rst P C st [] last k objs tm F:=Eq.trans rfl rfl
theorem rst_n (h:List (List SO×List AV×List AV)) (last:List SO):rst P C [] h last k objs tm F=run P C (.ops last::k) objs tm F:=Eq.trans rfl rfl
theorem rst_c (L:List SO) (c:SO) (st:List (List SO×SO)) (h:List (List SO×List AV×List AV)) (last:List SO):rst P C ((L,c)::st) h last k objs tm F=run P C [.ops L] objs tm (fun _ _ u=>run P C [.ops [c]] objs u (fun _ o' t'=>rcr P C ((L,tm,u)::h) o'/\rst P C st ((L,tm,u)::h) last k o' t' F)):=by
 rw[show rst P C ((L,c)::st) h last k objs tm F=wpR P L objs tm (fun _ u=>wpR P [c] objs u fun o' t'=>zbt P ((L,tm,u)::h) o'/\wpT P st ((L,tm,u)::h) last o' t' fun o t=>run P C k o t F) from rfl];simp only[zjT (C:=C)]
 rfl
def rsb (P:Program) [Tabs P] (C:Cx) (d:Nat) (T:TypeId) (z:List AV) (sr:SO) (st:List (List SO×SO)) (hist:List (List SO×List AV×List AV)) (last:List SO) (k:List IT) (objs:List OB) (tm:List AV) (F:zaN):Prop:=wpB P d T z st hist last objs tm fun o t=>wpR P [sr] o t fun o t=>run P C k o t F
theorem hsV_n (d:Nat) (p:AV):hsV d p []=[]:=Eq.trans rfl rfl
theorem hsV_c (d:Nat) (p:AV) (L:List SO) (b u:List AV) (h:List (List SO×List AV×List AV)):hsV d p ((L,b,u)::h)=(L,b.set d p,u.set d p)::hsV d p h:=Eq.trans rfl rfl
theorem rn_cra (d:Nat) (T:TypeId) (z:List AV) (st:List (List SO×SO)) (last:List SO) (sr:SO):run P C (.code (.cra d T z st last sr)::k) objs tm F=(tm.length<=1000003/\rsb P C d T z sr st [] last k objs tm F):=Eq.trans rfl rfl
theorem rsb_n (d:Nat) (T:TypeId) (z:List AV) (sr:SO) (h:List (List SO×List AV×List AV)) (last:List SO):rsb P C d T z sr [] h last k objs tm F=run P C [.ops last] objs tm (fun _ _ u=>rcr P C (hsV d (.p objs.length 0) ((last,tm,u)::h)) (objs++[.box T z])/\run P C (.ops [sr]::k) (objs++[.box T z]) (u.set d (.p objs.length 0)) F):=by
 rw[show rsb P C d T z sr [] h last k objs tm F=wpR P last objs tm (fun _ u=>zbt P (hsV d (.p objs.length 0) ((last,tm,u)::h)) (objs++[.box T z])/\wpR P [sr] (objs++[.box T z]) (u.set d (.p objs.length 0)) fun o t=>run P C k o t F) from rfl];simp only[zjT (C:=C)]
 rfl
theorem rsb_c (d:Nat) (T:TypeId) (z:List AV) (sr:SO) (L:List SO) (c:SO) (st:List (List SO×SO)) (h:List (List SO×List AV×List AV)) (last:List SO):rsb P C d T z sr ((L,c)::st) h last k objs tm F=run P C [.ops L] objs tm (fun _ _ u=>(rcr P C (hsV d (.p objs.length 0) ((L,tm,u)::h)) (objs++[.box T z])/\run P C [.ops [c]] (objs++[.box T z]) (u.set d (.p objs.length 0)) (fun _ o' t'=>rcr P C (hsV d (.p objs.length 0) ((L,tm,u)::h)) o'/\rst P C st (hsV d (.p objs.length 0) ((L,tm,u)::h)) last (.ops [sr]::k) o' t' F))/\run P C [.ops [c]] objs u (fun _ o' t'=>rcr P C ((L,tm,u)::h) o'/\rsb P C d T z sr st ((L,tm,u)::h) last k o' t' F)):=by
 rw[show rsb P C d T z sr ((L,c)::st) h last k objs tm F=wpR P L objs tm (fun _ u=>(zbt P (hsV d (.p objs.length 0) ((L,tm,u)::h)) (objs++[.box T z])/\wpR P [c] (objs++[.box T z]) (u.set d (.p objs.length 0)) (fun o' t'=>zbt P (hsV d (.p objs.length 0) ((L,tm,u)::h)) o'/\wpT P st (hsV d (.p objs.length 0) ((L,tm,u)::h)) last o' t' fun o t=>wpR P [sr] o t fun o t=>run P C k o t F))/\wpR P [c] objs u (fun o' t'=>zbt P ((L,tm,u)::h) o'/\wpB P d T z st ((L,tm,u)::h) last o' t' fun o t=>wpR P [sr] o t fun o t=>run P C k o t F)) from rfl];simp only[zjT (C:=C)]
 rfl
theorem zaO (id:Nat) (c:SCode):run P C (.code (.blk id c)::k) objs tm F=run P C (.code c::.blk id::k) objs tm F:=Eq.trans rfl rfl
theorem zjN (id:Nat):run P C (.blk id::k) objs tm F=run P C k objs tm F:=Eq.trans rfl rfl
theorem zgk:run P C (.ops []::k) objs tm F=run P C k objs tm F:=Eq.trans rfl rfl
theorem zfx:run P C (.dops []::k) objs tm F=run P C k objs tm F:=Eq.trans rfl rfl
theorem zcu:∀(k:List IT),zfY P C F k .ret objs tm=F .ret objs tm
 | []=>rfl
 | .code c::k=>zcu k
 | .ops l::k=>zcu k
 | .dops l::k=>zcu k
 | .ap l::k=>zcu k
 | .blk id::k=>zcu k
theorem rn_ret:run P C (.code .ret::k) objs tm F=F .ret objs tm:=zcu k
theorem zmD:run P C (.code .dead::k) objs tm F=False:=Eq.trans rfl rfl
theorem zmC (id:Nat):run P C (.code (.exit id)::k) objs tm F=xit P C id k objs tm F:=Eq.trans rfl rfl
theorem zlY (id:Nat):xit P C id [] objs tm F=F (.exit id) objs tm:=Eq.trans rfl rfl
theorem zjx (id:Nat) (c:SCode):xit P C id (.code c::k) objs tm F=xit P C id k objs tm F:=Eq.trans rfl rfl
theorem zlX (id:Nat) (l:List SO):xit P C id (.ops l::k) objs tm F=xit P C id k objs tm F:=Eq.trans rfl rfl
theorem zjw (id:Nat) (l:List SO):xit P C id (.dops l::k) objs tm F=xit P C id k objs tm F:=Eq.trans rfl rfl
theorem xit_ap (id:Nat) (l:List (Nat×Nat×Option (Nat×Bool))):xit P C id (.ap l::k) objs tm F=xit P C id k objs tm F:=Eq.trans rfl rfl
theorem zlZ (id id':Nat):xit P C id (.blk id'::k) objs tm F=if id=id' then run P C k objs tm F else xit P C id k objs tm F:=Eq.trans rfl rfl
theorem zeQ (J:Nat->List OB->List AV->Prop) (n:Nat):loopF P C J n k F .normal objs tm=∃m,m<n/\J m objs tm:=Eq.trans rfl rfl
theorem zgt (J:Nat->List OB->List AV->Prop) (n id:Nat):loopF P C J n k F (.exit id) objs tm=xit P C id k objs tm F:=Eq.trans rfl rfl
theorem zic (J:Nat->List OB->List AV->Prop) (n:Nat):loopF P C J n k F .ret objs tm=F .ret objs tm:=zcu k
theorem zaF [On P C] {c:SCode} (J:Nat->List OB->List AV->Prop) (n:Nat) (h0:J n objs tm) (round:∀n objs tm,J n objs tm->run P C [.code c] objs tm (loopF P C J n k F)):run P C (.code (.loop c)::k) objs tm F :=
 wps_loop J n h0 round
def kO (P:Program) [Tabs P] (C:Cx) (v:Option AV) (d:Option Nat) (r:List SO) (k:List IT) (objs:List OB) (tm:List AV) (F:zaN):Prop :=
 match v with
 | some v=>run P C (.ops r::k) objs (zat tm d v) F
 | none=>False
theorem zbh (op:SOp):run P C (.ops (⟨d,op,none⟩::r)::k) objs tm F=wpS P op objs tm fun o v=>run P C (.ops r::k) o (zat tm d v) F:=Eq.trans rfl rfl
theorem znv (v:AV):kO P C (some v) d r k objs tm F=run P C (.ops r::k) objs (zat tm d v) F:=Eq.trans rfl rfl
theorem rn_mv (x:SV):run P C (.ops (⟨d,.mv x,none⟩::r)::k) objs tm F=run P C (.ops r::k) objs (zat tm d (x.ev tm)) F:=Eq.trans rfl rfl
def kPick (P:Program) [Tabs P] (C:Cx) (c x y:AV) (d:Option Nat) (r:List SO) (k:List IT) (objs:List OB) (tm:List AV) (F:zaN):Prop :=
 match c with
 | .b t=>(t=true->run P C (.ops r::k) objs (zat tm d x) F)/\(t=false->run P C (.ops r::k) objs (zat tm d y) F)
 | _=>False
theorem zns (x y:AV):kPick P C (.b true) x y d r k objs tm F=run P C (.ops r::k) objs (zat tm d x) F:=propext ⟨fun h=>h.1 rfl,fun h=>⟨fun _=>h,fun e=>absurd e.symm Bool.false_ne_true⟩⟩
theorem znt (x y:AV):kPick P C (.b false) x y d r k objs tm F=run P C (.ops r::k) objs (zat tm d y) F:=propext ⟨fun h=>h.2 rfl,fun h=>⟨fun e=>absurd e Bool.false_ne_true,fun _=>h⟩⟩
theorem zmt (c x y:SV):run P C (.ops (⟨d,.pick c x y,none⟩::r)::k) objs tm F=kPick P C (c.ev tm) (x.ev tm) (y.ev tm) d r k objs tm F:=Eq.trans rfl rfl
theorem zjS (T:Nat) (z:List AV):run P C (.ops (⟨d,.alloc T z,none⟩::r)::k) objs tm F=run P C (.ops r::k) (objs++[.box T z]) (zat tm d (.p objs.length 0)) F:=Eq.trans rfl rfl
theorem rn_box (T:Nat) (x:SV):run P C (.ops (⟨d,.box T x,none⟩::r)::k) objs tm F=((x.ev tm).flat=true/\run P C (.ops r::k) (objs++[.box T (x.ev tm).cells]) (zat tm d (.p objs.length 0)) F):=Eq.trans rfl rfl
theorem zjR (z:List AV) (ps:List (Nat×Nat×SV)):run P C (.ops (⟨d,.build z ps,none⟩::r)::k) objs tm F=kO P C ((zcO z (evp tm ps)).map .agg) d r k objs tm F:=by
 rw[zkB];rw[zbh];simp only[wpS]
 cases zcO z (ps.map fun p=>(p.1,p.2.1,p.2.2.ev tm))<;>rfl
theorem zhT (n:Nat) (z:List AV) (ps:List (Nat×Nat×SV)):run P C (.ops (⟨d,.bslice n z ps,none⟩::r)::k) objs tm F=kO P C ((zcO z (evp tm ps)).map (.row n)) d r k objs tm F:=by
 rw[zkB];rw[zbh];simp only[wpS]
 cases zcO z (ps.map fun p=>(p.1,p.2.1,p.2.2.ev tm))<;>rfl
def kLit (P:Program) [Tabs P] (C:Cx) (c:Option (List AV)) (E sz n:Nat) (d:Option Nat) (r:List SO) (k:List IT) (objs:List OB) (tm:List AV) (F:zaN):Prop :=
 match c with
 | some cs=>cs.length=n*sz/\run P C (.ops r::k) (objs++[.orow E sz 0 n cs]) (zat tm d (.orow objs.length 0)) F
 | none=>False
theorem kLit_s (cs:List AV) (E sz n:Nat):kLit P C (some cs) E sz n d r k objs tm F=(cs.length=n*sz/\run P C (.ops r::k) (objs++[.orow E sz 0 n cs]) (zat tm d (.orow objs.length 0)) F):=Eq.trans rfl rfl
theorem zmH (E sz n:Nat) (z:List AV) (ps:List (Nat×Nat×SV)):run P C (.ops (⟨d,.bslo E sz n z ps,none⟩::r)::k) objs tm F=kLit P C (zcO z (evp tm ps)) E sz n d r k objs tm F:=by
 rw[zkB];rw[zbh];simp only[wpS]
 cases zcO z (ps.map fun p=>(p.1,p.2.1,p.2.2.ev tm))<;>rfl
def kLd1o (P:Program) [Tabs P] (C:Cx) (c:Option OB) (gen j:Nat) (d:Option Nat) (r:List SO) (k:List IT) (objs:List OB) (tm:List AV) (F:zaN):Prop :=
 match c with
 | some (.orow _ _ gen' _ xs)=>gen'=gen/\kO P C xs[j]? d r k objs tm F
 | _=>False
def kLd1 (P:Program) [Tabs P] (C:Cx) (v:AV) (d:Option Nat) (r:List SO) (k:List IT) (objs:List OB) (tm:List AV) (F:zaN):Prop :=
 match v with
 | .p b off=>kO P C ((bxs objs[b]?).bind fun cs=>cs[off]?) d r k objs tm F
 | .prow xs j=>kO P C xs[j]? d r k objs tm F
 | .porow b gen j=>kLd1o P C objs[b]? gen j d r k objs tm F
 | _=>False
theorem znD (E sz gen' n gen j:Nat) (xs:List AV):kLd1o P C (some (.orow E sz gen' n xs)) gen j d r k objs tm F=(gen'=gen/\kO P C xs[j]? d r k objs tm F):=Eq.trans rfl rfl
theorem kLd1_o (b gen j:Nat):kLd1 P C (.porow b gen j) d r k objs tm F=kLd1o P C objs[b]? gen j d r k objs tm F:=Eq.trans rfl rfl
theorem kLd1_p (b off:Nat):kLd1 P C (.p b off) d r k objs tm F=kO P C ((bxs objs[b]?).bind fun cs=>cs[off]?) d r k objs tm F:=Eq.trans rfl rfl
theorem kLd1_r (xs:List AV) (j:Nat):kLd1 P C (.prow xs j) d r k objs tm F=kO P C xs[j]? d r k objs tm F:=Eq.trans rfl rfl
theorem zjM (x:SV):run P C (.ops (⟨d,.load1 x,none⟩::r)::k) objs tm F=kLd1 P C (x.ev tm) d r k objs tm F:=by
 rw[zbh];simp only[wpS,kLd1]
 cases x.ev tm<;>try rfl
 case p b off=>
  dsimp only;generalize objs[b]? = q
  cases q with
  | none=>rfl
  | some ob=>
   cases ob<;>try rfl
   all_goals (dsimp only [bxs,Option.bind];split<;>rfl)
 case prow xs j=>
  dsimp only
  cases hx:xs[j]? with
  | none=>simp[kO]
  | some v=>simp[kO]
 case porow b gen j=>
  dsimp only;generalize objs[b]? = q
  cases q with
  | none=>rfl
  | some ob=>
   cases ob<;>try rfl
   rename_i xs;dsimp only [kLd1o]
   cases hx:xs[j]? with
   | none=>simp[kO]
   | some v=>simp[kO]
def kLdn (P:Program) [Tabs P] (C:Cx) (c:Option (List AV)) (off sz:Nat) (d:Option Nat) (r:List SO) (k:List IT) (objs:List OB) (tm:List AV) (F:zaN):Prop :=
 match c with
 | some cs=>off+sz<=cs.length/\run P C (.ops r::k) objs (zat tm d (.agg ((cs.drop off).take sz))) F
 | none=>False
def kLdno (P:Program) [Tabs P] (C:Cx) (c:Option OB) (gen j sz:Nat) (d:Option Nat) (r:List SO) (k:List IT) (objs:List OB) (tm:List AV) (F:zaN):Prop :=
 match c with
 | some (.orow _ _ gen' _ xs)=>(gen'=gen/\j+sz<=xs.length)/\run P C (.ops r::k) objs (zat tm d (.agg ((xs.drop j).take sz))) F
 | _=>False
def kLdv (P:Program) [Tabs P] (C:Cx) (v:AV) (sz:Nat) (d:Option Nat) (r:List SO) (k:List IT) (objs:List OB) (tm:List AV) (F:zaN):Prop :=
 match v with
 | .p b off=>kLdn P C (bxs objs[b]?) off sz d r k objs tm F
 | .prow xs j=>kLdn P C (some xs) j sz d r k objs tm F
 | .porow b gen j=>kLdno P C objs[b]? gen j sz d r k objs tm F
 | _=>False
theorem znC (E s gen' n gen j sz:Nat) (xs:List AV):kLdno P C (some (.orow E s gen' n xs)) gen j sz d r k objs tm F=((gen'=gen/\j+sz<=xs.length)/\run P C (.ops r::k) objs (zat tm d (.agg ((xs.drop j).take sz))) F):=Eq.trans rfl rfl
theorem kLdv_o (b gen j sz:Nat):kLdv P C (.porow b gen j) sz d r k objs tm F=kLdno P C objs[b]? gen j sz d r k objs tm F:=Eq.trans rfl rfl
theorem kLdn_s (cs:List AV) (off sz:Nat):kLdn P C (some cs) off sz d r k objs tm F=(off+sz<=cs.length/\run P C (.ops r::k) objs (zat tm d (.agg ((cs.drop off).take sz))) F):=Eq.trans rfl rfl
theorem kLdv_p (b off sz:Nat):kLdv P C (.p b off) sz d r k objs tm F=kLdn P C (bxs objs[b]?) off sz d r k objs tm F:=Eq.trans rfl rfl
theorem kLdv_r (xs:List AV) (j sz:Nat):kLdv P C (.prow xs j) sz d r k objs tm F=kLdn P C (some xs) j sz d r k objs tm F:=Eq.trans rfl rfl
theorem zjL (sz:Nat) (x:SV):run P C (.ops (⟨d,.loadn sz x,none⟩::r)::k) objs tm F=kLdv P C (x.ev tm) sz d r k objs tm F:=by
 rw[zbh];simp only[wpS,kLdv]
 cases x.ev tm<;>try rfl
 try (case p b off=>
  dsimp only;generalize objs[b]? = q
  cases q with
  | none=>rfl
  | some ob=>cases ob<;>rfl)
 try (case porow b gen j=>
  dsimp only;generalize objs[b]? = q
  cases q with
  | none=>rfl
  | some ob=>cases ob<;>rfl)
def kSt2 (P:Program) [Tabs P] (C:Cx) (c:Option OB) (b off sz:Nat) (v:AV) (d:Option Nat) (r:List SO) (k:List IT) (objs:List OB) (tm:List AV) (F:zaN):Prop :=
 match c with
 | some (.box T cs)=>(v.flat=true/\v.cells.length=sz/\off+sz<=cs.length)/\run P C (.ops r::k) (objs.set b (.box T (zaU cs off v.cells))) (zat tm d .u) F
 | _=>False
def kSt3 (P:Program) [Tabs P] (C:Cx) (c:Option OB) (b gen j sz:Nat) (v:AV) (d:Option Nat) (r:List SO) (k:List IT) (objs:List OB) (tm:List AV) (F:zaN):Prop :=
 match c with
 | some (.orow E s gen' n xs)=>(gen'=gen/\v.flat=true/\v.cells.length=sz/\j+sz<=xs.length)/\run P C (.ops r::k) (objs.set b (.orow E s gen' n (zaU xs j v.cells))) (zat tm d .u) F
 | _=>False
def kSt (P:Program) [Tabs P] (C:Cx) (p v:AV) (sz:Nat) (d:Option Nat) (r:List SO) (k:List IT) (objs:List OB) (tm:List AV) (F:zaN):Prop :=
 match p with
 | .p b off=>kSt2 P C objs[b]? b off sz v d r k objs tm F
 | .porow b gen j=>kSt3 P C objs[b]? b gen j sz v d r k objs tm F
 | _=>False
theorem kSt3_o (E s gen' n:Nat) (xs:List AV) (b gen j sz:Nat) (v:AV):kSt3 P C (some (.orow E s gen' n xs)) b gen j sz v d r k objs tm F=((gen'=gen/\v.flat=true/\v.cells.length=sz/\j+sz<=xs.length)/\run P C (.ops r::k) (objs.set b (.orow E s gen' n (zaU xs j v.cells))) (zat tm d .u) F):=Eq.trans rfl rfl
theorem kSt_o (b gen j sz:Nat) (v:AV):kSt P C (.porow b gen j) v sz d r k objs tm F=kSt3 P C objs[b]? b gen j sz v d r k objs tm F:=Eq.trans rfl rfl
theorem kSt2_b (T:TypeId) (cs:List AV) (b off sz:Nat) (v:AV):kSt2 P C (some (.box T cs)) b off sz v d r k objs tm F=((v.flat=true/\v.cells.length=sz/\off+sz<=cs.length)/\run P C (.ops r::k) (objs.set b (.box T (zaU cs off v.cells))) (zat tm d .u) F):=Eq.trans rfl rfl
theorem kSt_p (b off sz:Nat) (v:AV):kSt P C (.p b off) v sz d r k objs tm F=kSt2 P C objs[b]? b off sz v d r k objs tm F:=Eq.trans rfl rfl
theorem zjJ (sz:Nat) (x y:SV):run P C (.ops (⟨d,.store sz x y,none⟩::r)::k) objs tm F=kSt P C (x.ev tm) (y.ev tm) sz d r k objs tm F:=by
 rw[zbh];simp only[wpS,kSt]
 cases x.ev tm<;>try rfl
 try (case p b off=>
  dsimp only;generalize objs[b]? = q
  cases q with
  | none=>rfl
  | some ob=>cases ob<;>rfl)
 try (case porow b gen j=>
  dsimp only;generalize objs[b]? = q
  cases q with
  | none=>rfl
  | some ob=>cases ob<;>rfl)
def kNck (P:Program) [Tabs P] (C:Cx) (v:AV)  (d:Option Nat) (r:List SO) (k:List IT) (objs:List OB) (tm:List AV) (F:zaN):Prop :=
 match v with
 | .p b o=>run P C (.ops r::k) objs (zat tm d (.p b o)) F
 | .prow xs j=>run P C (.ops r::k) objs (zat tm d (.prow xs j)) F
 | .fn f fs cs=>run P C (.ops r::k) objs (zat tm d (.fn f fs cs)) F
 | .porow b gen j=>run P C (.ops r::k) objs (zat tm d (.porow b gen j)) F
 | _=>False
theorem kNck_0 (b o:Nat) :kNck P C (.p b o)  d r k objs tm F=(run P C (.ops r::k) objs (zat tm d (.p b o)) F):=Eq.trans rfl rfl
theorem kNck_1 (xs:List AV) (j:Nat) :kNck P C (.prow xs j)  d r k objs tm F=(run P C (.ops r::k) objs (zat tm d (.prow xs j)) F):=Eq.trans rfl rfl
theorem kNck_2 (f:Nat) (fs cs:List AV) :kNck P C (.fn f fs cs)  d r k objs tm F=(run P C (.ops r::k) objs (zat tm d (.fn f fs cs)) F):=Eq.trans rfl rfl
theorem kNck_3 (b gen j:Nat) :kNck P C (.porow b gen j)  d r k objs tm F=(run P C (.ops r::k) objs (zat tm d (.porow b gen j)) F):=Eq.trans rfl rfl
theorem rn_nck (x:SV):run P C (.ops (⟨d,.nck x,none⟩::r)::k) objs tm F=kNck P C (x.ev tm)  d r k objs tm F:=by
 rw[zbh];simp only[wpS,kNck]
 cases (x.ev tm)<;>rfl
def kNot (P:Program) [Tabs P] (C:Cx) (v:AV)  (d:Option Nat) (r:List SO) (k:List IT) (objs:List OB) (tm:List AV) (F:zaN):Prop :=
 match v with
 | .b t=>run P C (.ops r::k) objs (zat tm d (.b (!t))) F
 | _=>False
theorem kNot_0 (t:Bool) :kNot P C (.b t)  d r k objs tm F=(run P C (.ops r::k) objs (zat tm d (.b (!t))) F):=Eq.trans rfl rfl
theorem rn_not (x:SV):run P C (.ops (⟨d,.not x,none⟩::r)::k) objs tm F=kNot P C (x.ev tm)  d r k objs tm F:=by
 rw[zbh];simp only[wpS,kNot]
 cases (x.ev tm)<;>rfl
def kAr (P:Program) [Tabs P] (C:Cx) (q:IntKind) (z:Int) (d:Option Nat) (r:List SO) (k:List IT) (objs:List OB) (tm:List AV) (F:zaN):Prop:=arK q z fun z=>run P C (.ops r::k) objs (zat tm d (.i q z)) F
theorem znO (z:Int):kAr P C .i64 z d r k objs tm F=((-9223372036854775808<=z/\z<=9223372036854775807)/\run P C (.ops r::k) objs (zat tm d (.i .i64 z)) F):=Eq.trans rfl rfl
theorem kAr_i8 (z:Int):kAr P C .i8 z d r k objs tm F=run P C (.ops r::k) objs (zat tm d (.i .i8 (IntKind.wrap .i8 z))) F:=Eq.trans rfl rfl
theorem znQ (z:Int):kAr P C .i16 z d r k objs tm F=run P C (.ops r::k) objs (zat tm d (.i .i16 (IntKind.wrap .i16 z))) F:=Eq.trans rfl rfl
theorem znP (z:Int):kAr P C .i32 z d r k objs tm F=run P C (.ops r::k) objs (zat tm d (.i .i32 (IntKind.wrap .i32 z))) F:=Eq.trans rfl rfl
theorem kAr_u8 (z:Int):kAr P C .u8 z d r k objs tm F=run P C (.ops r::k) objs (zat tm d (.i .u8 (IntKind.wrap .u8 z))) F:=Eq.trans rfl rfl
theorem znN (z:Int):kAr P C .u16 z d r k objs tm F=run P C (.ops r::k) objs (zat tm d (.i .u16 (IntKind.wrap .u16 z))) F:=Eq.trans rfl rfl
theorem znM (z:Int):kAr P C .u32 z d r k objs tm F=run P C (.ops r::k) objs (zat tm d (.i .u32 (IntKind.wrap .u32 z))) F:=Eq.trans rfl rfl
theorem znL (z:Int):kAr P C .u64 z d r k objs tm F=run P C (.ops r::k) objs (zat tm d (.i .u64 (IntKind.wrap .u64 z))) F:=Eq.trans rfl rfl
def kNeg (P:Program) [Tabs P] (C:Cx) (v:AV)  (d:Option Nat) (r:List SO) (k:List IT) (objs:List OB) (tm:List AV) (F:zaN):Prop :=
 match v with
 | .i q n=>kAr P C q (0 - n) d r k objs tm F
 | _=>False
theorem kNeg_0 (q:IntKind) (n:Int) :kNeg P C (.i q n)  d r k objs tm F=(kAr P C q (0 - n) d r k objs tm F):=Eq.trans rfl rfl
theorem rn_neg (x:SV):run P C (.ops (⟨d,.neg x,none⟩::r)::k) objs tm F=kNeg P C (x.ev tm)  d r k objs tm F:=by
 rw[zbh];simp only[wpS,kNeg,kAr]
 cases x.ev tm<;>rfl
def kCvi (P:Program) [Tabs P] (C:Cx) (v:AV) (q:IntKind) (d:Option Nat) (r:List SO) (k:List IT) (objs:List OB) (tm:List AV) (F:zaN):Prop :=
 match v with
 | .i kk n=>run P C (.ops r::k) objs (zat tm d (.i q (q.wrap n))) F
 | _=>False
theorem kCvi_0 (kk:IntKind) (n:Int) (q:IntKind):kCvi P C (.i kk n) q d r k objs tm F=(run P C (.ops r::k) objs (zat tm d (.i q (q.wrap n))) F):=Eq.trans rfl rfl
theorem rn_cvi (q:IntKind) (x:SV):run P C (.ops (⟨d,.cvi q x,none⟩::r)::k) objs tm F=kCvi P C (x.ev tm) q d r k objs tm F:=by
 rw[zbh];simp only[wpS,kCvi]
 cases (x.ev tm)<;>rfl
def kCvs (P:Program) [Tabs P] (C:Cx) (v:AV)  (d:Option Nat) (r:List SO) (k:List IT) (objs:List OB) (tm:List AV) (F:zaN):Prop :=
 match v with
 | .s l=>run P C (.ops r::k) objs (zat tm d (.s l)) F
 | _=>False
theorem kCvs_0 (l:List UInt8) :kCvs P C (.s l)  d r k objs tm F=(run P C (.ops r::k) objs (zat tm d (.s l)) F):=Eq.trans rfl rfl
theorem rn_cvs (x:SV):run P C (.ops (⟨d,.cvs x,none⟩::r)::k) objs tm F=kCvs P C (x.ev tm)  d r k objs tm F:=by
 rw[zbh];simp only[wpS,kCvs]
 cases (x.ev tm)<;>rfl
def kLens (P:Program) [Tabs P] (C:Cx) (v:AV)  (d:Option Nat) (r:List SO) (k:List IT) (objs:List OB) (tm:List AV) (F:zaN):Prop :=
 match v with
 | .s l=>run P C (.ops r::k) objs (zat tm d (.i .i64 l.length)) F
 | _=>False
theorem znx (l:List UInt8) :kLens P C (.s l)  d r k objs tm F=(run P C (.ops r::k) objs (zat tm d (.i .i64 l.length)) F):=Eq.trans rfl rfl
theorem zmw (x:SV):run P C (.ops (⟨d,.lens x,none⟩::r)::k) objs tm F=kLens P C (x.ev tm)  d r k objs tm F:=by
 rw[zbh];simp only[wpS,kLens]
 cases (x.ev tm)<;>rfl
def kFldn (P:Program) [Tabs P] (C:Cx) (v:AV) (off sz:Nat) (d:Option Nat) (r:List SO) (k:List IT) (objs:List OB) (tm:List AV) (F:zaN):Prop :=
 match v with
 | .agg cs=>run P C (.ops r::k) objs (zat tm d (.agg ((cs.drop off).take sz))) F
 | _=>False
theorem znH (cs:List AV) (off sz:Nat):kFldn P C (.agg cs) off sz d r k objs tm F=(run P C (.ops r::k) objs (zat tm d (.agg ((cs.drop off).take sz))) F):=Eq.trans rfl rfl
theorem zmA (off sz:Nat) (x:SV):run P C (.ops (⟨d,.fldn off sz x,none⟩::r)::k) objs tm F=kFldn P C (x.ev tm) off sz d r k objs tm F:=by
 rw[zbh];simp only[wpS,kFldn]
 cases (x.ev tm)<;>rfl
def kFad (P:Program) [Tabs P] (C:Cx) (v:AV) (off:Nat) (d:Option Nat) (r:List SO) (k:List IT) (objs:List OB) (tm:List AV) (F:zaN):Prop :=
 match v with
 | .p b o=>run P C (.ops r::k) objs (zat tm d (.p b (o+off))) F
 | .prow xs j=>run P C (.ops r::k) objs (zat tm d (.prow xs (j+off))) F
 | .porow b gen j=>run P C (.ops r::k) objs (zat tm d (.porow b gen (j+off))) F
 | _=>False
theorem kFad_0 (b o:Nat) (off:Nat):kFad P C (.p b o) off d r k objs tm F=(run P C (.ops r::k) objs (zat tm d (.p b (o+off))) F):=Eq.trans rfl rfl
theorem kFad_1 (xs:List AV) (j:Nat) (off:Nat):kFad P C (.prow xs j) off d r k objs tm F=(run P C (.ops r::k) objs (zat tm d (.prow xs (j+off))) F):=Eq.trans rfl rfl
theorem kFad_2 (b gen j:Nat) (off:Nat):kFad P C (.porow b gen j) off d r k objs tm F=(run P C (.ops r::k) objs (zat tm d (.porow b gen (j+off))) F):=Eq.trans rfl rfl
theorem rn_fad (off:Nat) (x:SV):run P C (.ops (⟨d,.fad off x,none⟩::r)::k) objs tm F=kFad P C (x.ev tm) off d r k objs tm F:=by
 rw[zbh];simp only[wpS,kFad]
 cases (x.ev tm)<;>rfl
def kFld1 (P:Program) [Tabs P] (C:Cx) (v:AV) (off:Nat) (d:Option Nat) (r:List SO) (k:List IT) (objs:List OB) (tm:List AV) (F:zaN):Prop :=
 match v with
 | .agg cs=>kO P C cs[off]? d r k objs tm F
 | _=>False
theorem znI (cs:List AV) (off:Nat):kFld1 P C (.agg cs) off d r k objs tm F=(kO P C cs[off]? d r k objs tm F):=Eq.trans rfl rfl
theorem zmB (off:Nat) (x:SV):run P C (.ops (⟨d,.fld1 off x,none⟩::r)::k) objs tm F=kFld1 P C (x.ev tm) off d r k objs tm F:=by
 rw[zbh];simp only[wpS,kFld1]
 cases x.ev tm<;>try rfl
 try (case agg cs=>dsimp only;cases cs[off]?<;>rfl)
def kExt (P:Program) [Tabs P] (C:Cx) (v:AV) (j:Nat) (d:Option Nat) (r:List SO) (k:List IT) (objs:List OB) (tm:List AV) (F:zaN):Prop :=
 match v with
 | .tup cs=>kO P C cs[j]? d r k objs tm F
 | _=>False
theorem kExt_0 (cs:List AV) (j:Nat):kExt P C (.tup cs) j d r k objs tm F=(kO P C cs[j]? d r k objs tm F):=Eq.trans rfl rfl
theorem rn_ext (x:SV) (j:Nat):run P C (.ops (⟨d,.ext x j,none⟩::r)::k) objs tm F=kExt P C (x.ev tm) j d r k objs tm F:=by
 rw[zbh];simp only[wpS,kExt]
 cases x.ev tm<;>try rfl
 try (case tup cs=>dsimp only;cases cs[j]?<;>rfl)
def kLr2 (P:Program) [Tabs P] (C:Cx) (c:Option OB) (gen:Nat) (d:Option Nat) (r:List SO) (k:List IT) (objs:List OB) (tm:List AV) (F:zaN):Prop :=
 match c with
 | some (.orow _ _ gen' n _)=>gen'=gen/\run P C (.ops r::k) objs (zat tm d (.i .i64 n)) F
 | _=>False
theorem kLr2_o (E sz gen' n gen:Nat) (xs:List AV):kLr2 P C (some (.orow E sz gen' n xs)) gen d r k objs tm F=(gen'=gen/\run P C (.ops r::k) objs (zat tm d (.i .i64 n)) F):=Eq.trans rfl rfl
def zlC (P:Program) [Tabs P] (C:Cx) (v:AV)  (d:Option Nat) (r:List SO) (k:List IT) (objs:List OB) (tm:List AV) (F:zaN):Prop :=
 match v with
 | .row n xs=>run P C (.ops r::k) objs (zat tm d (.i .i64 n)) F
 | .nil=>run P C (.ops r::k) objs (zat tm d (.i .i64 0)) F
 | .orow b gen=>kLr2 P C objs[b]? gen d r k objs tm F
 | .zn z=>run P C (.ops r::k) objs (zat tm d (.i .i64 0)) F
 | _=>False
theorem znB (n:Nat) (xs:List AV) :zlC P C (.row n xs)  d r k objs tm F=(run P C (.ops r::k) objs (zat tm d (.i .i64 n)) F):=Eq.trans rfl rfl
theorem znA  :zlC P C (.nil)  d r k objs tm F=(run P C (.ops r::k) objs (zat tm d (.i .i64 0)) F):=Eq.trans rfl rfl
theorem znz (b gen:Nat) :zlC P C (.orow b gen)  d r k objs tm F=(kLr2 P C objs[b]? gen d r k objs tm F):=Eq.trans rfl rfl
theorem zny (z:Bool) :zlC P C (.zn z)  d r k objs tm F=(run P C (.ops r::k) objs (zat tm d (.i .i64 0)) F):=Eq.trans rfl rfl
theorem zmx (x:SV):run P C (.ops (⟨d,.lenr x,none⟩::r)::k) objs tm F=zlC P C (x.ev tm)  d r k objs tm F:=by
 rw[zbh];simp only[wpS,zlC]
 cases x.ev tm<;>try rfl
 try (case orow b gen=>
  dsimp only;generalize objs[b]? = q
  cases q with
  | none=>rfl
  | some ob=>cases ob<;>rfl)
def kBeq (P:Program) [Tabs P] (C:Cx) (ne:Bool) (x y:AV) (d:Option Nat) (r:List SO) (k:List IT) (objs:List OB) (tm:List AV) (F:zaN):Prop :=
 match x,y with
 | .b l,.b m=>run P C (.ops r::k) objs (zat tm d (.b (if ne then !(l==m) else (l==m)))) F
 | _,_=>False
def kEq (P:Program) [Tabs P] (C:Cx) (ne:Bool) (x:Option Bool) (d:Option Nat) (r:List SO) (k:List IT) (objs:List OB) (tm:List AV) (F:zaN):Prop :=
 match x with
 | some q=>run P C (.ops r::k) objs (zat tm d (.b (if ne then !q else q))) F
 | none=>False
def kEqs (P:Program) [Tabs P] (C:Cx) (ne:Bool) (e:ET) (x y:AV) (d:Option Nat) (r:List SO) (k:List IT) (objs:List OB) (tm:List AV) (F:zaN):Prop :=
 match x,y with
 | .agg xs,.agg ys=>kEq P C ne (eqA e (.agg xs) (.agg ys)) d r k objs tm F
 | _,_=>False
theorem zig (l m:Bool):kBeq P C true (.b l) (.b m) d r k objs tm F=run P C (.ops r::k) objs (zat tm d (.b (!(l==m)))) F:=Eq.trans rfl rfl
theorem zkb (q:Bool):kEq P C true (some q) d r k objs tm F=run P C (.ops r::k) objs (zat tm d (.b (!q))) F:=Eq.trans rfl rfl
theorem zgv (l m:Bool):kBeq P C false (.b l) (.b m) d r k objs tm F=run P C (.ops r::k) objs (zat tm d (.b (l==m))) F:=Eq.trans rfl rfl
theorem zif (q:Bool):kEq P C false (some q) d r k objs tm F=run P C (.ops r::k) objs (zat tm d (.b q)) F:=Eq.trans rfl rfl
theorem kEqs_a (ne:Bool) (e:ET) (xs ys:List AV):kEqs P C ne e (.agg xs) (.agg ys) d r k objs tm F=kEq P C ne (eqA e (.agg xs) (.agg ys)) d r k objs tm F:=Eq.trans rfl rfl
theorem rn_beq (ne:Bool) (x y:SV):run P C (.ops (⟨d,.beq ne x y,none⟩::r)::k) objs tm F=kBeq P C ne (x.ev tm) (y.ev tm) d r k objs tm F:=by
 rw[zbh];simp only[wpS,kBeq]
 cases x.ev tm<;>try rfl
 try (cases y.ev tm<;>rfl)
theorem rn_eqs (ne:Bool) (e:ET) (x y:SV):run P C (.ops (⟨d,.eqs ne e x y,none⟩::r)::k) objs tm F=kEqs P C ne e (x.ev tm) (y.ev tm) d r k objs tm F:=by
 rw[zbh];simp only[wpS,kEqs]
 cases x.ev tm<;>try rfl
 try (cases y.ev tm<;>try rfl)
 try (simp only[kEq];cases eqA e _ _<;>rfl)
def kIado (P:Program) [Tabs P] (C:Cx) (c:Option OB) (b gen:Nat) (i:Int) (sz:Nat) (d:Option Nat) (r:List SO) (k:List IT) (objs:List OB) (tm:List AV) (F:zaN):Prop :=
 match c with
 | some (.orow _ s gen' n _)=>(gen'=gen/\s=sz/\0<=i/\i<n)/\run P C (.ops r::k) objs (zat tm d (.porow b gen (i.toNat*sz))) F
 | _=>False
theorem znF (E s gen' n:Nat) (xs:List AV) (b gen:Nat) (i:Int) (sz:Nat):kIado P C (some (.orow E s gen' n xs)) b gen i sz d r k objs tm F=((gen'=gen/\s=sz/\0<=i/\i<n)/\run P C (.ops r::k) objs (zat tm d (.porow b gen (i.toNat*sz))) F):=Eq.trans rfl rfl
def kIad (P:Program) [Tabs P] (C:Cx) (x y:AV) (sz:Nat) (d:Option Nat) (r:List SO) (k:List IT) (objs:List OB) (tm:List AV) (F:zaN):Prop :=
 match x,y with
 | .row n xs,.i kk i=>(0<=i/\i<n/\n*sz<=xs.length)/\run P C (.ops r::k) objs (zat tm d (.prow xs (i.toNat*sz))) F
 | .orow b gen,.i kk i=>kIado P C objs[b]? b gen i sz d r k objs tm F
 | _,_=>False
theorem kIad_0 (n:Nat) (xs:List AV) (kk:IntKind) (i:Int) (sz:Nat):kIad P C (.row n xs) (.i kk i) sz d r k objs tm F=((0<=i/\i<n/\n*sz<=xs.length)/\run P C (.ops r::k) objs (zat tm d (.prow xs (i.toNat*sz))) F):=Eq.trans rfl rfl
theorem kIad_1 (b gen:Nat) (kk:IntKind) (i:Int) (sz:Nat):kIad P C (.orow b gen) (.i kk i) sz d r k objs tm F=(kIado P C objs[b]? b gen i sz d r k objs tm F):=Eq.trans rfl rfl
theorem rn_iad (sz:Nat) (x y:SV):run P C (.ops (⟨d,.iad sz x y,none⟩::r)::k) objs tm F=kIad P C (x.ev tm) (y.ev tm) sz d r k objs tm F:=by
 rw[zbh];simp only[wpS,kIad]
 cases x.ev tm<;>try rfl
 all_goals try (cases y.ev tm<;>try rfl)
 all_goals (
  dsimp only;rename_i b gen _ _;generalize objs[b]? = q
  cases q with
  | none=>rfl
  | some ob=>cases ob<;>rfl)
def kIadr (P:Program) [Tabs P] (C:Cx) (x y:AV) (sz:Nat) (d:Option Nat) (r:List SO) (k:List IT) (objs:List OB) (tm:List AV) (F:zaN):Prop :=
 match x,y with
 | .row n xs,.i kk i=>(0<=i/\i<n/\n*sz<=xs.length)/\run P C (.ops r::k) objs (zat tm d (.prow xs (i.toNat*sz))) F
 | _,_=>False
theorem znE (n:Nat) (xs:List AV) (kk:IntKind) (i:Int) (sz:Nat):kIadr P C (.row n xs) (.i kk i) sz d r k objs tm F=((0<=i/\i<n/\n*sz<=xs.length)/\run P C (.ops r::k) objs (zat tm d (.prow xs (i.toNat*sz))) F):=Eq.trans rfl rfl
theorem zmy (sz:Nat) (x y:SV):run P C (.ops (⟨d,.iadr sz x y,none⟩::r)::k) objs tm F=kIadr P C (x.ev tm) (y.ev tm) sz d r k objs tm F:=by
 rw[zbh];simp only[wpS,kIadr]
 cases x.ev tm<;>try rfl
 try (cases y.ev tm<;>rfl)
def kIada (P:Program) [Tabs P] (C:Cx) (x y:AV) (sz len:Nat) (d:Option Nat) (r:List SO) (k:List IT) (objs:List OB) (tm:List AV) (F:zaN):Prop :=
 match x,y with
 | .p b off,.i kk i=>(0<=i/\i<len)/\run P C (.ops r::k) objs (zat tm d (.p b (off+i.toNat*sz))) F
 | _,_=>False
theorem znG (b off:Nat) (kk:IntKind) (i:Int) (sz len:Nat):kIada P C (.p b off) (.i kk i) sz len d r k objs tm F=((0<=i/\i<len)/\run P C (.ops r::k) objs (zat tm d (.p b (off+i.toNat*sz))) F):=Eq.trans rfl rfl
theorem zmz (sz len:Nat) (x y:SV):run P C (.ops (⟨d,.iada sz len x y,none⟩::r)::k) objs tm F=kIada P C (x.ev tm) (y.ev tm) sz len d r k objs tm F:=by
 rw[zbh];simp only[wpS,kIada]
 cases x.ev tm<;>try rfl
 try (cases y.ev tm<;>rfl)
def kIdx (P:Program) [Tabs P] (C:Cx) (x y:AV)  (d:Option Nat) (r:List SO) (k:List IT) (objs:List OB) (tm:List AV) (F:zaN):Prop :=
 match x,y with
 | .s l,.i kk i=>(0<=i/\i<l.length)/\run P C (.ops r::k) objs (zat tm d (.i .u8 ((l.getD i.toNat 0).toNat:Int))) F
 | _,_=>False
theorem kIdx_0 (l:List UInt8) (kk:IntKind) (i:Int) :kIdx P C (.s l) (.i kk i)  d r k objs tm F=((0<=i/\i<l.length)/\run P C (.ops r::k) objs (zat tm d (.i .u8 ((l.getD i.toNat 0).toNat:Int))) F):=Eq.trans rfl rfl
theorem rn_idx (x y:SV):run P C (.ops (⟨d,.idx x y,none⟩::r)::k) objs tm F=kIdx P C (x.ev tm) (y.ev tm)  d r k objs tm F:=by
 rw[zbh];simp only[wpS,kIdx]
 cases x.ev tm<;>try rfl
 try (cases y.ev tm<;>rfl)
def kTrno (P:Program) [Tabs P] (C:Cx) (c:Option OB) (b gen:Nat) (i:Int) (sz:Nat) (d:Option Nat) (r:List SO) (k:List IT) (objs:List OB) (tm:List AV) (F:zaN):Prop :=
 match c with
 | some (.orow E s gen' n xs)=>(gen'=gen/\s=sz/\0<=i/\i<=n)/\run P C (.ops r::k) (objs.set b (.orow E s (gen+1) i.toNat (xs.take (i.toNat*s)))) (zat tm d (.orow b (gen+1))) F
 | _=>False
theorem znr (E s gen' n:Nat) (xs:List AV) (b gen:Nat) (i:Int) (sz:Nat):kTrno P C (some (.orow E s gen' n xs)) b gen i sz d r k objs tm F=((gen'=gen/\s=sz/\0<=i/\i<=n)/\run P C (.ops r::k) (objs.set b (.orow E s (gen+1) i.toNat (xs.take (i.toNat*s)))) (zat tm d (.orow b (gen+1))) F):=Eq.trans rfl rfl
def kTrn (P:Program) [Tabs P] (C:Cx) (x y:AV) (sz:Nat) (d:Option Nat) (r:List SO) (k:List IT) (objs:List OB) (tm:List AV) (F:zaN):Prop :=
 match x,y with
 | .row n xs,.i kk i=>(0<=i/\i<=n)/\run P C (.ops r::k) objs (zat tm d (.row i.toNat (xs.take (i.toNat*sz)))) F
 | .nil,.i kk i=>i=0/\run P C (.ops r::k) objs (zat tm d .nil) F
 | .orow b gen,.i kk i=>kTrno P C objs[b]? b gen i sz d r k objs tm F
 | _,_=>False
theorem kTrn_0 (n:Nat) (xs:List AV) (kk:IntKind) (i:Int) (sz:Nat):kTrn P C (.row n xs) (.i kk i) sz d r k objs tm F=((0<=i/\i<=n)/\run P C (.ops r::k) objs (zat tm d (.row i.toNat (xs.take (i.toNat*sz)))) F):=Eq.trans rfl rfl
theorem kTrn_1 (kk:IntKind) (i:Int) (sz:Nat):kTrn P C (.nil) (.i kk i) sz d r k objs tm F=(i=0/\run P C (.ops r::k) objs (zat tm d .nil) F):=Eq.trans rfl rfl
theorem kTrn_2 (b gen:Nat) (kk:IntKind) (i:Int) (sz:Nat):kTrn P C (.orow b gen) (.i kk i) sz d r k objs tm F=(kTrno P C objs[b]? b gen i sz d r k objs tm F):=Eq.trans rfl rfl
theorem rn_trn (sz:Nat) (x y:SV):run P C (.ops (⟨d,.trn sz x y,none⟩::r)::k) objs tm F=kTrn P C (x.ev tm) (y.ev tm) sz d r k objs tm F:=by
 rw[zbh];simp only[wpS,kTrn]
 cases x.ev tm<;>try rfl
 all_goals try (cases y.ev tm<;>try rfl)
 all_goals (
  dsimp only;rename_i b gen _ _;generalize objs[b]? = q
  cases q with
  | none=>rfl
  | some ob=>cases ob<;>rfl)
def kMks (P:Program) [Tabs P] (C:Cx) (x y:AV) (E sz by':Nat) (d:Option Nat) (r:List SO) (k:List IT) (objs:List OB) (tm:List AV) (F:zaN):Prop :=
 match x,y with
 | .i k1 l,.i k2 c=>(l=0/\0<=c/\(by':Int)*c<=281474976710656/\c<=140737488351232+4096)/\run P C (.ops r::k) (objs++[.orow E sz 0 0 []]) (zat tm d (.orow objs.length 0)) F
 | _,_=>False
theorem kMks_0 (k1:IntKind) (l:Int) (k2:IntKind) (c:Int) (E sz by':Nat):kMks P C (.i k1 l) (.i k2 c) E sz by' d r k objs tm F=((l=0/\0<=c/\(by':Int)*c<=281474976710656/\c<=140737488351232+4096)/\run P C (.ops r::k) (objs++[.orow E sz 0 0 []]) (zat tm d (.orow objs.length 0)) F):=Eq.trans rfl rfl
theorem rn_mks (E sz by':Nat) (x y:SV):run P C (.ops (⟨d,.mks E sz by' x y,none⟩::r)::k) objs tm F=kMks P C (x.ev tm) (y.ev tm) E sz by' d r k objs tm F:=by
 rw[zbh];simp only[wpS,kMks,show (140737488351232+4096:Int)=140737488355328 from rfl]
 cases x.ev tm<;>try rfl
 try (cases y.ev tm<;>rfl)
def kMkz (P:Program) [Tabs P] (C:Cx) (x:AV) (E by':Nat) (kd:IntKind) (z:Int) (d:Option Nat) (r:List SO) (k:List IT) (objs:List OB) (tm:List AV) (F:zaN):Prop :=
 match x with
 | .i _ l=>(0<=l/\(by':Int)*l<=281474976710656/\l<=140737488355328)/\run P C (.ops r::k) (objs++[.orow E 1 0 l.toNat (qo l.toNat (.i kd z))]) (zat tm d (.orow objs.length 0)) F
 | _=>False
theorem kMkz_i (q:IntKind) (l:Int) (E by':Nat) (kd:IntKind) (z:Int):kMkz P C (.i q l) E by' kd z d r k objs tm F=((0<=l/\(by':Int)*l<=281474976710656/\l<=140737488355328)/\run P C (.ops r::k) (objs++[.orow E 1 0 l.toNat (qo l.toNat (.i kd z))]) (zat tm d (.orow objs.length 0)) F):=Eq.trans rfl rfl
theorem rn_mkz (E by':Nat) (kd:IntKind) (z:Int) (x:SV):run P C (.ops (⟨d,.mkz E by' kd z x,none⟩::r)::k) objs tm F=kMkz P C (x.ev tm) E by' kd z d r k objs tm F:=by
 rw[zbh];simp only[wpS,kMkz]
 cases x.ev tm<;>rfl
def kCap (P:Program) [Tabs P] (C:Cx) (v:AV) (s:Option (Nat×List AV)) (sz by':Nat) (d:Option Nat) (r:List SO) (k:List IT) (objs:List OB) (tm:List AV) (F:zaN):Prop :=
 match v,s with
 | .crow n xs,some (m,ys)=>((xs.length=n*sz/\ys.length=m*sz)/\0<m/\(n+m)*by'<=140737488355328/\n+m<=140737488355328)/\run P C (.ops r::k) objs (zat tm d (.row (n+m) (xs++ys))) F
 | _,_=>False
theorem kCap_c (n m:Nat) (xs ys:List AV) (sz by':Nat):kCap P C (.crow n xs) (some (m,ys)) sz by' d r k objs tm F=(((xs.length=n*sz/\ys.length=m*sz)/\0<m/\(n+m)*by'<=140737488355328/\n+m<=140737488355328)/\run P C (.ops r::k) objs (zat tm d (.row (n+m) (xs++ys))) F):=Eq.trans rfl rfl
theorem zmF (sz by':Nat) (x y:SV):run P C (.ops (⟨d,.capp sz by' x y,none⟩::r)::k) objs tm F=kCap P C (x.ev tm) (zcU [] (y.ev tm)) sz by' d r k objs tm F:=by
 rw[zbh];simp only[wpS,kCap]
 cases x.ev tm<;>rfl
def zjb (P:Program) [Tabs P] (C:Cx) (op:BinOp) (x y:AV) (d:Option Nat) (r:List SO) (k:List IT) (objs:List OB) (tm:List AV) (F:zaN):Prop:=binK op x y fun v=>run P C (.ops r::k) objs (zat tm d v) F
theorem rn_bin (q:BinOp) (x y:SV):run P C (.ops (⟨d,.bin q x y,none⟩::r)::k) objs tm F=zjb P C q (x.ev tm) (y.ev tm) d r k objs tm F:=Eq.trans rfl rfl
theorem zkp (q:IntKind) (m n:Int):zjb P C .add (.i q m) (.i q n) d r k objs tm F=kAr P C q (m+n) d r k objs tm F:=propext ⟨fun h=>h.2,fun h=>⟨rfl,h⟩⟩
theorem zkc (q:IntKind) (m n:Int):zjb P C .sub (.i q m) (.i q n) d r k objs tm F=kAr P C q (m - n) d r k objs tm F:=propext ⟨fun h=>h.2,fun h=>⟨rfl,h⟩⟩
theorem zki (q:IntKind) (m n:Int):zjb P C .mul (.i q m) (.i q n) d r k objs tm F=kAr P C q (m*n) d r k objs tm F:=propext ⟨fun h=>h.2,fun h=>⟨rfl,h⟩⟩
theorem zkg (q:IntKind) (m n:Int):zjb P C .quo (.i q m) (.i q n) d r k objs tm F=(n≠0/\kAr P C q (m.tdiv n) d r k objs tm F):=propext ⟨fun h=>h.2,fun h=>⟨rfl,h⟩⟩
theorem zkf (q:IntKind) (m n:Int):zjb P C .rem (.i q m) (.i q n) d r k objs tm F=(n≠0/\run P C (.ops r::k) objs (zat tm d (.i q (m.tmod n))) F):=propext ⟨fun h=>h.2,fun h=>⟨rfl,h⟩⟩
theorem zkn (q:IntKind) (m n:Int):zjb P C .eql (.i q m) (.i q n) d r k objs tm F=run P C (.ops r::k) objs (zat tm d (.b (decide (m=n)))) F:=propext ⟨fun h=>h.2,fun h=>⟨rfl,h⟩⟩
theorem zkh (q:IntKind) (m n:Int):zjb P C .neq (.i q m) (.i q n) d r k objs tm F=run P C (.ops r::k) objs (zat tm d (.b (decide (¬m=n)))) F:=propext ⟨fun h=>h.2,fun h=>⟨rfl,h⟩⟩
theorem zkj (q:IntKind) (m n:Int):zjb P C .lss (.i q m) (.i q n) d r k objs tm F=run P C (.ops r::k) objs (zat tm d (.b (decide (m<n)))) F:=propext ⟨fun h=>h.2,fun h=>⟨rfl,h⟩⟩
theorem zkk (q:IntKind) (m n:Int):zjb P C .leq (.i q m) (.i q n) d r k objs tm F=run P C (.ops r::k) objs (zat tm d (.b (decide (m<=n)))) F:=propext ⟨fun h=>h.2,fun h=>⟨rfl,h⟩⟩
theorem zkl (q:IntKind) (m n:Int):zjb P C .gtr (.i q m) (.i q n) d r k objs tm F=run P C (.ops r::k) objs (zat tm d (.b (decide (n<m)))) F:=propext ⟨fun h=>h.2,fun h=>⟨rfl,h⟩⟩
theorem zkm (q:IntKind) (m n:Int):zjb P C .geq (.i q m) (.i q n) d r k objs tm F=run P C (.ops r::k) objs (zat tm d (.b (decide (n<=m)))) F:=propext ⟨fun h=>h.2,fun h=>⟨rfl,h⟩⟩
theorem zko (l m:List UInt8):zjb P C .add (.s l) (.s m) d r k objs tm F=(l.length+m.length<=9223372036854775807/\run P C (.ops r::k) objs (zat tm d (.s (l++m))) F):=Eq.trans rfl rfl
theorem zke (l m:List UInt8):zjb P C .eql (.s l) (.s m) d r k objs tm F=run P C (.ops r::k) objs (zat tm d (.b (decide (l=m)))) F:=Eq.trans rfl rfl
theorem zkd (l m:List UInt8):zjb P C .neq (.s l) (.s m) d r k objs tm F=run P C (.ops r::k) objs (zat tm d (.b (decide (¬l=m)))) F:=Eq.trans rfl rfl
def kSl2 (P:Program) [Tabs P] (C:Cx) (l:List UInt8) (i j:Option Int) (d:Option Nat) (r:List SO) (k:List IT) (objs:List OB) (tm:List AV) (F:zaN):Prop :=
 match i,j with
 | some i,some j=>(0<=i/\i<=j/\j<=l.length)/\run P C (.ops r::k) objs (zat tm d (.s ((l.take j.toNat).drop i.toNat))) F
 | _,_=>False
def kSl (P:Program) [Tabs P] (C:Cx) (v:AV) (lo hi:Option SV) (d:Option Nat) (r:List SO) (k:List IT) (objs:List OB) (tm:List AV) (F:zaN):Prop :=
 match v with
 | .s l=>kSl2 P C l (ziO tm 0 lo) (ziO tm l.length hi) d r k objs tm F
 | _=>False
def svi:AV->Option Int
 | .i _ n=>some n
 | _=>none
theorem svi_i (q:IntKind) (n:Int):svi (.i q n)=some n:=Eq.trans rfl rfl
theorem zhH (z:Int):ziO tm z none=some z:=Eq.trans rfl rfl
theorem zhG (z:Int) (x:SV):ziO tm z (some x)=svi (x.ev tm):=by
 simp only[ziO];cases x.ev tm<;>rfl
theorem kSl2_s (l:List UInt8) (i j:Int):kSl2 P C l (some i) (some j) d r k objs tm F=((0<=i/\i<=j/\j<=l.length)/\run P C (.ops r::k) objs (zat tm d (.s ((l.take j.toNat).drop i.toNat))) F):=Eq.trans rfl rfl
theorem kSl_s (l:List UInt8) (lo hi:Option SV):kSl P C (.s l) lo hi d r k objs tm F=kSl2 P C l (ziO tm 0 lo) (ziO tm l.length hi) d r k objs tm F:=Eq.trans rfl rfl
theorem zmr (x:SV) (lo hi:Option SV):run P C (.ops (⟨d,.slcs x lo hi,none⟩::r)::k) objs tm F=kSl P C (x.ev tm) lo hi d r k objs tm F:=by
 rw[zbh];simp only[wpS,kSl]
 cases x.ev tm<;>try rfl
 try (case s l=>dsimp only [kSl2];cases ziO tm 0 lo<;>cases ziO tm l.length hi<;>rfl)
def kAp3 (P:Program) [Tabs P] (C:Cx) (c:Option OB) (b gen E sz by' m:Nat) (ys:List AV) (d:Option Nat) (r:List SO) (k:List IT) (objs:List OB) (tm:List AV) (F:zaN):Prop :=
 match c with
 | some (.orow E' sz' gen' n xs)=>((E'=E/\sz'=sz/\gen'=gen)/\ys.length=m*sz/\(n+m)*by'<=140737488355328/\n+m<=140737488355328)/\run P C (.ops r::k) (objs.set b (.orow E sz (gen+1) (n+m) (xs++ys))) (zat tm d (.orow b (gen+1))) F
 | _=>False
def kAp2 (P:Program) [Tabs P] (C:Cx) (v:AV) (E sz by' m:Nat) (ys:List AV) (d:Option Nat) (r:List SO) (k:List IT) (objs:List OB) (tm:List AV) (F:zaN):Prop :=
 match v with
 | .orow b gen=>kAp3 P C objs[b]? b gen E sz by' m ys d r k objs tm F
 | .nil=>(ys.length=m*sz/\m*by'<=140737488355328/\m<=140737488355328)/\run P C (.ops r::k) (objs++[.orow E sz 0 m ys]) (zat tm d (.orow objs.length 0)) F
 | _=>False
def kAp (P:Program) [Tabs P] (C:Cx) (v:AV) (s:Option (Nat×List AV)) (E sz by':Nat) (d:Option Nat) (r:List SO) (k:List IT) (objs:List OB) (tm:List AV) (F:zaN):Prop :=
 match s with
 | some (m,ys)=>kAp2 P C v E sz by' m ys d r k objs tm F
 | none=>False
def kAs2 (P:Program) [Tabs P] (C:Cx) (c:Option OB) (b gen E:Nat) (l:List UInt8) (d:Option Nat) (r:List SO) (k:List IT) (objs:List OB) (tm:List AV) (F:zaN):Prop :=
 match c with
 | some (.orow E' sz' gen' n xs)=>((E'=E/\sz'=1/\gen'=gen)/\n+l.length<=140737488355328)/\run P C (.ops r::k) (objs.set b (.orow E 1 (gen+1) (n+l.length) (xs++byA l))) (zat tm d (.orow b (gen+1))) F
 | _=>False
def kAs (P:Program) [Tabs P] (C:Cx) (v y:AV) (E:Nat) (d:Option Nat) (r:List SO) (k:List IT) (objs:List OB) (tm:List AV) (F:zaN):Prop :=
 match y with
 | .s l=>match v with
  | .orow b gen=>kAs2 P C objs[b]? b gen E l d r k objs tm F
  | .nil=>l.length<=140737488355328/\run P C (.ops r::k) (objs++[.orow E 1 0 l.length (byA l)]) (zat tm d (.orow objs.length 0)) F
  | _=>False
 | _=>False
theorem kAp_s (v:AV) (m:Nat) (ys:List AV) (E sz by':Nat):kAp P C v (some (m,ys)) E sz by' d r k objs tm F=kAp2 P C v E sz by' m ys d r k objs tm F:=Eq.trans rfl rfl
theorem kAp2_o (b gen E sz by' m:Nat) (ys:List AV):kAp2 P C (.orow b gen) E sz by' m ys d r k objs tm F=kAp3 P C objs[b]? b gen E sz by' m ys d r k objs tm F:=Eq.trans rfl rfl
theorem kAp2_n (E sz by' m:Nat) (ys:List AV):kAp2 P C .nil E sz by' m ys d r k objs tm F=((ys.length=m*sz/\m*by'<=140737488355328/\m<=140737488355328)/\run P C (.ops r::k) (objs++[.orow E sz 0 m ys]) (zat tm d (.orow objs.length 0)) F):=Eq.trans rfl rfl
theorem kAp3_o (b gen E sz by' m n:Nat) (ys xs:List AV):kAp3 P C (some (.orow E sz gen n xs)) b gen E sz by' m ys d r k objs tm F=((ys.length=m*sz/\(n+m)*by'<=140737488355328/\n+m<=140737488355328)/\run P C (.ops r::k) (objs.set b (.orow E sz (gen+1) (n+m) (xs++ys))) (zat tm d (.orow b (gen+1))) F):=propext ⟨fun h=>⟨h.1.2,h.2⟩,fun h=>⟨⟨⟨rfl,rfl,rfl⟩,h.1⟩,h.2⟩⟩
theorem kAs_o (b gen E:Nat) (l:List UInt8):kAs P C (.orow b gen) (.s l) E d r k objs tm F=kAs2 P C objs[b]? b gen E l d r k objs tm F:=Eq.trans rfl rfl
theorem kAs_n (E:Nat) (l:List UInt8):kAs P C .nil (.s l) E d r k objs tm F=(l.length<=140737488355328/\run P C (.ops r::k) (objs++[.orow E 1 0 l.length (byA l)]) (zat tm d (.orow objs.length 0)) F):=Eq.trans rfl rfl
theorem kAs2_o (b gen E n:Nat) (l:List UInt8) (xs:List AV):kAs2 P C (some (.orow E 1 gen n xs)) b gen E l d r k objs tm F=(n+l.length<=140737488355328/\run P C (.ops r::k) (objs.set b (.orow E 1 (gen+1) (n+l.length) (xs++byA l))) (zat tm d (.orow b (gen+1))) F):=propext ⟨fun h=>⟨h.1.2,h.2⟩,fun h=>⟨⟨⟨rfl,rfl,rfl⟩,h.1⟩,h.2⟩⟩
theorem rn_app (E sz by':Nat) (x y:SV):run P C (.ops (⟨d,.app E sz by' x y,none⟩::r)::k) objs tm F=kAp P C (x.ev tm) (zcU objs (y.ev tm)) E sz by' d r k objs tm F:=by
 rw[zbh];simp only[wpS,kAp]
 cases hs:zcU objs (y.ev tm) with
 | none=>rfl
 | some p=>
  obtain⟨m,ys⟩:=p;simp only[kAp2]
  cases x.ev tm<;>try rfl
  try (case orow b gen=>
   dsimp only [kAp3];generalize objs[b]? = q
   cases q with
   | none=>rfl
   | some ob=>cases ob<;>rfl)
theorem zmI (E:Nat) (x y:SV):run P C (.ops (⟨d,.apps E x y,none⟩::r)::k) objs tm F=kAs P C (x.ev tm) (y.ev tm) E d r k objs tm F:=by
 rw[zbh];simp only[wpS,kAs]
 cases y.ev tm<;>try rfl
 try (case s l=>
  cases x.ev tm<;>try rfl
  try (case orow b gen=>
   dsimp only [kAs2];generalize objs[b]? = q
   cases q with
   | none=>rfl
   | some ob=>cases ob<;>rfl))
def kCb2 (P:Program) [Tabs P] (C:Cx) (c:Option OB) (gen:Nat) (d:Option Nat) (r:List SO) (k:List IT) (objs:List OB) (tm:List AV) (F:zaN):Prop :=
 match c with
 | some (.orow _ sz gen' _ xs)=>(gen'=gen/\sz=1)/\∃l,xs=byA l/\run P C (.ops r::k) objs (zat tm d (.s l)) F
 | _=>False
def kCb3 (P:Program) [Tabs P] (C:Cx) (c:Option OB) (off n:Nat) (d:Option Nat) (r:List SO) (k:List IT) (objs:List OB) (tm:List AV) (F:zaN):Prop :=
 match c with
 | some (.box _ cs)=>∃l,((cs.drop off).take n=byA l/\l.length=n)/\run P C (.ops r::k) objs (zat tm d (.s l)) F
 | _=>False
def kCb (P:Program) [Tabs P] (C:Cx) (v:AV) (d:Option Nat) (r:List SO) (k:List IT) (objs:List OB) (tm:List AV) (F:zaN):Prop :=
 match v with
 | .orow b gen=>kCb2 P C objs[b]? gen d r k objs tm F
 | .row n xs=>∃l,(xs=byA l/\n=l.length)/\run P C (.ops r::k) objs (zat tm d (.s l)) F
 | .nil=>run P C (.ops r::k) objs (zat tm d (.s [])) F
 | .bsl b off n=>kCb3 P C objs[b]? off n d r k objs tm F
 | _=>False
theorem kCb_o (b gen:Nat):kCb P C (.orow b gen) d r k objs tm F=kCb2 P C objs[b]? gen d r k objs tm F:=Eq.trans rfl rfl
theorem kCb_n :kCb P C .nil d r k objs tm F=run P C (.ops r::k) objs (zat tm d (.s [])) F:=Eq.trans rfl rfl
theorem kCb_b (b off n:Nat):kCb P C (.bsl b off n) d r k objs tm F=kCb3 P C objs[b]? off n d r k objs tm F:=Eq.trans rfl rfl
theorem zmE (x:SV):run P C (.ops (⟨d,.cvbs x,none⟩::r)::k) objs tm F=kCb P C (x.ev tm) d r k objs tm F:=by
 rw[zbh];simp only[wpS,kCb]
 cases x.ev tm<;>try rfl
 try (case orow b gen=>
  dsimp only;generalize objs[b]? = q
  cases q with
  | none=>rfl
  | some ob=>cases ob<;>rfl)
 try (case bsl b off n=>
  dsimp only;generalize objs[b]? = q
  cases q with
  | none=>rfl
  | some ob=>cases ob<;>rfl)
theorem rn_mkf (f:Nat) (fs cs:List SV):run P C (.ops (⟨d,.mkf f fs cs,none⟩::r)::k) objs tm F=run P C (.ops r::k) objs (zat tm d (.fn f (evs tm fs) (evs tm cs))) F:=by rw[zeT,zeT];rfl
theorem kO_if (c:Prop) [Decidable c] (v:AV):kO P C (if c then some v else none) d r k objs tm F=(c/\run P C (.ops r::k) objs (zat tm d v) F):=by
 by_cases h:c
 ·simp[h,kO]
 ·simp[h,kO]
theorem pq_and (q:IntKind) (a b:Int):pq (.bits .and) [.i q a,.i q b]=some (.i q (q.wrap (BitVec.ofInt q.bits a &&& BitVec.ofInt q.bits b).toNat)):=by simp[pq,zlR]
theorem pq_or (q:IntKind) (a b:Int):pq (.bits .or) [.i q a,.i q b]=some (.i q (q.wrap (BitVec.ofInt q.bits a ||| BitVec.ofInt q.bits b).toNat)):=by simp[pq,zlR]
theorem pq_xor (q:IntKind) (a b:Int):pq (.bits .xor) [.i q a,.i q b]=some (.i q (q.wrap (BitVec.ofInt q.bits a ^^^ BitVec.ofInt q.bits b).toNat)):=by simp[pq,zlR]
theorem pq_shl (q q':IntKind) (a b:Int):pq .shl [.i q a,.i q' b]=if 0<=b then some (.i q (q.wrap (a*2 ^ (min b.toNat q.bits)))) else none:=Eq.trans rfl rfl
theorem pq_shr (q q':IntKind) (a b:Int):pq .shr [.i q a,.i q' b]=if 0<=b then some (.i q (a.fdiv (2 ^ (min b.toNat q.bits)))) else none:=Eq.trans rfl rfl
theorem pq_mn (q:IntKind) (a b:Int):pq .mn [.i q a,.i q b]=some (.i q (if b<a then b else a)):=by simp[pq]
theorem pq_mx (q:IntKind) (a b:Int):pq .mx [.i q a,.i q b]=some (.i q (if a<b then b else a)):=by simp[pq]
theorem pq_rsl (sz n:Nat) (xs:List AV) (q:IntKind) (a:Int):pq (.rsl sz) [.row n xs,.i q a]=if 0<=a/\a<=n then some (.row (n - a.toNat) ((xs.take (n*sz)).drop (a.toNat*sz))) else none:=Eq.trans rfl rfl
theorem zmV (sz:Nat) (q:IntKind) (a:Int):pq (.rsl sz) [.nil,.i q a]=if a=0 then some .nil else none:=Eq.trans rfl rfl
theorem zmW (sz n:Nat) (xs:List AV) (q:IntKind) (a:Int):pq (.rslh sz) [.row n xs,.i q a]=if 0<=a/\a<=n then some (.row a.toNat (xs.take (a.toNat*sz))) else none:=Eq.trans rfl rfl
theorem zjW (sz:Nat) (q:IntKind) (a:Int):pq (.rslh sz) [.nil,.i q a]=if a=0 then some .nil else none:=Eq.trans rfl rfl
theorem zmX (sz n:Nat) (xs:List AV) (q q':IntKind) (a b:Int):pq (.rslb sz) [.row n xs,.i q a,.i q' b]=if 0<=a/\a<=b/\b<=n then some (.row (b.toNat - a.toNat) ((xs.take (b.toNat*sz)).drop (a.toNat*sz))) else none:=Eq.trans rfl rfl
theorem pq_asl (sz len b off:Nat) (q:IntKind) (a:Int):pq (.asl sz len) [.p b off,.i q a]=if 0<=a/\a<len then some (.bsl b (off+a.toNat*sz) (len - a.toNat)) else none:=Eq.trans rfl rfl
theorem zmY (sz len b off:Nat) (q:IntKind) (a:Int):pq (.aslh sz len) [.p b off,.i q a]=if 0<=a/\a<=len/\0<len then some (.bsl b off a.toNat) else none:=Eq.trans rfl rfl
theorem zmZ (sz len b off:Nat) (q q':IntKind) (a c:Int):pq (.aslb sz len) [.p b off,.i q a,.i q' c]=if 0<=a/\a<=c/\c<=len/\a<len then some (.bsl b (off+a.toNat*sz) (c.toNat - a.toNat)) else none:=Eq.trans rfl rfl
theorem pq_snn (ne:Bool):pq (.snil ne) [.nil,.nil]=some (.b (!ne)):=Eq.trans rfl rfl
theorem pq_snz (ne b:Bool):pq (.snil ne) [.zn b,.nil]=some (.b (if ne then !b else b)):=Eq.trans rfl rfl
theorem pq_snr (ne:Bool) (n:Nat) (x:AV) (xs:List AV):pq (.snil ne) [.row n (x::xs),.nil]=some (.b ne):=Eq.trans rfl rfl
theorem pq_sl3 (n:Nat) (xs:List AV) (q q':IntKind):pq .sl3 [.row n xs,.i q n,.i q' n]=some (.crow n xs):=by simp[pq]
theorem zmU (q q':IntKind):pq .sl3 [.nil,.i q 0,.i q' 0]=some (.crow 0 []):=by simp[pq]
theorem pq_lss (l m:List UInt8):pq (.scmp .lss) [.s l,.s m]=some (.b (zgY l m)):=Eq.trans rfl rfl
theorem pq_leq (l m:List UInt8):pq (.scmp .leq) [.s l,.s m]=some (.b (zgY l m||l==m)):=Eq.trans rfl rfl
theorem pq_gtr (l m:List UInt8):pq (.scmp .gtr) [.s l,.s m]=some (.b (!zgY l m&&!(l==m))):=Eq.trans rfl rfl
theorem pq_geq (l m:List UInt8):pq (.scmp .geq) [.s l,.s m]=some (.b (!zgY l m)):=Eq.trans rfl rfl
theorem rn_pu (q:PQ) (xs:List SV):run P C (.ops (⟨d,.pu q xs,none⟩::r)::k) objs tm F=kO P C (pq q (evs tm xs)) d r k objs tm F:=by
 rw[zeT];rw[zbh];simp only[wpS]
 cases pq q (xs.map fun x=>x.ev tm)<;>rfl
def kLk2 (P:Program) [Tabs P] (C:Cx) (c:Option OB) (z:AV) (ok:Bool) (l:List UInt8) (d:Option Nat) (r:List SO) (k:List IT) (objs:List OB) (tm:List AV) (F:zaN):Prop :=
 match c with
 | some (.mp es)=>run P C (.ops r::k) objs (zat tm d (lkA z ok (zlV l es))) F
 | _=>False
def kMup2 (P:Program) [Tabs P] (C:Cx) (c:Option OB) (b:Nat) (l:List UInt8) (v:AV) (d:Option Nat) (r:List SO) (k:List IT) (objs:List OB) (tm:List AV) (F:zaN):Prop :=
 match c with
 | some (.mp es)=>v.one=true/\run P C (.ops r::k) (objs.set b (.mp (zj5 l v es))) (zat tm d .u) F
 | _=>False
theorem kLk2_m (es:List (List UInt8×AV)) (z:AV) (ok:Bool) (l:List UInt8):kLk2 P C (some (.mp es)) z ok l d r k objs tm F=run P C (.ops r::k) objs (zat tm d (lkA z ok (zlV l es))) F:=Eq.trans rfl rfl
theorem znw (es:List (List UInt8×AV)) (b:Nat) (l:List UInt8) (v:AV):kMup2 P C (some (.mp es)) b l v d r k objs tm F=(v.one=true/\run P C (.ops r::k) (objs.set b (.mp (zj5 l v es))) (zat tm d .u) F):=Eq.trans rfl rfl
def kLk (P:Program) [Tabs P] (C:Cx) (x y:AV) (z:AV) (ok:Bool) (d:Option Nat) (r:List SO) (k:List IT) (objs:List OB) (tm:List AV) (F:zaN):Prop :=
 match x,y with
 | .m b,.s l=>kLk2 P C objs[b]? z ok l d r k objs tm F
 | _,_=>False
theorem kLk_0 (b:Nat) (l:List UInt8) (z:AV) (ok:Bool):kLk P C (.m b) (.s l) z ok d r k objs tm F=(kLk2 P C objs[b]? z ok l d r k objs tm F):=Eq.trans rfl rfl
theorem rn_lk (z:AV) (ok:Bool) (x y:SV):run P C (.ops (⟨d,.lk z ok x y,none⟩::r)::k) objs tm F=kLk P C (x.ev tm) (y.ev tm) z ok d r k objs tm F:=by
 rw[zbh];simp only[wpS,kLk]
 cases x.ev tm<;>try rfl
 all_goals try (cases y.ev tm<;>try rfl)
 all_goals (
  dsimp only;rename_i b l;generalize objs[b]? = q
  cases q with
  | none=>rfl
  | some ob=>cases ob<;>rfl)
def kMup (P:Program) [Tabs P] (C:Cx) (x y:AV) (v:AV) (d:Option Nat) (r:List SO) (k:List IT) (objs:List OB) (tm:List AV) (F:zaN):Prop :=
 match x,y with
 | .m b,.s l=>kMup2 P C objs[b]? b l v d r k objs tm F
 | _,_=>False
theorem kMup_0 (b:Nat) (l:List UInt8) (v:AV):kMup P C (.m b) (.s l) v d r k objs tm F=(kMup2 P C objs[b]? b l v d r k objs tm F):=Eq.trans rfl rfl
theorem rn_mup (x y v:SV):run P C (.ops (⟨d,.mup x y v,none⟩::r)::k) objs tm F=kMup P C (x.ev tm) (y.ev tm) (v.ev tm) d r k objs tm F:=by
 rw[zbh];simp only[wpS,kMup]
 cases x.ev tm<;>try rfl
 all_goals try (cases y.ev tm<;>try rfl)
 all_goals (
  dsimp only;rename_i b l;generalize objs[b]? = q
  cases q with
  | none=>rfl
  | some ob=>cases ob<;>rfl)
theorem lkA_tt (z v:AV):lkA z true (some v)=.tup [v,.b true]:=Eq.trans rfl rfl
theorem lkA_tf (z v:AV):lkA z false (some v)=v:=Eq.trans rfl rfl
theorem lkA_nt (z:AV):lkA z true none=.tup [z,.b false]:=Eq.trans rfl rfl
theorem lkA_nf (z:AV):lkA z false none=z:=Eq.trans rfl rfl
theorem zmv :run P C (.ops (⟨d,.mkm0,none⟩::r)::k) objs tm F=run P C (.ops r::k) (objs++[.mp []]) (zat tm d (.m objs.length)) F:=by
 rw[zbh]
 rfl
def kMkm (P:Program) [Tabs P] (C:Cx) (x:AV) (d:Option Nat) (r:List SO) (k:List IT) (objs:List OB) (tm:List AV) (F:zaN):Prop :=
 match x with
 | .i _ _=>run P C (.ops r::k) (objs++[.mp []]) (zat tm d (.m objs.length)) F
 | _=>False
theorem kMkm_i (q:IntKind) (n:Int):kMkm P C (.i q n) d r k objs tm F=run P C (.ops r::k) (objs++[.mp []]) (zat tm d (.m objs.length)) F:=Eq.trans rfl rfl
theorem zmu (x:SV):run P C (.ops (⟨d,.mkm1 x,none⟩::r)::k) objs tm F=kMkm P C (x.ev tm) d r k objs tm F:=by
 rw[zbh];simp only[wpS,kMkm]
 cases x.ev tm<;>rfl
def kG (P:Program) [Tabs P] (C:Cx) (v:AV) (op:SOp) (t:Nat) (w:Bool) (d:Option Nat) (r:List SO) (k:List IT) (objs:List OB) (tm:List AV) (F:zaN):Prop :=
 match v with
 | .b x=>(x=w->run P C (.ops (⟨d,op,none⟩::r)::k) objs (tm.set t (.b w)) F)/\(x=!w->run P C (.ops r::k) objs (zat (tm.set t (.b (!w))) d (.o undef)) F)
 | .o (.tuple _)=>run P C (.ops r::k) objs (zat tm d (.o undef)) F
 | _=>False
def kGD (P:Program) [Tabs P] (C:Cx) (v:AV) (op:SOp) (t:Nat) (w:Bool) (d:Option Nat) (r:List SO) (k:List IT) (objs:List OB) (tm:List AV) (F:zaN):Prop :=
 match v with
 | .b x=>(x=w->run P C (.dops (⟨d,op,none⟩::r)::k) objs (tm.set t (.b w)) F)/\(x=!w->run P C (.dops r::k) objs (zat (tm.set t (.b (!w))) d (.o undef)) F)
 | .o (.tuple _)=>run P C (.dops r::k) objs (zat tm d (.o undef)) F
 | _=>False
theorem kG_tt (op:SOp) (t:Nat):kG P C (.b true) op t true d r k objs tm F=run P C (.ops (⟨d,op,none⟩::r)::k) objs (tm.set t (.b true)) F:=propext ⟨fun h=>h.1 rfl,fun h=>⟨fun _=>h,fun e=>absurd e (by decide)⟩⟩
theorem kG_tf (op:SOp) (t:Nat):kG P C (.b true) op t false d r k objs tm F=run P C (.ops r::k) objs (zat (tm.set t (.b true)) d (.o undef)) F:=propext ⟨fun h=>h.2 rfl,fun h=>⟨fun e=>absurd e (by decide),fun _=>h⟩⟩
theorem kG_ft (op:SOp) (t:Nat):kG P C (.b false) op t true d r k objs tm F=run P C (.ops r::k) objs (zat (tm.set t (.b false)) d (.o undef)) F:=propext ⟨fun h=>h.2 rfl,fun h=>⟨fun e=>absurd e (by decide),fun _=>h⟩⟩
theorem kG_ff (op:SOp) (t:Nat):kG P C (.b false) op t false d r k objs tm F=run P C (.ops (⟨d,op,none⟩::r)::k) objs (tm.set t (.b false)) F:=propext ⟨fun h=>h.1 rfl,fun h=>⟨fun _=>h,fun e=>absurd e (by decide)⟩⟩
theorem kG_u (op:SOp) (t:Nat) (w:Bool):kG P C (.o undef) op t w d r k objs tm F=run P C (.ops r::k) objs (zat tm d (.o undef)) F:=Eq.trans rfl rfl
theorem kG_v (op:SOp) (t:Nat) (w:Bool) (vs:Array Value):kG P C (.o (.tuple vs)) op t w d r k objs tm F=run P C (.ops r::k) objs (zat tm d (.o undef)) F:=Eq.trans rfl rfl
theorem kGD_tt (op:SOp) (t:Nat):kGD P C (.b true) op t true d r k objs tm F=run P C (.dops (⟨d,op,none⟩::r)::k) objs (tm.set t (.b true)) F:=propext ⟨fun h=>h.1 rfl,fun h=>⟨fun _=>h,fun e=>absurd e (by decide)⟩⟩
theorem kGD_tf (op:SOp) (t:Nat):kGD P C (.b true) op t false d r k objs tm F=run P C (.dops r::k) objs (zat (tm.set t (.b true)) d (.o undef)) F:=propext ⟨fun h=>h.2 rfl,fun h=>⟨fun e=>absurd e (by decide),fun _=>h⟩⟩
theorem kGD_ft (op:SOp) (t:Nat):kGD P C (.b false) op t true d r k objs tm F=run P C (.dops r::k) objs (zat (tm.set t (.b false)) d (.o undef)) F:=propext ⟨fun h=>h.2 rfl,fun h=>⟨fun e=>absurd e (by decide),fun _=>h⟩⟩
theorem kGD_ff (op:SOp) (t:Nat):kGD P C (.b false) op t false d r k objs tm F=run P C (.dops (⟨d,op,none⟩::r)::k) objs (tm.set t (.b false)) F:=propext ⟨fun h=>h.1 rfl,fun h=>⟨fun _=>h,fun e=>absurd e (by decide)⟩⟩
theorem kGD_u (op:SOp) (t:Nat) (w:Bool):kGD P C (.o undef) op t w d r k objs tm F=run P C (.dops r::k) objs (zat tm d (.o undef)) F:=Eq.trans rfl rfl
theorem kGD_v (op:SOp) (t:Nat) (w:Bool) (vs:Array Value):kGD P C (.o (.tuple vs)) op t w d r k objs tm F=run P C (.dops r::k) objs (zat tm d (.o undef)) F:=Eq.trans rfl rfl
theorem zjO (op:SOp) (t:Nat) (w:Bool):run P C (.ops (⟨d,op,some (t,w)⟩::r)::k) objs tm F=kG P C ((tm[t]?).getD .u) op t w d r k objs tm F:=by
 show wpR P _ _ _ _=_;simp only[wpR,kG]
 cases (tm[t]?).getD .u<;>try rfl
 try (case o v=>cases v<;>rfl)
theorem zhS (op:SOp) (t:Nat) (w:Bool):run P C (.dops (⟨d,op,some (t,w)⟩::r)::k) objs tm F=kGD P C ((tm[t]?).getD .u) op t w d r k objs tm F:=by
 show wpD P _ _ _ _=_;simp only[wpD,kGD]
 cases (tm[t]?).getD .u<;>try rfl
 try (case o v=>cases v<;>rfl)
def kC (P:Program) [Tabs P] (C:Cx) (v:AV) (x y:SCode) (k:List IT) (objs:List OB) (tm:List AV) (F:zaN):Prop :=
 match v with
 | .b t=>(t=true->run P C (.code x::k) objs tm F)/\(t=false->run P C (.code y::k) objs tm F)
 | _=>False
theorem kC_t (x y:SCode):kC P C (.b true) x y k objs tm F=run P C (.code x::k) objs tm F:=propext ⟨fun h=>h.1 rfl,fun h=>⟨fun _=>h,fun e=>absurd e (by decide)⟩⟩
theorem kC_f (x y:SCode):kC P C (.b false) x y k objs tm F=run P C (.code y::k) objs tm F:=propext ⟨fun h=>h.2 rfl,fun h=>⟨fun e=>absurd e (by decide),fun _=>h⟩⟩
theorem zg6 (c:SV) (x y:SCode):run P C (.code (.cond c x y)::k) objs tm F=kC P C (c.ev tm) x y k objs tm F:=by
 show wpC P C _ _ _ _=_;simp only[wpC,kC]
 cases c.ev tm<;>rfl
def kCall (P:Program) [Tabs P] (C:Cx) (f:Nat) (args:List AV) (d:Option Nat) (r:List SO) (k:List IT) (objs:List OB) (tm:List AV) (F:zaN):Prop:=zad P f args objs fun o v=>run P C (.ops r::k) o (zat tm d v) F
theorem zmG (f:Nat) (args:List SV):run P C (.ops (⟨d,.call f args,none⟩::r)::k) objs tm F=kCall P C f (evs tm args) d r k objs tm F:=by
 show wpR P _ _ _ _=_;simp only[wpR,wpS,kCall,zeT];rfl
theorem zai {f:Nat} {args:List AV} (h:zad P f args objs fun o v=>run P C (.ops r::k) o (zat tm d v) F):kCall P C f args d r k objs tm F:=h
def znJ (P:Program) [Tabs P] (C:Cx) (f:Nat) (args:List AV) (d:Option Nat) (r:List SO) (k:List IT) (objs:List OB) (tm:List AV) (F:zaN):Prop:=∃v,(zad P f args objs fun o x=>o=objs/\x=v)/\run P C (.dops r::k) objs (zat tm d v) F
theorem zjP (f:Nat) (args:List SV):run P C (.dops (⟨d,.call f args,none⟩::r)::k) objs tm F=znJ P C f (evs tm args) d r k objs tm F:=by
 show wpD P _ _ _ _=_;simp only[wpD,wpS,znJ,zeT,SOp.isCall,if_true];rfl
def znu (P:Program) [Tabs P] (C:Cx) (f:Nat) (args:List AV) (d:Option Nat) (r:List SO) (k:List IT) (objs:List OB) (tm:List AV) (F:zaN):Prop:=∃v,(zal args=true/\zad P f args [] fun _ x=>x.plain=true/\objs=objs/\x=v)/\run P C (.dops r::k) objs (zat tm d v) F
theorem zjK (f:Nat) (args:List SV):run P C (.dops (⟨d,.pcall f args,none⟩::r)::k) objs tm F=znu P C f (evs tm args) d r k objs tm F:=by
 show wpD P (⟨d,.pcall f args,none⟩::r) objs tm _=_;simp only[wpD,wpS,znu,zeT,SOp.isCall,if_true];rfl
theorem zka {f:Nat} {args:List AV} {v:AV} (h:zad P f args [] fun _ x=>x=v) (hp:zal args=true) (hv:v.plain=true) (hr:run P C (.dops r::k) objs (zat tm d v) F):znu P C f args d r k objs tm F :=
 ⟨v,⟨hp,h.mono fun _ x e=>by subst e;exact⟨hv,rfl,rfl⟩⟩,hr⟩
theorem za5 {f:Nat} {args:List AV} {v:AV} (h:zad P f args objs fun o x=>o=objs/\x=v) (hr:run P C (.dops r::k) objs (zat tm d v) F):znJ P C f args d r k objs tm F:=⟨v,h,hr⟩
def IsFn (P : Program) (f : Nat) : Prop := ∃ fn, P.funcs[f]? = some fn ∧ fn.body.isSome = true ∧ fn.name ≠ "runtime.NumGoroutine"
def znK (P:Program) [Tabs P] (C:Cx) (x:AV) (args:List AV) (d:Option Nat) (r:List SO) (k:List IT) (objs:List OB) (tm:List AV) (F:zaN):Prop :=
 match x with
 | .fn f fs cs=>IsFn P f/\zad P f (fs++args++cs) objs fun o v=>run P C (.ops r::k) o (zat tm d v) F
 | _=>False
theorem zjQ (x:SV) (args:List SV):run P C (.ops (⟨d,.callv x args,none⟩::r)::k) objs tm F=znK P C (x.ev tm) (evs tm args) d r k objs tm F:=by
 show wpR P _ _ _ _=_;simp only[wpR,wpS,znK,zeT]
 cases x.ev tm<;>rfl
theorem zd8 {f:Nat} {fs cs args:List AV} (hf:IsFn P f) (h:zad P f (fs++args++cs) objs fun o v=>run P C (.ops r::k) o (zat tm d v) F):znK P C (.fn f fs cs) args d r k objs tm F:=⟨hf,h⟩
theorem drn_mv (x:SV):run P C (.dops (⟨d,.mv x,none⟩::r)::k) objs tm F=run P C (.ops [⟨d,.mv x,none⟩]::.dops r::k) objs tm F:=Eq.trans rfl rfl
theorem zkG (c x y:SV):run P C (.dops (⟨d,.pick c x y,none⟩::r)::k) objs tm F=run P C (.ops [⟨d,.pick c x y,none⟩]::.dops r::k) objs tm F:=Eq.trans rfl rfl
theorem zis (z:List AV) (ps:List (Nat×Nat×SV)):run P C (.dops (⟨d,.build z ps,none⟩::r)::k) objs tm F=run P C (.ops [⟨d,.build z ps,none⟩]::.dops r::k) objs tm F:=Eq.trans rfl rfl
theorem zgC (n:Nat) (z:List AV) (ps:List (Nat×Nat×SV)):run P C (.dops (⟨d,.bslice n z ps,none⟩::r)::k) objs tm F=run P C (.ops [⟨d,.bslice n z ps,none⟩]::.dops r::k) objs tm F:=Eq.trans rfl rfl
theorem zir (x:SV):run P C (.dops (⟨d,.load1 x,none⟩::r)::k) objs tm F=run P C (.ops [⟨d,.load1 x,none⟩]::.dops r::k) objs tm F:=Eq.trans rfl rfl
theorem ziq (sz:Nat) (x:SV):run P C (.dops (⟨d,.loadn sz x,none⟩::r)::k) objs tm F=run P C (.ops [⟨d,.loadn sz x,none⟩]::.dops r::k) objs tm F:=Eq.trans rfl rfl
theorem zon (x:SV):run P C (.dops (⟨d,.nck x,none⟩::r)::k) objs tm F=run P C (.ops [⟨d,.nck x,none⟩]::.dops r::k) objs tm F:=Eq.trans rfl rfl
theorem zoA (q:BinOp) (x y:SV):run P C (.dops (⟨d,.bin q x y,none⟩::r)::k) objs tm F=run P C (.ops [⟨d,.bin q x y,none⟩]::.dops r::k) objs tm F:=Eq.trans rfl rfl
theorem zoB (ne:Bool) (x y:SV):run P C (.dops (⟨d,.beq ne x y,none⟩::r)::k) objs tm F=run P C (.ops [⟨d,.beq ne x y,none⟩]::.dops r::k) objs tm F:=Eq.trans rfl rfl
theorem zow (ne:Bool) (e:ET) (x y:SV):run P C (.dops (⟨d,.eqs ne e x y,none⟩::r)::k) objs tm F=run P C (.ops [⟨d,.eqs ne e x y,none⟩]::.dops r::k) objs tm F:=Eq.trans rfl rfl
theorem zol (x:SV):run P C (.dops (⟨d,.not x,none⟩::r)::k) objs tm F=run P C (.ops [⟨d,.not x,none⟩]::.dops r::k) objs tm F:=Eq.trans rfl rfl
theorem zom (x:SV):run P C (.dops (⟨d,.neg x,none⟩::r)::k) objs tm F=run P C (.ops [⟨d,.neg x,none⟩]::.dops r::k) objs tm F:=Eq.trans rfl rfl
theorem zkM (sz len:Nat) (x y:SV):run P C (.dops (⟨d,.iada sz len x y,none⟩::r)::k) objs tm F=run P C (.ops [⟨d,.iada sz len x y,none⟩]::.dops r::k) objs tm F:=Eq.trans rfl rfl
theorem zoy (q:IntKind) (x:SV):run P C (.dops (⟨d,.cvi q x,none⟩::r)::k) objs tm F=run P C (.ops [⟨d,.cvi q x,none⟩]::.dops r::k) objs tm F:=Eq.trans rfl rfl
theorem zox (x:SV):run P C (.dops (⟨d,.cvs x,none⟩::r)::k) objs tm F=run P C (.ops [⟨d,.cvs x,none⟩]::.dops r::k) objs tm F:=Eq.trans rfl rfl
theorem zkP (x:SV):run P C (.dops (⟨d,.cvbs x,none⟩::r)::k) objs tm F=run P C (.ops [⟨d,.cvbs x,none⟩]::.dops r::k) objs tm F:=Eq.trans rfl rfl
theorem zkF (x:SV) (lo hi:Option SV):run P C (.dops (⟨d,.slcs x lo hi,none⟩::r)::k) objs tm F=run P C (.ops [⟨d,.slcs x lo hi,none⟩]::.dops r::k) objs tm F:=Eq.trans rfl rfl
theorem zou (off:Nat) (x:SV):run P C (.dops (⟨d,.fad off x,none⟩::r)::k) objs tm F=run P C (.ops [⟨d,.fad off x,none⟩]::.dops r::k) objs tm F:=Eq.trans rfl rfl
theorem zkO (off:Nat) (x:SV):run P C (.dops (⟨d,.fld1 off x,none⟩::r)::k) objs tm F=run P C (.ops [⟨d,.fld1 off x,none⟩]::.dops r::k) objs tm F:=Eq.trans rfl rfl
theorem zkN (off sz:Nat) (x:SV):run P C (.dops (⟨d,.fldn off sz x,none⟩::r)::k) objs tm F=run P C (.ops [⟨d,.fldn off sz x,none⟩]::.dops r::k) objs tm F:=Eq.trans rfl rfl
theorem zot (sz:Nat) (x y:SV):run P C (.dops (⟨d,.iad sz x y,none⟩::r)::k) objs tm F=run P C (.ops [⟨d,.iad sz x y,none⟩]::.dops r::k) objs tm F:=Eq.trans rfl rfl
theorem zos (x y:SV):run P C (.dops (⟨d,.idx x y,none⟩::r)::k) objs tm F=run P C (.ops [⟨d,.idx x y,none⟩]::.dops r::k) objs tm F:=Eq.trans rfl rfl
theorem zov (x:SV) (j:Nat):run P C (.dops (⟨d,.ext x j,none⟩::r)::k) objs tm F=run P C (.ops [⟨d,.ext x j,none⟩]::.dops r::k) objs tm F:=Eq.trans rfl rfl
theorem zkJ (x:SV):run P C (.dops (⟨d,.lens x,none⟩::r)::k) objs tm F=run P C (.ops [⟨d,.lens x,none⟩]::.dops r::k) objs tm F:=Eq.trans rfl rfl
theorem zkK (x:SV):run P C (.dops (⟨d,.lenr x,none⟩::r)::k) objs tm F=run P C (.ops [⟨d,.lenr x,none⟩]::.dops r::k) objs tm F:=Eq.trans rfl rfl
theorem zor (f:Nat) (fs cs:List SV):run P C (.dops (⟨d,.mkf f fs cs,none⟩::r)::k) objs tm F=run P C (.ops [⟨d,.mkf f fs cs,none⟩]::.dops r::k) objs tm F:=Eq.trans rfl rfl
theorem zkR (E sz n:Nat) (z:List AV) (ps:List (Nat×Nat×SV)):run P C (.dops (⟨d,.bslo E sz n z ps,none⟩::r)::k) objs tm F=run P C (.ops [⟨d,.bslo E sz n z ps,none⟩]::.dops r::k) objs tm F:=Eq.trans rfl rfl
theorem zit (T:Nat) (z:List AV):run P C (.dops (⟨d,.alloc T z,none⟩::r)::k) objs tm F=run P C (.ops [⟨d,.alloc T z,none⟩]::.dops r::k) objs tm F:=Eq.trans rfl rfl
theorem zoz (T:Nat) (x:SV):run P C (.dops (⟨d,.box T x,none⟩::r)::k) objs tm F=run P C (.ops [⟨d,.box T x,none⟩]::.dops r::k) objs tm F:=Eq.trans rfl rfl
theorem zip (sz:Nat) (x y:SV):run P C (.dops (⟨d,.store sz x y,none⟩::r)::k) objs tm F=run P C (.ops [⟨d,.store sz x y,none⟩]::.dops r::k) objs tm F:=Eq.trans rfl rfl
theorem zoC (E sz by':Nat) (x y:SV):run P C (.dops (⟨d,.app E sz by' x y,none⟩::r)::k) objs tm F=run P C (.ops [⟨d,.app E sz by' x y,none⟩]::.dops r::k) objs tm F:=Eq.trans rfl rfl
theorem zkS (E:Nat) (x y:SV):run P C (.dops (⟨d,.apps E x y,none⟩::r)::k) objs tm F=run P C (.ops [⟨d,.apps E x y,none⟩]::.dops r::k) objs tm F:=Eq.trans rfl rfl
theorem zoq (E sz by':Nat) (x y:SV):run P C (.dops (⟨d,.mks E sz by' x y,none⟩::r)::k) objs tm F=run P C (.ops [⟨d,.mks E sz by' x y,none⟩]::.dops r::k) objs tm F:=Eq.trans rfl rfl
theorem zop (E by':Nat) (kd:IntKind) (z:Int) (x:SV):run P C (.dops (⟨d,.mkz E by' kd z x,none⟩::r)::k) objs tm F=run P C (.ops [⟨d,.mkz E by' kd z x,none⟩]::.dops r::k) objs tm F:=Eq.trans rfl rfl
theorem zkQ (sz by':Nat) (x y:SV):run P C (.dops (⟨d,.capp sz by' x y,none⟩::r)::k) objs tm F=run P C (.ops [⟨d,.capp sz by' x y,none⟩]::.dops r::k) objs tm F:=Eq.trans rfl rfl
theorem drn_pu (q:PQ) (xs:List SV):run P C (.dops (⟨d,.pu q xs,none⟩::r)::k) objs tm F=run P C (.ops [⟨d,.pu q xs,none⟩]::.dops r::k) objs tm F:=Eq.trans rfl rfl
theorem zok (sz:Nat) (x y:SV):run P C (.dops (⟨d,.trn sz x y,none⟩::r)::k) objs tm F=run P C (.ops [⟨d,.trn sz x y,none⟩]::.dops r::k) objs tm F:=Eq.trans rfl rfl
theorem zkL (sz:Nat) (x y:SV):run P C (.dops (⟨d,.iadr sz x y,none⟩::r)::k) objs tm F=run P C (.ops [⟨d,.iadr sz x y,none⟩]::.dops r::k) objs tm F:=Eq.trans rfl rfl
theorem zkI :run P C (.dops (⟨d,.mkm0,none⟩::r)::k) objs tm F=run P C (.ops [⟨d,.mkm0,none⟩]::.dops r::k) objs tm F:=Eq.trans rfl rfl
theorem zkH (x:SV):run P C (.dops (⟨d,.mkm1 x,none⟩::r)::k) objs tm F=run P C (.ops [⟨d,.mkm1 x,none⟩]::.dops r::k) objs tm F:=Eq.trans rfl rfl
theorem drn_lk (z:AV) (ok:Bool) (x y:SV):run P C (.dops (⟨d,.lk z ok x y,none⟩::r)::k) objs tm F=run P C (.ops [⟨d,.lk z ok x y,none⟩]::.dops r::k) objs tm F:=Eq.trans rfl rfl
theorem zoo (x y v:SV):run P C (.dops (⟨d,.mup x y v,none⟩::r)::k) objs tm F=run P C (.ops [⟨d,.mup x y v,none⟩]::.dops r::k) objs tm F:=Eq.trans rfl rfl
theorem zaL {f:FuncId} {n:Nat} {ss:List SRes} {sc:SCode} (hf:FnIs P f n ss sc) {args:List AV} {objs:List OB} {K:List OB->AV->Prop} (hp:zal args=true)
  (h:∀(C:Cx) [On P C],run P C [.code sc] [] (args++qo (n - args.length) (.o undef)) (endK ss fun r=>K objs r)):zad P f args objs K :=
 fn_ok hf hp h
theorem zcN {f:FuncId} {n:Nat} {ss:List SRes} {sc:SCode} (hf:FnIs P f n ss sc) {args:List AV} {objs:List OB} {K:List OB->AV->Prop}
  (h:∀(C:Cx) [On P C],run P C [.code sc] objs (args++qo (n - args.length) (.o undef)) (endI ss K)):zad P f args objs K :=
 fn_in hf h
theorem endI_n (ss:List SRes) (K:List OB->AV->Prop):endI ss K .normal objs tm=outI ss K objs tm:=Eq.trans rfl rfl
theorem endI_r (ss:List SRes) (K:List OB->AV->Prop):endI ss K .ret objs tm=outI ss K objs tm:=Eq.trans rfl rfl
def outJ (K:List OB->AV->Prop) (objs:List OB):Option (List AV)->Prop
 | some xs=>K objs (zlg xs)
 | none=>False
theorem outJ_s (K:List OB->AV->Prop) (xs:List AV):outJ K objs (some xs)=K objs (zlg xs):=Eq.trans rfl rfl
theorem zm6 (ss:List SRes) (K:List OB->AV->Prop):outI ss K objs tm=outJ K objs (zdK objs tm ss):=by
 unfold outI
 cases zdK objs tm ss<;>rfl
theorem endK_n (ss:List SRes) (K:AV->Prop):endK ss K .normal objs tm=outK ss K objs tm:=Eq.trans rfl rfl
theorem endK_r (ss:List SRes) (K:AV->Prop):endK ss K .ret objs tm=outK ss K objs tm:=Eq.trans rfl rfl
def outO (K:AV->Prop):Option AV->Prop
 | some r=>K r
 | none=>False
theorem outO_s (K:AV->Prop) (r:AV):outO K (some r)=K r:=Eq.trans rfl rfl
theorem zm5 (ss:List SRes) (K:AV->Prop):outK ss K objs tm=outO K ((zdK objs tm ss).bind fun xs=>pub objs 5 (zlg xs)):=by
 unfold outK
 cases (zdK objs tm ss).bind (fun xs=>pub objs 5 (zlg xs))<;>rfl
end
theorem sxA:type_of% (And.intro @rn_nil (And.intro @rn_seq (And.intro @zms (And.intro @rn_reg (And.intro @rn_drw (And.intro @rn_crs (And.intro @rst_n (And.intro @rst_c (And.intro @rcr_n (And.intro @rcr_c (And.intro @rn_crg (And.intro @zaO (And.intro @zjN (And.intro @zgk (And.intro @zfx (And.intro @rn_ret (And.intro @zmC (And.intro @zlY (And.intro @zjx (And.intro @zlX (And.intro @zjw (And.intro @zlZ (And.intro @xit_ap (And.intro @rn_ap (And.intro @apOk_n (And.intro @apOk_c (And.intro @zo1 (And.intro @zeQ (And.intro @zgt (And.intro @zic (And.intro @znv (And.intro @zoT (And.intro @endK_n (And.intro @endK_r (And.intro @outO_s (And.intro @zm5 (And.intro @endI_n (And.intro @endI_r (And.intro @outJ_s (And.intro @zm6 (And.intro @rn_mv (And.intro @zns (And.intro @znt (And.intro @zmt (And.intro @zjS (@rn_box)))))))))))))))))))))))))))))))))))))))))))))):=And.intro @rn_nil (And.intro @rn_seq (And.intro @zms (And.intro @rn_reg (And.intro @rn_drw (And.intro @rn_crs (And.intro @rst_n (And.intro @rst_c (And.intro @rcr_n (And.intro @rcr_c (And.intro @rn_crg (And.intro @zaO (And.intro @zjN (And.intro @zgk (And.intro @zfx (And.intro @rn_ret (And.intro @zmC (And.intro @zlY (And.intro @zjx (And.intro @zlX (And.intro @zjw (And.intro @zlZ (And.intro @xit_ap (And.intro @rn_ap (And.intro @apOk_n (And.intro @apOk_c (And.intro @zo1 (And.intro @zeQ (And.intro @zgt (And.intro @zic (And.intro @znv (And.intro @zoT (And.intro @endK_n (And.intro @endK_r (And.intro @outO_s (And.intro @zm5 (And.intro @endI_n (And.intro @endI_r (And.intro @outJ_s (And.intro @zm6 (And.intro @rn_mv (And.intro @zns (And.intro @znt (And.intro @zmt (And.intro @zjS (@rn_box)))))))))))))))))))))))))))))))))))))))))))))
theorem sxB:type_of% (And.intro @kLit_s (And.intro @zmH (And.intro @zjR (And.intro @zhT (And.intro @kLd1_p (And.intro @kLd1_r (And.intro @zjM (And.intro @kLdn_s (And.intro @kLdv_p (And.intro @kLdv_r (And.intro @zjL (And.intro @kSt2_b (And.intro @kSt_p (And.intro @zjJ (And.intro @kNck_0 (And.intro @kNck_1 (And.intro @kNck_2 (And.intro @rn_nck (And.intro @kNot_0 (And.intro @rn_not (And.intro @znO (And.intro @kAr_i8 (And.intro @znQ (And.intro @znP (And.intro @kAr_u8 (And.intro @znN (And.intro @znM (And.intro @znL (And.intro @kNeg_0 (And.intro @rn_neg (And.intro @kCvi_0 (And.intro @rn_cvi (And.intro @kCvs_0 (And.intro @rn_cvs (And.intro @znx (And.intro @zmw (And.intro @znH (And.intro @zmA (And.intro @kFad_0 (And.intro @kFad_1 (And.intro @rn_fad (@znI)))))))))))))))))))))))))))))))))))))))))):=And.intro @kLit_s (And.intro @zmH (And.intro @zjR (And.intro @zhT (And.intro @kLd1_p (And.intro @kLd1_r (And.intro @zjM (And.intro @kLdn_s (And.intro @kLdv_p (And.intro @kLdv_r (And.intro @zjL (And.intro @kSt2_b (And.intro @kSt_p (And.intro @zjJ (And.intro @kNck_0 (And.intro @kNck_1 (And.intro @kNck_2 (And.intro @rn_nck (And.intro @kNot_0 (And.intro @rn_not (And.intro @znO (And.intro @kAr_i8 (And.intro @znQ (And.intro @znP (And.intro @kAr_u8 (And.intro @znN (And.intro @znM (And.intro @znL (And.intro @kNeg_0 (And.intro @rn_neg (And.intro @kCvi_0 (And.intro @rn_cvi (And.intro @kCvs_0 (And.intro @rn_cvs (And.intro @znx (And.intro @zmw (And.intro @znH (And.intro @zmA (And.intro @kFad_0 (And.intro @kFad_1 (And.intro @rn_fad (@znI)))))))))))))))))))))))))))))))))))))))))
theorem sxC:type_of% (And.intro @zmB (And.intro @kExt_0 (And.intro @rn_ext (And.intro @kLr2_o (And.intro @znB (And.intro @znA (And.intro @znz (And.intro @zmx (And.intro @zig (And.intro @zkb (And.intro @zgv (And.intro @zif (And.intro @kEqs_a (And.intro @rn_beq (And.intro @rn_eqs (And.intro @kIad_0 (And.intro @rn_iad (And.intro @znG (And.intro @zmz (And.intro @kIdx_0 (And.intro @rn_idx (And.intro @kMks_0 (And.intro @rn_mks (And.intro @rn_bin (And.intro @zkp (And.intro @zkc (And.intro @zki (And.intro @zkg (And.intro @zkf (And.intro @zkn (And.intro @zkh (And.intro @zkj (And.intro @zkk (And.intro @zkl (And.intro @zkm (And.intro @zko (And.intro @zke (And.intro @zkd (And.intro @svi_i (@zhH)))))))))))))))))))))))))))))))))))))))):=And.intro @zmB (And.intro @kExt_0 (And.intro @rn_ext (And.intro @kLr2_o (And.intro @znB (And.intro @znA (And.intro @znz (And.intro @zmx (And.intro @zig (And.intro @zkb (And.intro @zgv (And.intro @zif (And.intro @kEqs_a (And.intro @rn_beq (And.intro @rn_eqs (And.intro @kIad_0 (And.intro @rn_iad (And.intro @znG (And.intro @zmz (And.intro @kIdx_0 (And.intro @rn_idx (And.intro @kMks_0 (And.intro @rn_mks (And.intro @rn_bin (And.intro @zkp (And.intro @zkc (And.intro @zki (And.intro @zkg (And.intro @zkf (And.intro @zkn (And.intro @zkh (And.intro @zkj (And.intro @zkk (And.intro @zkl (And.intro @zkm (And.intro @zko (And.intro @zke (And.intro @zkd (And.intro @svi_i (@zhH)))))))))))))))))))))))))))))))))))))))
theorem sxD:type_of% (And.intro @zhG (And.intro @kSl2_s (And.intro @kSl_s (And.intro @zmr (And.intro @kAp_s (And.intro @kAp2_o (And.intro @kAp2_n (And.intro @kAp3_o (And.intro @kAs_o (And.intro @kAs_n (And.intro @kAs2_o (And.intro @rn_app (And.intro @zmI (And.intro @kCb_o (And.intro @kCb_n (And.intro @zmE (And.intro @rn_mkf (And.intro @kG_tt (And.intro @kG_tf (And.intro @kG_ft (And.intro @kG_ff (And.intro @kG_u (And.intro @kG_v (And.intro @kGD_tt (And.intro @kGD_tf (And.intro @kGD_ft (And.intro @kGD_ff (And.intro @kGD_u (And.intro @kGD_v (And.intro @zjO (And.intro @zhS (And.intro @kC_t (And.intro @kC_f (And.intro @zg6 (And.intro @zmG (And.intro @zjP (And.intro @zjQ (And.intro @drn_mv (And.intro @zkG (@zis)))))))))))))))))))))))))))))))))))))))):=And.intro @zhG (And.intro @kSl2_s (And.intro @kSl_s (And.intro @zmr (And.intro @kAp_s (And.intro @kAp2_o (And.intro @kAp2_n (And.intro @kAp3_o (And.intro @kAs_o (And.intro @kAs_n (And.intro @kAs2_o (And.intro @rn_app (And.intro @zmI (And.intro @kCb_o (And.intro @kCb_n (And.intro @zmE (And.intro @rn_mkf (And.intro @kG_tt (And.intro @kG_tf (And.intro @kG_ft (And.intro @kG_ff (And.intro @kG_u (And.intro @kG_v (And.intro @kGD_tt (And.intro @kGD_tf (And.intro @kGD_ft (And.intro @kGD_ff (And.intro @kGD_u (And.intro @kGD_v (And.intro @zjO (And.intro @zhS (And.intro @kC_t (And.intro @kC_f (And.intro @zg6 (And.intro @zmG (And.intro @zjP (And.intro @zjQ (And.intro @drn_mv (And.intro @zkG (@zis)))))))))))))))))))))))))))))))))))))))
theorem sxE:type_of% (And.intro @zkR (And.intro @zgC (And.intro @zir (And.intro @ziq (And.intro @zon (And.intro @zoA (And.intro @zoB (And.intro @zow (And.intro @zol (And.intro @zom (And.intro @zkM (And.intro @zoy (And.intro @zox (And.intro @zkP (And.intro @zkF (And.intro @zou (And.intro @zkO (And.intro @zkN (And.intro @zot (And.intro @zos (And.intro @zov (And.intro @zkJ (And.intro @zkK (And.intro @zor (And.intro @zit (And.intro @zoz (And.intro @zip (And.intro @zoC (And.intro @zkS (@zoq)))))))))))))))))))))))))))))):=And.intro @zkR (And.intro @zgC (And.intro @zir (And.intro @ziq (And.intro @zon (And.intro @zoA (And.intro @zoB (And.intro @zow (And.intro @zol (And.intro @zom (And.intro @zkM (And.intro @zoy (And.intro @zox (And.intro @zkP (And.intro @zkF (And.intro @zou (And.intro @zkO (And.intro @zkN (And.intro @zot (And.intro @zos (And.intro @zov (And.intro @zkJ (And.intro @zkK (And.intro @zor (And.intro @zit (And.intro @zoz (And.intro @zip (And.intro @zoC (And.intro @zkS (@zoq)))))))))))))))))))))))))))))
theorem sxF:type_of% (And.intro @kO_if (And.intro @pq_and (And.intro @pq_or (And.intro @pq_xor (And.intro @pq_shl (And.intro @pq_shr (And.intro @pq_mn (And.intro @pq_mx (And.intro @pq_rsl (And.intro @zmV (And.intro @zmW (And.intro @zjW (And.intro @zmX (And.intro @pq_asl (And.intro @kCb_b (And.intro @pq_lss (And.intro @pq_leq (And.intro @pq_gtr (And.intro @pq_geq (And.intro @rn_pu (@drn_pu))))))))))))))))))))):=And.intro @kO_if (And.intro @pq_and (And.intro @pq_or (And.intro @pq_xor (And.intro @pq_shl (And.intro @pq_shr (And.intro @pq_mn (And.intro @pq_mx (And.intro @pq_rsl (And.intro @zmV (And.intro @zmW (And.intro @zjW (And.intro @zmX (And.intro @pq_asl (And.intro @kCb_b (And.intro @pq_lss (And.intro @pq_leq (And.intro @pq_gtr (And.intro @pq_geq (And.intro @rn_pu (@drn_pu))))))))))))))))))))
theorem sxM:type_of% (And.intro @zmD (And.intro @kLd1_o (And.intro @znD (And.intro @kLdv_o (And.intro @znC (And.intro @kSt_o (And.intro @kSt3_o (And.intro @kNck_3 (And.intro @kFad_2 (And.intro @kIad_1 (And.intro @znF (And.intro @znr (And.intro @kTrn_0 (And.intro @kTrn_1 (And.intro @kTrn_2 (And.intro @rn_trn (And.intro @zok (And.intro @zmY (And.intro @zmZ (And.intro @pq_snn (And.intro @pq_snz (And.intro @pq_snr (And.intro @zny (And.intro @znE (And.intro @zmy (And.intro @zkL (@zo0))))))))))))))))))))))))))):=And.intro @zmD (And.intro @kLd1_o (And.intro @znD (And.intro @kLdv_o (And.intro @znC (And.intro @kSt_o (And.intro @kSt3_o (And.intro @kNck_3 (And.intro @kFad_2 (And.intro @kIad_1 (And.intro @znF (And.intro @znr (And.intro @kTrn_0 (And.intro @kTrn_1 (And.intro @kTrn_2 (And.intro @rn_trn (And.intro @zok (And.intro @zmY (And.intro @zmZ (And.intro @pq_snn (And.intro @pq_snz (And.intro @pq_snr (And.intro @zny (And.intro @znE (And.intro @zmy (And.intro @zkL (@zo0))))))))))))))))))))))))))
theorem sxN:type_of% (And.intro @apG_n (And.intro @apG_s (And.intro @apB_tt (And.intro @apB_ff (And.intro @apB_tf (And.intro @apB_ft (And.intro @rn_mkz (And.intro @kMkz_i (And.intro @zop (And.intro @zmv (And.intro @zmu (And.intro @kMkm_i (And.intro @rn_lk (And.intro @kLk_0 (And.intro @kLk2_m (And.intro @rn_mup (And.intro @kMup_0 (And.intro @znw (And.intro @zkI (And.intro @zkH (And.intro @drn_lk (And.intro @zoo (And.intro @lkA_tt (And.intro @lkA_tf (And.intro @lkA_nt (And.intro @lkA_nf (And.intro @apS_o (And.intro @apS_p (And.intro @zk2 (And.intro @zk1 (And.intro @zk0 (And.intro @zkZ (And.intro @pq_sl3 (And.intro @zmU (And.intro @zmF (And.intro @kCap_c (And.intro @zkQ (And.intro @rn_cra (And.intro @rsb_n (And.intro @rsb_c (And.intro @hsV_n (@hsV_c)))))))))))))))))))))))))))))))))))))))))):=And.intro @apG_n (And.intro @apG_s (And.intro @apB_tt (And.intro @apB_ff (And.intro @apB_tf (And.intro @apB_ft (And.intro @rn_mkz (And.intro @kMkz_i (And.intro @zop (And.intro @zmv (And.intro @zmu (And.intro @kMkm_i (And.intro @rn_lk (And.intro @kLk_0 (And.intro @kLk2_m (And.intro @rn_mup (And.intro @kMup_0 (And.intro @znw (And.intro @zkI (And.intro @zkH (And.intro @drn_lk (And.intro @zoo (And.intro @lkA_tt (And.intro @lkA_tf (And.intro @lkA_nt (And.intro @lkA_nf (And.intro @apS_o (And.intro @apS_p (And.intro @zk2 (And.intro @zk1 (And.intro @zk0 (And.intro @zkZ (And.intro @pq_sl3 (And.intro @zmU (And.intro @zmF (And.intro @kCap_c (And.intro @zkQ (And.intro @rn_cra (And.intro @rsb_n (And.intro @rsb_c (And.intro @hsV_n (@hsV_c)))))))))))))))))))))))))))))))))))))))))
theorem sxL:type_of% (And.intro @List.length_cons.{0} (And.intro @List.length_nil.{0} (And.intro @List.length_append.{0} (And.intro @List.length_replicate.{0} (And.intro @List.length_set.{0} (And.intro @List.cons_append.{0} (And.intro @List.nil_append.{0} (And.intro @List.append_nil.{0} (And.intro @List.getElem?_cons_zero.{0} (And.intro @List.getElem?_cons_succ.{0} (And.intro @List.getElem?_nil.{0} (And.intro @Option.getD_some.{0} (And.intro @Option.getD_none.{0} (And.intro @List.set_cons_zero.{0} (And.intro @List.set_cons_succ.{0} (And.intro @List.set_nil.{0} (And.intro @List.map_cons.{0,0} (And.intro @List.map_nil.{0,0} (And.intro @List.take_succ_cons.{0} (And.intro @List.take_zero.{0} (And.intro @List.drop_succ_cons.{0} (And.intro @List.drop_zero.{0} (And.intro @List.take_nil.{0} (And.intro @List.drop_nil.{0} (And.intro @List.take_length.{0} (And.intro @Int.toNat_natCast (And.intro @Int.toNat_natCast_add_one (And.intro @Bool.not_true (And.intro @Bool.not_false (And.intro @Bool.and_true (And.intro @Bool.true_and (And.intro @Bool.and_false (And.intro @Bool.false_and (And.intro @true_and (And.intro @and_true (And.intro @true_implies (And.intro @false_implies (And.intro @Option.bind_some.{0,0} (And.intro @Option.map_some.{0,0} (And.intro @Bool.false_eq_true (And.intro @Bool.true_eq_false (And.intro @decide_true (And.intro @decide_false (And.intro @not_true_eq_false (And.intro @not_false_eq_true (@beq_self_eq_true.{0})))))))))))))))))))))))))))))))))))))))))))))):=And.intro @List.length_cons.{0} (And.intro @List.length_nil.{0} (And.intro @List.length_append.{0} (And.intro @List.length_replicate.{0} (And.intro @List.length_set.{0} (And.intro @List.cons_append.{0} (And.intro @List.nil_append.{0} (And.intro @List.append_nil.{0} (And.intro @List.getElem?_cons_zero.{0} (And.intro @List.getElem?_cons_succ.{0} (And.intro @List.getElem?_nil.{0} (And.intro @Option.getD_some.{0} (And.intro @Option.getD_none.{0} (And.intro @List.set_cons_zero.{0} (And.intro @List.set_cons_succ.{0} (And.intro @List.set_nil.{0} (And.intro @List.map_cons.{0,0} (And.intro @List.map_nil.{0,0} (And.intro @List.take_succ_cons.{0} (And.intro @List.take_zero.{0} (And.intro @List.drop_succ_cons.{0} (And.intro @List.drop_zero.{0} (And.intro @List.take_nil.{0} (And.intro @List.drop_nil.{0} (And.intro @List.take_length.{0} (And.intro @Int.toNat_natCast (And.intro @Int.toNat_natCast_add_one (And.intro @Bool.not_true (And.intro @Bool.not_false (And.intro @Bool.and_true (And.intro @Bool.true_and (And.intro @Bool.and_false (And.intro @Bool.false_and (And.intro @true_and (And.intro @and_true (And.intro @true_implies (And.intro @false_implies (And.intro @Option.bind_some.{0,0} (And.intro @Option.map_some.{0,0} (And.intro @Bool.false_eq_true (And.intro @Bool.true_eq_false (And.intro @decide_true (And.intro @decide_false (And.intro @not_true_eq_false (And.intro @not_false_eq_true (@beq_self_eq_true.{0})))))))))))))))))))))))))))))))))))))))))))))
theorem sxZ:type_of% (And.intro @zjK (And.intro sxA (And.intro sxB (And.intro sxC (And.intro sxD (And.intro sxE (And.intro sxF (And.intro sxM (And.intro sxN (And.intro sxL (And.intro @forall_const.{1} (And.intro @implies_true.{1} (And.intro @implies_true.{0} (And.intro @if_true.{1} (And.intro @if_false.{1} (And.intro @ite_true.{1} (And.intro @ite_false.{1} (And.intro @exists_eq_left'.{1} (And.intro @exists_eq'.{1} (And.intro @ne_eq.{1} (And.intro @evs.eq_1 (And.intro @evs.eq_2 (And.intro @evp.eq_1 (And.intro @evp.eq_2 (And.intro @zat.eq_1 (And.intro @zat.eq_2 (And.intro @SV.ev.eq_1 (And.intro @SV.ev.eq_2 (And.intro @AV.flat.eq_1 (And.intro @AV.flat.eq_2 (And.intro @AV.one.eq_1 (And.intro @AV.one.eq_2 (And.intro @AV.one.eq_3 (And.intro @AV.one.eq_4 (And.intro @AV.one.eq_5 (And.intro @AV.cells.eq_1 (And.intro @AV.cells.eq_2 (And.intro @zdK.eq_1 (And.intro @zdK.eq_2 (And.intro @zmL.eq_1 (And.intro @zmL.eq_2 (And.intro @zmL.eq_3 (And.intro @zlg.eq_1 (And.intro @zlg.eq_2 (And.intro @pub.eq_1 (And.intro @pub.eq_2 (And.intro @pub.eq_3 (And.intro @pub.eq_4 (And.intro @pub.eq_5 (And.intro @ze0.eq_1 (And.intro @ze0.eq_2 (And.intro @AV.plain.eq_1 (And.intro @AV.plain.eq_2 (And.intro @AV.plain.eq_3 (And.intro @AV.plain.eq_4 (And.intro @AV.plain.eq_5 (And.intro @AV.plain.eq_6 (And.intro @AV.plain.eq_7 (And.intro @AV.plain.eq_8 (And.intro @AV.plain.eq_9 (And.intro @AV.plain.eq_10 (And.intro @AV.plain.eq_11 (And.intro @AV.plain.eq_12 (And.intro @zal.eq_1 (And.intro @zal.eq_2 (And.intro @zcU.eq_1 (And.intro @zcU.eq_2 (And.intro @zcU.eq_3 (And.intro @zcU.eq_4 (And.intro @zaU.eq_1 (And.intro @zcO.eq_1 (And.intro @zcO.eq_2 (And.intro @eqA.eq_1 (And.intro @eqA.eq_2 (And.intro @eqA.eq_3 (And.intro @eqA.eq_4 (And.intro @eqA.eq_5 (And.intro @zkD.eq_1 (And.intro @zkD.eq_2 (And.intro @zkD.eq_3 (And.intro @List.replicate.eq_1.{0} (@List.replicate.eq_2.{0})))))))))))))))))))))))))))))))))))))))))))))))))))))))))))))))))))))))))))))))))):=And.intro @zjK (And.intro sxA (And.intro sxB (And.intro sxC (And.intro sxD (And.intro sxE (And.intro sxF (And.intro sxM (And.intro sxN (And.intro sxL (And.intro @forall_const.{1} (And.intro @implies_true.{1} (And.intro @implies_true.{0} (And.intro @if_true.{1} (And.intro @if_false.{1} (And.intro @ite_true.{1} (And.intro @ite_false.{1} (And.intro @exists_eq_left'.{1} (And.intro @exists_eq'.{1} (And.intro @ne_eq.{1} (And.intro @evs.eq_1 (And.intro @evs.eq_2 (And.intro @evp.eq_1 (And.intro @evp.eq_2 (And.intro @zat.eq_1 (And.intro @zat.eq_2 (And.intro @SV.ev.eq_1 (And.intro @SV.ev.eq_2 (And.intro @AV.flat.eq_1 (And.intro @AV.flat.eq_2 (And.intro @AV.one.eq_1 (And.intro @AV.one.eq_2 (And.intro @AV.one.eq_3 (And.intro @AV.one.eq_4 (And.intro @AV.one.eq_5 (And.intro @AV.cells.eq_1 (And.intro @AV.cells.eq_2 (And.intro @zdK.eq_1 (And.intro @zdK.eq_2 (And.intro @zmL.eq_1 (And.intro @zmL.eq_2 (And.intro @zmL.eq_3 (And.intro @zlg.eq_1 (And.intro @zlg.eq_2 (And.intro @pub.eq_1 (And.intro @pub.eq_2 (And.intro @pub.eq_3 (And.intro @pub.eq_4 (And.intro @pub.eq_5 (And.intro @ze0.eq_1 (And.intro @ze0.eq_2 (And.intro @AV.plain.eq_1 (And.intro @AV.plain.eq_2 (And.intro @AV.plain.eq_3 (And.intro @AV.plain.eq_4 (And.intro @AV.plain.eq_5 (And.intro @AV.plain.eq_6 (And.intro @AV.plain.eq_7 (And.intro @AV.plain.eq_8 (And.intro @AV.plain.eq_9 (And.intro @AV.plain.eq_10 (And.intro @AV.plain.eq_11 (And.intro @AV.plain.eq_12 (And.intro @zal.eq_1 (And.intro @zal.eq_2 (And.intro @zcU.eq_1 (And.intro @zcU.eq_2 (And.intro @zcU.eq_3 (And.intro @zcU.eq_4 (And.intro @zaU.eq_1 (And.intro @zcO.eq_1 (And.intro @zcO.eq_2 (And.intro @eqA.eq_1 (And.intro @eqA.eq_2 (And.intro @eqA.eq_3 (And.intro @eqA.eq_4 (And.intro @eqA.eq_5 (And.intro @zkD.eq_1 (And.intro @zkD.eq_2 (And.intro @zkD.eq_3 (And.intro @List.replicate.eq_1.{0} (@List.replicate.eq_2.{0})))))))))))))))))))))))))))))))))))))))))))))))))))))))))))))))))))))))))))))))))
end Go.Proofs.YtceenajkieomoaaGreatDoor.Sx
namespace Go.Proofs.YtceenajkieomoaaGreatDoor
open Go.RowKit Sx
open Option renaming some->zt
class Shp (P:Program) [Tabs P]:Prop where
 sh:∀w:World,Tabs.T (P:=P) w->w.ShapedOpen P
class Pow (P:Program) [Tabs P]:Prop where
 pw : ∀ w : World, Tabs.T (P := P) w → Lib.TabIs P w "internal/strconv.uint64pow10" .u64 Lib.pow10Tab
theorem ziS {P:Program} {w w':World} (h:w.ShapedOpen P) (hk:∀k,k<w.heap.size->w'.heap[k]? = w.heap[k]?):w'.ShapedOpen P:=by
 have lt:∀{k:Nat} {o:Obj},w.heap[k]? = some o->k<w.heap.size:=fun {k o} e=>by
  rcases Nat.lt_or_ge k w.heap.size with h1|h1
  ·exact h1
  ·rw[Array.getElem?_eq_none h1] at e;cases e
 refine⟨fun g zero t hg hz=>?_,fun k hk1 hk2=>?_⟩
 ·obtain⟨cs,h1,h2,h3⟩:=h.1 g zero t hg hz;refine⟨cs,(hk g (lt h1)).trans h1,h2,fun hb=>Row.ok_of_shape (fun b x hx=>?_) (h3 hb)⟩;rcases Nat.lt_or_ge b w.heap.size with h4|h4
  ·simpa[World.shape?,hk b h4] using hx
  ·simp[World.shape?,Array.getElem?_eq_none h4] at hx
 ·obtain⟨o,o₀,h1,h2,h3⟩:=h.2 k hk1 hk2;exact⟨o,o₀,(hk k (lt h1)).trans h1,h2,h3⟩
mutual
/-- a value without memory, as it is -/
def val:AV->Option Value
 | .s l=>some (.string ⟨l.toArray⟩)
 | .i k n=>some (.int k n)
 | .b x=>some (.bool x)
 | .agg cs=>match vals cs with
  | some vs=>if vs.all (·.oneCell')=true then some (.agg vs.toArray) else none
  | none=>none
 | .tup cs=>(vals cs).map fun vs=>.tuple vs.toArray
 | _=>none
def vals:List AV->Option (List Value)
 | []=>some []
 | x::xs=>match val x,vals xs with
  | some v,some vs=>some (v::vs)
  | _,_=>none
end
mutual
theorem zfm (G:Gh) (I:Imm):∀(x:AV) (v:Value),val x=some v->∀y,Den G I x y↔y=v
 | .s l,v,h,y=>by simp only[val,zt.injEq] at h;subst h;simp[Den]
 | .i k n,v,h,y=>by simp only[val,zt.injEq] at h;subst h;simp[Den]
 | .b x,v,h,y=>by simp only[val,zt.injEq] at h;subst h;simp[Den]
 | .agg cs,v,h,y=>by
  simp only[val] at h
  split at h
  ·rename_i vs h1
   split at h
   ·rename_i h2;injection h with h;subst h
    simp only[Den]
    constructor
    ·rintro⟨ys,rfl,k1,_⟩;rw[(zbX G I cs vs h1 ys).1 k1]
    ·rintro rfl;exact⟨vs,rfl,(zbX G I cs vs h1 vs).2 rfl,fun u hu=>(List.all_eq_true.1 h2) u hu⟩
   ·cases h
  ·cases h
 | .tup cs,v,h,y=>by
  simp only[val,Option.map_eq_some_iff] at h;obtain⟨vs,h1,rfl⟩:=h;simp only[Den]
  constructor
  ·rintro⟨ys,rfl,k1⟩;rw[(zbX G I cs vs h1 ys).1 k1]
  ·rintro rfl;exact⟨vs,rfl,(zbX G I cs vs h1 vs).2 rfl⟩
 | .p _ _,v,h,y=>by simp[val] at h
 | .row _ _,v,h,y=>by simp[val] at h
 | .prow _ _,v,h,y=>by simp[val] at h
 | .orow _ _,v,h,y=>by simp[val] at h
 | .porow _ _ _,v,h,y=>by simp[val] at h
 | .bsl _ _ _,v,h,y=>by simp[val] at h
 | .m _,v,h,y=>by simp[val] at h
 | .zn _,v,h,y=>by simp[val] at h
 | .nil,v,h,y=>by simp[val] at h
 | .fn _ _ _,v,h,y=>by simp[val] at h
 | .o _,v,h,y=>by simp[val] at h
 | .u,v,h,y=>by simp[val] at h
theorem zbX (G:Gh) (I:Imm):∀(xs:List AV) (vs:List Value),vals xs=some vs->∀ys,zah G I xs ys↔ys=vs
 | [],vs,h,ys=>by simp only[vals,zt.injEq] at h;subst h;simp[zah]
 | x::xs,vs,h,ys=>by
  simp only[vals] at h
  split at h
  ·rename_i v vs' h1 h2;injection h with h;subst h
   simp only[zah]
   constructor
   ·rintro⟨y,ys',rfl,k1,k2⟩;rw[(zfm G I x v h1 y).1 k1,(zbX G I xs vs' h2 ys').1 k2]
   ·rintro rfl;exact⟨v,vs',rfl,(zfm G I x v h1 v).2 rfl,(zbX G I xs vs' h2 vs').2 rfl⟩
  ·cases h
end
section
variable {P:Program} [Tabs P] {f:FuncId} {args:List AV} {vs:List Value} {r:AV} {v:Value} {objs:List OB} {K:List OB->AV->Prop}
theorem conv (ha:vals args=some vs) (hr:val r=some v) (h:∀w,Calls P f vs.toArray w fun e w'=>e=.returned v/\Qb w w') (hk:K objs r):zad P f args objs K :=
 zjt r hk fun G I w ys hm hd=>by
  rw[(zbX G I args vs ha ys).1 hd];exact⟨v,h w,(zfm G I r v hr v).2 rfl⟩
theorem zoM (ha:vals args=some vs) (hr:val r=some v) (h:∀w,Calls P f vs.toArray w fun e w'=>e=.returned v/\w=w') (hk:K objs r):zad P f args objs K :=
 conv ha hr (fun w=>(h w).mono (by rintro e w' ⟨rfl,rfl⟩;exact⟨rfl,Qb.refl _⟩)) hk
theorem convT (ha:vals args=some vs) (hr:val r=some v) (h:∀w,Tabs.T (P:=P) w->Calls P f vs.toArray w fun e w'=>e=.returned v/\Qb w w') (hk:K objs r):zad P f args objs K :=
 zgK r hk fun G I w ys hT hm hd=>by
  rw[(zbX G I args vs ha ys).1 hd];exact⟨v,h w hT,(zfm G I r v hr v).2 rfl⟩
end
end Go.Proofs.YtceenajkieomoaaGreatDoor
namespace Go.Proofs.YtceenajkieomoaaGreatDoor
open Sx
theorem gn1 (l:List OB) (x:OB):(l++[x])[l.length]? = some x:=by simp
theorem sn1 (l:List OB) (x y:OB):(l++[x]).set l.length y=l++[y]:=by simp
end Go.Proofs.YtceenajkieomoaaGreatDoor
namespace Go.Proofs.YtceenajkieomoaaGreatDoor
open Go.RowKit
open Lib renaming hid->zb
open Nat renaming zero_le->zh
theorem nor_32:∀n:Fin 256,(97<=n.val/\n.val<=102\/65<=n.val/\n.val<=70)->bits .or .u8 ((n.val:Nat):Int) 32=(((if n.val<=70 then n.val+32 else n.val):Nat):Int):=by decide +kernel
theorem all_at {p:UInt8->Bool} {s:ByteArray} (h:s.data.toList.all p=true) (k:Nat) (hk:k<s.size):p s[k]=true:=by
 rw[List.all_eq_true] at h;exact h _ (by rw[<-zn8 s k hk,List.getD_eq_getElem?_getD,List.getElem?_eq_getElem (by rw[zap];exact hk)];exact List.getElem_mem _)
theorem zlu {c:UInt8} (h:za0 c=true):(48<=c.toNat/\c.toNat<=57/\dvN c=c.toNat - 48)\/(57<c.toNat/\∃x:Int,bits .or .u8 (c.toNat:Int) 32=x/\97<=x/\x<=102/\x - 97+10=dvN c):=by
 have h3:=hexC h
 by_cases hd:c.toNat<=57
 ·refine .inl ⟨by omega,hd,?_⟩;unfold dvN;rw[if_pos hd]
 ·have h4:97<=c.toNat/\c.toNat<=102\/65<=c.toNat/\c.toNat<=70:=by omega
  refine .inr ⟨by omega,_,nor_32 ⟨c.toNat,c.toNat_lt⟩ h4,?_,?_,?_⟩
  all_goals simp only[dvN]
  all_goals (repeat' split)
  all_goals omega
theorem zjA {M d:Nat} (hM:(M:Int)<=18446744073709551615) (hd:d<16) (h:M<d):∃y:Int,IntKind.u64.wrap ((M:Int) - (d:Int))=y/\1000<y:=by
 refine⟨_,rfl,?_⟩;rw[IntKind.wrap_u64];omega
set_option maxHeartbeats 4000000 in
theorem zhP (s:ByteArray) (most:Int) (w:World) (hs:s.size<=maxLen) (h0:0<=most) (h1:most<=18446744073709551615) :
  Calls Tryz.prog 148 #[.string s,.int .u64 16,.int .u64 most] w fun e w'=>e=.returned (numV (ze2 za0 16 most.toNat s.data.toList))/\w=w':=by
 unfold maxLen at hs;obtain⟨M,rfl⟩:=Int.eq_ofNat_of_zero_le h0;rw[Int.toNat_natCast];clear h0
 by_cases h0:s.size=0
 ·obtain rfl:s=S []:=S_nil_of h0;clear h0 hs
  go_enter Tryz.func148,Tryz.ntmps148
  go_wp2_with fail
  go_ret2
  exact⟨rfl,rfl⟩
 ·have hne:s.data.toList≠[]:=fun e=>h0 (by rw[<-zap,e];rfl);have HE:=zb hne;have he1:s.toList.isEmpty=false:=by rw[ByteArray.toList_eq];simpa using hne
  have hpos:0<s.size:=by omega
  clear h0 hne
  go_enter Tryz.func148,Tryz.ntmps148
  go_wp2_with fail
  go_loop [8] (fun i=>∃k:Nat,k<=s.size/\i=.int .i64 k/\Hid ((s.data.toList.take k).all za0=true)) (fun i=>s.size - (intOf i).toNat)
  case atStart=>exact⟨0,zh _,rfl,zb rfl⟩
  case round=>
   obtain⟨k,hk,rfl,HA⟩:=hrel
   by_cases hlt:k<s.size
   ·rcases hp:za0 s[k] with _|_
    ·have HB:Hid (s.data.toList.all za0=false):=zb (zf8 _ _ (k+1) (by rw[zk6 _ _ _ hlt,hp,Bool.and_false]));have HP:=zb hp;clear hp
     go_wp2_with fail
     refine(zgm _ _).mono ?_;rintro e w' ⟨rfl,rfl⟩;rw[HP.out]
     go_wp2_with fail
     go_ret2
     exact⟨by unfold ze2;rw[zlQ HE.out HB.out,if_neg (by decide)];rfl,rfl⟩
    ·have HB:Hid ((s.data.toList.take (k+1)).all za0=true):=zb (by rw[zk6 _ _ _ hlt,hp,HA.out];rfl);have HP:=zb hp;clear hp
     go_wp2_with fail
     refine(zgm _ _).mono ?_;rintro e w' ⟨rfl,rfl⟩;rw[HP.out]
     go_wp2_with fail
     go_round
     case rel=>exact⟨k+1,by omega,by go_num,HB⟩
     case measure=>simp[intOf];omega
   ·have HB:Hid (s.data.toList.all za0=true):=zb (by rw[<-take_all s k hlt];exact HA.out);have HQ:Hid (ze2 za0 16 M s.data.toList=zle 16 M s.data.toList):=zb (by unfold ze2;rw[zoP HE.out HB.out,if_pos rfl]);have HH:Hid (s.data.toList.all za0=true):=zb HB.out;clear HA HB
    go_wp2_with fail
    go_loop [9,10,11] (fun n i _=>∃k m:Nat,k<=s.size/\m<=M/\i=.int .i64 k/\n=.int .u64 m/\Hid (zgU 16 M s.data.toList 0=zgU 16 M (s.data.toList.drop k) m)) (fun _ i _=>s.size - (intOf i).toNat)
    case atStart=>exact⟨0,0,zh _,zh _,rfl,rfl,zb rfl⟩
    case round=>
     obtain⟨k,m,hk,hm,rfl,rfl,HV⟩:=hrel
     by_cases hlt:k<s.size
     ·have hx:=all_at HH.out k hlt;have hd16:=dvN_lt hx;have hcs:=zlu hx;have HC:Hid (zgU 16 M (s.data.toList.drop k) m=if m*16+dvN s[k]<=M then zgU 16 M (s.data.toList.drop (k+1)) (m*16+dvN s[k]) else none):=zb (by rw[zaV s k hlt];rfl);clear hx;generalize hdv:dvN s[k]=d at *;clear hdv;rcases hcs with ⟨c1,c2,hc3⟩|⟨c1,x,hx,hx1,hx2,hx3⟩
      ·have HD:=zb hc3;clear hc3
       by_cases hdm:d<=M
       ·by_cases hok:m*16+d<=M
        ·have HN:Hid (zgU 16 M s.data.toList 0=zgU 16 M (s.data.toList.drop (k+1)) (m*16+d)):=zb (by rw[HV.out,HC.out,if_pos hok]);have e1:(m:Int)<=(M:Int) / 16:=by omega
         have hde:=HD.out;have hdi:(s[k].toNat:Int) - 48=(d:Int):=by omega
         have e2:(m:Int)*16<=(M:Int) - ((s[k].toNat:Int) - 48):=by omega
         have e3:(s[k].toNat:Int) - 48<=(M:Int):=by omega
         have HI:=zb hdi;clear hde hdi
         go_wp2_with fail
         go_round
         case rel=>exact⟨k+1,m*16+d,by omega,hok,by go_num,congrArg (Value.int .u64) (by have:=HI.out;omega),HN⟩
         case measure=>simp[intOf];omega
        ·have HN:Hid (zgU 16 M s.data.toList 0=none):=zb (by rw[HV.out,HC.out,if_neg hok])
         by_cases e1:(m:Int)<=(M:Int) / 16
         ·have hde:=HD.out;have e2:(M:Int) - ((s[k].toNat:Int) - 48)<(m:Int)*16:=by omega
          have e3:(s[k].toNat:Int) - 48<=(M:Int):=by omega
          have e4:(m:Int)*16<=18446744073709551615:=by omega
          clear hde hok
          go_wp2_with fail
          go_ret2
          exact⟨by rw[HQ.out];unfold zle;rw[HN.out];rfl,rfl⟩
         ·have e2:(M:Int) / 16<(m:Int):=by omega
          clear e1 hok
          go_wp2_with fail
          go_ret2
          exact⟨by rw[HQ.out];unfold zle;rw[HN.out];rfl,rfl⟩
       ·have HN:Hid (zgU 16 M s.data.toList 0=none):=zb (by rw[HV.out,HC.out,if_neg (by omega)])
        by_cases e1:(m:Int)<=(M:Int) / 16
        ·have hde:=HD.out;obtain⟨y,hy,hy1⟩:=zjA h1 hd16 (by omega:M<d);have hdi:(d:Int)=(s[k].toNat:Int) - 48:=by omega
         rw[hdi] at hy;have e3:(M:Int)<(s[k].toNat:Int) - 48:=by omega
         have e4:(m:Int)*16<=1000:=by omega
         clear hde hdi hdm
         go_wp2_with fail
         go_ret2
         exact⟨by rw[HQ.out];unfold zle;rw[HN.out];rfl,rfl⟩
        ·have e2:(M:Int) / 16<(m:Int):=by omega
         clear e1 hdm
         go_wp2_with fail
         go_ret2
         exact⟨by rw[HQ.out];unfold zle;rw[HN.out];rfl,rfl⟩
      ·have HD:=zb hx3;have c3:(10:Int)<=d:=by omega
       clear hx3
       by_cases hdm:d<=M
       ·by_cases hok:m*16+d<=M
        ·have HN:Hid (zgU 16 M s.data.toList 0=zgU 16 M (s.data.toList.drop (k+1)) (m*16+d)):=zb (by rw[HV.out,HC.out,if_pos hok]);have e1:(m:Int)<=(M:Int) / 16:=by omega
         have hde:=HD.out;have hdi:x - 97+10=(d:Int):=by omega
         have e2:(m:Int)*16<=(M:Int) - (x - 97+10):=by omega
         have e3:x - 97+10<=(M:Int):=by omega
         have HI:=zb hdi;clear hde hdi
         go_wp2_with fail
         go_round
         case rel=>exact⟨k+1,m*16+d,by omega,hok,by go_num,congrArg (Value.int .u64) (by have:=HI.out;omega),HN⟩
         case measure=>simp[intOf];omega
        ·have HN:Hid (zgU 16 M s.data.toList 0=none):=zb (by rw[HV.out,HC.out,if_neg hok])
         by_cases e1:(m:Int)<=(M:Int) / 16
         ·have hde:=HD.out;have e2:(M:Int) - (x - 97+10)<(m:Int)*16:=by omega
          have e3:x - 97+10<=(M:Int):=by omega
          have e4:(m:Int)*16<=18446744073709551615:=by omega
          clear hde hok
          go_wp2_with fail
          go_ret2
          exact⟨by rw[HQ.out];unfold zle;rw[HN.out];rfl,rfl⟩
         ·have e2:(M:Int) / 16<(m:Int):=by omega
          clear e1 hok
          go_wp2_with fail
          go_ret2
          exact⟨by rw[HQ.out];unfold zle;rw[HN.out];rfl,rfl⟩
       ·have HN:Hid (zgU 16 M s.data.toList 0=none):=zb (by rw[HV.out,HC.out,if_neg (by omega)])
        by_cases e1:(m:Int)<=(M:Int) / 16
        ·have hde:=HD.out;obtain⟨y,hy,hy1⟩:=zjA h1 hd16 (by omega:M<d);have hdi:(d:Int)=x - 97+10:=by omega
         rw[hdi] at hy;have e3:(M:Int)<x - 97+10:=by omega
         have e4:(m:Int)*16<=1000:=by omega
         clear hde hdi hdm
         go_wp2_with fail
         go_ret2
         exact⟨by rw[HQ.out];unfold zle;rw[HN.out];rfl,rfl⟩
        ·have e2:(M:Int) / 16<(m:Int):=by omega
         clear e1 hdm
         go_wp2_with fail
         go_ret2
         exact⟨by rw[HQ.out];unfold zle;rw[HN.out];rfl,rfl⟩
     ·have HN:Hid (zgU 16 M s.data.toList 0=some m):=zb (by rw[HV.out,List.drop_of_length_le (by rw[zap];omega)];rfl)
      go_wp2_with fail
      go_ret2
      exact⟨by rw[HQ.out];unfold zle;rw[HN.out];rfl,rfl⟩
theorem rHex_any (s:ByteArray) (most:Int) (w:World) (hs:s.size<=maxLen) (h0:0<=most) (h1:most<=18446744073709551615) :
  Calls Tryz.prog 132 #[.string s,.int .u64 most] w fun e w'=>e=.returned (numV (ze2 za0 16 most.toNat s.data.toList))/\w=w':=by
 go_enter Tryz.func132,Tryz.ntmps132
 go_wp2_with fail
 refine(zhP s most _ hs h0 h1).mono ?_;rintro e w' ⟨rfl,rfl⟩;unfold numV
 go_wp2_with fail
 go_ret2
 exact⟨rfl,rfl⟩
open Go.Sort
def Pw (w : World) : Prop := Lib.TabIs Tryz.prog w "internal/strconv.uint64pow10" .u64 Lib.pow10Tab
theorem Pw.keep {w w':World} (h:Pw w) (hq:Qb w w'):Pw w':=Lib.tabBelow_of_tabIs h w' hq
theorem Pw.drew {w:World} (h:Pw w):Pw w.drew:=h
theorem Pw.alloc {w:World} (h:Pw w) (o:Obj):Pw (w.alloc o):=Lib.tabIs_alloc h o
end Go.Proofs.YtceenajkieomoaaGreatDoor
namespace Go.Proofs.YtceenajkieomoaaGreatDoor
open Go.RowKit
open Lib renaming decDigits->jy, hid->zb
theorem str_cons (x:Nat) (t:List UInt8):(strOfNums [48+(x:Int)]++S t:ByteArray)=S (UInt8.ofNat (48+x)::t):=by
 rw[<-S_of (strOfNums [48+(x:Int)]++S t),ByteArray.data_append,Array.toList_append,strOfNums_data];have:(48+(x:Int)).toNat=48+x:=by omega
 simp[this]
set_option maxHeartbeats 1000000 in
theorem zhU (u:Nat) (hu64:u<18446744073709551616) (w:World) :
  Calls Tryz.prog 87 #[.int .u64 u] w fun e w'=>e=.returned (.string (S (jy u)))/\Qb w w':=by
 go_enter Tryz.func87,Tryz.ntmps87
 go_wp2_with fail
 go_loopw [0,3] (fun n s wr=>∃(m:Nat) (t:List UInt8),m<=u/\n=.int .u64 m/\s=.string (S t)/\Hid (jy u=jy m++t)/\Qb w wr) (fun n _ _=>(intOf n).toNat)
 case atStart=>exact⟨u,[],Nat.le_refl _,rfl,rfl,zb (by simp),Qb.refl w⟩
 case round=>
  obtain⟨m,t,hm,rfl,rfl,HD,hq⟩:=hrel;have hst:=zei wr [48+(m:Int) % 10] 1 rfl;simp only[List.map_cons,List.map_nil] at hst;have HC:Hid ((strOfNums [48+(m:Int) % 10]++S t:ByteArray)=S (UInt8.ofNat (48+m % 10)::t)):=zb (str_cons (m % 10) t);have hsz:(S t).size<=30:=by
   have h1:=congrArg List.length HD.out;rw[List.length_append,Lib.decDigits_length] at h1;have h2:=Lib.nDigits_le20 u hu64;rw[zcQ];omega
  have hsx:(strOfNums [48+(m:Int) % 10]).size<=1:=by rw[<-zap,strOfNums_data];simp
  by_cases h10:m<10
  ·have HN:Hid (jy u=UInt8.ofNat (48+m % 10)::t):=zb (by rw[HD.out,dec_one h10,Nat.mod_eq_of_lt h10];rfl);have hz:((m:Int) / 10==0)=true:=by rw[beq_iff_eq];omega
   clear HD
   go_wp2_with fail
   go_ret
   exact⟨ret_str (by rw[HN.out,HC.out]),hq.alloc _⟩
  ·have HN:Hid (jy u=jy (m / 10)++(UInt8.ofNat (48+m % 10)::t)):=zb (by rw[HD.out,dec_more h10,List.append_assoc];rfl);have hz:((m:Int) / 10==0)=false:=by rw[beq_eq_false_iff_ne];omega
   clear HD
   go_wp2_with fail
   go_roundw
   case rel=>exact⟨m / 10,_,by omega,by go_num,congrArg Value.string HC.out,HN,hq.alloc _⟩
   case measure=>simp[intOf];omega
end Go.Proofs.YtceenajkieomoaaGreatDoor
namespace Go.Proofs.YtceenajkieomoaaGreatDoor.Sx
open Go.RowKit
open Option renaming some -> Sa, none -> Sb
def c_law17_DiddocEncodes:SCode :=.seq (.reg [⟨Sa 1,.box 34 (.t 0),Sb⟩,⟨Sa 2,.mv (.c (.b false)),Sb⟩]) (.seq (.seq (.reg [⟨Sa 3,.call 7 [],Sb⟩,⟨Sa 4,.not (.t 3),Sb⟩]) (.cond (.t 4) (.seq (.reg [⟨Sa 2,.mv (.c (.b false)),Sb⟩]) (.ret)) (.skip))) (.seq (.drw [⟨Sa 5,.loadn 5 (.t 1),Sb⟩,⟨Sa 6,.call 16 [.t 5],Sb⟩,⟨Sa 7,.not (.t 6),Sb⟩,⟨Sa 8,.mv (.t 7),Sb⟩,⟨Sa 9,.loadn 5 (.t 1),some (8,false)⟩,⟨Sa 10,.call 17 [.t 9],some (8,false)⟩,⟨Sa 11,.loadn 5 (.t 1),some (8,false)⟩,⟨Sa 12,.call 18 [.t 11],some (8,false)⟩,⟨Sa 13,.call 15 [.t 10,.t 12],some (8,false)⟩,⟨Sa 14,.pick (.t 8) (.c (.b true)) (.t 13),Sb⟩,⟨Sa 2,.mv (.t 14),Sb⟩] 11 []) (.ret)))
theorem is_law17_DiddocEncodes:FnIs Tryz.prog 5 15 [.tmp 2] c_law17_DiddocEncodes:=⟨⟨_,_,Tryz.func5,rfl,rfl,by kernel_rfl,by kernel_rfl⟩⟩
def c_law17_sane:SCode :=.seq (.reg [⟨Sa 0,.mv (.c (.b false)),Sb⟩]) (.seq (.reg [⟨Sa 9,.call 9 [.c (.s [123,34,105,100,34,58,34,100,105,100,58,119,101,98,58,97,46,101,120,97,109,112,108,101,34,44,34,115,101,114,118,105,99,101,34,58,91,123,34,105,100,34,58,34,35,102,105,108,101,115,34,44,34,116,121,112,101,34,58,34,88,34,44,34,115,101,114,118,105,99,101,69,110,100,112,111,105,110,116,34,58,34,104,116,116,112,115,58,47,47,97,46,101,120,97,109,112,108,101,47,102,47,34,125,93,125])],Sb⟩,⟨Sa 8,.mv (.t 9),Sb⟩,⟨Sa 10,.ext (.t 8) 0,Sb⟩,⟨Sa 11,.ext (.t 8) 1,Sb⟩,⟨Sa 12,.ext (.t 8) 2,Sb⟩,⟨Sa 1,.alloc 25 [.i .i64 0,.s [],.nil,.nil],Sb⟩,⟨Sb,.store 4 (.t 1) (.t 10),Sb⟩,⟨Sa 2,.mv (.t 11),Sb⟩,⟨Sa 3,.mv (.t 12),Sb⟩]) (.seq (.reg [⟨Sa 14,.loadn 4 (.t 1),Sb⟩,⟨Sa 15,.call 10 [.t 14],Sb⟩,⟨Sa 13,.mv (.t 15),Sb⟩,⟨Sa 16,.ext (.t 13) 0,Sb⟩,⟨Sa 17,.ext (.t 13) 1,Sb⟩,⟨Sa 4,.alloc 34 [.s [],.nil,.nil,.nil,.nil],Sb⟩,⟨Sb,.store 5 (.t 4) (.t 16),Sb⟩,⟨Sa 5,.mv (.t 17),Sb⟩]) (.seq (.reg [⟨Sa 19,.loadn 4 (.t 1),Sb⟩,⟨Sa 20,.call 13 [.t 19,.c (.s [100,105,100,58,119,101,98,58,97,46,101,120,97,109,112,108,101,35,102,105,108,101,115])],Sb⟩,⟨Sa 18,.mv (.t 20),Sb⟩,⟨Sa 21,.ext (.t 18) 0,Sb⟩,⟨Sa 22,.ext (.t 18) 1,Sb⟩,⟨Sa 6,.alloc 25 [.i .i64 0,.s [],.nil,.nil],Sb⟩,⟨Sb,.store 4 (.t 6) (.t 21),Sb⟩,⟨Sa 7,.mv (.t 22),Sb⟩]) (.seq (.reg [⟨Sa 23,.mv (.t 5),Sb⟩,⟨Sa 24,.bin .eql (.t 23) (.c (.i .i64 0)),Sb⟩,⟨Sa 25,.mv (.t 24),Sb⟩,⟨Sa 26,.fad 4 (.t 4),some (25,true)⟩,⟨Sa 27,.load1 (.t 26),some (25,true)⟩,⟨Sa 28,.lenr (.t 27),some (25,true)⟩,⟨Sa 29,.bin .eql (.t 28) (.c (.i .i64 1)),some (25,true)⟩,⟨Sa 30,.pick (.t 25) (.t 29) (.c (.b false)),Sb⟩,⟨Sa 31,.mv (.t 30),Sb⟩,⟨Sa 32,.fad 4 (.t 4),some (31,true)⟩,⟨Sa 33,.load1 (.t 32),some (31,true)⟩,⟨Sa 34,.iad 3 (.t 33) (.c (.i .i64 0)),some (31,true)⟩,⟨Sa 35,.fad 0 (.t 34),some (31,true)⟩,⟨Sa 36,.load1 (.t 35),some (31,true)⟩,⟨Sa 37,.bin .eql (.t 36) (.c (.s [100,105,100,58,119,101,98,58,97,46,101,120,97,109,112,108,101,35,102,105,108,101,115])),some (31,true)⟩,⟨Sa 38,.pick (.t 31) (.t 37) (.c (.b false)),Sb⟩,⟨Sa 39,.mv (.t 38),Sb⟩,⟨Sa 40,.fad 4 (.t 4),some (39,true)⟩,⟨Sa 41,.load1 (.t 40),some (39,true)⟩,⟨Sa 42,.iad 3 (.t 41) (.c (.i .i64 0)),some (39,true)⟩,⟨Sa 43,.fad 2 (.t 42),some (39,true)⟩,⟨Sa 44,.load1 (.t 43),some (39,true)⟩,⟨Sa 45,.lenr (.t 44),some (39,true)⟩,⟨Sa 46,.bin .eql (.t 45) (.c (.i .i64 1)),some (39,true)⟩,⟨Sa 47,.pick (.t 39) (.t 46) (.c (.b false)),Sb⟩,⟨Sa 48,.mv (.t 47),Sb⟩,⟨Sa 49,.mv (.t 7),some (48,true)⟩,⟨Sa 50,.pick (.t 48) (.t 49) (.c (.b false)),Sb⟩,⟨Sa 51,.mv (.t 50),Sb⟩,⟨Sa 52,.fad 0 (.t 6),some (51,true)⟩,⟨Sa 53,.load1 (.t 52),some (51,true)⟩,⟨Sa 54,.bin .eql (.t 53) (.c (.i .i64 7)),some (51,true)⟩,⟨Sa 55,.pick (.t 51) (.t 54) (.c (.b false)),Sb⟩,⟨Sa 0,.mv (.t 55),Sb⟩]) (.ret)))))
theorem is_law17_sane:FnIs Tryz.prog 7 56 [.tmp 0] c_law17_sane:=⟨⟨_,_,Tryz.func7,rfl,rfl,by kernel_rfl,by kernel_rfl⟩⟩
def c_ref14_Parse:SCode :=.seq (.reg [⟨Sa 2,.alloc 25 [.i .i64 0,.s [],.nil,.nil],Sb⟩,⟨Sa 3,.mv (.c (.i .i64 0)),Sb⟩,⟨Sa 4,.mv (.c (.i .i64 0)),Sb⟩]) (.seq (.seq (.reg [⟨Sa 8,.mv (.t 0),Sb⟩,⟨Sa 9,.lens (.t 8),Sb⟩,⟨Sa 10,.bin .gtr (.t 9) (.c (.i .i64 1048576)),Sb⟩]) (.cond (.t 10) (.seq (.reg [⟨Sa 11,.build [.i .i64 0,.s [],.nil,.nil] [],Sb⟩,⟨Sb,.store 4 (.t 2) (.t 11),Sb⟩,⟨Sa 3,.mv (.c (.i .i64 0)),Sb⟩,⟨Sa 4,.mv (.c (.i .i64 142)),Sb⟩]) (.ret)) (.skip))) (.seq (.reg [⟨Sa 12,.mv (.t 0),Sb⟩,⟨Sa 13,.build [.s [],.i .i64 0,.i .i64 0,.i .i64 0,.i .i64 0] [(0,(1,.t 12))],Sb⟩,⟨Sa 14,.box 53 (.t 13),Sb⟩,⟨Sa 5,.mv (.t 14),Sb⟩]) (.seq (.reg [⟨Sa 15,.mv (.t 5),Sb⟩,⟨Sa 16,.mv (.t 5),Sb⟩,⟨Sa 17,.call 21 [.t 16],Sb⟩,⟨Sa 18,.call 20 [.t 15,.t 17,.c (.i .i64 0)],Sb⟩,⟨Sa 6,.alloc 25 [.i .i64 0,.s [],.nil,.nil],Sb⟩,⟨Sb,.store 4 (.t 6) (.t 18),Sb⟩]) (.seq (.seq (.reg [⟨Sa 19,.mv (.t 5),Sb⟩,⟨Sa 20,.call 21 [.t 19],Sb⟩,⟨Sa 7,.alloc 56 [.i .i64 0,.s [],.i .i64 0],Sb⟩,⟨Sb,.store 3 (.t 7) (.t 20),Sb⟩]) (.seq (.reg [⟨Sa 21,.mv (.t 5),Sb⟩,⟨Sa 22,.nck (.t 21),Sb⟩,⟨Sa 23,.fad 3 (.t 22),Sb⟩,⟨Sa 24,.load1 (.t 23),Sb⟩,⟨Sa 25,.bin .eql (.t 24) (.c (.i .i64 0)),Sb⟩,⟨Sa 26,.mv (.t 25),Sb⟩,⟨Sa 27,.fad 0 (.t 7),some (26,true)⟩,⟨Sa 28,.load1 (.t 27),some (26,true)⟩,⟨Sa 29,.bin .neq (.t 28) (.c (.i .i64 1)),some (26,true)⟩,⟨Sa 30,.pick (.t 26) (.t 29) (.c (.b false)),Sb⟩]) (.cond (.t 30) (.reg [⟨Sa 31,.mv (.t 5),Sb⟩,⟨Sa 32,.fad 2 (.t 7),Sb⟩,⟨Sa 33,.load1 (.t 32),Sb⟩,⟨Sa 34,.call 22 [.t 31,.t 33,.c (.i .i64 140)],Sb⟩]) (.skip)))) (.seq (.seq (.reg [⟨Sa 35,.mv (.t 5),Sb⟩,⟨Sa 36,.nck (.t 35),Sb⟩,⟨Sa 37,.fad 3 (.t 36),Sb⟩,⟨Sa 38,.load1 (.t 37),Sb⟩,⟨Sa 39,.bin .neq (.t 38) (.c (.i .i64 0)),Sb⟩]) (.cond (.t 39) (.seq (.drw [⟨Sa 40,.build [.i .i64 0,.s [],.nil,.nil] [],Sb⟩,⟨Sa 41,.mv (.t 5),Sb⟩,⟨Sa 42,.nck (.t 41),Sb⟩,⟨Sa 43,.fad 4 (.t 42),Sb⟩,⟨Sa 44,.load1 (.t 43),Sb⟩,⟨Sa 45,.mv (.t 5),Sb⟩,⟨Sa 46,.nck (.t 45),Sb⟩,⟨Sa 47,.fad 3 (.t 46),Sb⟩,⟨Sa 48,.load1 (.t 47),Sb⟩,⟨Sb,.store 4 (.t 2) (.t 40),Sb⟩,⟨Sa 3,.mv (.t 44),Sb⟩,⟨Sa 4,.mv (.t 48),Sb⟩] 12 [(43,(2,none)),(47,(2,none))]) (.ret)) (.skip))) (.seq (.reg [⟨Sa 49,.loadn 4 (.t 6),Sb⟩,⟨Sa 50,.mv (.t 0),Sb⟩,⟨Sa 51,.lens (.t 50),Sb⟩,⟨Sb,.store 4 (.t 2) (.t 49),Sb⟩,⟨Sa 3,.mv (.t 51),Sb⟩,⟨Sa 4,.mv (.c (.i .i64 0)),Sb⟩]) (.ret)))))))
theorem is_ref14_Parse:FnIs Tryz.prog 9 52 [.celln 2 4,.tmp 3,.tmp 4] c_ref14_Parse:=⟨⟨_,_,Tryz.func9,rfl,rfl,by kernel_rfl,by kernel_rfl⟩⟩
def c_diddoc_Decode:SCode :=.seq (.reg [⟨Sa 1,.box 25 (.t 0),Sb⟩,⟨Sa 2,.alloc 34 [.s [],.nil,.nil,.nil,.nil],Sb⟩,⟨Sa 3,.mv (.c (.i .i64 0)),Sb⟩]) (.seq (.reg [⟨Sa 16,.loadn 4 (.t 1),Sb⟩,⟨Sa 17,.call 23 [.t 16],Sb⟩,⟨Sa 4,.mv (.t 17),Sb⟩]) (.seq (.reg [⟨Sa 19,.loadn 4 (.t 1),Sb⟩,⟨Sa 20,.call 24 [.t 19],Sb⟩,⟨Sa 18,.mv (.t 20),Sb⟩,⟨Sa 21,.ext (.t 18) 0,Sb⟩,⟨Sa 22,.ext (.t 18) 1,Sb⟩,⟨Sa 5,.alloc 62 [.s [],.s []],Sb⟩,⟨Sb,.store 2 (.t 5) (.t 21),Sb⟩,⟨Sa 6,.mv (.t 22),Sb⟩]) (.seq (.seq (.reg [⟨Sa 23,.mv (.t 6),Sb⟩,⟨Sa 24,.bin .neq (.t 23) (.c (.i .i64 0)),Sb⟩]) (.cond (.t 24) (.seq (.reg [⟨Sa 25,.build [.s [],.nil,.nil,.nil,.nil] [],Sb⟩,⟨Sa 26,.mv (.t 6),Sb⟩,⟨Sb,.store 5 (.t 2) (.t 25),Sb⟩,⟨Sa 3,.mv (.t 26),Sb⟩]) (.ret)) (.skip))) (.seq (.reg [⟨Sa 27,.loadn 2 (.t 5),Sb⟩,⟨Sa 28,.call 25 [.t 27],Sb⟩,⟨Sa 29,.build [.s [],.nil,.nil,.nil,.nil] [(0,(1,.t 28))],Sb⟩,⟨Sa 7,.alloc 34 [.s [],.nil,.nil,.nil,.nil],Sb⟩,⟨Sb,.store 5 (.t 7) (.t 29),Sb⟩]) (.seq (.seq (.reg [⟨Sa 31,.mv (.t 4),Sb⟩,⟨Sa 32,.callv (.t 31) [.c (.s [97,108,115,111,75,110,111,119,110,65,115])],Sb⟩,⟨Sa 30,.mv (.t 32),Sb⟩,⟨Sa 33,.ext (.t 30) 0,Sb⟩,⟨Sa 34,.ext (.t 30) 1,Sb⟩,⟨Sa 8,.alloc 25 [.i .i64 0,.s [],.nil,.nil],Sb⟩,⟨Sb,.store 4 (.t 8) (.t 33),Sb⟩,⟨Sa 9,.mv (.t 34),Sb⟩]) (.seq (.reg [⟨Sa 35,.mv (.t 9),Sb⟩]) (.cond (.t 35) (.seq (.reg [⟨Sa 37,.loadn 4 (.t 8),Sb⟩,⟨Sa 38,.call 26 [.t 37],Sb⟩,⟨Sa 36,.mv (.t 38),Sb⟩,⟨Sa 39,.ext (.t 36) 0,Sb⟩,⟨Sa 40,.ext (.t 36) 1,Sb⟩,⟨Sa 41,.fad 1 (.t 7),Sb⟩,⟨Sb,.store 1 (.t 41) (.t 39),Sb⟩,⟨Sa 6,.mv (.t 40),Sb⟩]) (.seq (.reg [⟨Sa 42,.mv (.t 6),Sb⟩,⟨Sa 43,.bin .neq (.t 42) (.c (.i .i64 0)),Sb⟩]) (.cond (.t 43) (.seq (.reg [⟨Sa 44,.build [.s [],.nil,.nil,.nil,.nil] [],Sb⟩,⟨Sa 45,.mv (.t 6),Sb⟩,⟨Sb,.store 5 (.t 2) (.t 44),Sb⟩,⟨Sa 3,.mv (.t 45),Sb⟩]) (.ret)) (.skip)))) (.skip)))) (.seq (.seq (.reg [⟨Sa 47,.mv (.t 4),Sb⟩,⟨Sa 48,.callv (.t 47) [.c (.s [99,111,110,116,114,111,108,108,101,114])],Sb⟩,⟨Sa 46,.mv (.t 48),Sb⟩,⟨Sa 49,.ext (.t 46) 0,Sb⟩,⟨Sa 50,.ext (.t 46) 1,Sb⟩,⟨Sa 10,.alloc 25 [.i .i64 0,.s [],.nil,.nil],Sb⟩,⟨Sb,.store 4 (.t 10) (.t 49),Sb⟩,⟨Sa 11,.mv (.t 50),Sb⟩]) (.seq (.reg [⟨Sa 51,.mv (.t 11),Sb⟩]) (.cond (.t 51) (.seq (.reg [⟨Sa 53,.loadn 4 (.t 10),Sb⟩,⟨Sa 54,.call 27 [.t 53],Sb⟩,⟨Sa 52,.mv (.t 54),Sb⟩,⟨Sa 55,.ext (.t 52) 0,Sb⟩,⟨Sa 56,.ext (.t 52) 1,Sb⟩,⟨Sa 57,.fad 2 (.t 7),Sb⟩,⟨Sb,.store 1 (.t 57) (.t 55),Sb⟩,⟨Sa 6,.mv (.t 56),Sb⟩]) (.seq (.reg [⟨Sa 58,.mv (.t 6),Sb⟩,⟨Sa 59,.bin .neq (.t 58) (.c (.i .i64 0)),Sb⟩]) (.cond (.t 59) (.seq (.reg [⟨Sa 60,.build [.s [],.nil,.nil,.nil,.nil] [],Sb⟩,⟨Sa 61,.mv (.t 6),Sb⟩,⟨Sb,.store 5 (.t 2) (.t 60),Sb⟩,⟨Sa 3,.mv (.t 61),Sb⟩]) (.ret)) (.skip)))) (.skip)))) (.seq (.seq (.reg [⟨Sa 63,.mv (.t 4),Sb⟩,⟨Sa 64,.callv (.t 63) [.c (.s [118,101,114,105,102,105,99,97,116,105,111,110,77,101,116,104,111,100])],Sb⟩,⟨Sa 62,.mv (.t 64),Sb⟩,⟨Sa 65,.ext (.t 62) 0,Sb⟩,⟨Sa 66,.ext (.t 62) 1,Sb⟩,⟨Sa 12,.alloc 25 [.i .i64 0,.s [],.nil,.nil],Sb⟩,⟨Sb,.store 4 (.t 12) (.t 65),Sb⟩,⟨Sa 13,.mv (.t 66),Sb⟩]) (.seq (.reg [⟨Sa 67,.mv (.t 13),Sb⟩]) (.cond (.t 67) (.seq (.reg [⟨Sa 69,.loadn 4 (.t 12),Sb⟩,⟨Sa 70,.loadn 2 (.t 5),Sb⟩,⟨Sa 71,.call 28 [.t 69,.t 70,.c (.fn 29 [] [])],Sb⟩,⟨Sa 68,.mv (.t 71),Sb⟩,⟨Sa 72,.ext (.t 68) 0,Sb⟩,⟨Sa 73,.ext (.t 68) 1,Sb⟩,⟨Sa 74,.fad 3 (.t 7),Sb⟩,⟨Sb,.store 1 (.t 74) (.t 72),Sb⟩,⟨Sa 6,.mv (.t 73),Sb⟩]) (.seq (.reg [⟨Sa 75,.mv (.t 6),Sb⟩,⟨Sa 76,.bin .neq (.t 75) (.c (.i .i64 0)),Sb⟩]) (.cond (.t 76) (.seq (.reg [⟨Sa 77,.build [.s [],.nil,.nil,.nil,.nil] [],Sb⟩,⟨Sa 78,.mv (.t 6),Sb⟩,⟨Sb,.store 5 (.t 2) (.t 77),Sb⟩,⟨Sa 3,.mv (.t 78),Sb⟩]) (.ret)) (.skip)))) (.skip)))) (.seq (.seq (.reg [⟨Sa 80,.mv (.t 4),Sb⟩,⟨Sa 81,.callv (.t 80) [.c (.s [115,101,114,118,105,99,101])],Sb⟩,⟨Sa 79,.mv (.t 81),Sb⟩,⟨Sa 82,.ext (.t 79) 0,Sb⟩,⟨Sa 83,.ext (.t 79) 1,Sb⟩,⟨Sa 14,.alloc 25 [.i .i64 0,.s [],.nil,.nil],Sb⟩,⟨Sb,.store 4 (.t 14) (.t 82),Sb⟩,⟨Sa 15,.mv (.t 83),Sb⟩]) (.seq (.reg [⟨Sa 84,.mv (.t 15),Sb⟩]) (.cond (.t 84) (.seq (.reg [⟨Sa 86,.loadn 4 (.t 14),Sb⟩,⟨Sa 87,.loadn 2 (.t 5),Sb⟩,⟨Sa 88,.call 30 [.t 86,.t 87,.c (.fn 31 [] [])],Sb⟩,⟨Sa 85,.mv (.t 88),Sb⟩,⟨Sa 89,.ext (.t 85) 0,Sb⟩,⟨Sa 90,.ext (.t 85) 1,Sb⟩,⟨Sa 91,.fad 4 (.t 7),Sb⟩,⟨Sb,.store 1 (.t 91) (.t 89),Sb⟩,⟨Sa 6,.mv (.t 90),Sb⟩]) (.seq (.reg [⟨Sa 92,.mv (.t 6),Sb⟩,⟨Sa 93,.bin .neq (.t 92) (.c (.i .i64 0)),Sb⟩]) (.cond (.t 93) (.seq (.reg [⟨Sa 94,.build [.s [],.nil,.nil,.nil,.nil] [],Sb⟩,⟨Sa 95,.mv (.t 6),Sb⟩,⟨Sb,.store 5 (.t 2) (.t 94),Sb⟩,⟨Sa 3,.mv (.t 95),Sb⟩]) (.ret)) (.skip)))) (.skip)))) (.seq (.reg [⟨Sa 96,.loadn 5 (.t 7),Sb⟩,⟨Sb,.store 5 (.t 2) (.t 96),Sb⟩,⟨Sa 3,.mv (.c (.i .i64 0)),Sb⟩]) (.ret))))))))))
theorem is_diddoc_Decode:FnIs Tryz.prog 10 97 [.celln 2 5,.tmp 3] c_diddoc_Decode:=⟨⟨_,_,Tryz.func10,rfl,rfl,by kernel_rfl,by kernel_rfl⟩⟩
def c_diddoc_Select:SCode :=.seq (.reg [⟨Sa 2,.box 25 (.t 0),Sb⟩,⟨Sa 4,.alloc 25 [.i .i64 0,.s [],.nil,.nil],Sb⟩,⟨Sa 5,.mv (.c (.b false)),Sb⟩]) (.seq (.seq (.reg [⟨Sa 19,.loadn 4 (.t 2),Sb⟩,⟨Sa 20,.call 10 [.t 19],Sb⟩,⟨Sa 18,.mv (.t 20),Sb⟩,⟨Sa 21,.ext (.t 18) 0,Sb⟩,⟨Sa 22,.ext (.t 18) 1,Sb⟩,⟨Sa 6,.alloc 34 [.s [],.nil,.nil,.nil,.nil],Sb⟩,⟨Sb,.store 5 (.t 6) (.t 21),Sb⟩,⟨Sa 7,.mv (.t 22),Sb⟩]) (.seq (.reg [⟨Sa 23,.mv (.t 7),Sb⟩,⟨Sa 24,.bin .neq (.t 23) (.c (.i .i64 0)),Sb⟩]) (.cond (.t 24) (.seq (.reg [⟨Sa 25,.build [.i .i64 0,.s [],.nil,.nil] [],Sb⟩,⟨Sb,.store 4 (.t 4) (.t 25),Sb⟩,⟨Sa 5,.mv (.c (.b false)),Sb⟩]) (.ret)) (.skip)))) (.seq (.reg [⟨Sa 27,.loadn 4 (.t 2),Sb⟩,⟨Sa 28,.call 24 [.t 27],Sb⟩,⟨Sa 26,.mv (.t 28),Sb⟩,⟨Sa 29,.ext (.t 26) 0,Sb⟩,⟨Sa 30,.ext (.t 26) 1,Sb⟩,⟨Sa 8,.alloc 62 [.s [],.s []],Sb⟩,⟨Sb,.store 2 (.t 8) (.t 29),Sb⟩,⟨Sa 9,.mv (.t 30),Sb⟩]) (.seq (.seq (.reg [⟨Sa 31,.mv (.t 9),Sb⟩,⟨Sa 32,.bin .neq (.t 31) (.c (.i .i64 0)),Sb⟩]) (.cond (.t 32) (.seq (.reg [⟨Sa 33,.build [.i .i64 0,.s [],.nil,.nil] [],Sb⟩,⟨Sb,.store 4 (.t 4) (.t 33),Sb⟩,⟨Sa 5,.mv (.c (.b false)),Sb⟩]) (.ret)) (.skip))) (.seq (.seq (.reg [⟨Sa 34,.bslice 2 [.s [],.s []] [(0,(1,.c (.s [118,101,114,105,102,105,99,97,116,105,111,110,77,101,116,104,111,100]))),(1,(1,.c (.s [115,101,114,118,105,99,101])))],Sb⟩,⟨Sa 35,.lenr (.t 34),Sb⟩,⟨Sa 36,.mv (.c (.i .i64 0)),Sb⟩]) (.blk 0 (.loop (.seq (.reg [⟨Sa 37,.bin .lss (.t 36) (.t 35),Sb⟩]) (.seq (.cond (.t 37) (.skip) (.exit 0)) (.seq (.blk 1 (.seq (.reg [⟨Sa 38,.iad 1 (.t 34) (.t 36),Sb⟩,⟨Sa 39,.load1 (.t 38),Sb⟩,⟨Sa 11,.mv (.t 39),Sb⟩]) (.seq (.reg [⟨Sa 41,.loadn 4 (.t 2),Sb⟩,⟨Sa 42,.mv (.t 11),Sb⟩,⟨Sa 43,.call 40 [.t 41,.t 42],Sb⟩,⟨Sa 40,.mv (.t 43),Sb⟩,⟨Sa 44,.ext (.t 40) 0,Sb⟩,⟨Sa 45,.ext (.t 40) 1,Sb⟩,⟨Sa 12,.alloc 25 [.i .i64 0,.s [],.nil,.nil],Sb⟩,⟨Sb,.store 4 (.t 12) (.t 44),Sb⟩,⟨Sa 13,.mv (.t 45),Sb⟩]) (.seq (.reg [⟨Sa 46,.fad 3 (.t 12),Sb⟩,⟨Sa 47,.load1 (.t 46),Sb⟩,⟨Sa 48,.lenr (.t 47),Sb⟩,⟨Sa 49,.mv (.c (.i .i64 0)),Sb⟩]) (.blk 2 (.loop (.seq (.reg [⟨Sa 50,.bin .lss (.t 49) (.t 48),Sb⟩]) (.seq (.cond (.t 50) (.skip) (.exit 2)) (.seq (.blk 3 (.seq (.reg [⟨Sa 51,.iad 4 (.t 47) (.t 49),Sb⟩,⟨Sa 52,.loadn 4 (.t 51),Sb⟩,⟨Sa 15,.alloc 25 [.i .i64 0,.s [],.nil,.nil],Sb⟩,⟨Sb,.store 4 (.t 15) (.t 52),Sb⟩]) (.seq (.reg [⟨Sa 54,.loadn 4 (.t 15),Sb⟩,⟨Sa 55,.loadn 2 (.t 8),Sb⟩,⟨Sa 56,.call 41 [.t 54,.t 55],Sb⟩,⟨Sa 53,.mv (.t 56),Sb⟩,⟨Sa 57,.ext (.t 53) 0,Sb⟩,⟨Sa 58,.ext (.t 53) 1,Sb⟩,⟨Sa 16,.mv (.t 57),Sb⟩,⟨Sa 17,.mv (.t 58),Sb⟩]) (.seq (.reg [⟨Sa 59,.mv (.t 17),Sb⟩,⟨Sa 60,.bin .eql (.t 59) (.c (.i .i64 0)),Sb⟩,⟨Sa 61,.mv (.t 60),Sb⟩,⟨Sa 62,.mv (.t 16),some (61,true)⟩,⟨Sa 63,.mv (.t 1),some (61,true)⟩,⟨Sa 64,.bin .eql (.t 62) (.t 63),some (61,true)⟩,⟨Sa 65,.pick (.t 61) (.t 64) (.c (.b false)),Sb⟩]) (.cond (.t 65) (.seq (.reg [⟨Sa 66,.loadn 4 (.t 15),Sb⟩,⟨Sb,.store 4 (.t 4) (.t 66),Sb⟩,⟨Sa 5,.mv (.c (.b true)),Sb⟩]) (.ret)) (.skip)))))) (.reg [⟨Sa 67,.bin .add (.t 49) (.c (.i .i64 1)),Sb⟩,⟨Sa 49,.mv (.t 67),Sb⟩])))))))))) (.reg [⟨Sa 68,.bin .add (.t 36) (.c (.i .i64 1)),Sb⟩,⟨Sa 36,.mv (.t 68),Sb⟩]))))))) (.seq (.reg [⟨Sa 69,.build [.i .i64 0,.s [],.nil,.nil] [],Sb⟩,⟨Sb,.store 4 (.t 4) (.t 69),Sb⟩,⟨Sa 5,.mv (.c (.b false)),Sb⟩]) (.ret))))))
theorem is_diddoc_Select:FnIs Tryz.prog 13 70 [.celln 4 4,.tmp 5] c_diddoc_Select:=⟨⟨_,_,Tryz.func13,rfl,rfl,by kernel_rfl,by kernel_rfl⟩⟩
def c_ref14_Same:SCode :=.seq (.reg [⟨Sa 2,.box 25 (.t 0),Sb⟩,⟨Sa 3,.box 25 (.t 1),Sb⟩,⟨Sa 4,.mv (.c (.b false)),Sb⟩]) (.seq (.seq (.reg [⟨Sa 7,.fad 0 (.t 2),Sb⟩,⟨Sa 8,.load1 (.t 7),Sb⟩,⟨Sa 9,.fad 0 (.t 3),Sb⟩,⟨Sa 10,.load1 (.t 9),Sb⟩,⟨Sa 11,.bin .neq (.t 8) (.t 10),Sb⟩,⟨Sa 12,.mv (.t 11),Sb⟩,⟨Sa 13,.fad 1 (.t 2),some (12,false)⟩,⟨Sa 14,.load1 (.t 13),some (12,false)⟩,⟨Sa 15,.fad 1 (.t 3),some (12,false)⟩,⟨Sa 16,.load1 (.t 15),some (12,false)⟩,⟨Sa 17,.bin .neq (.t 14) (.t 16),some (12,false)⟩,⟨Sa 18,.pick (.t 12) (.c (.b true)) (.t 17),Sb⟩,⟨Sa 19,.mv (.t 18),Sb⟩,⟨Sa 20,.fad 3 (.t 2),some (19,false)⟩,⟨Sa 21,.load1 (.t 20),some (19,false)⟩,⟨Sa 22,.lenr (.t 21),some (19,false)⟩,⟨Sa 23,.fad 3 (.t 3),some (19,false)⟩,⟨Sa 24,.load1 (.t 23),some (19,false)⟩,⟨Sa 25,.lenr (.t 24),some (19,false)⟩,⟨Sa 26,.bin .neq (.t 22) (.t 25),some (19,false)⟩,⟨Sa 27,.pick (.t 19) (.c (.b true)) (.t 26),Sb⟩,⟨Sa 28,.mv (.t 27),Sb⟩,⟨Sa 29,.fad 2 (.t 2),some (28,false)⟩,⟨Sa 30,.load1 (.t 29),some (28,false)⟩,⟨Sa 31,.lenr (.t 30),some (28,false)⟩,⟨Sa 32,.fad 2 (.t 3),some (28,false)⟩,⟨Sa 33,.load1 (.t 32),some (28,false)⟩,⟨Sa 34,.lenr (.t 33),some (28,false)⟩,⟨Sa 35,.bin .neq (.t 31) (.t 34),some (28,false)⟩,⟨Sa 36,.pick (.t 28) (.c (.b true)) (.t 35),Sb⟩]) (.cond (.t 36) (.seq (.reg [⟨Sa 4,.mv (.c (.b false)),Sb⟩]) (.ret)) (.skip))) (.seq (.seq (.reg [⟨Sa 37,.fad 3 (.t 2),Sb⟩,⟨Sa 38,.load1 (.t 37),Sb⟩,⟨Sa 39,.lenr (.t 38),Sb⟩,⟨Sa 40,.mv (.c (.i .i64 0)),Sb⟩]) (.blk 0 (.loop (.seq (.reg [⟨Sa 41,.bin .lss (.t 40) (.t 39),Sb⟩]) (.seq (.cond (.t 41) (.skip) (.exit 0)) (.seq (.blk 1 (.seq (.reg [⟨Sa 42,.mv (.t 40),Sb⟩,⟨Sa 5,.mv (.t 42),Sb⟩]) (.seq (.drw [⟨Sa 43,.fad 3 (.t 2),Sb⟩,⟨Sa 44,.load1 (.t 43),Sb⟩,⟨Sa 45,.mv (.t 5),Sb⟩,⟨Sa 46,.iad 4 (.t 44) (.t 45),Sb⟩,⟨Sa 47,.loadn 4 (.t 46),Sb⟩,⟨Sa 48,.fad 3 (.t 3),Sb⟩,⟨Sa 49,.load1 (.t 48),Sb⟩,⟨Sa 50,.mv (.t 5),Sb⟩,⟨Sa 51,.iad 4 (.t 49) (.t 50),Sb⟩,⟨Sa 52,.loadn 4 (.t 51),Sb⟩,⟨Sa 53,.call 15 [.t 47,.t 52],Sb⟩,⟨Sa 54,.not (.t 53),Sb⟩] 12 []) (.cond (.t 54) (.seq (.reg [⟨Sa 4,.mv (.c (.b false)),Sb⟩]) (.ret)) (.skip))))) (.reg [⟨Sa 55,.bin .add (.t 40) (.c (.i .i64 1)),Sb⟩,⟨Sa 40,.mv (.t 55),Sb⟩]))))))) (.seq (.seq (.reg [⟨Sa 56,.fad 2 (.t 2),Sb⟩,⟨Sa 57,.load1 (.t 56),Sb⟩,⟨Sa 58,.lenr (.t 57),Sb⟩,⟨Sa 59,.mv (.c (.i .i64 0)),Sb⟩]) (.blk 2 (.loop (.seq (.reg [⟨Sa 60,.bin .lss (.t 59) (.t 58),Sb⟩]) (.seq (.cond (.t 60) (.skip) (.exit 2)) (.seq (.blk 3 (.seq (.reg [⟨Sa 61,.mv (.t 59),Sb⟩,⟨Sa 6,.mv (.t 61),Sb⟩]) (.seq (.drw [⟨Sa 62,.fad 2 (.t 2),Sb⟩,⟨Sa 63,.load1 (.t 62),Sb⟩,⟨Sa 64,.mv (.t 6),Sb⟩,⟨Sa 65,.iad 1 (.t 63) (.t 64),Sb⟩,⟨Sa 66,.load1 (.t 65),Sb⟩,⟨Sa 67,.fad 2 (.t 3),Sb⟩,⟨Sa 68,.load1 (.t 67),Sb⟩,⟨Sa 69,.mv (.t 6),Sb⟩,⟨Sa 70,.iad 1 (.t 68) (.t 69),Sb⟩,⟨Sa 71,.load1 (.t 70),Sb⟩,⟨Sa 72,.bin .neq (.t 66) (.t 71),Sb⟩] 11 []) (.cond (.t 72) (.seq (.reg [⟨Sa 4,.mv (.c (.b false)),Sb⟩]) (.ret)) (.skip))))) (.reg [⟨Sa 73,.bin .add (.t 59) (.c (.i .i64 1)),Sb⟩,⟨Sa 59,.mv (.t 73),Sb⟩]))))))) (.seq (.reg [⟨Sa 4,.mv (.c (.b true)),Sb⟩]) (.ret)))))
theorem is_ref14_Same:FnIs Tryz.prog 15 74 [.tmp 4] c_ref14_Same:=⟨⟨_,_,Tryz.func15,rfl,rfl,by kernel_rfl,by kernel_rfl⟩⟩
def c_law17_kept:SCode :=.seq (.reg [⟨Sa 1,.box 34 (.t 0),Sb⟩,⟨Sa 2,.mv (.c (.b false)),Sb⟩]) (.seq (.reg [⟨Sa 3,.fad 0 (.t 1),Sb⟩,⟨Sa 4,.load1 (.t 3),Sb⟩,⟨Sa 5,.lens (.t 4),Sb⟩,⟨Sa 6,.bin .leq (.t 5) (.c (.i .i64 300)),Sb⟩,⟨Sa 7,.mv (.t 6),Sb⟩,⟨Sa 8,.fad 1 (.t 1),some (7,true)⟩,⟨Sa 9,.load1 (.t 8),some (7,true)⟩,⟨Sa 10,.call 45 [.t 9,.c (.i .i64 70),.c (.i .i64 300)],some (7,true)⟩,⟨Sa 11,.pick (.t 7) (.t 10) (.c (.b false)),Sb⟩,⟨Sa 12,.mv (.t 11),Sb⟩,⟨Sa 13,.fad 2 (.t 1),some (12,true)⟩,⟨Sa 14,.load1 (.t 13),some (12,true)⟩,⟨Sa 15,.call 45 [.t 14,.c (.i .i64 70),.c (.i .i64 300)],some (12,true)⟩,⟨Sa 16,.pick (.t 12) (.t 15) (.c (.b false)),Sb⟩,⟨Sa 17,.mv (.t 16),Sb⟩,⟨Sa 18,.fad 3 (.t 1),some (17,true)⟩,⟨Sa 19,.load1 (.t 18),some (17,true)⟩,⟨Sa 20,.lenr (.t 19),some (17,true)⟩,⟨Sa 21,.bin .leq (.t 20) (.c (.i .i64 70)),some (17,true)⟩,⟨Sa 22,.pick (.t 17) (.t 21) (.c (.b false)),Sb⟩,⟨Sa 23,.mv (.t 22),Sb⟩,⟨Sa 24,.fad 4 (.t 1),some (23,true)⟩,⟨Sa 25,.load1 (.t 24),some (23,true)⟩,⟨Sa 26,.lenr (.t 25),some (23,true)⟩,⟨Sa 27,.bin .leq (.t 26) (.c (.i .i64 70)),some (23,true)⟩,⟨Sa 28,.pick (.t 23) (.t 27) (.c (.b false)),Sb⟩,⟨Sa 2,.mv (.t 28),Sb⟩]) (.ret))
theorem is_law17_kept:FnIs Tryz.prog 16 29 [.tmp 2] c_law17_kept:=⟨⟨_,_,Tryz.func16,rfl,rfl,by kernel_rfl,by kernel_rfl⟩⟩
def c_diddoc_Encode:SCode :=.seq (.reg [⟨Sa 1,.box 34 (.t 0),Sb⟩,⟨Sa 2,.alloc 25 [.i .i64 0,.s [],.nil,.nil],Sb⟩]) (.seq (.reg [⟨Sa 3,.alloc 93 [.nil,.nil],Sb⟩]) (.seq (.reg [⟨Sa 9,.fad 0 (.t 1),Sb⟩,⟨Sa 10,.load1 (.t 9),Sb⟩,⟨Sa 11,.call 47 [.t 10],Sb⟩,⟨Sa 12,.call 46 [.t 3,.c (.s [105,100]),.t 11],Sb⟩]) (.seq (.reg [⟨Sa 13,.fad 1 (.t 1),Sb⟩,⟨Sa 14,.load1 (.t 13),Sb⟩,⟨Sa 15,.call 49 [.t 14],Sb⟩,⟨Sa 16,.call 48 [.t 3,.c (.s [97,108,115,111,75,110,111,119,110,65,115]),.t 15],Sb⟩]) (.seq (.reg [⟨Sa 17,.fad 2 (.t 1),Sb⟩,⟨Sa 18,.load1 (.t 17),Sb⟩,⟨Sa 19,.call 49 [.t 18],Sb⟩,⟨Sa 20,.call 48 [.t 3,.c (.s [99,111,110,116,114,111,108,108,101,114]),.t 19],Sb⟩]) (.seq (.reg [⟨Sa 4,.mv (.c .nil),Sb⟩]) (.seq (.seq (.reg [⟨Sa 21,.fad 3 (.t 1),Sb⟩,⟨Sa 22,.load1 (.t 21),Sb⟩,⟨Sa 23,.lenr (.t 22),Sb⟩,⟨Sa 24,.mv (.c (.i .i64 0)),Sb⟩]) (.blk 0 (.loop (.seq (.reg [⟨Sa 25,.bin .lss (.t 24) (.t 23),Sb⟩]) (.seq (.cond (.t 25) (.skip) (.exit 0)) (.seq (.blk 1 (.seq (.reg [⟨Sa 26,.iad 3 (.t 22) (.t 24),Sb⟩,⟨Sa 27,.loadn 3 (.t 26),Sb⟩,⟨Sa 6,.alloc 48 [.s [],.s [],.s []],Sb⟩,⟨Sb,.store 3 (.t 6) (.t 27),Sb⟩]) (.reg [⟨Sa 28,.mv (.t 4),Sb⟩,⟨Sa 29,.loadn 3 (.t 6),Sb⟩,⟨Sa 30,.call 50 [.t 29],Sb⟩,⟨Sa 31,.bslice 1 [.i .i64 0,.s [],.nil,.nil] [(0,(4,.t 30))],Sb⟩,⟨Sa 32,.app 25 4 72 (.t 28) (.t 31),Sb⟩,⟨Sa 4,.mv (.t 32),Sb⟩]))) (.reg [⟨Sa 33,.bin .add (.t 24) (.c (.i .i64 1)),Sb⟩,⟨Sa 24,.mv (.t 33),Sb⟩]))))))) (.seq (.reg [⟨Sa 34,.mv (.t 4),Sb⟩,⟨Sa 35,.call 51 [.t 34],Sb⟩,⟨Sa 36,.call 48 [.t 3,.c (.s [118,101,114,105,102,105,99,97,116,105,111,110,77,101,116,104,111,100]),.t 35],Sb⟩]) (.seq (.reg [⟨Sa 4,.mv (.c .nil),Sb⟩]) (.seq (.seq (.reg [⟨Sa 37,.fad 4 (.t 1),Sb⟩,⟨Sa 38,.load1 (.t 37),Sb⟩,⟨Sa 39,.lenr (.t 38),Sb⟩,⟨Sa 40,.mv (.c (.i .i64 0)),Sb⟩]) (.blk 2 (.loop (.seq (.reg [⟨Sa 41,.bin .lss (.t 40) (.t 39),Sb⟩]) (.seq (.cond (.t 41) (.skip) (.exit 2)) (.seq (.blk 3 (.seq (.reg [⟨Sa 42,.iad 3 (.t 38) (.t 40),Sb⟩,⟨Sa 43,.loadn 3 (.t 42),Sb⟩,⟨Sa 8,.alloc 46 [.s [],.nil,.nil],Sb⟩,⟨Sb,.store 3 (.t 8) (.t 43),Sb⟩]) (.reg [⟨Sa 44,.mv (.t 4),Sb⟩,⟨Sa 45,.loadn 3 (.t 8),Sb⟩,⟨Sa 46,.call 52 [.t 45],Sb⟩,⟨Sa 47,.bslice 1 [.i .i64 0,.s [],.nil,.nil] [(0,(4,.t 46))],Sb⟩,⟨Sa 48,.app 25 4 72 (.t 44) (.t 47),Sb⟩,⟨Sa 4,.mv (.t 48),Sb⟩]))) (.reg [⟨Sa 49,.bin .add (.t 40) (.c (.i .i64 1)),Sb⟩,⟨Sa 40,.mv (.t 49),Sb⟩]))))))) (.seq (.reg [⟨Sa 50,.mv (.t 4),Sb⟩,⟨Sa 51,.call 51 [.t 50],Sb⟩,⟨Sa 52,.call 48 [.t 3,.c (.s [115,101,114,118,105,99,101]),.t 51],Sb⟩]) (.seq (.reg [⟨Sa 53,.call 53 [.t 3],Sb⟩,⟨Sb,.store 4 (.t 2) (.t 53),Sb⟩]) (.ret))))))))))))
theorem is_diddoc_Encode:FnIs Tryz.prog 17 54 [.celln 2 4] c_diddoc_Encode:=⟨⟨_,_,Tryz.func17,rfl,rfl,by kernel_rfl,by kernel_rfl⟩⟩
def c_ref17_Encode:SCode :=.seq (.reg [⟨Sa 1,.box 34 (.t 0),Sb⟩,⟨Sa 2,.alloc 25 [.i .i64 0,.s [],.nil,.nil],Sb⟩]) (.seq (.drw [⟨Sa 9,.pcall 55 [],Sb⟩,⟨Sa 10,.fad 0 (.t 1),Sb⟩,⟨Sa 11,.load1 (.t 10),Sb⟩,⟨Sa 12,.pcall 56 [.t 11],Sb⟩,⟨Sa 13,.pcall 54 [.t 9,.c (.s [105,100]),.t 12],Sb⟩,⟨Sa 3,.alloc 25 [.i .i64 0,.s [],.nil,.nil],Sb⟩,⟨Sb,.store 4 (.t 3) (.t 13),Sb⟩] 7 [(10,(3,none))]) (.seq (.seq (.reg [⟨Sa 14,.fad 1 (.t 1),Sb⟩,⟨Sa 15,.load1 (.t 14),Sb⟩,⟨Sa 16,.lenr (.t 15),Sb⟩,⟨Sa 17,.bin .gtr (.t 16) (.c (.i .i64 0)),Sb⟩]) (.cond (.t 17) (.drw [⟨Sa 18,.loadn 4 (.t 3),Sb⟩,⟨Sa 19,.fad 1 (.t 1),Sb⟩,⟨Sa 20,.load1 (.t 19),Sb⟩,⟨Sa 21,.call 57 [.t 20],Sb⟩,⟨Sa 22,.call 54 [.t 18,.c (.s [97,108,115,111,75,110,111,119,110,65,115]),.t 21],Sb⟩,⟨Sb,.store 4 (.t 3) (.t 22),Sb⟩] 5 []) (.skip))) (.seq (.seq (.reg [⟨Sa 23,.fad 2 (.t 1),Sb⟩,⟨Sa 24,.load1 (.t 23),Sb⟩,⟨Sa 25,.lenr (.t 24),Sb⟩,⟨Sa 26,.bin .gtr (.t 25) (.c (.i .i64 0)),Sb⟩]) (.cond (.t 26) (.drw [⟨Sa 27,.loadn 4 (.t 3),Sb⟩,⟨Sa 28,.fad 2 (.t 1),Sb⟩,⟨Sa 29,.load1 (.t 28),Sb⟩,⟨Sa 30,.call 57 [.t 29],Sb⟩,⟨Sa 31,.call 54 [.t 27,.c (.s [99,111,110,116,114,111,108,108,101,114]),.t 30],Sb⟩,⟨Sb,.store 4 (.t 3) (.t 31),Sb⟩] 5 []) (.skip))) (.seq (.reg [⟨Sa 32,.build [.i .i64 0,.s [],.nil,.nil] [(0,(1,.c (.i .i64 6)))],Sb⟩,⟨Sa 4,.alloc 25 [.i .i64 0,.s [],.nil,.nil],Sb⟩,⟨Sb,.store 4 (.t 4) (.t 32),Sb⟩]) (.seq (.seq (.reg [⟨Sa 33,.fad 3 (.t 1),Sb⟩,⟨Sa 34,.load1 (.t 33),Sb⟩,⟨Sa 35,.lenr (.t 34),Sb⟩,⟨Sa 36,.mv (.c (.i .i64 0)),Sb⟩]) (.blk 0 (.loop (.seq (.reg [⟨Sa 37,.bin .lss (.t 36) (.t 35),Sb⟩]) (.seq (.cond (.t 37) (.skip) (.exit 0)) (.seq (.blk 1 (.seq (.reg [⟨Sa 38,.iad 3 (.t 34) (.t 36),Sb⟩,⟨Sa 39,.loadn 3 (.t 38),Sb⟩,⟨Sa 6,.alloc 48 [.s [],.s [],.s []],Sb⟩,⟨Sb,.store 3 (.t 6) (.t 39),Sb⟩]) (.drw [⟨Sa 40,.fad 3 (.t 4),Sb⟩,⟨Sa 41,.load1 (.t 40),Sb⟩,⟨Sa 42,.call 55 [],Sb⟩,⟨Sa 43,.fad 0 (.t 6),Sb⟩,⟨Sa 44,.load1 (.t 43),Sb⟩,⟨Sa 45,.call 56 [.t 44],Sb⟩,⟨Sa 46,.call 54 [.t 42,.c (.s [105,100]),.t 45],Sb⟩,⟨Sa 47,.fad 1 (.t 6),Sb⟩,⟨Sa 48,.load1 (.t 47),Sb⟩,⟨Sa 49,.call 56 [.t 48],Sb⟩,⟨Sa 50,.call 54 [.t 46,.c (.s [116,121,112,101]),.t 49],Sb⟩,⟨Sa 51,.fad 2 (.t 6),Sb⟩,⟨Sa 52,.load1 (.t 51),Sb⟩,⟨Sa 53,.call 56 [.t 52],Sb⟩,⟨Sa 54,.call 54 [.t 50,.c (.s [99,111,110,116,114,111,108,108,101,114]),.t 53],Sb⟩,⟨Sa 55,.bslice 1 [.i .i64 0,.s [],.nil,.nil] [(0,(4,.t 54))],Sb⟩,⟨Sa 56,.app 25 4 72 (.t 41) (.t 55),Sb⟩,⟨Sa 57,.fad 3 (.t 4),Sb⟩,⟨Sb,.store 1 (.t 57) (.t 56),Sb⟩] 16 []))) (.reg [⟨Sa 58,.bin .add (.t 36) (.c (.i .i64 1)),Sb⟩,⟨Sa 36,.mv (.t 58),Sb⟩]))))))) (.seq (.seq (.reg [⟨Sa 59,.fad 3 (.t 4),Sb⟩,⟨Sa 60,.load1 (.t 59),Sb⟩,⟨Sa 61,.lenr (.t 60),Sb⟩,⟨Sa 62,.bin .gtr (.t 61) (.c (.i .i64 0)),Sb⟩]) (.cond (.t 62) (.reg [⟨Sa 63,.loadn 4 (.t 3),Sb⟩,⟨Sa 64,.loadn 4 (.t 4),Sb⟩,⟨Sa 65,.call 54 [.t 63,.c (.s [118,101,114,105,102,105,99,97,116,105,111,110,77,101,116,104,111,100]),.t 64],Sb⟩,⟨Sb,.store 4 (.t 3) (.t 65),Sb⟩]) (.skip))) (.seq (.reg [⟨Sa 66,.build [.i .i64 0,.s [],.nil,.nil] [(0,(1,.c (.i .i64 6)))],Sb⟩,⟨Sb,.store 4 (.t 4) (.t 66),Sb⟩]) (.seq (.seq (.reg [⟨Sa 67,.fad 4 (.t 1),Sb⟩,⟨Sa 68,.load1 (.t 67),Sb⟩,⟨Sa 69,.lenr (.t 68),Sb⟩,⟨Sa 70,.mv (.c (.i .i64 0)),Sb⟩]) (.blk 2 (.loop (.seq (.reg [⟨Sa 71,.bin .lss (.t 70) (.t 69),Sb⟩]) (.seq (.cond (.t 71) (.skip) (.exit 2)) (.seq (.blk 3 (.seq (.reg [⟨Sa 72,.iad 3 (.t 68) (.t 70),Sb⟩,⟨Sa 73,.loadn 3 (.t 72),Sb⟩,⟨Sa 8,.alloc 46 [.s [],.nil,.nil],Sb⟩,⟨Sb,.store 3 (.t 8) (.t 73),Sb⟩]) (.drw [⟨Sa 74,.fad 3 (.t 4),Sb⟩,⟨Sa 75,.load1 (.t 74),Sb⟩,⟨Sa 76,.call 55 [],Sb⟩,⟨Sa 77,.fad 0 (.t 8),Sb⟩,⟨Sa 78,.load1 (.t 77),Sb⟩,⟨Sa 79,.call 56 [.t 78],Sb⟩,⟨Sa 80,.call 54 [.t 76,.c (.s [105,100]),.t 79],Sb⟩,⟨Sa 81,.fad 1 (.t 8),Sb⟩,⟨Sa 82,.load1 (.t 81),Sb⟩,⟨Sa 83,.call 57 [.t 82],Sb⟩,⟨Sa 84,.call 54 [.t 80,.c (.s [116,121,112,101]),.t 83],Sb⟩,⟨Sa 85,.fad 2 (.t 8),Sb⟩,⟨Sa 86,.load1 (.t 85),Sb⟩,⟨Sa 87,.call 57 [.t 86],Sb⟩,⟨Sa 88,.call 54 [.t 84,.c (.s [115,101,114,118,105,99,101,69,110,100,112,111,105,110,116]),.t 87],Sb⟩,⟨Sa 89,.bslice 1 [.i .i64 0,.s [],.nil,.nil] [(0,(4,.t 88))],Sb⟩,⟨Sa 90,.app 25 4 72 (.t 75) (.t 89),Sb⟩,⟨Sa 91,.fad 3 (.t 4),Sb⟩,⟨Sb,.store 1 (.t 91) (.t 90),Sb⟩] 16 []))) (.reg [⟨Sa 92,.bin .add (.t 70) (.c (.i .i64 1)),Sb⟩,⟨Sa 70,.mv (.t 92),Sb⟩]))))))) (.seq (.seq (.reg [⟨Sa 93,.fad 3 (.t 4),Sb⟩,⟨Sa 94,.load1 (.t 93),Sb⟩,⟨Sa 95,.lenr (.t 94),Sb⟩,⟨Sa 96,.bin .gtr (.t 95) (.c (.i .i64 0)),Sb⟩]) (.cond (.t 96) (.reg [⟨Sa 97,.loadn 4 (.t 3),Sb⟩,⟨Sa 98,.loadn 4 (.t 4),Sb⟩,⟨Sa 99,.call 54 [.t 97,.c (.s [115,101,114,118,105,99,101]),.t 98],Sb⟩,⟨Sb,.store 4 (.t 3) (.t 99),Sb⟩]) (.skip))) (.seq (.reg [⟨Sa 100,.loadn 4 (.t 3),Sb⟩,⟨Sb,.store 4 (.t 2) (.t 100),Sb⟩]) (.ret)))))))))))
theorem is_ref17_Encode:FnIs Tryz.prog 18 101 [.celln 2 4] c_ref17_Encode:=⟨⟨_,_,Tryz.func18,rfl,rfl,by kernel_rfl,by kernel_rfl⟩⟩
def c_ref14_parser_value:SCode :=.seq (.reg [⟨Sa 4,.box 56 (.t 1),Sb⟩,⟨Sa 6,.alloc 25 [.i .i64 0,.s [],.nil,.nil],Sb⟩]) (.seq (.reg [⟨Sa 11,.fad 0 (.t 4),Sb⟩,⟨Sa 12,.load1 (.t 11),Sb⟩,⟨Sa 13,.bin .eql (.t 12) (.c (.i .i64 3)),Sb⟩,⟨Sa 14,.mv (.t 13),Sb⟩,⟨Sa 15,.fad 0 (.t 4),some (14,false)⟩,⟨Sa 16,.load1 (.t 15),some (14,false)⟩,⟨Sa 17,.bin .eql (.t 16) (.c (.i .i64 4)),some (14,false)⟩,⟨Sa 18,.pick (.t 14) (.c (.b true)) (.t 17),Sb⟩,⟨Sa 19,.mv (.t 18),Sb⟩,⟨Sa 20,.fad 0 (.t 4),some (19,false)⟩,⟨Sa 21,.load1 (.t 20),some (19,false)⟩,⟨Sa 22,.bin .eql (.t 21) (.c (.i .i64 5)),some (19,false)⟩,⟨Sa 23,.pick (.t 19) (.c (.b true)) (.t 22),Sb⟩,⟨Sa 24,.mv (.t 23),Sb⟩,⟨Sa 25,.loadn 3 (.t 4),some (24,false)⟩,⟨Sa 26,.call 58 [.t 25,.c (.s [91])],some (24,false)⟩,⟨Sa 27,.pick (.t 24) (.c (.b true)) (.t 26),Sb⟩,⟨Sa 28,.mv (.t 27),Sb⟩,⟨Sa 29,.loadn 3 (.t 4),some (28,false)⟩,⟨Sa 30,.call 58 [.t 29,.c (.s [123])],some (28,false)⟩,⟨Sa 31,.pick (.t 28) (.c (.b true)) (.t 30),Sb⟩,⟨Sa 7,.mv (.t 31),Sb⟩]) (.seq (.seq (.reg [⟨Sa 32,.mv (.t 0),Sb⟩,⟨Sa 33,.nck (.t 32),Sb⟩,⟨Sa 34,.fad 3 (.t 33),Sb⟩,⟨Sa 35,.load1 (.t 34),Sb⟩,⟨Sa 36,.bin .neq (.t 35) (.c (.i .i64 0)),Sb⟩]) (.cond (.t 36) (.seq (.reg [⟨Sa 37,.build [.i .i64 0,.s [],.nil,.nil] [],Sb⟩,⟨Sb,.store 4 (.t 6) (.t 37),Sb⟩]) (.ret)) (.skip))) (.seq (.seq (.reg [⟨Sa 38,.mv (.t 7),Sb⟩,⟨Sa 39,.not (.t 38),Sb⟩]) (.cond (.t 39) (.seq (.reg [⟨Sa 40,.mv (.t 0),Sb⟩,⟨Sa 41,.fad 2 (.t 4),Sb⟩,⟨Sa 42,.load1 (.t 41),Sb⟩,⟨Sa 43,.call 22 [.t 40,.t 42,.c (.i .i64 140)],Sb⟩]) (.seq (.reg [⟨Sa 44,.build [.i .i64 0,.s [],.nil,.nil] [],Sb⟩,⟨Sb,.store 4 (.t 6) (.t 44),Sb⟩]) (.ret))) (.skip))) (.seq (.seq (.reg [⟨Sa 45,.fad 0 (.t 4),Sb⟩,⟨Sa 46,.load1 (.t 45),Sb⟩,⟨Sa 47,.bin .eql (.t 46) (.c (.i .i64 2)),Sb⟩,⟨Sa 48,.mv (.t 47),Sb⟩,⟨Sa 49,.mv (.t 2),some (48,true)⟩,⟨Sa 50,.bin .eql (.t 49) (.c (.i .i64 64)),some (48,true)⟩,⟨Sa 51,.pick (.t 48) (.t 50) (.c (.b false)),Sb⟩]) (.cond (.t 51) (.seq (.reg [⟨Sa 52,.mv (.t 0),Sb⟩,⟨Sa 53,.fad 2 (.t 4),Sb⟩,⟨Sa 54,.load1 (.t 53),Sb⟩,⟨Sa 55,.call 22 [.t 52,.t 54,.c (.i .i64 141)],Sb⟩]) (.seq (.reg [⟨Sa 56,.build [.i .i64 0,.s [],.nil,.nil] [],Sb⟩,⟨Sb,.store 4 (.t 6) (.t 56),Sb⟩]) (.ret))) (.skip))) (.seq (.reg [⟨Sa 57,.fad 1 (.t 4),Sb⟩,⟨Sa 58,.load1 (.t 57),Sb⟩,⟨Sa 59,.build [.i .i64 0,.s [],.nil,.nil] [(0,(1,.c (.i .i64 5))),(1,(1,.t 58))],Sb⟩,⟨Sa 8,.alloc 25 [.i .i64 0,.s [],.nil,.nil],Sb⟩,⟨Sb,.store 4 (.t 8) (.t 59),Sb⟩]) (.seq (.seq (.reg [⟨Sa 60,.fad 0 (.t 4),Sb⟩,⟨Sa 61,.load1 (.t 60),Sb⟩,⟨Sa 62,.bin .eql (.t 61) (.c (.i .i64 4)),Sb⟩]) (.cond (.t 62) (.seq (.reg [⟨Sa 64,.fad 1 (.t 4),Sb⟩,⟨Sa 65,.load1 (.t 64),Sb⟩,⟨Sa 66,.call 59 [.t 65],Sb⟩,⟨Sa 63,.mv (.t 66),Sb⟩,⟨Sa 67,.ext (.t 63) 0,Sb⟩,⟨Sa 68,.ext (.t 63) 1,Sb⟩,⟨Sa 9,.mv (.t 67),Sb⟩,⟨Sa 10,.mv (.t 68),Sb⟩]) (.seq (.seq (.reg [⟨Sa 69,.mv (.t 10),Sb⟩,⟨Sa 70,.bin .neq (.t 69) (.c (.i .i64 0)),Sb⟩]) (.cond (.t 70) (.reg [⟨Sa 71,.mv (.t 0),Sb⟩,⟨Sa 72,.fad 2 (.t 4),Sb⟩,⟨Sa 73,.load1 (.t 72),Sb⟩,⟨Sa 74,.mv (.t 10),Sb⟩,⟨Sa 75,.call 22 [.t 71,.t 73,.t 74],Sb⟩]) (.skip))) (.reg [⟨Sa 76,.mv (.t 9),Sb⟩,⟨Sa 77,.build [.i .i64 0,.s [],.nil,.nil] [(0,(1,.c (.i .i64 4))),(1,(1,.t 76))],Sb⟩,⟨Sb,.store 4 (.t 8) (.t 77),Sb⟩]))) (.skip))) (.seq (.seq (.reg [⟨Sa 78,.mv (.t 0),Sb⟩,⟨Sa 79,.nck (.t 78),Sb⟩,⟨Sa 80,.fad 2 (.t 79),Sb⟩,⟨Sa 81,.load1 (.t 80),Sb⟩,⟨Sa 82,.bin .add (.t 81) (.c (.i .i64 1)),Sb⟩,⟨Sa 83,.nck (.t 78),Sb⟩,⟨Sa 84,.fad 2 (.t 83),Sb⟩,⟨Sb,.store 1 (.t 84) (.t 82),Sb⟩]) (.seq (.reg [⟨Sa 85,.mv (.t 0),Sb⟩,⟨Sa 86,.nck (.t 85),Sb⟩,⟨Sa 87,.fad 2 (.t 86),Sb⟩,⟨Sa 88,.load1 (.t 87),Sb⟩,⟨Sa 89,.bin .gtr (.t 88) (.c (.i .i64 20000)),Sb⟩]) (.cond (.t 89) (.reg [⟨Sa 90,.mv (.t 0),Sb⟩,⟨Sa 91,.fad 2 (.t 4),Sb⟩,⟨Sa 92,.load1 (.t 91),Sb⟩,⟨Sa 93,.call 22 [.t 90,.t 92,.c (.i .i64 142)],Sb⟩]) (.skip)))) (.seq (.blk 0 (.seq (.reg [⟨Sa 95,.fad 0 (.t 4),Sb⟩,⟨Sa 96,.load1 (.t 95),Sb⟩,⟨Sa 97,.bin .eql (.t 96) (.c (.i .i64 5)),Sb⟩,⟨Sa 94,.mv (.t 97),Sb⟩]) (.cond (.t 94) (.seq (.reg [⟨Sa 98,.fad 1 (.t 4),Sb⟩,⟨Sa 99,.load1 (.t 98),Sb⟩,⟨Sa 100,.call 60 [.t 99],Sb⟩,⟨Sa 101,.build [.i .i64 0,.s [],.nil,.nil] [(0,(1,.t 100))],Sb⟩,⟨Sb,.store 4 (.t 6) (.t 101),Sb⟩]) (.ret)) (.seq (.reg [⟨Sa 103,.loadn 3 (.t 4),Sb⟩,⟨Sa 104,.call 58 [.t 103,.c (.s [91])],Sb⟩,⟨Sa 102,.mv (.t 104),Sb⟩]) (.cond (.t 102) (.seq (.reg [⟨Sa 105,.mv (.t 0),Sb⟩,⟨Sa 106,.mv (.t 2),Sb⟩,⟨Sa 107,.bin .add (.t 106) (.c (.i .i64 1)),Sb⟩,⟨Sa 108,.call 61 [.t 105,.t 107],Sb⟩,⟨Sb,.store 4 (.t 6) (.t 108),Sb⟩]) (.ret)) (.seq (.reg [⟨Sa 110,.loadn 3 (.t 4),Sb⟩,⟨Sa 111,.call 58 [.t 110,.c (.s [123])],Sb⟩,⟨Sa 109,.mv (.t 111),Sb⟩]) (.cond (.t 109) (.seq (.reg [⟨Sa 112,.mv (.t 0),Sb⟩,⟨Sa 113,.mv (.t 2),Sb⟩,⟨Sa 114,.bin .add (.t 113) (.c (.i .i64 1)),Sb⟩,⟨Sa 115,.call 62 [.t 112,.t 114],Sb⟩,⟨Sb,.store 4 (.t 6) (.t 115),Sb⟩]) (.ret)) (.skip)))))))) (.seq (.reg [⟨Sa 116,.loadn 4 (.t 8),Sb⟩,⟨Sb,.store 4 (.t 6) (.t 116),Sb⟩]) (.ret))))))))))
theorem is_ref14_parser_value:FnIs Tryz.prog 20 117 [.celln 6 4] c_ref14_parser_value:=⟨⟨_,_,Tryz.func20,rfl,rfl,by kernel_rfl,by kernel_rfl⟩⟩
def c_ref14_parser_next:SCode :=.seq (.reg [⟨Sa 2,.alloc 56 [.i .i64 0,.s [],.i .i64 0],Sb⟩]) (.seq (.seq (.reg [⟨Sa 6,.mv (.t 0),Sb⟩,⟨Sa 7,.nck (.t 6),Sb⟩,⟨Sa 8,.fad 3 (.t 7),Sb⟩,⟨Sa 9,.load1 (.t 8),Sb⟩,⟨Sa 10,.bin .neq (.t 9) (.c (.i .i64 0)),Sb⟩]) (.cond (.t 10) (.seq (.reg [⟨Sa 11,.build [.i .i64 0,.s [],.i .i64 0] [],Sb⟩,⟨Sb,.store 3 (.t 2) (.t 11),Sb⟩]) (.ret)) (.skip))) (.seq (.drw [⟨Sa 13,.mv (.t 0),Sb⟩,⟨Sa 14,.nck (.t 13),Sb⟩,⟨Sa 15,.fad 0 (.t 14),Sb⟩,⟨Sa 16,.load1 (.t 15),Sb⟩,⟨Sa 17,.mv (.t 0),Sb⟩,⟨Sa 18,.nck (.t 17),Sb⟩,⟨Sa 19,.fad 1 (.t 18),Sb⟩,⟨Sa 20,.load1 (.t 19),Sb⟩,⟨Sa 21,.pcall 63 [.t 16,.t 20],Sb⟩,⟨Sa 12,.mv (.t 21),Sb⟩,⟨Sa 22,.ext (.t 12) 0,Sb⟩,⟨Sa 23,.ext (.t 12) 1,Sb⟩,⟨Sa 24,.ext (.t 12) 2,Sb⟩,⟨Sa 3,.alloc 56 [.i .i64 0,.s [],.i .i64 0],Sb⟩,⟨Sb,.store 3 (.t 3) (.t 22),Sb⟩,⟨Sa 4,.mv (.t 23),Sb⟩,⟨Sa 5,.mv (.t 24),Sb⟩] 17 [(15,(3,none)),(19,(3,none))]) (.seq (.seq (.reg [⟨Sa 25,.mv (.t 5),Sb⟩,⟨Sa 26,.bin .neq (.t 25) (.c (.i .i64 0)),Sb⟩]) (.cond (.t 26) (.seq (.reg [⟨Sa 27,.mv (.t 0),Sb⟩,⟨Sa 28,.mv (.t 0),Sb⟩,⟨Sa 29,.nck (.t 28),Sb⟩,⟨Sa 30,.fad 1 (.t 29),Sb⟩,⟨Sa 31,.load1 (.t 30),Sb⟩,⟨Sa 32,.mv (.t 5),Sb⟩,⟨Sa 33,.call 22 [.t 27,.t 31,.t 32],Sb⟩]) (.seq (.reg [⟨Sa 34,.build [.i .i64 0,.s [],.i .i64 0] [],Sb⟩,⟨Sb,.store 3 (.t 2) (.t 34),Sb⟩]) (.ret))) (.skip))) (.seq (.reg [⟨Sa 35,.mv (.t 0),Sb⟩,⟨Sa 36,.mv (.t 4),Sb⟩,⟨Sa 37,.nck (.t 35),Sb⟩,⟨Sa 38,.fad 1 (.t 37),Sb⟩,⟨Sb,.store 1 (.t 38) (.t 36),Sb⟩]) (.seq (.reg [⟨Sa 39,.loadn 3 (.t 3),Sb⟩,⟨Sb,.store 3 (.t 2) (.t 39),Sb⟩]) (.ret))))))
theorem is_ref14_parser_next:FnIs Tryz.prog 21 40 [.celln 2 3] c_ref14_parser_next:=⟨⟨_,_,Tryz.func21,rfl,rfl,by kernel_rfl,by kernel_rfl⟩⟩
def c_ref14_parser_stop:SCode :=.seq (.reg [⟨Sa 6,.mv (.t 0),Sb⟩,⟨Sa 7,.nck (.t 6),Sb⟩,⟨Sa 8,.fad 3 (.t 7),Sb⟩,⟨Sa 9,.load1 (.t 8),Sb⟩,⟨Sa 10,.bin .eql (.t 9) (.c (.i .i64 0)),Sb⟩]) (.cond (.t 10) (.reg [⟨Sa 11,.mv (.t 0),Sb⟩,⟨Sa 12,.mv (.t 0),Sb⟩,⟨Sa 13,.mv (.t 2),Sb⟩,⟨Sa 14,.mv (.t 1),Sb⟩,⟨Sa 15,.nck (.t 11),Sb⟩,⟨Sa 16,.fad 3 (.t 15),Sb⟩,⟨Sb,.store 1 (.t 16) (.t 13),Sb⟩,⟨Sa 17,.nck (.t 12),Sb⟩,⟨Sa 18,.fad 4 (.t 17),Sb⟩,⟨Sb,.store 1 (.t 18) (.t 14),Sb⟩]) (.skip))
theorem is_ref14_parser_stop:FnIs Tryz.prog 22 19 [] c_ref14_parser_stop:=⟨⟨_,_,Tryz.func22,rfl,rfl,by kernel_rfl,by kernel_rfl⟩⟩
def c_diddoc_membersOf:SCode :=.seq (.reg [⟨Sa 1,.box 25 (.t 0),Sb⟩,⟨Sa 2,.mv (.c (.o .nilFunc)),Sb⟩]) (.seq (.reg [⟨Sa 3,.mkf 64 [] [.t 1],Sb⟩,⟨Sa 2,.mv (.t 3),Sb⟩]) (.ret))
theorem is_diddoc_membersOf:FnIs Tryz.prog 23 4 [.tmp 2] c_diddoc_membersOf:=⟨⟨_,_,Tryz.func23,rfl,rfl,by kernel_rfl,by kernel_rfl⟩⟩
def c_diddoc_subject:SCode :=.seq (.reg [⟨Sa 1,.box 25 (.t 0),Sb⟩,⟨Sa 2,.alloc 62 [.s [],.s []],Sb⟩,⟨Sa 3,.mv (.c (.i .i64 0)),Sb⟩]) (.seq (.reg [⟨Sa 9,.loadn 4 (.t 1),Sb⟩,⟨Sa 10,.call 65 [.t 9,.c (.s [105,100])],Sb⟩,⟨Sa 8,.mv (.t 10),Sb⟩,⟨Sa 11,.ext (.t 8) 0,Sb⟩,⟨Sa 12,.ext (.t 8) 1,Sb⟩,⟨Sa 4,.mv (.t 11),Sb⟩,⟨Sa 5,.mv (.t 12),Sb⟩]) (.seq (.seq (.reg [⟨Sa 13,.mv (.t 5),Sb⟩,⟨Sa 14,.not (.t 13),Sb⟩]) (.cond (.t 14) (.seq (.reg [⟨Sa 15,.build [.s [],.s []] [],Sb⟩,⟨Sb,.store 2 (.t 2) (.t 15),Sb⟩,⟨Sa 3,.mv (.c (.i .i64 160)),Sb⟩]) (.ret)) (.skip))) (.seq (.reg [⟨Sa 17,.mv (.t 4),Sb⟩,⟨Sa 18,.call 66 [.t 17],Sb⟩,⟨Sa 16,.mv (.t 18),Sb⟩,⟨Sa 19,.ext (.t 16) 0,Sb⟩,⟨Sa 20,.ext (.t 16) 1,Sb⟩,⟨Sa 6,.alloc 62 [.s [],.s []],Sb⟩,⟨Sb,.store 2 (.t 6) (.t 19),Sb⟩,⟨Sa 7,.mv (.t 20),Sb⟩]) (.seq (.seq (.reg [⟨Sa 21,.mv (.t 7),Sb⟩,⟨Sa 22,.bin .neq (.t 21) (.c (.i .i64 0)),Sb⟩]) (.cond (.t 22) (.seq (.reg [⟨Sa 23,.build [.s [],.s []] [],Sb⟩,⟨Sb,.store 2 (.t 2) (.t 23),Sb⟩,⟨Sa 3,.mv (.c (.i .i64 160)),Sb⟩]) (.ret)) (.skip))) (.seq (.reg [⟨Sa 24,.loadn 2 (.t 6),Sb⟩,⟨Sb,.store 2 (.t 2) (.t 24),Sb⟩,⟨Sa 3,.mv (.c (.i .i64 0)),Sb⟩]) (.ret))))))
theorem is_diddoc_subject:FnIs Tryz.prog 24 25 [.celln 2 2,.tmp 3] c_diddoc_subject:=⟨⟨_,_,Tryz.func24,rfl,rfl,by kernel_rfl,by kernel_rfl⟩⟩
def c_did_FormatDID:SCode :=.seq (.reg [⟨Sa 1,.box 62 (.t 0),Sb⟩,⟨Sa 2,.mv (.c (.s [])),Sb⟩]) (.seq (.reg [⟨Sa 3,.fad 0 (.t 1),Sb⟩,⟨Sa 4,.load1 (.t 3),Sb⟩,⟨Sa 5,.bin .add (.c (.s [100,105,100,58])) (.t 4),Sb⟩,⟨Sa 6,.bin .add (.t 5) (.c (.s [58])),Sb⟩,⟨Sa 7,.fad 1 (.t 1),Sb⟩,⟨Sa 8,.load1 (.t 7),Sb⟩,⟨Sa 9,.bin .add (.t 6) (.t 8),Sb⟩,⟨Sa 2,.mv (.t 9),Sb⟩]) (.ret))
theorem is_did_FormatDID:FnIs Tryz.prog 25 10 [.tmp 2] c_did_FormatDID:=⟨⟨_,_,Tryz.func25,rfl,rfl,by kernel_rfl,by kernel_rfl⟩⟩
def c_diddoc_listed:SCode :=.seq (.reg [⟨Sa 1,.box 25 (.t 0),Sb⟩,⟨Sa 2,.mv (.c .nil),Sb⟩,⟨Sa 3,.mv (.c (.i .i64 0)),Sb⟩]) (.seq (.seq (.reg [⟨Sa 4,.fad 0 (.t 1),Sb⟩,⟨Sa 5,.load1 (.t 4),Sb⟩,⟨Sa 6,.bin .neq (.t 5) (.c (.i .i64 6)),Sb⟩]) (.cond (.t 6) (.seq (.reg [⟨Sa 2,.mv (.c .nil),Sb⟩,⟨Sa 3,.mv (.c (.i .i64 160)),Sb⟩]) (.ret)) (.skip))) (.seq (.reg [⟨Sa 7,.fad 3 (.t 1),Sb⟩,⟨Sa 8,.load1 (.t 7),Sb⟩,⟨Sa 9,.call 67 [.t 8],Sb⟩,⟨Sa 10,.ext (.t 9) 0,Sb⟩,⟨Sa 11,.ext (.t 9) 1,Sb⟩,⟨Sa 2,.mv (.t 10),Sb⟩,⟨Sa 3,.mv (.t 11),Sb⟩]) (.ret)))
theorem is_diddoc_listed:FnIs Tryz.prog 26 12 [.tmp 2,.tmp 3] c_diddoc_listed:=⟨⟨_,_,Tryz.func26,rfl,rfl,by kernel_rfl,by kernel_rfl⟩⟩
def c_diddoc_oneOrListed:SCode :=.seq (.reg [⟨Sa 1,.box 25 (.t 0),Sb⟩,⟨Sa 2,.mv (.c .nil),Sb⟩,⟨Sa 3,.mv (.c (.i .i64 0)),Sb⟩]) (.seq (.seq (.reg [⟨Sa 4,.fad 0 (.t 1),Sb⟩,⟨Sa 5,.load1 (.t 4),Sb⟩,⟨Sa 6,.bin .eql (.t 5) (.c (.i .i64 6)),Sb⟩]) (.cond (.t 6) (.seq (.reg [⟨Sa 7,.loadn 4 (.t 1),Sb⟩,⟨Sa 8,.call 26 [.t 7],Sb⟩,⟨Sa 9,.ext (.t 8) 0,Sb⟩,⟨Sa 10,.ext (.t 8) 1,Sb⟩,⟨Sa 2,.mv (.t 9),Sb⟩,⟨Sa 3,.mv (.t 10),Sb⟩]) (.ret)) (.skip))) (.seq (.reg [⟨Sa 11,.loadn 4 (.t 1),Sb⟩,⟨Sa 12,.bslice 1 [.i .i64 0,.s [],.nil,.nil] [(0,(4,.t 11))],Sb⟩,⟨Sa 13,.call 67 [.t 12],Sb⟩,⟨Sa 14,.ext (.t 13) 0,Sb⟩,⟨Sa 15,.ext (.t 13) 1,Sb⟩,⟨Sa 2,.mv (.t 14),Sb⟩,⟨Sa 3,.mv (.t 15),Sb⟩]) (.ret)))
theorem is_diddoc_oneOrListed:FnIs Tryz.prog 27 16 [.tmp 2,.tmp 3] c_diddoc_oneOrListed:=⟨⟨_,_,Tryz.func27,rfl,rfl,by kernel_rfl,by kernel_rfl⟩⟩
def c_diddoc_elements__api_Method:SCode :=.seq (.reg [⟨Sa 3,.box 25 (.t 0),Sb⟩,⟨Sa 4,.box 62 (.t 1),Sb⟩,⟨Sa 6,.mv (.c .nil),Sb⟩,⟨Sa 7,.mv (.c (.i .i64 0)),Sb⟩]) (.seq (.seq (.reg [⟨Sa 13,.fad 0 (.t 3),Sb⟩,⟨Sa 14,.load1 (.t 13),Sb⟩,⟨Sa 15,.bin .neq (.t 14) (.c (.i .i64 6)),Sb⟩]) (.cond (.t 15) (.seq (.reg [⟨Sa 6,.mv (.c .nil),Sb⟩,⟨Sa 7,.mv (.c (.i .i64 160)),Sb⟩]) (.ret)) (.skip))) (.seq (.seq (.reg [⟨Sa 16,.fad 3 (.t 3),Sb⟩,⟨Sa 17,.load1 (.t 16),Sb⟩,⟨Sa 18,.lenr (.t 17),Sb⟩,⟨Sa 19,.bin .gtr (.t 18) (.c (.i .i64 64)),Sb⟩]) (.cond (.t 19) (.seq (.reg [⟨Sa 6,.mv (.c .nil),Sb⟩,⟨Sa 7,.mv (.c (.i .i64 161)),Sb⟩]) (.ret)) (.skip))) (.seq (.reg [⟨Sa 8,.mv (.c .nil),Sb⟩]) (.seq (.seq (.reg [⟨Sa 20,.fad 3 (.t 3),Sb⟩,⟨Sa 21,.load1 (.t 20),Sb⟩,⟨Sa 22,.lenr (.t 21),Sb⟩,⟨Sa 23,.mv (.c (.i .i64 0)),Sb⟩]) (.blk 0 (.loop (.seq (.reg [⟨Sa 24,.bin .lss (.t 23) (.t 22),Sb⟩]) (.seq (.cond (.t 24) (.skip) (.exit 0)) (.seq (.blk 1 (.seq (.reg [⟨Sa 25,.iad 4 (.t 21) (.t 23),Sb⟩,⟨Sa 26,.loadn 4 (.t 25),Sb⟩,⟨Sa 10,.alloc 25 [.i .i64 0,.s [],.nil,.nil],Sb⟩,⟨Sb,.store 4 (.t 10) (.t 26),Sb⟩]) (.seq (.reg [⟨Sa 28,.mv (.t 2),Sb⟩,⟨Sa 29,.loadn 4 (.t 10),Sb⟩,⟨Sa 30,.loadn 2 (.t 4),Sb⟩,⟨Sa 31,.callv (.t 28) [.t 29,.t 30],Sb⟩,⟨Sa 27,.mv (.t 31),Sb⟩,⟨Sa 32,.ext (.t 27) 0,Sb⟩,⟨Sa 33,.ext (.t 27) 1,Sb⟩,⟨Sa 11,.alloc 48 [.s [],.s [],.s []],Sb⟩,⟨Sb,.store 3 (.t 11) (.t 32),Sb⟩,⟨Sa 12,.mv (.t 33),Sb⟩]) (.seq (.seq (.reg [⟨Sa 34,.mv (.t 12),Sb⟩,⟨Sa 35,.bin .neq (.t 34) (.c (.i .i64 0)),Sb⟩]) (.cond (.t 35) (.seq (.reg [⟨Sa 36,.mv (.t 12),Sb⟩,⟨Sa 6,.mv (.c .nil),Sb⟩,⟨Sa 7,.mv (.t 36),Sb⟩]) (.ret)) (.skip))) (.reg [⟨Sa 37,.mv (.t 8),Sb⟩,⟨Sa 38,.loadn 3 (.t 11),Sb⟩,⟨Sa 39,.bslice 1 [.s [],.s [],.s []] [(0,(3,.t 38))],Sb⟩,⟨Sa 40,.app 48 3 48 (.t 37) (.t 39),Sb⟩,⟨Sa 8,.mv (.t 40),Sb⟩]))))) (.reg [⟨Sa 41,.bin .add (.t 23) (.c (.i .i64 1)),Sb⟩,⟨Sa 23,.mv (.t 41),Sb⟩]))))))) (.seq (.reg [⟨Sa 42,.mv (.t 8),Sb⟩,⟨Sa 6,.mv (.t 42),Sb⟩,⟨Sa 7,.mv (.c (.i .i64 0)),Sb⟩]) (.ret))))))
theorem is_diddoc_elements__api_Method:FnIs Tryz.prog 28 43 [.tmp 6,.tmp 7] c_diddoc_elements__api_Method:=⟨⟨_,_,Tryz.func28,rfl,rfl,by kernel_rfl,by kernel_rfl⟩⟩
def c_diddoc_decodeMethod:SCode :=.seq (.reg [⟨Sa 2,.box 25 (.t 0),Sb⟩,⟨Sa 3,.box 62 (.t 1),Sb⟩,⟨Sa 4,.alloc 48 [.s [],.s [],.s []],Sb⟩,⟨Sa 5,.mv (.c (.i .i64 0)),Sb⟩]) (.seq (.reg [⟨Sa 13,.loadn 4 (.t 2),Sb⟩,⟨Sa 14,.loadn 2 (.t 3),Sb⟩,⟨Sa 15,.call 41 [.t 13,.t 14],Sb⟩,⟨Sa 12,.mv (.t 15),Sb⟩,⟨Sa 16,.ext (.t 12) 0,Sb⟩,⟨Sa 17,.ext (.t 12) 1,Sb⟩,⟨Sa 6,.mv (.t 16),Sb⟩,⟨Sa 7,.mv (.t 17),Sb⟩]) (.seq (.seq (.reg [⟨Sa 18,.mv (.t 7),Sb⟩,⟨Sa 19,.bin .neq (.t 18) (.c (.i .i64 0)),Sb⟩]) (.cond (.t 19) (.seq (.reg [⟨Sa 20,.build [.s [],.s [],.s []] [],Sb⟩,⟨Sa 21,.mv (.t 7),Sb⟩,⟨Sb,.store 3 (.t 4) (.t 20),Sb⟩,⟨Sa 5,.mv (.t 21),Sb⟩]) (.ret)) (.skip))) (.seq (.reg [⟨Sa 23,.loadn 4 (.t 2),Sb⟩,⟨Sa 24,.call 65 [.t 23,.c (.s [116,121,112,101])],Sb⟩,⟨Sa 22,.mv (.t 24),Sb⟩,⟨Sa 25,.ext (.t 22) 0,Sb⟩,⟨Sa 26,.ext (.t 22) 1,Sb⟩,⟨Sa 8,.mv (.t 25),Sb⟩,⟨Sa 9,.mv (.t 26),Sb⟩]) (.seq (.reg [⟨Sa 28,.loadn 4 (.t 2),Sb⟩,⟨Sa 29,.call 65 [.t 28,.c (.s [99,111,110,116,114,111,108,108,101,114])],Sb⟩,⟨Sa 27,.mv (.t 29),Sb⟩,⟨Sa 30,.ext (.t 27) 0,Sb⟩,⟨Sa 31,.ext (.t 27) 1,Sb⟩,⟨Sa 10,.mv (.t 30),Sb⟩,⟨Sa 11,.mv (.t 31),Sb⟩]) (.seq (.seq (.reg [⟨Sa 32,.mv (.t 9),Sb⟩,⟨Sa 33,.not (.t 32),Sb⟩,⟨Sa 34,.mv (.t 33),Sb⟩,⟨Sa 35,.mv (.t 11),some (34,false)⟩,⟨Sa 36,.not (.t 35),some (34,false)⟩,⟨Sa 37,.pick (.t 34) (.c (.b true)) (.t 36),Sb⟩]) (.cond (.t 37) (.seq (.reg [⟨Sa 38,.build [.s [],.s [],.s []] [],Sb⟩,⟨Sb,.store 3 (.t 4) (.t 38),Sb⟩,⟨Sa 5,.mv (.c (.i .i64 160)),Sb⟩]) (.ret)) (.skip))) (.seq (.reg [⟨Sa 39,.mv (.t 6),Sb⟩,⟨Sa 40,.mv (.t 8),Sb⟩,⟨Sa 41,.mv (.t 10),Sb⟩,⟨Sa 42,.build [.s [],.s [],.s []] [(0,(1,.t 39)),(1,(1,.t 40)),(2,(1,.t 41))],Sb⟩,⟨Sb,.store 3 (.t 4) (.t 42),Sb⟩,⟨Sa 5,.mv (.c (.i .i64 0)),Sb⟩]) (.ret)))))))
theorem is_diddoc_decodeMethod:FnIs Tryz.prog 29 43 [.celln 4 3,.tmp 5] c_diddoc_decodeMethod:=⟨⟨_,_,Tryz.func29,rfl,rfl,by kernel_rfl,by kernel_rfl⟩⟩
def c_diddoc_elements__api_Service:SCode :=.seq (.reg [⟨Sa 3,.box 25 (.t 0),Sb⟩,⟨Sa 4,.box 62 (.t 1),Sb⟩,⟨Sa 6,.mv (.c .nil),Sb⟩,⟨Sa 7,.mv (.c (.i .i64 0)),Sb⟩]) (.seq (.seq (.reg [⟨Sa 13,.fad 0 (.t 3),Sb⟩,⟨Sa 14,.load1 (.t 13),Sb⟩,⟨Sa 15,.bin .neq (.t 14) (.c (.i .i64 6)),Sb⟩]) (.cond (.t 15) (.seq (.reg [⟨Sa 6,.mv (.c .nil),Sb⟩,⟨Sa 7,.mv (.c (.i .i64 160)),Sb⟩]) (.ret)) (.skip))) (.seq (.seq (.reg [⟨Sa 16,.fad 3 (.t 3),Sb⟩,⟨Sa 17,.load1 (.t 16),Sb⟩,⟨Sa 18,.lenr (.t 17),Sb⟩,⟨Sa 19,.bin .gtr (.t 18) (.c (.i .i64 64)),Sb⟩]) (.cond (.t 19) (.seq (.reg [⟨Sa 6,.mv (.c .nil),Sb⟩,⟨Sa 7,.mv (.c (.i .i64 161)),Sb⟩]) (.ret)) (.skip))) (.seq (.reg [⟨Sa 8,.mv (.c .nil),Sb⟩]) (.seq (.seq (.reg [⟨Sa 20,.fad 3 (.t 3),Sb⟩,⟨Sa 21,.load1 (.t 20),Sb⟩,⟨Sa 22,.lenr (.t 21),Sb⟩,⟨Sa 23,.mv (.c (.i .i64 0)),Sb⟩]) (.blk 0 (.loop (.seq (.reg [⟨Sa 24,.bin .lss (.t 23) (.t 22),Sb⟩]) (.seq (.cond (.t 24) (.skip) (.exit 0)) (.seq (.blk 1 (.seq (.reg [⟨Sa 25,.iad 4 (.t 21) (.t 23),Sb⟩,⟨Sa 26,.loadn 4 (.t 25),Sb⟩,⟨Sa 10,.alloc 25 [.i .i64 0,.s [],.nil,.nil],Sb⟩,⟨Sb,.store 4 (.t 10) (.t 26),Sb⟩]) (.seq (.reg [⟨Sa 28,.mv (.t 2),Sb⟩,⟨Sa 29,.loadn 4 (.t 10),Sb⟩,⟨Sa 30,.loadn 2 (.t 4),Sb⟩,⟨Sa 31,.callv (.t 28) [.t 29,.t 30],Sb⟩,⟨Sa 27,.mv (.t 31),Sb⟩,⟨Sa 32,.ext (.t 27) 0,Sb⟩,⟨Sa 33,.ext (.t 27) 1,Sb⟩,⟨Sa 11,.alloc 46 [.s [],.nil,.nil],Sb⟩,⟨Sb,.store 3 (.t 11) (.t 32),Sb⟩,⟨Sa 12,.mv (.t 33),Sb⟩]) (.seq (.seq (.reg [⟨Sa 34,.mv (.t 12),Sb⟩,⟨Sa 35,.bin .neq (.t 34) (.c (.i .i64 0)),Sb⟩]) (.cond (.t 35) (.seq (.reg [⟨Sa 36,.mv (.t 12),Sb⟩,⟨Sa 6,.mv (.c .nil),Sb⟩,⟨Sa 7,.mv (.t 36),Sb⟩]) (.ret)) (.skip))) (.reg [⟨Sa 37,.mv (.t 8),Sb⟩,⟨Sa 38,.loadn 3 (.t 11),Sb⟩,⟨Sa 39,.bslice 1 [.s [],.nil,.nil] [(0,(3,.t 38))],Sb⟩,⟨Sa 40,.app 46 3 64 (.t 37) (.t 39),Sb⟩,⟨Sa 8,.mv (.t 40),Sb⟩]))))) (.reg [⟨Sa 41,.bin .add (.t 23) (.c (.i .i64 1)),Sb⟩,⟨Sa 23,.mv (.t 41),Sb⟩]))))))) (.seq (.reg [⟨Sa 42,.mv (.t 8),Sb⟩,⟨Sa 6,.mv (.t 42),Sb⟩,⟨Sa 7,.mv (.c (.i .i64 0)),Sb⟩]) (.ret))))))
theorem is_diddoc_elements__api_Service:FnIs Tryz.prog 30 43 [.tmp 6,.tmp 7] c_diddoc_elements__api_Service:=⟨⟨_,_,Tryz.func30,rfl,rfl,by kernel_rfl,by kernel_rfl⟩⟩
def c_diddoc_decodeService:SCode :=.seq (.reg [⟨Sa 2,.box 25 (.t 0),Sb⟩,⟨Sa 3,.box 62 (.t 1),Sb⟩,⟨Sa 4,.alloc 46 [.s [],.nil,.nil],Sb⟩,⟨Sa 5,.mv (.c (.i .i64 0)),Sb⟩]) (.seq (.reg [⟨Sa 14,.loadn 4 (.t 2),Sb⟩,⟨Sa 15,.call 23 [.t 14],Sb⟩,⟨Sa 6,.mv (.t 15),Sb⟩]) (.seq (.reg [⟨Sa 17,.loadn 4 (.t 2),Sb⟩,⟨Sa 18,.loadn 2 (.t 3),Sb⟩,⟨Sa 19,.call 41 [.t 17,.t 18],Sb⟩,⟨Sa 16,.mv (.t 19),Sb⟩,⟨Sa 20,.ext (.t 16) 0,Sb⟩,⟨Sa 21,.ext (.t 16) 1,Sb⟩,⟨Sa 7,.mv (.t 20),Sb⟩,⟨Sa 8,.mv (.t 21),Sb⟩]) (.seq (.seq (.reg [⟨Sa 22,.mv (.t 8),Sb⟩,⟨Sa 23,.bin .neq (.t 22) (.c (.i .i64 0)),Sb⟩]) (.cond (.t 23) (.seq (.reg [⟨Sa 24,.build [.s [],.nil,.nil] [],Sb⟩,⟨Sa 25,.mv (.t 8),Sb⟩,⟨Sb,.store 3 (.t 4) (.t 24),Sb⟩,⟨Sa 5,.mv (.t 25),Sb⟩]) (.ret)) (.skip))) (.seq (.reg [⟨Sa 26,.mv (.t 7),Sb⟩,⟨Sa 27,.build [.s [],.nil,.nil] [(0,(1,.t 26))],Sb⟩,⟨Sa 9,.alloc 46 [.s [],.nil,.nil],Sb⟩,⟨Sb,.store 3 (.t 9) (.t 27),Sb⟩]) (.seq (.reg [⟨Sa 29,.mv (.t 6),Sb⟩,⟨Sa 30,.callv (.t 29) [.c (.s [116,121,112,101])],Sb⟩,⟨Sa 28,.mv (.t 30),Sb⟩,⟨Sa 31,.ext (.t 28) 0,Sb⟩,⟨Sa 32,.ext (.t 28) 1,Sb⟩,⟨Sa 10,.alloc 25 [.i .i64 0,.s [],.nil,.nil],Sb⟩,⟨Sb,.store 4 (.t 10) (.t 31),Sb⟩,⟨Sa 11,.mv (.t 32),Sb⟩]) (.seq (.seq (.reg [⟨Sa 34,.loadn 4 (.t 10),Sb⟩,⟨Sa 35,.call 27 [.t 34],Sb⟩,⟨Sa 33,.mv (.t 35),Sb⟩,⟨Sa 36,.ext (.t 33) 0,Sb⟩,⟨Sa 37,.ext (.t 33) 1,Sb⟩,⟨Sa 38,.fad 1 (.t 9),Sb⟩,⟨Sb,.store 1 (.t 38) (.t 36),Sb⟩,⟨Sa 8,.mv (.t 37),Sb⟩]) (.seq (.reg [⟨Sa 39,.mv (.t 8),Sb⟩,⟨Sa 40,.bin .neq (.t 39) (.c (.i .i64 0)),Sb⟩]) (.cond (.t 40) (.seq (.reg [⟨Sa 41,.build [.s [],.nil,.nil] [],Sb⟩,⟨Sa 42,.mv (.t 8),Sb⟩,⟨Sb,.store 3 (.t 4) (.t 41),Sb⟩,⟨Sa 5,.mv (.t 42),Sb⟩]) (.ret)) (.skip)))) (.seq (.reg [⟨Sa 44,.mv (.t 6),Sb⟩,⟨Sa 45,.callv (.t 44) [.c (.s [115,101,114,118,105,99,101,69,110,100,112,111,105,110,116])],Sb⟩,⟨Sa 43,.mv (.t 45),Sb⟩,⟨Sa 46,.ext (.t 43) 0,Sb⟩,⟨Sa 47,.ext (.t 43) 1,Sb⟩,⟨Sa 12,.alloc 25 [.i .i64 0,.s [],.nil,.nil],Sb⟩,⟨Sb,.store 4 (.t 12) (.t 46),Sb⟩,⟨Sa 13,.mv (.t 47),Sb⟩]) (.seq (.seq (.reg [⟨Sa 48,.fad 0 (.t 12),Sb⟩,⟨Sa 49,.load1 (.t 48),Sb⟩,⟨Sa 50,.bin .eql (.t 49) (.c (.i .i64 7)),Sb⟩]) (.cond (.t 50) (.seq (.reg [⟨Sa 51,.loadn 3 (.t 9),Sb⟩,⟨Sb,.store 3 (.t 4) (.t 51),Sb⟩,⟨Sa 5,.mv (.c (.i .i64 0)),Sb⟩]) (.ret)) (.skip))) (.seq (.seq (.reg [⟨Sa 53,.loadn 4 (.t 12),Sb⟩,⟨Sa 54,.call 27 [.t 53],Sb⟩,⟨Sa 52,.mv (.t 54),Sb⟩,⟨Sa 55,.ext (.t 52) 0,Sb⟩,⟨Sa 56,.ext (.t 52) 1,Sb⟩,⟨Sa 57,.fad 2 (.t 9),Sb⟩,⟨Sb,.store 1 (.t 57) (.t 55),Sb⟩,⟨Sa 8,.mv (.t 56),Sb⟩]) (.seq (.reg [⟨Sa 58,.mv (.t 8),Sb⟩,⟨Sa 59,.bin .neq (.t 58) (.c (.i .i64 0)),Sb⟩]) (.cond (.t 59) (.seq (.reg [⟨Sa 60,.build [.s [],.nil,.nil] [],Sb⟩,⟨Sa 61,.mv (.t 8),Sb⟩,⟨Sb,.store 3 (.t 4) (.t 60),Sb⟩,⟨Sa 5,.mv (.t 61),Sb⟩]) (.ret)) (.skip)))) (.seq (.reg [⟨Sa 62,.loadn 3 (.t 9),Sb⟩,⟨Sb,.store 3 (.t 4) (.t 62),Sb⟩,⟨Sa 5,.mv (.c (.i .i64 0)),Sb⟩]) (.ret)))))))))))
theorem is_diddoc_decodeService:FnIs Tryz.prog 31 63 [.celln 4 3,.tmp 5] c_diddoc_decodeService:=⟨⟨_,_,Tryz.func31,rfl,rfl,by kernel_rfl,by kernel_rfl⟩⟩
def c_jsondoc_Get:SCode :=.seq (.reg [⟨Sa 2,.box 25 (.t 0),Sb⟩,⟨Sa 4,.alloc 25 [.i .i64 0,.s [],.nil,.nil],Sb⟩,⟨Sa 5,.mv (.c (.b false)),Sb⟩]) (.seq (.seq (.reg [⟨Sa 7,.fad 0 (.t 2),Sb⟩,⟨Sa 8,.load1 (.t 7),Sb⟩,⟨Sa 9,.bin .neq (.t 8) (.c (.i .i64 7)),Sb⟩]) (.cond (.t 9) (.seq (.reg [⟨Sa 10,.build [.i .i64 0,.s [],.nil,.nil] [],Sb⟩,⟨Sb,.store 4 (.t 4) (.t 10),Sb⟩,⟨Sa 5,.mv (.c (.b false)),Sb⟩]) (.ret)) (.skip))) (.seq (.reg [⟨Sa 11,.fad 2 (.t 2),Sb⟩,⟨Sa 12,.load1 (.t 11),Sb⟩,⟨Sa 13,.mv (.t 1),Sb⟩,⟨Sa 14,.call 77 [.t 12,.t 13],Sb⟩,⟨Sa 6,.mv (.t 14),Sb⟩]) (.seq (.seq (.reg [⟨Sa 15,.mv (.t 6),Sb⟩,⟨Sa 16,.bin .lss (.t 15) (.c (.i .i64 0)),Sb⟩,⟨Sa 17,.mv (.t 16),Sb⟩,⟨Sa 18,.mv (.t 6),some (17,false)⟩,⟨Sa 19,.fad 3 (.t 2),some (17,false)⟩,⟨Sa 20,.load1 (.t 19),some (17,false)⟩,⟨Sa 21,.lenr (.t 20),some (17,false)⟩,⟨Sa 22,.bin .geq (.t 18) (.t 21),some (17,false)⟩,⟨Sa 23,.pick (.t 17) (.c (.b true)) (.t 22),Sb⟩]) (.cond (.t 23) (.seq (.reg [⟨Sa 24,.build [.i .i64 0,.s [],.nil,.nil] [],Sb⟩,⟨Sb,.store 4 (.t 4) (.t 24),Sb⟩,⟨Sa 5,.mv (.c (.b false)),Sb⟩]) (.ret)) (.skip))) (.seq (.reg [⟨Sa 25,.fad 3 (.t 2),Sb⟩,⟨Sa 26,.load1 (.t 25),Sb⟩,⟨Sa 27,.mv (.t 6),Sb⟩,⟨Sa 28,.iad 4 (.t 26) (.t 27),Sb⟩,⟨Sa 29,.loadn 4 (.t 28),Sb⟩,⟨Sa 30,.call 78 [.t 29],Sb⟩,⟨Sb,.store 4 (.t 4) (.t 30),Sb⟩,⟨Sa 5,.mv (.c (.b true)),Sb⟩]) (.ret)))))
theorem is_jsondoc_Get:FnIs Tryz.prog 40 31 [.celln 4 4,.tmp 5] c_jsondoc_Get:=⟨⟨_,_,Tryz.func40,rfl,rfl,by kernel_rfl,by kernel_rfl⟩⟩
def c_diddoc_memberID:SCode :=.seq (.reg [⟨Sa 2,.box 25 (.t 0),Sb⟩,⟨Sa 3,.box 62 (.t 1),Sb⟩,⟨Sa 4,.mv (.c (.s [])),Sb⟩,⟨Sa 5,.mv (.c (.i .i64 0)),Sb⟩]) (.seq (.reg [⟨Sa 11,.loadn 4 (.t 2),Sb⟩,⟨Sa 12,.call 65 [.t 11,.c (.s [105,100])],Sb⟩,⟨Sa 10,.mv (.t 12),Sb⟩,⟨Sa 13,.ext (.t 10) 0,Sb⟩,⟨Sa 14,.ext (.t 10) 1,Sb⟩,⟨Sa 6,.mv (.t 13),Sb⟩,⟨Sa 7,.mv (.t 14),Sb⟩]) (.seq (.seq (.reg [⟨Sa 15,.mv (.t 7),Sb⟩,⟨Sa 16,.not (.t 15),Sb⟩]) (.cond (.t 16) (.seq (.reg [⟨Sa 4,.mv (.c (.s [])),Sb⟩,⟨Sa 5,.mv (.c (.i .i64 160)),Sb⟩]) (.ret)) (.skip))) (.seq (.reg [⟨Sa 18,.loadn 2 (.t 3),Sb⟩,⟨Sa 19,.mv (.t 6),Sb⟩,⟨Sa 20,.call 79 [.t 18,.t 19],Sb⟩,⟨Sa 17,.mv (.t 20),Sb⟩,⟨Sa 21,.ext (.t 17) 0,Sb⟩,⟨Sa 22,.ext (.t 17) 1,Sb⟩,⟨Sa 8,.alloc 87 [.s [],.s [],.s [],.s [],.s [],.b false,.b false],Sb⟩,⟨Sb,.store 7 (.t 8) (.t 21),Sb⟩,⟨Sa 9,.mv (.t 22),Sb⟩]) (.seq (.seq (.reg [⟨Sa 23,.mv (.t 9),Sb⟩,⟨Sa 24,.bin .neq (.t 23) (.c (.i .i64 0)),Sb⟩]) (.cond (.t 24) (.seq (.reg [⟨Sa 4,.mv (.c (.s [])),Sb⟩,⟨Sa 5,.mv (.c (.i .i64 160)),Sb⟩]) (.ret)) (.skip))) (.seq (.reg [⟨Sa 25,.loadn 7 (.t 8),Sb⟩,⟨Sa 26,.call 80 [.t 25],Sb⟩,⟨Sa 4,.mv (.t 26),Sb⟩,⟨Sa 5,.mv (.c (.i .i64 0)),Sb⟩]) (.ret))))))
theorem is_diddoc_memberID:FnIs Tryz.prog 41 27 [.tmp 4,.tmp 5] c_diddoc_memberID:=⟨⟨_,_,Tryz.func41,rfl,rfl,by kernel_rfl,by kernel_rfl⟩⟩
def c_ref14_Get:SCode :=.seq (.reg [⟨Sa 2,.box 25 (.t 0),Sb⟩,⟨Sa 4,.alloc 25 [.i .i64 0,.s [],.nil,.nil],Sb⟩,⟨Sa 5,.mv (.c (.b false)),Sb⟩]) (.seq (.seq (.reg [⟨Sa 7,.fad 0 (.t 2),Sb⟩,⟨Sa 8,.load1 (.t 7),Sb⟩,⟨Sa 9,.bin .neq (.t 8) (.c (.i .i64 7)),Sb⟩]) (.cond (.t 9) (.seq (.reg [⟨Sa 10,.build [.i .i64 0,.s [],.nil,.nil] [],Sb⟩,⟨Sb,.store 4 (.t 4) (.t 10),Sb⟩,⟨Sa 5,.mv (.c (.b false)),Sb⟩]) (.ret)) (.skip))) (.seq (.seq (.reg [⟨Sa 11,.fad 2 (.t 2),Sb⟩,⟨Sa 12,.load1 (.t 11),Sb⟩,⟨Sa 13,.lenr (.t 12),Sb⟩,⟨Sa 14,.mv (.c (.i .i64 0)),Sb⟩]) (.blk 0 (.loop (.seq (.reg [⟨Sa 15,.bin .lss (.t 14) (.t 13),Sb⟩]) (.seq (.cond (.t 15) (.skip) (.exit 0)) (.seq (.blk 1 (.seq (.reg [⟨Sa 16,.mv (.t 14),Sb⟩,⟨Sa 6,.mv (.t 16),Sb⟩]) (.seq (.reg [⟨Sa 17,.fad 2 (.t 2),Sb⟩,⟨Sa 18,.load1 (.t 17),Sb⟩,⟨Sa 19,.mv (.t 6),Sb⟩,⟨Sa 20,.iad 1 (.t 18) (.t 19),Sb⟩,⟨Sa 21,.load1 (.t 20),Sb⟩,⟨Sa 22,.mv (.t 1),Sb⟩,⟨Sa 23,.bin .eql (.t 21) (.t 22),Sb⟩,⟨Sa 24,.mv (.t 23),Sb⟩,⟨Sa 25,.mv (.t 6),some (24,true)⟩,⟨Sa 26,.fad 3 (.t 2),some (24,true)⟩,⟨Sa 27,.load1 (.t 26),some (24,true)⟩,⟨Sa 28,.lenr (.t 27),some (24,true)⟩,⟨Sa 29,.bin .lss (.t 25) (.t 28),some (24,true)⟩,⟨Sa 30,.pick (.t 24) (.t 29) (.c (.b false)),Sb⟩]) (.cond (.t 30) (.seq (.reg [⟨Sa 31,.fad 3 (.t 2),Sb⟩,⟨Sa 32,.load1 (.t 31),Sb⟩,⟨Sa 33,.mv (.t 6),Sb⟩,⟨Sa 34,.iad 4 (.t 32) (.t 33),Sb⟩,⟨Sa 35,.loadn 4 (.t 34),Sb⟩,⟨Sb,.store 4 (.t 4) (.t 35),Sb⟩,⟨Sa 5,.mv (.c (.b true)),Sb⟩]) (.ret)) (.skip))))) (.reg [⟨Sa 36,.bin .add (.t 14) (.c (.i .i64 1)),Sb⟩,⟨Sa 14,.mv (.t 36),Sb⟩]))))))) (.seq (.reg [⟨Sa 37,.build [.i .i64 0,.s [],.nil,.nil] [],Sb⟩,⟨Sb,.store 4 (.t 4) (.t 37),Sb⟩,⟨Sa 5,.mv (.c (.b false)),Sb⟩]) (.ret))))
theorem is_ref14_Get:FnIs Tryz.prog 42 38 [.celln 4 4,.tmp 5] c_ref14_Get:=⟨⟨_,_,Tryz.func42,rfl,rfl,by kernel_rfl,by kernel_rfl⟩⟩
def c_keep_Strings:SCode :=.seq (.reg [⟨Sa 6,.mv (.c (.b false)),Sb⟩]) (.seq (.seq (.reg [⟨Sa 9,.mv (.t 0),Sb⟩,⟨Sa 10,.lenr (.t 9),Sb⟩,⟨Sa 11,.mv (.t 1),Sb⟩,⟨Sa 12,.bin .gtr (.t 10) (.t 11),Sb⟩]) (.cond (.t 12) (.seq (.reg [⟨Sa 6,.mv (.c (.b false)),Sb⟩]) (.ret)) (.skip))) (.seq (.seq (.reg [⟨Sa 13,.mv (.t 0),Sb⟩,⟨Sa 14,.lenr (.t 13),Sb⟩,⟨Sa 15,.mv (.c (.i .i64 0)),Sb⟩]) (.blk 0 (.loop (.seq (.reg [⟨Sa 16,.bin .lss (.t 15) (.t 14),Sb⟩]) (.seq (.cond (.t 16) (.skip) (.exit 0)) (.seq (.blk 1 (.seq (.reg [⟨Sa 17,.iad 1 (.t 13) (.t 15),Sb⟩,⟨Sa 18,.load1 (.t 17),Sb⟩,⟨Sa 8,.mv (.t 18),Sb⟩]) (.seq (.reg [⟨Sa 19,.mv (.t 8),Sb⟩,⟨Sa 20,.lens (.t 19),Sb⟩,⟨Sa 21,.mv (.t 2),Sb⟩,⟨Sa 22,.bin .gtr (.t 20) (.t 21),Sb⟩]) (.cond (.t 22) (.seq (.reg [⟨Sa 6,.mv (.c (.b false)),Sb⟩]) (.ret)) (.skip))))) (.reg [⟨Sa 23,.bin .add (.t 15) (.c (.i .i64 1)),Sb⟩,⟨Sa 15,.mv (.t 23),Sb⟩]))))))) (.seq (.reg [⟨Sa 6,.mv (.c (.b true)),Sb⟩]) (.ret))))
theorem is_keep_Strings:FnIs Tryz.prog 45 24 [.tmp 6] c_keep_Strings:=⟨⟨_,_,Tryz.func45,rfl,rfl,by kernel_rfl,by kernel_rfl⟩⟩
def c_jsonmake_Object_Add:SCode :=.seq (.reg [⟨Sa 5,.box 25 (.t 2),Sb⟩]) (.seq (.reg [⟨Sa 6,.mv (.t 0),Sb⟩,⟨Sa 7,.mv (.t 0),Sb⟩,⟨Sa 8,.nck (.t 7),Sb⟩,⟨Sa 9,.fad 0 (.t 8),Sb⟩,⟨Sa 10,.load1 (.t 9),Sb⟩,⟨Sa 11,.mv (.t 1),Sb⟩,⟨Sa 12,.bslice 1 [.s []] [(0,(1,.t 11))],Sb⟩,⟨Sa 13,.app 9 1 16 (.t 10) (.t 12),Sb⟩,⟨Sa 14,.nck (.t 6),Sb⟩,⟨Sa 15,.fad 0 (.t 14),Sb⟩,⟨Sb,.store 1 (.t 15) (.t 13),Sb⟩]) (.drw [⟨Sa 16,.mv (.t 0),Sb⟩,⟨Sa 17,.nck (.t 16),Sb⟩,⟨Sa 18,.fad 1 (.t 17),Sb⟩,⟨Sa 19,.load1 (.t 18),Sb⟩,⟨Sa 20,.loadn 4 (.t 5),Sb⟩,⟨Sa 21,.lenr (.t 19),Sb⟩,⟨Sa 22,.bslice 1 [.i .i64 0,.s [],.nil,.nil] [(0,(4,.c (.agg [.i .i64 0,.s [],.nil,.nil])))],Sb⟩,⟨Sa 23,.app 25 4 72 (.t 19) (.t 22),Sb⟩,⟨Sa 24,.iad 4 (.t 23) (.t 21),Sb⟩,⟨Sb,.store 4 (.t 24) (.t 20),Sb⟩,⟨Sa 25,.nck (.t 16),Sb⟩,⟨Sa 26,.fad 1 (.t 25),Sb⟩,⟨Sb,.store 1 (.t 26) (.t 23),Sb⟩] 13 [(24,(1000026,none))]))
theorem is_jsonmake_Object_Add:FnIs Tryz.prog 46 27 [] c_jsonmake_Object_Add:=⟨⟨_,_,Tryz.func46,rfl,rfl,by kernel_rfl,by kernel_rfl⟩⟩
def c_jsonmake_Text:SCode :=.seq (.reg [⟨Sa 2,.alloc 25 [.i .i64 0,.s [],.nil,.nil],Sb⟩]) (.seq (.reg [⟨Sa 3,.mv (.t 0),Sb⟩,⟨Sa 4,.build [.i .i64 0,.s [],.nil,.nil] [(0,(1,.c (.i .i64 5))),(1,(1,.t 3))],Sb⟩,⟨Sb,.store 4 (.t 2) (.t 4),Sb⟩]) (.ret))
theorem is_jsonmake_Text:FnIs Tryz.prog 47 5 [.celln 2 4] c_jsonmake_Text:=⟨⟨_,_,Tryz.func47,rfl,rfl,by kernel_rfl,by kernel_rfl⟩⟩
def c_jsonmake_Object_AddFilled:SCode :=.seq (.reg [⟨Sa 5,.box 25 (.t 2),Sb⟩]) (.seq (.reg [⟨Sa 6,.fad 1 (.t 5),Sb⟩,⟨Sa 7,.load1 (.t 6),Sb⟩,⟨Sa 8,.bin .neq (.t 7) (.c (.s [])),Sb⟩,⟨Sa 9,.mv (.t 8),Sb⟩,⟨Sa 10,.fad 3 (.t 5),some (9,false)⟩,⟨Sa 11,.load1 (.t 10),some (9,false)⟩,⟨Sa 12,.lenr (.t 11),some (9,false)⟩,⟨Sa 13,.bin .gtr (.t 12) (.c (.i .i64 0)),some (9,false)⟩,⟨Sa 14,.pick (.t 9) (.c (.b true)) (.t 13),Sb⟩]) (.cond (.t 14) (.reg [⟨Sa 15,.mv (.t 0),Sb⟩,⟨Sa 16,.mv (.t 1),Sb⟩,⟨Sa 17,.loadn 4 (.t 5),Sb⟩,⟨Sa 18,.call 46 [.t 15,.t 16,.t 17],Sb⟩]) (.skip)))
theorem is_jsonmake_Object_AddFilled:FnIs Tryz.prog 48 19 [] c_jsonmake_Object_AddFilled:=⟨⟨_,_,Tryz.func48,rfl,rfl,by kernel_rfl,by kernel_rfl⟩⟩
def c_jsonmake_Texts:SCode :=.seq (.reg [⟨Sa 2,.alloc 25 [.i .i64 0,.s [],.nil,.nil],Sb⟩]) (.seq (.reg [⟨Sa 3,.mv (.c .nil),Sb⟩]) (.seq (.seq (.reg [⟨Sa 6,.mv (.t 0),Sb⟩,⟨Sa 7,.lenr (.t 6),Sb⟩,⟨Sa 8,.mv (.c (.i .i64 0)),Sb⟩]) (.blk 0 (.loop (.seq (.reg [⟨Sa 9,.bin .lss (.t 8) (.t 7),Sb⟩]) (.seq (.cond (.t 9) (.skip) (.exit 0)) (.seq (.blk 1 (.seq (.reg [⟨Sa 10,.iad 1 (.t 6) (.t 8),Sb⟩,⟨Sa 11,.load1 (.t 10),Sb⟩,⟨Sa 5,.mv (.t 11),Sb⟩]) (.reg [⟨Sa 12,.mv (.t 3),Sb⟩,⟨Sa 13,.mv (.t 5),Sb⟩,⟨Sa 14,.call 47 [.t 13],Sb⟩,⟨Sa 15,.bslice 1 [.i .i64 0,.s [],.nil,.nil] [(0,(4,.t 14))],Sb⟩,⟨Sa 16,.app 25 4 72 (.t 12) (.t 15),Sb⟩,⟨Sa 3,.mv (.t 16),Sb⟩]))) (.reg [⟨Sa 17,.bin .add (.t 8) (.c (.i .i64 1)),Sb⟩,⟨Sa 8,.mv (.t 17),Sb⟩]))))))) (.seq (.reg [⟨Sa 18,.mv (.t 3),Sb⟩,⟨Sa 19,.call 51 [.t 18],Sb⟩,⟨Sb,.store 4 (.t 2) (.t 19),Sb⟩]) (.ret))))
theorem is_jsonmake_Texts:FnIs Tryz.prog 49 20 [.celln 2 4] c_jsonmake_Texts:=⟨⟨_,_,Tryz.func49,rfl,rfl,by kernel_rfl,by kernel_rfl⟩⟩
def c_diddoc_encodeMethod:SCode :=.seq (.reg [⟨Sa 1,.box 48 (.t 0),Sb⟩,⟨Sa 2,.alloc 25 [.i .i64 0,.s [],.nil,.nil],Sb⟩]) (.seq (.reg [⟨Sa 3,.alloc 93 [.nil,.nil],Sb⟩]) (.seq (.reg [⟨Sa 4,.fad 0 (.t 1),Sb⟩,⟨Sa 5,.load1 (.t 4),Sb⟩,⟨Sa 6,.call 47 [.t 5],Sb⟩,⟨Sa 7,.call 46 [.t 3,.c (.s [105,100]),.t 6],Sb⟩]) (.seq (.reg [⟨Sa 8,.fad 1 (.t 1),Sb⟩,⟨Sa 9,.load1 (.t 8),Sb⟩,⟨Sa 10,.call 47 [.t 9],Sb⟩,⟨Sa 11,.call 46 [.t 3,.c (.s [116,121,112,101]),.t 10],Sb⟩]) (.seq (.reg [⟨Sa 12,.fad 2 (.t 1),Sb⟩,⟨Sa 13,.load1 (.t 12),Sb⟩,⟨Sa 14,.call 47 [.t 13],Sb⟩,⟨Sa 15,.call 46 [.t 3,.c (.s [99,111,110,116,114,111,108,108,101,114]),.t 14],Sb⟩]) (.seq (.reg [⟨Sa 16,.call 53 [.t 3],Sb⟩,⟨Sb,.store 4 (.t 2) (.t 16),Sb⟩]) (.ret))))))
theorem is_diddoc_encodeMethod:FnIs Tryz.prog 50 17 [.celln 2 4] c_diddoc_encodeMethod:=⟨⟨_,_,Tryz.func50,rfl,rfl,by kernel_rfl,by kernel_rfl⟩⟩
def c_jsonmake_Array:SCode :=.seq (.reg [⟨Sa 2,.alloc 25 [.i .i64 0,.s [],.nil,.nil],Sb⟩]) (.seq (.reg [⟨Sa 3,.mv (.t 0),Sb⟩,⟨Sa 4,.build [.i .i64 0,.s [],.nil,.nil] [(0,(1,.c (.i .i64 6))),(3,(1,.t 3))],Sb⟩,⟨Sb,.store 4 (.t 2) (.t 4),Sb⟩]) (.ret))
theorem is_jsonmake_Array:FnIs Tryz.prog 51 5 [.celln 2 4] c_jsonmake_Array:=⟨⟨_,_,Tryz.func51,rfl,rfl,by kernel_rfl,by kernel_rfl⟩⟩
def c_diddoc_encodeService:SCode :=.seq (.reg [⟨Sa 1,.box 46 (.t 0),Sb⟩,⟨Sa 2,.alloc 25 [.i .i64 0,.s [],.nil,.nil],Sb⟩]) (.seq (.reg [⟨Sa 3,.alloc 93 [.nil,.nil],Sb⟩]) (.seq (.reg [⟨Sa 4,.fad 0 (.t 1),Sb⟩,⟨Sa 5,.load1 (.t 4),Sb⟩,⟨Sa 6,.call 47 [.t 5],Sb⟩,⟨Sa 7,.call 46 [.t 3,.c (.s [105,100]),.t 6],Sb⟩]) (.seq (.reg [⟨Sa 8,.fad 1 (.t 1),Sb⟩,⟨Sa 9,.load1 (.t 8),Sb⟩,⟨Sa 10,.call 49 [.t 9],Sb⟩,⟨Sa 11,.call 46 [.t 3,.c (.s [116,121,112,101]),.t 10],Sb⟩]) (.seq (.reg [⟨Sa 12,.fad 2 (.t 1),Sb⟩,⟨Sa 13,.load1 (.t 12),Sb⟩,⟨Sa 14,.call 49 [.t 13],Sb⟩,⟨Sa 15,.call 46 [.t 3,.c (.s [115,101,114,118,105,99,101,69,110,100,112,111,105,110,116]),.t 14],Sb⟩]) (.seq (.reg [⟨Sa 16,.call 53 [.t 3],Sb⟩,⟨Sb,.store 4 (.t 2) (.t 16),Sb⟩]) (.ret))))))
theorem is_diddoc_encodeService:FnIs Tryz.prog 52 17 [.celln 2 4] c_diddoc_encodeService:=⟨⟨_,_,Tryz.func52,rfl,rfl,by kernel_rfl,by kernel_rfl⟩⟩
def c_jsonmake_Object_Value:SCode :=.seq (.reg [⟨Sa 2,.alloc 25 [.i .i64 0,.s [],.nil,.nil],Sb⟩]) (.seq (.drw [⟨Sa 3,.mv (.t 0),Sb⟩,⟨Sa 4,.nck (.t 3),Sb⟩,⟨Sa 5,.fad 0 (.t 4),Sb⟩,⟨Sa 6,.load1 (.t 5),Sb⟩,⟨Sa 7,.mv (.t 0),Sb⟩,⟨Sa 8,.nck (.t 7),Sb⟩,⟨Sa 9,.fad 1 (.t 8),Sb⟩,⟨Sa 10,.load1 (.t 9),Sb⟩,⟨Sa 11,.build [.i .i64 0,.s [],.nil,.nil] [(0,(1,.c (.i .i64 7))),(2,(1,.t 6)),(3,(1,.t 10))],Sb⟩,⟨Sb,.store 4 (.t 2) (.t 11),Sb⟩] 9 []) (.ret))
theorem is_jsonmake_Object_Value:FnIs Tryz.prog 53 12 [.celln 2 4] c_jsonmake_Object_Value:=⟨⟨_,_,Tryz.func53,rfl,rfl,by kernel_rfl,by kernel_rfl⟩⟩
def c_ref16_With:SCode :=.seq (.reg [⟨Sa 3,.box 25 (.t 0),Sb⟩,⟨Sa 5,.box 25 (.t 2),Sb⟩,⟨Sa 6,.alloc 25 [.i .i64 0,.s [],.nil,.nil],Sb⟩]) (.seq (.reg [⟨Sa 7,.loadn 4 (.t 3),Sb⟩,⟨Sa 8,.mv (.t 1),Sb⟩,⟨Sa 9,.loadn 4 (.t 5),Sb⟩,⟨Sa 10,.call 83 [.t 7,.t 8,.t 9],Sb⟩,⟨Sb,.store 4 (.t 6) (.t 10),Sb⟩]) (.ret))
theorem is_ref16_With:FnIs Tryz.prog 54 11 [.celln 6 4] c_ref16_With:=⟨⟨_,_,Tryz.func54,rfl,rfl,by kernel_rfl,by kernel_rfl⟩⟩
def c_ref17_object:SCode :=.seq (.reg [⟨Sa 0,.alloc 25 [.i .i64 0,.s [],.nil,.nil],Sb⟩]) (.seq (.reg [⟨Sa 1,.build [.i .i64 0,.s [],.nil,.nil] [(0,(1,.c (.i .i64 7)))],Sb⟩,⟨Sb,.store 4 (.t 0) (.t 1),Sb⟩]) (.ret))
theorem is_ref17_object:FnIs Tryz.prog 55 2 [.celln 0 4] c_ref17_object:=⟨⟨_,_,Tryz.func55,rfl,rfl,by kernel_rfl,by kernel_rfl⟩⟩
def c_ref16_Text:SCode :=.seq (.reg [⟨Sa 2,.alloc 25 [.i .i64 0,.s [],.nil,.nil],Sb⟩]) (.seq (.reg [⟨Sa 3,.mv (.t 0),Sb⟩,⟨Sa 4,.build [.i .i64 0,.s [],.nil,.nil] [(0,(1,.c (.i .i64 5))),(1,(1,.t 3))],Sb⟩,⟨Sb,.store 4 (.t 2) (.t 4),Sb⟩]) (.ret))
theorem is_ref16_Text:FnIs Tryz.prog 56 5 [.celln 2 4] c_ref16_Text:=⟨⟨_,_,Tryz.func56,rfl,rfl,by kernel_rfl,by kernel_rfl⟩⟩
def c_ref16_Array:SCode :=.seq (.reg [⟨Sa 2,.alloc 25 [.i .i64 0,.s [],.nil,.nil],Sb⟩]) (.seq (.reg [⟨Sa 6,.build [.i .i64 0,.s [],.nil,.nil] [(0,(1,.c (.i .i64 6)))],Sb⟩,⟨Sa 3,.alloc 25 [.i .i64 0,.s [],.nil,.nil],Sb⟩,⟨Sb,.store 4 (.t 3) (.t 6),Sb⟩]) (.seq (.seq (.reg [⟨Sa 7,.mv (.t 0),Sb⟩,⟨Sa 8,.lenr (.t 7),Sb⟩,⟨Sa 9,.mv (.c (.i .i64 0)),Sb⟩]) (.blk 0 (.loop (.seq (.reg [⟨Sa 10,.bin .lss (.t 9) (.t 8),Sb⟩]) (.seq (.cond (.t 10) (.skip) (.exit 0)) (.seq (.blk 1 (.seq (.reg [⟨Sa 11,.iad 1 (.t 7) (.t 9),Sb⟩,⟨Sa 12,.load1 (.t 11),Sb⟩,⟨Sa 5,.mv (.t 12),Sb⟩]) (.drw [⟨Sa 13,.fad 3 (.t 3),Sb⟩,⟨Sa 14,.load1 (.t 13),Sb⟩,⟨Sa 15,.mv (.t 5),Sb⟩,⟨Sa 16,.call 56 [.t 15],Sb⟩,⟨Sa 17,.bslice 1 [.i .i64 0,.s [],.nil,.nil] [(0,(4,.t 16))],Sb⟩,⟨Sa 18,.app 25 4 72 (.t 14) (.t 17),Sb⟩,⟨Sa 19,.fad 3 (.t 3),Sb⟩,⟨Sb,.store 1 (.t 19) (.t 18),Sb⟩] 5 []))) (.reg [⟨Sa 20,.bin .add (.t 9) (.c (.i .i64 1)),Sb⟩,⟨Sa 9,.mv (.t 20),Sb⟩]))))))) (.seq (.reg [⟨Sa 21,.loadn 4 (.t 3),Sb⟩,⟨Sb,.store 4 (.t 2) (.t 21),Sb⟩]) (.ret))))
theorem is_ref16_Array:FnIs Tryz.prog 57 22 [.celln 2 4] c_ref16_Array:=⟨⟨_,_,Tryz.func57,rfl,rfl,by kernel_rfl,by kernel_rfl⟩⟩
def c_ref14_is:SCode :=.seq (.reg [⟨Sa 2,.box 56 (.t 0),Sb⟩,⟨Sa 4,.mv (.c (.b false)),Sb⟩]) (.seq (.reg [⟨Sa 5,.fad 0 (.t 2),Sb⟩,⟨Sa 6,.load1 (.t 5),Sb⟩,⟨Sa 7,.bin .eql (.t 6) (.c (.i .i64 2)),Sb⟩,⟨Sa 8,.mv (.t 7),Sb⟩,⟨Sa 9,.fad 1 (.t 2),some (8,true)⟩,⟨Sa 10,.load1 (.t 9),some (8,true)⟩,⟨Sa 11,.mv (.t 1),some (8,true)⟩,⟨Sa 12,.bin .eql (.t 10) (.t 11),some (8,true)⟩,⟨Sa 13,.pick (.t 8) (.t 12) (.c (.b false)),Sb⟩,⟨Sa 4,.mv (.t 13),Sb⟩]) (.ret))
theorem is_ref14_is:FnIs Tryz.prog 58 14 [.tmp 4] c_ref14_is:=⟨⟨_,_,Tryz.func58,rfl,rfl,by kernel_rfl,by kernel_rfl⟩⟩
def c_ref13_Number:SCode :=.seq (.reg [⟨Sa 2,.mv (.c (.s [])),Sb⟩,⟨Sa 3,.mv (.c (.i .i64 0)),Sb⟩]) (.seq (.seq (.reg [⟨Sa 9,.mv (.t 0),Sb⟩,⟨Sa 10,.bin .eql (.t 9) (.c (.s [])),Sb⟩,⟨Sa 11,.mv (.t 10),Sb⟩,⟨Sa 12,.mv (.t 0),some (11,false)⟩,⟨Sa 13,.call 84 [.t 12],some (11,false)⟩,⟨Sa 14,.mv (.t 0),some (11,false)⟩,⟨Sa 15,.lens (.t 14),some (11,false)⟩,⟨Sa 16,.bin .neq (.t 13) (.t 15),some (11,false)⟩,⟨Sa 17,.pick (.t 11) (.c (.b true)) (.t 16),Sb⟩]) (.cond (.t 17) (.seq (.reg [⟨Sa 2,.mv (.c (.s [])),Sb⟩,⟨Sa 3,.mv (.c (.i .i64 130)),Sb⟩]) (.ret)) (.skip))) (.seq (.reg [⟨Sa 4,.mv (.c (.s [])),Sb⟩]) (.seq (.seq (.reg [⟨Sa 18,.mv (.t 0),Sb⟩,⟨Sa 19,.idx (.t 18) (.c (.i .i64 0)),Sb⟩,⟨Sa 20,.bin .eql (.t 19) (.c (.i .u8 45)),Sb⟩]) (.cond (.t 20) (.drw [⟨Sa 21,.mv (.t 0),Sb⟩,⟨Sa 22,.slcs (.t 21) (some (.c (.i .i64 1))) none,Sb⟩,⟨Sa 4,.mv (.c (.s [45])),Sb⟩,⟨Sa 0,.mv (.t 22),Sb⟩] 4 []) (.skip))) (.seq (.reg [⟨Sa 23,.mv (.t 0),Sb⟩,⟨Sa 24,.call 69 [.t 23,.c (.s [101,69])],Sb⟩,⟨Sa 5,.mv (.t 24),Sb⟩]) (.seq (.drw [⟨Sa 25,.mv (.t 0),Sb⟩,⟨Sa 26,.mv (.t 5),Sb⟩,⟨Sa 27,.bin .add (.t 26) (.c (.i .i64 1)),Sb⟩,⟨Sa 28,.call 86 [.t 25,.t 27],Sb⟩,⟨Sa 29,.call 85 [.t 28],Sb⟩,⟨Sa 30,.mv (.t 0),Sb⟩,⟨Sa 31,.mv (.t 5),Sb⟩,⟨Sa 32,.slcs (.t 30) none (some (.t 31)),Sb⟩,⟨Sa 6,.mv (.t 29),Sb⟩,⟨Sa 7,.mv (.t 32),Sb⟩] 10 []) (.seq (.seq (.reg [⟨Sa 33,.mv (.t 7),Sb⟩,⟨Sa 34,.call 69 [.t 33,.c (.s [46])],Sb⟩,⟨Sa 8,.mv (.t 34),Sb⟩]) (.seq (.reg [⟨Sa 35,.mv (.t 8),Sb⟩,⟨Sa 36,.mv (.t 7),Sb⟩,⟨Sa 37,.lens (.t 36),Sb⟩,⟨Sa 38,.bin .lss (.t 35) (.t 37),Sb⟩]) (.cond (.t 38) (.drw [⟨Sa 39,.mv (.t 6),Sb⟩,⟨Sa 40,.mv (.t 7),Sb⟩,⟨Sa 41,.lens (.t 40),Sb⟩,⟨Sa 42,.mv (.t 8),Sb⟩,⟨Sa 43,.bin .sub (.t 41) (.t 42),Sb⟩,⟨Sa 44,.bin .sub (.t 43) (.c (.i .i64 1)),Sb⟩,⟨Sa 45,.bin .sub (.t 39) (.t 44),Sb⟩,⟨Sa 46,.mv (.t 7),Sb⟩,⟨Sa 47,.mv (.t 8),Sb⟩,⟨Sa 48,.slcs (.t 46) none (some (.t 47)),Sb⟩,⟨Sa 49,.mv (.t 7),Sb⟩,⟨Sa 50,.mv (.t 8),Sb⟩,⟨Sa 51,.bin .add (.t 50) (.c (.i .i64 1)),Sb⟩,⟨Sa 52,.slcs (.t 49) (some (.t 51)) none,Sb⟩,⟨Sa 53,.bin .add (.t 48) (.t 52),Sb⟩,⟨Sa 6,.mv (.t 45),Sb⟩,⟨Sa 7,.mv (.t 53),Sb⟩] 17 []) (.skip)))) (.seq (.blk 0 (.loop (.seq (.seq (.reg [⟨Sa 54,.mv (.t 7),Sb⟩,⟨Sa 55,.lens (.t 54),Sb⟩,⟨Sa 56,.bin .gtr (.t 55) (.c (.i .i64 0)),Sb⟩,⟨Sa 57,.mv (.t 56),Sb⟩,⟨Sa 58,.mv (.t 7),some (57,true)⟩,⟨Sa 59,.idx (.t 58) (.c (.i .i64 0)),some (57,true)⟩,⟨Sa 60,.bin .eql (.t 59) (.c (.i .u8 48)),some (57,true)⟩,⟨Sa 61,.pick (.t 57) (.t 60) (.c (.b false)),Sb⟩]) (.cond (.t 61) (.skip) (.exit 0))) (.blk 1 (.reg [⟨Sa 62,.mv (.t 7),Sb⟩,⟨Sa 63,.slcs (.t 62) (some (.c (.i .i64 1))) none,Sb⟩,⟨Sa 7,.mv (.t 63),Sb⟩]))))) (.seq (.seq (.reg [⟨Sa 64,.mv (.t 7),Sb⟩,⟨Sa 65,.bin .eql (.t 64) (.c (.s [])),Sb⟩]) (.cond (.t 65) (.seq (.reg [⟨Sa 2,.mv (.c (.s [48])),Sb⟩,⟨Sa 3,.mv (.c (.i .i64 0)),Sb⟩]) (.ret)) (.skip))) (.seq (.blk 2 (.loop (.seq (.seq (.reg [⟨Sa 66,.mv (.t 7),Sb⟩,⟨Sa 67,.mv (.t 7),Sb⟩,⟨Sa 68,.lens (.t 67),Sb⟩,⟨Sa 69,.bin .sub (.t 68) (.c (.i .i64 1)),Sb⟩,⟨Sa 70,.idx (.t 66) (.t 69),Sb⟩,⟨Sa 71,.bin .eql (.t 70) (.c (.i .u8 48)),Sb⟩]) (.cond (.t 71) (.skip) (.exit 2))) (.blk 3 (.reg [⟨Sa 72,.mv (.t 7),Sb⟩,⟨Sa 73,.mv (.t 7),Sb⟩,⟨Sa 74,.lens (.t 73),Sb⟩,⟨Sa 75,.bin .sub (.t 74) (.c (.i .i64 1)),Sb⟩,⟨Sa 76,.slcs (.t 72) none (some (.t 75)),Sb⟩,⟨Sa 77,.mv (.t 6),Sb⟩,⟨Sa 78,.bin .add (.t 77) (.c (.i .i64 1)),Sb⟩,⟨Sa 7,.mv (.t 76),Sb⟩,⟨Sa 6,.mv (.t 78),Sb⟩]))))) (.seq (.blk 4 (.seq (.reg [⟨Sa 80,.mv (.t 7),Sb⟩,⟨Sa 81,.lens (.t 80),Sb⟩,⟨Sa 82,.bin .gtr (.t 81) (.c (.i .i64 40)),Sb⟩,⟨Sa 83,.mv (.t 82),Sb⟩,⟨Sa 84,.mv (.t 6),some (83,false)⟩,⟨Sa 85,.bin .gtr (.t 84) (.c (.i .i64 400)),some (83,false)⟩,⟨Sa 86,.pick (.t 83) (.c (.b true)) (.t 85),Sb⟩,⟨Sa 87,.mv (.t 86),Sb⟩,⟨Sa 88,.mv (.t 6),some (87,false)⟩,⟨Sa 89,.bin .lss (.t 88) (.c (.i .i64 (-400))),some (87,false)⟩,⟨Sa 90,.pick (.t 87) (.c (.b true)) (.t 89),Sb⟩,⟨Sa 79,.mv (.t 90),Sb⟩]) (.cond (.t 79) (.seq (.reg [⟨Sa 2,.mv (.c (.s [])),Sb⟩,⟨Sa 3,.mv (.c (.i .i64 144)),Sb⟩]) (.ret)) (.seq (.reg [⟨Sa 92,.mv (.t 6),Sb⟩,⟨Sa 93,.bin .lss (.t 92) (.c (.i .i64 0)),Sb⟩,⟨Sa 91,.mv (.t 93),Sb⟩]) (.cond (.t 91) (.seq (.reg [⟨Sa 94,.mv (.t 4),Sb⟩,⟨Sa 95,.mv (.t 7),Sb⟩,⟨Sa 96,.bin .add (.t 94) (.t 95),Sb⟩,⟨Sa 97,.bin .add (.t 96) (.c (.s [101,45])),Sb⟩,⟨Sa 98,.mv (.t 6),Sb⟩,⟨Sa 99,.neg (.t 98),Sb⟩,⟨Sa 100,.cvi .u64 (.t 99),Sb⟩,⟨Sa 101,.call 87 [.t 100],Sb⟩,⟨Sa 102,.bin .add (.t 97) (.t 101),Sb⟩,⟨Sa 2,.mv (.t 102),Sb⟩,⟨Sa 3,.mv (.c (.i .i64 0)),Sb⟩]) (.ret)) (.seq (.reg [⟨Sa 104,.mv (.t 6),Sb⟩,⟨Sa 105,.bin .gtr (.t 104) (.c (.i .i64 0)),Sb⟩,⟨Sa 103,.mv (.t 105),Sb⟩]) (.cond (.t 103) (.seq (.reg [⟨Sa 106,.mv (.t 4),Sb⟩,⟨Sa 107,.mv (.t 7),Sb⟩,⟨Sa 108,.bin .add (.t 106) (.t 107),Sb⟩,⟨Sa 109,.bin .add (.t 108) (.c (.s [101])),Sb⟩,⟨Sa 110,.mv (.t 6),Sb⟩,⟨Sa 111,.cvi .u64 (.t 110),Sb⟩,⟨Sa 112,.call 87 [.t 111],Sb⟩,⟨Sa 113,.bin .add (.t 109) (.t 112),Sb⟩,⟨Sa 2,.mv (.t 113),Sb⟩,⟨Sa 3,.mv (.c (.i .i64 0)),Sb⟩]) (.ret)) (.skip)))))))) (.seq (.reg [⟨Sa 114,.mv (.t 4),Sb⟩,⟨Sa 115,.mv (.t 7),Sb⟩,⟨Sa 116,.bin .add (.t 114) (.t 115),Sb⟩,⟨Sa 2,.mv (.t 116),Sb⟩,⟨Sa 3,.mv (.c (.i .i64 0)),Sb⟩]) (.ret))))))))))))
theorem is_ref13_Number:FnIs Tryz.prog 59 117 [.tmp 2,.tmp 3] c_ref13_Number:=⟨⟨_,_,Tryz.func59,rfl,rfl,by kernel_rfl,by kernel_rfl⟩⟩
def c_ref14_word:SCode :=.seq (.reg [⟨Sa 2,.mv (.c (.i .i64 0)),Sb⟩]) (.seq (.seq (.reg [⟨Sa 3,.mv (.t 0),Sb⟩]) (.blk 0 (.seq (.reg [⟨Sa 5,.bin .eql (.t 3) (.c (.s [116,114,117,101])),Sb⟩,⟨Sa 4,.mv (.t 5),Sb⟩]) (.cond (.t 4) (.seq (.reg [⟨Sa 2,.mv (.c (.i .i64 3)),Sb⟩]) (.ret)) (.seq (.reg [⟨Sa 7,.bin .eql (.t 3) (.c (.s [102,97,108,115,101])),Sb⟩,⟨Sa 6,.mv (.t 7),Sb⟩]) (.cond (.t 6) (.seq (.reg [⟨Sa 2,.mv (.c (.i .i64 2)),Sb⟩]) (.ret)) (.skip))))))) (.seq (.reg [⟨Sa 2,.mv (.c (.i .i64 1)),Sb⟩]) (.ret)))
theorem is_ref14_word:FnIs Tryz.prog 60 8 [.tmp 2] c_ref14_word:=⟨⟨_,_,Tryz.func60,rfl,rfl,by kernel_rfl,by kernel_rfl⟩⟩
def c_ref14_parser_array:SCode :=.seq (.reg [⟨Sa 4,.alloc 25 [.i .i64 0,.s [],.nil,.nil],Sb⟩]) (.seq (.reg [⟨Sa 7,.build [.i .i64 0,.s [],.nil,.nil] [(0,(1,.c (.i .i64 6)))],Sb⟩,⟨Sa 5,.alloc 25 [.i .i64 0,.s [],.nil,.nil],Sb⟩,⟨Sb,.store 4 (.t 5) (.t 7),Sb⟩]) (.seq (.reg [⟨Sa 8,.mv (.t 0),Sb⟩,⟨Sa 9,.call 21 [.t 8],Sb⟩,⟨Sa 6,.alloc 56 [.i .i64 0,.s [],.i .i64 0],Sb⟩,⟨Sb,.store 3 (.t 6) (.t 9),Sb⟩]) (.seq (.seq (.reg [⟨Sa 10,.loadn 3 (.t 6),Sb⟩,⟨Sa 11,.call 58 [.t 10,.c (.s [93])],Sb⟩]) (.cond (.t 11) (.seq (.reg [⟨Sa 12,.loadn 4 (.t 5),Sb⟩,⟨Sb,.store 4 (.t 4) (.t 12),Sb⟩]) (.ret)) (.skip))) (.seq (.blk 0 (.loop (.seq (.seq (.reg [⟨Sa 13,.mv (.t 0),Sb⟩,⟨Sa 14,.nck (.t 13),Sb⟩,⟨Sa 15,.fad 3 (.t 14),Sb⟩,⟨Sa 16,.load1 (.t 15),Sb⟩,⟨Sa 17,.bin .eql (.t 16) (.c (.i .i64 0)),Sb⟩]) (.cond (.t 17) (.skip) (.exit 0))) (.blk 1 (.seq (.crg [⟨Sa 18,.fad 3 (.t 5),Sb⟩,⟨Sa 19,.load1 (.t 18),Sb⟩,⟨Sa 20,.mv (.t 0),Sb⟩,⟨Sa 21,.loadn 3 (.t 6),Sb⟩,⟨Sa 22,.mv (.t 1),Sb⟩] ⟨Sa 23,.call 20 [.t 20,.t 21,.t 22],Sb⟩ [⟨Sa 24,.bslice 1 [.i .i64 0,.s [],.nil,.nil] [(0,(4,.t 23))],Sb⟩,⟨Sa 25,.app 25 4 72 (.t 19) (.t 24),Sb⟩,⟨Sa 26,.fad 3 (.t 5),Sb⟩,⟨Sb,.store 1 (.t 26) (.t 25),Sb⟩]) (.seq (.reg [⟨Sa 27,.mv (.t 0),Sb⟩,⟨Sa 28,.call 21 [.t 27],Sb⟩,⟨Sb,.store 3 (.t 6) (.t 28),Sb⟩]) (.seq (.seq (.reg [⟨Sa 29,.loadn 3 (.t 6),Sb⟩,⟨Sa 30,.call 58 [.t 29,.c (.s [93])],Sb⟩]) (.cond (.t 30) (.seq (.reg [⟨Sa 31,.loadn 4 (.t 5),Sb⟩,⟨Sb,.store 4 (.t 4) (.t 31),Sb⟩]) (.ret)) (.skip))) (.seq (.seq (.reg [⟨Sa 32,.mv (.t 0),Sb⟩,⟨Sa 33,.nck (.t 32),Sb⟩,⟨Sa 34,.fad 3 (.t 33),Sb⟩,⟨Sa 35,.load1 (.t 34),Sb⟩,⟨Sa 36,.bin .eql (.t 35) (.c (.i .i64 0)),Sb⟩,⟨Sa 37,.mv (.t 36),Sb⟩,⟨Sa 38,.loadn 3 (.t 6),some (37,true)⟩,⟨Sa 39,.call 58 [.t 38,.c (.s [44])],some (37,true)⟩,⟨Sa 40,.not (.t 39),some (37,true)⟩,⟨Sa 41,.pick (.t 37) (.t 40) (.c (.b false)),Sb⟩]) (.cond (.t 41) (.reg [⟨Sa 42,.mv (.t 0),Sb⟩,⟨Sa 43,.fad 2 (.t 6),Sb⟩,⟨Sa 44,.load1 (.t 43),Sb⟩,⟨Sa 45,.call 22 [.t 42,.t 44,.c (.i .i64 140)],Sb⟩]) (.skip))) (.reg [⟨Sa 46,.mv (.t 0),Sb⟩,⟨Sa 47,.call 21 [.t 46],Sb⟩,⟨Sb,.store 3 (.t 6) (.t 47),Sb⟩]))))))))) (.seq (.reg [⟨Sa 48,.loadn 4 (.t 5),Sb⟩,⟨Sb,.store 4 (.t 4) (.t 48),Sb⟩]) (.ret))))))
theorem is_ref14_parser_array:FnIs Tryz.prog 61 49 [.celln 4 4] c_ref14_parser_array:=⟨⟨_,_,Tryz.func61,rfl,rfl,by kernel_rfl,by kernel_rfl⟩⟩
def c_ref14_parser_object:SCode :=.seq (.reg [⟨Sa 4,.alloc 25 [.i .i64 0,.s [],.nil,.nil],Sb⟩]) (.seq (.reg [⟨Sa 11,.build [.i .i64 0,.s [],.nil,.nil] [(0,(1,.c (.i .i64 7)))],Sb⟩,⟨Sa 5,.alloc 25 [.i .i64 0,.s [],.nil,.nil],Sb⟩,⟨Sb,.store 4 (.t 5) (.t 11),Sb⟩]) (.seq (.reg [⟨Sa 12,.mv (.t 0),Sb⟩,⟨Sa 13,.call 21 [.t 12],Sb⟩,⟨Sa 6,.alloc 56 [.i .i64 0,.s [],.i .i64 0],Sb⟩,⟨Sb,.store 3 (.t 6) (.t 13),Sb⟩]) (.seq (.seq (.reg [⟨Sa 14,.loadn 3 (.t 6),Sb⟩,⟨Sa 15,.call 58 [.t 14,.c (.s [125])],Sb⟩]) (.cond (.t 15) (.seq (.reg [⟨Sa 16,.loadn 4 (.t 5),Sb⟩,⟨Sb,.store 4 (.t 4) (.t 16),Sb⟩]) (.ret)) (.skip))) (.seq (.blk 0 (.loop (.seq (.seq (.reg [⟨Sa 17,.mv (.t 0),Sb⟩,⟨Sa 18,.nck (.t 17),Sb⟩,⟨Sa 19,.fad 3 (.t 18),Sb⟩,⟨Sa 20,.load1 (.t 19),Sb⟩,⟨Sa 21,.bin .eql (.t 20) (.c (.i .i64 0)),Sb⟩]) (.cond (.t 21) (.skip) (.exit 0))) (.blk 1 (.seq (.seq (.reg [⟨Sa 22,.fad 0 (.t 6),Sb⟩,⟨Sa 23,.load1 (.t 22),Sb⟩,⟨Sa 24,.bin .neq (.t 23) (.c (.i .i64 3)),Sb⟩]) (.cond (.t 24) (.reg [⟨Sa 25,.mv (.t 0),Sb⟩,⟨Sa 26,.fad 2 (.t 6),Sb⟩,⟨Sa 27,.load1 (.t 26),Sb⟩,⟨Sa 28,.call 22 [.t 25,.t 27,.c (.i .i64 140)],Sb⟩]) (.skip))) (.seq (.seq (.reg [⟨Sa 30,.loadn 4 (.t 5),Sb⟩,⟨Sa 31,.fad 1 (.t 6),Sb⟩,⟨Sa 32,.load1 (.t 31),Sb⟩,⟨Sa 33,.call 42 [.t 30,.t 32],Sb⟩,⟨Sa 29,.mv (.t 33),Sb⟩,⟨Sa 34,.ext (.t 29) 0,Sb⟩,⟨Sa 35,.ext (.t 29) 1,Sb⟩,⟨Sa 7,.alloc 25 [.i .i64 0,.s [],.nil,.nil],Sb⟩,⟨Sb,.store 4 (.t 7) (.t 34),Sb⟩,⟨Sa 8,.mv (.t 35),Sb⟩]) (.seq (.reg [⟨Sa 36,.mv (.t 8),Sb⟩]) (.cond (.t 36) (.reg [⟨Sa 37,.mv (.t 0),Sb⟩,⟨Sa 38,.fad 2 (.t 6),Sb⟩,⟨Sa 39,.load1 (.t 38),Sb⟩,⟨Sa 40,.call 22 [.t 37,.t 39,.c (.i .i64 143)],Sb⟩]) (.skip)))) (.seq (.reg [⟨Sa 41,.fad 1 (.t 6),Sb⟩,⟨Sa 42,.load1 (.t 41),Sb⟩,⟨Sa 9,.mv (.t 42),Sb⟩]) (.seq (.seq (.reg [⟨Sa 43,.mv (.t 0),Sb⟩,⟨Sa 44,.call 21 [.t 43],Sb⟩,⟨Sb,.store 3 (.t 6) (.t 44),Sb⟩]) (.seq (.reg [⟨Sa 45,.mv (.t 0),Sb⟩,⟨Sa 46,.nck (.t 45),Sb⟩,⟨Sa 47,.fad 3 (.t 46),Sb⟩,⟨Sa 48,.load1 (.t 47),Sb⟩,⟨Sa 49,.bin .eql (.t 48) (.c (.i .i64 0)),Sb⟩,⟨Sa 50,.mv (.t 49),Sb⟩,⟨Sa 51,.loadn 3 (.t 6),some (50,true)⟩,⟨Sa 52,.call 58 [.t 51,.c (.s [58])],some (50,true)⟩,⟨Sa 53,.not (.t 52),some (50,true)⟩,⟨Sa 54,.pick (.t 50) (.t 53) (.c (.b false)),Sb⟩]) (.cond (.t 54) (.reg [⟨Sa 55,.mv (.t 0),Sb⟩,⟨Sa 56,.fad 2 (.t 6),Sb⟩,⟨Sa 57,.load1 (.t 56),Sb⟩,⟨Sa 58,.call 22 [.t 55,.t 57,.c (.i .i64 140)],Sb⟩]) (.skip)))) (.seq (.reg [⟨Sa 59,.mv (.t 0),Sb⟩,⟨Sa 60,.mv (.t 0),Sb⟩,⟨Sa 61,.call 21 [.t 60],Sb⟩,⟨Sa 62,.mv (.t 1),Sb⟩,⟨Sa 63,.call 20 [.t 59,.t 61,.t 62],Sb⟩,⟨Sa 10,.alloc 25 [.i .i64 0,.s [],.nil,.nil],Sb⟩,⟨Sb,.store 4 (.t 10) (.t 63),Sb⟩]) (.seq (.drw [⟨Sa 64,.fad 2 (.t 5),Sb⟩,⟨Sa 65,.load1 (.t 64),Sb⟩,⟨Sa 66,.mv (.t 9),Sb⟩,⟨Sa 67,.bslice 1 [.s []] [(0,(1,.t 66))],Sb⟩,⟨Sa 68,.app 9 1 16 (.t 65) (.t 67),Sb⟩,⟨Sa 69,.fad 3 (.t 5),Sb⟩,⟨Sa 70,.load1 (.t 69),Sb⟩,⟨Sa 71,.loadn 4 (.t 10),Sb⟩,⟨Sa 72,.bslice 1 [.i .i64 0,.s [],.nil,.nil] [(0,(4,.t 71))],Sb⟩,⟨Sa 73,.app 25 4 72 (.t 70) (.t 72),Sb⟩,⟨Sa 74,.fad 2 (.t 5),Sb⟩,⟨Sb,.store 1 (.t 74) (.t 68),Sb⟩,⟨Sa 75,.fad 3 (.t 5),Sb⟩,⟨Sb,.store 1 (.t 75) (.t 73),Sb⟩] 14 [(69,(68,none)),(10,(68,none))]) (.seq (.reg [⟨Sa 76,.mv (.t 0),Sb⟩,⟨Sa 77,.call 21 [.t 76],Sb⟩,⟨Sb,.store 3 (.t 6) (.t 77),Sb⟩]) (.seq (.seq (.reg [⟨Sa 78,.loadn 3 (.t 6),Sb⟩,⟨Sa 79,.call 58 [.t 78,.c (.s [125])],Sb⟩]) (.cond (.t 79) (.seq (.reg [⟨Sa 80,.loadn 4 (.t 5),Sb⟩,⟨Sb,.store 4 (.t 4) (.t 80),Sb⟩]) (.ret)) (.skip))) (.seq (.seq (.reg [⟨Sa 81,.mv (.t 0),Sb⟩,⟨Sa 82,.nck (.t 81),Sb⟩,⟨Sa 83,.fad 3 (.t 82),Sb⟩,⟨Sa 84,.load1 (.t 83),Sb⟩,⟨Sa 85,.bin .eql (.t 84) (.c (.i .i64 0)),Sb⟩,⟨Sa 86,.mv (.t 85),Sb⟩,⟨Sa 87,.loadn 3 (.t 6),some (86,true)⟩,⟨Sa 88,.call 58 [.t 87,.c (.s [44])],some (86,true)⟩,⟨Sa 89,.not (.t 88),some (86,true)⟩,⟨Sa 90,.pick (.t 86) (.t 89) (.c (.b false)),Sb⟩]) (.cond (.t 90) (.reg [⟨Sa 91,.mv (.t 0),Sb⟩,⟨Sa 92,.fad 2 (.t 6),Sb⟩,⟨Sa 93,.load1 (.t 92),Sb⟩,⟨Sa 94,.call 22 [.t 91,.t 93,.c (.i .i64 140)],Sb⟩]) (.skip))) (.reg [⟨Sa 95,.mv (.t 0),Sb⟩,⟨Sa 96,.call 21 [.t 95],Sb⟩,⟨Sb,.store 3 (.t 6) (.t 96),Sb⟩])))))))))))))) (.seq (.reg [⟨Sa 97,.loadn 4 (.t 5),Sb⟩,⟨Sb,.store 4 (.t 4) (.t 97),Sb⟩]) (.ret))))))
theorem is_ref14_parser_object:FnIs Tryz.prog 62 98 [.celln 4 4] c_ref14_parser_object:=⟨⟨_,_,Tryz.func62,rfl,rfl,by kernel_rfl,by kernel_rfl⟩⟩
def c_ref13_Next:SCode :=.seq (.reg [⟨Sa 4,.alloc 56 [.i .i64 0,.s [],.i .i64 0],Sb⟩,⟨Sa 5,.mv (.c (.i .i64 0)),Sb⟩,⟨Sa 6,.mv (.c (.i .i64 0)),Sb⟩]) (.seq (.seq (.reg [⟨Sa 14,.mv (.t 1),Sb⟩,⟨Sa 15,.bin .lss (.t 14) (.c (.i .i64 0)),Sb⟩,⟨Sa 16,.mv (.t 15),Sb⟩,⟨Sa 17,.mv (.t 1),some (16,false)⟩,⟨Sa 18,.mv (.t 0),some (16,false)⟩,⟨Sa 19,.lens (.t 18),some (16,false)⟩,⟨Sa 20,.bin .gtr (.t 17) (.t 19),some (16,false)⟩,⟨Sa 21,.pick (.t 16) (.c (.b true)) (.t 20),Sb⟩]) (.cond (.t 21) (.seq (.reg [⟨Sa 22,.build [.i .i64 0,.s [],.i .i64 0] [],Sb⟩,⟨Sb,.store 3 (.t 4) (.t 22),Sb⟩,⟨Sa 5,.mv (.c (.i .i64 0)),Sb⟩,⟨Sa 6,.mv (.c (.i .i64 4)),Sb⟩]) (.ret)) (.skip))) (.seq (.blk 0 (.loop (.seq (.seq (.reg [⟨Sa 23,.mv (.t 1),Sb⟩,⟨Sa 24,.mv (.t 0),Sb⟩,⟨Sa 25,.lens (.t 24),Sb⟩,⟨Sa 26,.bin .lss (.t 23) (.t 25),Sb⟩,⟨Sa 27,.mv (.t 26),Sb⟩,⟨Sa 28,.mv (.t 0),some (27,true)⟩,⟨Sa 29,.mv (.t 1),some (27,true)⟩,⟨Sa 30,.idx (.t 28) (.t 29),some (27,true)⟩,⟨Sa 31,.call 88 [.t 30],some (27,true)⟩,⟨Sa 32,.pick (.t 27) (.t 31) (.c (.b false)),Sb⟩]) (.cond (.t 32) (.skip) (.exit 0))) (.blk 1 (.reg [⟨Sa 33,.mv (.t 1),Sb⟩,⟨Sa 34,.bin .add (.t 33) (.c (.i .i64 1)),Sb⟩,⟨Sa 1,.mv (.t 34),Sb⟩]))))) (.seq (.seq (.reg [⟨Sa 35,.mv (.t 1),Sb⟩,⟨Sa 36,.mv (.t 0),Sb⟩,⟨Sa 37,.lens (.t 36),Sb⟩,⟨Sa 38,.bin .eql (.t 35) (.t 37),Sb⟩]) (.cond (.t 38) (.seq (.reg [⟨Sa 39,.mv (.t 1),Sb⟩,⟨Sa 40,.build [.i .i64 0,.s [],.i .i64 0] [(0,(1,.c (.i .i64 1))),(2,(1,.t 39))],Sb⟩,⟨Sa 41,.mv (.t 1),Sb⟩,⟨Sb,.store 3 (.t 4) (.t 40),Sb⟩,⟨Sa 5,.mv (.t 41),Sb⟩,⟨Sa 6,.mv (.c (.i .i64 0)),Sb⟩]) (.ret)) (.skip))) (.seq (.seq (.reg [⟨Sa 42,.mv (.t 0),Sb⟩,⟨Sa 43,.mv (.t 1),Sb⟩,⟨Sa 44,.idx (.t 42) (.t 43),Sb⟩,⟨Sa 7,.mv (.t 44),Sb⟩]) (.blk 2 (.seq (.reg [⟨Sa 46,.mv (.t 7),Sb⟩,⟨Sa 47,.call 82 [.t 46,.c (.s [123,125,91,93,58,44])],Sb⟩,⟨Sa 45,.mv (.t 47),Sb⟩]) (.cond (.t 45) (.seq (.reg [⟨Sa 48,.mv (.t 0),Sb⟩,⟨Sa 49,.mv (.t 1),Sb⟩,⟨Sa 50,.mv (.t 1),Sb⟩,⟨Sa 51,.bin .add (.t 50) (.c (.i .i64 1)),Sb⟩,⟨Sa 52,.slcs (.t 48) (some (.t 49)) (some (.t 51)),Sb⟩,⟨Sa 53,.mv (.t 1),Sb⟩,⟨Sa 54,.build [.i .i64 0,.s [],.i .i64 0] [(0,(1,.c (.i .i64 2))),(1,(1,.t 52)),(2,(1,.t 53))],Sb⟩,⟨Sa 55,.mv (.t 1),Sb⟩,⟨Sa 56,.bin .add (.t 55) (.c (.i .i64 1)),Sb⟩,⟨Sb,.store 3 (.t 4) (.t 54),Sb⟩,⟨Sa 5,.mv (.t 56),Sb⟩,⟨Sa 6,.mv (.c (.i .i64 0)),Sb⟩]) (.ret)) (.seq (.reg [⟨Sa 58,.mv (.t 7),Sb⟩,⟨Sa 59,.bin .eql (.t 58) (.c (.i .u8 34)),Sb⟩,⟨Sa 57,.mv (.t 59),Sb⟩]) (.cond (.t 57) (.seq (.reg [⟨Sa 61,.mv (.t 0),Sb⟩,⟨Sa 62,.mv (.t 1),Sb⟩,⟨Sa 63,.call 89 [.t 61,.t 62],Sb⟩,⟨Sa 60,.mv (.t 63),Sb⟩,⟨Sa 64,.ext (.t 60) 0,Sb⟩,⟨Sa 65,.ext (.t 60) 1,Sb⟩,⟨Sa 66,.ext (.t 60) 2,Sb⟩,⟨Sa 8,.mv (.t 64),Sb⟩,⟨Sa 9,.mv (.t 65),Sb⟩,⟨Sa 10,.mv (.t 66),Sb⟩]) (.seq (.seq (.reg [⟨Sa 67,.mv (.t 10),Sb⟩,⟨Sa 68,.bin .neq (.t 67) (.c (.i .i64 0)),Sb⟩]) (.cond (.t 68) (.seq (.reg [⟨Sa 69,.build [.i .i64 0,.s [],.i .i64 0] [],Sb⟩,⟨Sa 70,.mv (.t 10),Sb⟩,⟨Sb,.store 3 (.t 4) (.t 69),Sb⟩,⟨Sa 5,.mv (.c (.i .i64 0)),Sb⟩,⟨Sa 6,.mv (.t 70),Sb⟩]) (.ret)) (.skip))) (.seq (.reg [⟨Sa 71,.mv (.t 8),Sb⟩,⟨Sa 72,.mv (.t 1),Sb⟩,⟨Sa 73,.build [.i .i64 0,.s [],.i .i64 0] [(0,(1,.c (.i .i64 3))),(1,(1,.t 71)),(2,(1,.t 72))],Sb⟩,⟨Sa 74,.mv (.t 9),Sb⟩,⟨Sb,.store 3 (.t 4) (.t 73),Sb⟩,⟨Sa 5,.mv (.t 74),Sb⟩,⟨Sa 6,.mv (.c (.i .i64 0)),Sb⟩]) (.ret)))) (.seq (.reg [⟨Sa 76,.mv (.t 7),Sb⟩,⟨Sa 77,.bin .eql (.t 76) (.c (.i .u8 45)),Sb⟩,⟨Sa 78,.mv (.t 77),Sb⟩,⟨Sa 79,.mv (.t 7),some (78,false)⟩,⟨Sa 80,.call 90 [.t 79],some (78,false)⟩,⟨Sa 81,.pick (.t 78) (.c (.b true)) (.t 80),Sb⟩,⟨Sa 75,.mv (.t 81),Sb⟩]) (.cond (.t 75) (.seq (.reg [⟨Sa 82,.mv (.t 0),Sb⟩,⟨Sa 83,.mv (.t 1),Sb⟩,⟨Sa 84,.slcs (.t 82) (some (.t 83)) none,Sb⟩,⟨Sa 85,.call 84 [.t 84],Sb⟩,⟨Sa 11,.mv (.t 85),Sb⟩]) (.seq (.seq (.reg [⟨Sa 86,.mv (.t 11),Sb⟩,⟨Sa 87,.bin .eql (.t 86) (.c (.i .i64 0)),Sb⟩]) (.cond (.t 87) (.seq (.reg [⟨Sa 88,.build [.i .i64 0,.s [],.i .i64 0] [],Sb⟩,⟨Sb,.store 3 (.t 4) (.t 88),Sb⟩,⟨Sa 5,.mv (.c (.i .i64 0)),Sb⟩,⟨Sa 6,.mv (.c (.i .i64 130)),Sb⟩]) (.ret)) (.skip))) (.seq (.reg [⟨Sa 89,.mv (.t 0),Sb⟩,⟨Sa 90,.mv (.t 1),Sb⟩,⟨Sa 91,.mv (.t 1),Sb⟩,⟨Sa 92,.mv (.t 11),Sb⟩,⟨Sa 93,.bin .add (.t 91) (.t 92),Sb⟩,⟨Sa 94,.slcs (.t 89) (some (.t 90)) (some (.t 93)),Sb⟩,⟨Sa 95,.mv (.t 1),Sb⟩,⟨Sa 96,.build [.i .i64 0,.s [],.i .i64 0] [(0,(1,.c (.i .i64 4))),(1,(1,.t 94)),(2,(1,.t 95))],Sb⟩,⟨Sa 97,.mv (.t 1),Sb⟩,⟨Sa 98,.mv (.t 11),Sb⟩,⟨Sa 99,.bin .add (.t 97) (.t 98),Sb⟩,⟨Sb,.store 3 (.t 4) (.t 96),Sb⟩,⟨Sa 5,.mv (.t 99),Sb⟩,⟨Sa 6,.mv (.c (.i .i64 0)),Sb⟩]) (.ret)))) (.skip))))))))) (.seq (.reg [⟨Sa 12,.mv (.c (.i .i64 0)),Sb⟩]) (.seq (.blk 3 (.loop (.seq (.seq (.reg [⟨Sa 100,.mv (.t 1),Sb⟩,⟨Sa 101,.mv (.t 12),Sb⟩,⟨Sa 102,.bin .add (.t 100) (.t 101),Sb⟩,⟨Sa 103,.mv (.t 0),Sb⟩,⟨Sa 104,.lens (.t 103),Sb⟩,⟨Sa 105,.bin .lss (.t 102) (.t 104),Sb⟩,⟨Sa 106,.mv (.t 105),Sb⟩,⟨Sa 107,.mv (.t 0),some (106,true)⟩,⟨Sa 108,.mv (.t 1),some (106,true)⟩,⟨Sa 109,.mv (.t 12),some (106,true)⟩,⟨Sa 110,.bin .add (.t 108) (.t 109),some (106,true)⟩,⟨Sa 111,.idx (.t 107) (.t 110),some (106,true)⟩,⟨Sa 112,.call 91 [.t 111],some (106,true)⟩,⟨Sa 113,.pick (.t 106) (.t 112) (.c (.b false)),Sb⟩]) (.cond (.t 113) (.skip) (.exit 3))) (.blk 4 (.reg [⟨Sa 114,.mv (.t 12),Sb⟩,⟨Sa 115,.bin .add (.t 114) (.c (.i .i64 1)),Sb⟩,⟨Sa 12,.mv (.t 115),Sb⟩]))))) (.seq (.seq (.reg [⟨Sa 116,.mv (.t 0),Sb⟩,⟨Sa 117,.mv (.t 1),Sb⟩,⟨Sa 118,.mv (.t 1),Sb⟩,⟨Sa 119,.mv (.t 12),Sb⟩,⟨Sa 120,.bin .add (.t 118) (.t 119),Sb⟩,⟨Sa 121,.slcs (.t 116) (some (.t 117)) (some (.t 120)),Sb⟩,⟨Sa 13,.mv (.t 121),Sb⟩]) (.seq (.reg [⟨Sa 122,.mv (.t 13),Sb⟩,⟨Sa 123,.bin .eql (.t 122) (.c (.s [116,114,117,101])),Sb⟩,⟨Sa 124,.mv (.t 123),Sb⟩,⟨Sa 125,.mv (.t 13),some (124,false)⟩,⟨Sa 126,.bin .eql (.t 125) (.c (.s [102,97,108,115,101])),some (124,false)⟩,⟨Sa 127,.pick (.t 124) (.c (.b true)) (.t 126),Sb⟩,⟨Sa 128,.mv (.t 127),Sb⟩,⟨Sa 129,.mv (.t 13),some (128,false)⟩,⟨Sa 130,.bin .eql (.t 129) (.c (.s [110,117,108,108])),some (128,false)⟩,⟨Sa 131,.pick (.t 128) (.c (.b true)) (.t 130),Sb⟩]) (.cond (.t 131) (.seq (.reg [⟨Sa 132,.mv (.t 13),Sb⟩,⟨Sa 133,.mv (.t 1),Sb⟩,⟨Sa 134,.build [.i .i64 0,.s [],.i .i64 0] [(0,(1,.c (.i .i64 5))),(1,(1,.t 132)),(2,(1,.t 133))],Sb⟩,⟨Sa 135,.mv (.t 1),Sb⟩,⟨Sa 136,.mv (.t 12),Sb⟩,⟨Sa 137,.bin .add (.t 135) (.t 136),Sb⟩,⟨Sb,.store 3 (.t 4) (.t 134),Sb⟩,⟨Sa 5,.mv (.t 137),Sb⟩,⟨Sa 6,.mv (.c (.i .i64 0)),Sb⟩]) (.ret)) (.skip)))) (.seq (.reg [⟨Sa 138,.build [.i .i64 0,.s [],.i .i64 0] [],Sb⟩,⟨Sb,.store 3 (.t 4) (.t 138),Sb⟩,⟨Sa 5,.mv (.c (.i .i64 0)),Sb⟩,⟨Sa 6,.mv (.c (.i .i64 130)),Sb⟩]) (.ret)))))))))
theorem is_ref13_Next:FnIs Tryz.prog 63 139 [.celln 4 3,.tmp 5,.tmp 6] c_ref13_Next:=⟨⟨_,_,Tryz.func63,rfl,rfl,by kernel_rfl,by kernel_rfl⟩⟩
def c_diddoc_membersOf_1:SCode :=.seq (.reg [⟨Sa 3,.alloc 25 [.i .i64 0,.s [],.nil,.nil],Sb⟩,⟨Sa 4,.mv (.c (.b false)),Sb⟩]) (.seq (.reg [⟨Sa 5,.loadn 4 (.t 1),Sb⟩,⟨Sa 6,.mv (.t 0),Sb⟩,⟨Sa 7,.call 40 [.t 5,.t 6],Sb⟩,⟨Sa 8,.ext (.t 7) 0,Sb⟩,⟨Sa 9,.ext (.t 7) 1,Sb⟩,⟨Sb,.store 4 (.t 3) (.t 8),Sb⟩,⟨Sa 4,.mv (.t 9),Sb⟩]) (.ret))
theorem is_diddoc_membersOf_1:FnIs Tryz.prog 64 10 [.celln 3 4,.tmp 4] c_diddoc_membersOf_1:=⟨⟨_,_,Tryz.func64,rfl,rfl,by kernel_rfl,by kernel_rfl⟩⟩
def c_diddoc_textMember:SCode :=.seq (.reg [⟨Sa 2,.box 25 (.t 0),Sb⟩,⟨Sa 4,.mv (.c (.s [])),Sb⟩,⟨Sa 5,.mv (.c (.b false)),Sb⟩]) (.seq (.reg [⟨Sa 9,.loadn 4 (.t 2),Sb⟩,⟨Sa 10,.call 23 [.t 9],Sb⟩,⟨Sa 11,.mv (.t 1),Sb⟩,⟨Sa 12,.callv (.t 10) [.t 11],Sb⟩,⟨Sa 8,.mv (.t 12),Sb⟩,⟨Sa 13,.ext (.t 8) 0,Sb⟩,⟨Sa 14,.ext (.t 8) 1,Sb⟩,⟨Sa 6,.alloc 25 [.i .i64 0,.s [],.nil,.nil],Sb⟩,⟨Sb,.store 4 (.t 6) (.t 13),Sb⟩,⟨Sa 7,.mv (.t 14),Sb⟩]) (.seq (.seq (.reg [⟨Sa 15,.mv (.t 7),Sb⟩,⟨Sa 16,.not (.t 15),Sb⟩,⟨Sa 17,.mv (.t 16),Sb⟩,⟨Sa 18,.fad 0 (.t 6),some (17,false)⟩,⟨Sa 19,.load1 (.t 18),some (17,false)⟩,⟨Sa 20,.bin .neq (.t 19) (.c (.i .i64 5)),some (17,false)⟩,⟨Sa 21,.pick (.t 17) (.c (.b true)) (.t 20),Sb⟩]) (.cond (.t 21) (.seq (.reg [⟨Sa 4,.mv (.c (.s [])),Sb⟩,⟨Sa 5,.mv (.c (.b false)),Sb⟩]) (.ret)) (.skip))) (.seq (.reg [⟨Sa 22,.fad 1 (.t 6),Sb⟩,⟨Sa 23,.load1 (.t 22),Sb⟩,⟨Sa 4,.mv (.t 23),Sb⟩,⟨Sa 5,.mv (.c (.b true)),Sb⟩]) (.ret))))
theorem is_diddoc_textMember:FnIs Tryz.prog 65 24 [.tmp 4,.tmp 5] c_diddoc_textMember:=⟨⟨_,_,Tryz.func65,rfl,rfl,by kernel_rfl,by kernel_rfl⟩⟩
def c_did_ParseDID:SCode :=.seq (.reg [⟨Sa 2,.alloc 62 [.s [],.s []],Sb⟩,⟨Sa 3,.mv (.c (.i .i64 0)),Sb⟩]) (.seq (.seq (.reg [⟨Sa 9,.mv (.t 0),Sb⟩,⟨Sa 10,.lens (.t 9),Sb⟩,⟨Sa 11,.bin .gtr (.t 10) (.c (.i .i64 4096)),Sb⟩]) (.cond (.t 11) (.seq (.reg [⟨Sa 12,.build [.s [],.s []] [],Sb⟩,⟨Sb,.store 2 (.t 2) (.t 12),Sb⟩,⟨Sa 3,.mv (.c (.i .i64 5)),Sb⟩]) (.ret)) (.skip))) (.seq (.reg [⟨Sa 14,.mv (.t 0),Sb⟩,⟨Sa 15,.call 92 [.t 14,.c (.s [100,105,100,58])],Sb⟩,⟨Sa 13,.mv (.t 15),Sb⟩,⟨Sa 16,.ext (.t 13) 0,Sb⟩,⟨Sa 17,.ext (.t 13) 1,Sb⟩,⟨Sa 4,.mv (.t 16),Sb⟩,⟨Sa 5,.mv (.t 17),Sb⟩]) (.seq (.seq (.reg [⟨Sa 18,.mv (.t 5),Sb⟩,⟨Sa 19,.not (.t 18),Sb⟩]) (.cond (.t 19) (.seq (.reg [⟨Sa 20,.build [.s [],.s []] [],Sb⟩,⟨Sb,.store 2 (.t 2) (.t 20),Sb⟩,⟨Sa 3,.mv (.c (.i .i64 60)),Sb⟩]) (.ret)) (.skip))) (.seq (.reg [⟨Sa 22,.mv (.t 4),Sb⟩,⟨Sa 23,.call 93 [.t 22,.c (.s [58])],Sb⟩,⟨Sa 21,.mv (.t 23),Sb⟩,⟨Sa 24,.ext (.t 21) 0,Sb⟩,⟨Sa 25,.ext (.t 21) 1,Sb⟩,⟨Sa 26,.ext (.t 21) 2,Sb⟩,⟨Sa 6,.mv (.t 24),Sb⟩,⟨Sa 7,.mv (.t 25),Sb⟩,⟨Sa 5,.mv (.t 26),Sb⟩]) (.seq (.seq (.reg [⟨Sa 27,.mv (.t 5),Sb⟩,⟨Sa 28,.not (.t 27),Sb⟩]) (.cond (.t 28) (.seq (.reg [⟨Sa 29,.build [.s [],.s []] [],Sb⟩,⟨Sb,.store 2 (.t 2) (.t 29),Sb⟩,⟨Sa 3,.mv (.c (.i .i64 6)),Sb⟩]) (.ret)) (.skip))) (.seq (.seq (.reg [⟨Sa 30,.mv (.t 6),Sb⟩,⟨Sa 31,.call 94 [.t 30],Sb⟩,⟨Sa 32,.not (.t 31),Sb⟩]) (.cond (.t 32) (.seq (.reg [⟨Sa 33,.build [.s [],.s []] [],Sb⟩,⟨Sb,.store 2 (.t 2) (.t 33),Sb⟩,⟨Sa 3,.mv (.c (.i .i64 100)),Sb⟩]) (.ret)) (.skip))) (.seq (.reg [⟨Sa 35,.mv (.t 7),Sb⟩,⟨Sa 36,.call 95 [.t 35],Sb⟩,⟨Sa 34,.mv (.t 36),Sb⟩,⟨Sa 37,.ext (.t 34) 0,Sb⟩,⟨Sa 38,.ext (.t 34) 1,Sb⟩,⟨Sa 7,.mv (.t 37),Sb⟩,⟨Sa 8,.mv (.t 38),Sb⟩]) (.seq (.seq (.reg [⟨Sa 39,.mv (.t 8),Sb⟩,⟨Sa 40,.bin .neq (.t 39) (.c (.i .i64 0)),Sb⟩]) (.cond (.t 40) (.seq (.reg [⟨Sa 41,.build [.s [],.s []] [],Sb⟩,⟨Sa 42,.mv (.t 8),Sb⟩,⟨Sb,.store 2 (.t 2) (.t 41),Sb⟩,⟨Sa 3,.mv (.t 42),Sb⟩]) (.ret)) (.skip))) (.seq (.reg [⟨Sa 43,.mv (.t 6),Sb⟩,⟨Sa 44,.mv (.t 7),Sb⟩,⟨Sa 45,.build [.s [],.s []] [(0,(1,.t 43)),(1,(1,.t 44))],Sb⟩,⟨Sb,.store 2 (.t 2) (.t 45),Sb⟩,⟨Sa 3,.mv (.c (.i .i64 0)),Sb⟩]) (.ret))))))))))
theorem is_did_ParseDID:FnIs Tryz.prog 66 46 [.celln 2 2,.tmp 3] c_did_ParseDID:=⟨⟨_,_,Tryz.func66,rfl,rfl,by kernel_rfl,by kernel_rfl⟩⟩
def c_diddoc_texts:SCode :=.seq (.reg [⟨Sa 2,.mv (.c .nil),Sb⟩,⟨Sa 3,.mv (.c (.i .i64 0)),Sb⟩]) (.seq (.seq (.reg [⟨Sa 7,.mv (.t 0),Sb⟩,⟨Sa 8,.lenr (.t 7),Sb⟩,⟨Sa 9,.bin .gtr (.t 8) (.c (.i .i64 64)),Sb⟩]) (.cond (.t 9) (.seq (.reg [⟨Sa 2,.mv (.c .nil),Sb⟩,⟨Sa 3,.mv (.c (.i .i64 161)),Sb⟩]) (.ret)) (.skip))) (.seq (.reg [⟨Sa 4,.mv (.c .nil),Sb⟩]) (.seq (.seq (.reg [⟨Sa 10,.mv (.t 0),Sb⟩,⟨Sa 11,.lenr (.t 10),Sb⟩,⟨Sa 12,.mv (.c (.i .i64 0)),Sb⟩]) (.blk 0 (.loop (.seq (.reg [⟨Sa 13,.bin .lss (.t 12) (.t 11),Sb⟩]) (.seq (.cond (.t 13) (.skip) (.exit 0)) (.seq (.blk 1 (.seq (.reg [⟨Sa 14,.iad 4 (.t 10) (.t 12),Sb⟩,⟨Sa 15,.loadn 4 (.t 14),Sb⟩,⟨Sa 6,.alloc 25 [.i .i64 0,.s [],.nil,.nil],Sb⟩,⟨Sb,.store 4 (.t 6) (.t 15),Sb⟩]) (.seq (.seq (.reg [⟨Sa 16,.fad 0 (.t 6),Sb⟩,⟨Sa 17,.load1 (.t 16),Sb⟩,⟨Sa 18,.bin .neq (.t 17) (.c (.i .i64 5)),Sb⟩]) (.cond (.t 18) (.seq (.reg [⟨Sa 2,.mv (.c .nil),Sb⟩,⟨Sa 3,.mv (.c (.i .i64 160)),Sb⟩]) (.ret)) (.skip))) (.reg [⟨Sa 19,.mv (.t 4),Sb⟩,⟨Sa 20,.fad 1 (.t 6),Sb⟩,⟨Sa 21,.load1 (.t 20),Sb⟩,⟨Sa 22,.bslice 1 [.s []] [(0,(1,.t 21))],Sb⟩,⟨Sa 23,.app 9 1 16 (.t 19) (.t 22),Sb⟩,⟨Sa 4,.mv (.t 23),Sb⟩])))) (.reg [⟨Sa 24,.bin .add (.t 12) (.c (.i .i64 1)),Sb⟩,⟨Sa 12,.mv (.t 24),Sb⟩]))))))) (.seq (.reg [⟨Sa 25,.mv (.t 4),Sb⟩,⟨Sa 2,.mv (.t 25),Sb⟩,⟨Sa 3,.mv (.c (.i .i64 0)),Sb⟩]) (.ret)))))
theorem is_diddoc_texts:FnIs Tryz.prog 67 26 [.tmp 2,.tmp 3] c_diddoc_texts:=⟨⟨_,_,Tryz.func67,rfl,rfl,by kernel_rfl,by kernel_rfl⟩⟩
def c_slices_Index__string_string:SCode :=.seq (.reg [⟨Sa 4,.mv (.c (.i .i64 0)),Sb⟩]) (.seq (.seq (.reg [⟨Sa 6,.mv (.t 0),Sb⟩,⟨Sa 7,.lenr (.t 6),Sb⟩,⟨Sa 8,.mv (.c (.i .i64 0)),Sb⟩]) (.blk 0 (.loop (.seq (.reg [⟨Sa 9,.bin .lss (.t 8) (.t 7),Sb⟩]) (.seq (.cond (.t 9) (.skip) (.exit 0)) (.seq (.blk 1 (.seq (.reg [⟨Sa 10,.mv (.t 8),Sb⟩,⟨Sa 5,.mv (.t 10),Sb⟩]) (.seq (.reg [⟨Sa 11,.mv (.t 1),Sb⟩,⟨Sa 12,.mv (.t 0),Sb⟩,⟨Sa 13,.mv (.t 5),Sb⟩,⟨Sa 14,.iad 1 (.t 12) (.t 13),Sb⟩,⟨Sa 15,.load1 (.t 14),Sb⟩,⟨Sa 16,.bin .eql (.t 11) (.t 15),Sb⟩]) (.cond (.t 16) (.seq (.reg [⟨Sa 17,.mv (.t 5),Sb⟩,⟨Sa 4,.mv (.t 17),Sb⟩]) (.ret)) (.skip))))) (.reg [⟨Sa 18,.bin .add (.t 8) (.c (.i .i64 1)),Sb⟩,⟨Sa 8,.mv (.t 18),Sb⟩]))))))) (.seq (.reg [⟨Sa 4,.mv (.c (.i .i64 (-1))),Sb⟩]) (.ret)))
theorem is_slices_Index__string_string:FnIs Tryz.prog 77 19 [.tmp 4] c_slices_Index__string_string:=⟨⟨_,_,Tryz.func77,rfl,rfl,by kernel_rfl,by kernel_rfl⟩⟩
def c_jsondoc_clone:SCode :=.seq (.reg [⟨Sa 1,.box 25 (.t 0),Sb⟩,⟨Sa 2,.alloc 25 [.i .i64 0,.s [],.nil,.nil],Sb⟩]) (.seq (.reg [⟨Sa 4,.fad 2 (.t 1),Sb⟩,⟨Sa 5,.load1 (.t 4),Sb⟩,⟨Sa 6,.call 98 [.t 5],Sb⟩,⟨Sa 7,.fad 2 (.t 1),Sb⟩,⟨Sb,.store 1 (.t 7) (.t 6),Sb⟩]) (.seq (.reg [⟨Sa 8,.fad 3 (.t 1),Sb⟩,⟨Sa 9,.load1 (.t 8),Sb⟩,⟨Sa 10,.call 99 [.t 9],Sb⟩,⟨Sa 11,.fad 3 (.t 1),Sb⟩,⟨Sb,.store 1 (.t 11) (.t 10),Sb⟩]) (.seq (.seq (.reg [⟨Sa 12,.fad 3 (.t 1),Sb⟩,⟨Sa 13,.load1 (.t 12),Sb⟩,⟨Sa 14,.lenr (.t 13),Sb⟩,⟨Sa 15,.mv (.c (.i .i64 0)),Sb⟩]) (.blk 0 (.loop (.seq (.reg [⟨Sa 16,.bin .lss (.t 15) (.t 14),Sb⟩]) (.seq (.cond (.t 16) (.skip) (.exit 0)) (.seq (.blk 1 (.seq (.reg [⟨Sa 17,.mv (.t 15),Sb⟩,⟨Sa 3,.mv (.t 17),Sb⟩]) (.drw [⟨Sa 18,.fad 3 (.t 1),Sb⟩,⟨Sa 19,.load1 (.t 18),Sb⟩,⟨Sa 20,.mv (.t 3),Sb⟩,⟨Sa 21,.fad 3 (.t 1),Sb⟩,⟨Sa 22,.load1 (.t 21),Sb⟩,⟨Sa 23,.mv (.t 3),Sb⟩,⟨Sa 24,.iad 4 (.t 22) (.t 23),Sb⟩,⟨Sa 25,.loadn 4 (.t 24),Sb⟩,⟨Sa 26,.call 78 [.t 25],Sb⟩,⟨Sa 27,.iad 4 (.t 19) (.t 20),Sb⟩,⟨Sb,.store 4 (.t 27) (.t 26),Sb⟩] 10 []))) (.reg [⟨Sa 28,.bin .add (.t 15) (.c (.i .i64 1)),Sb⟩,⟨Sa 15,.mv (.t 28),Sb⟩]))))))) (.seq (.reg [⟨Sa 29,.loadn 4 (.t 1),Sb⟩,⟨Sb,.store 4 (.t 2) (.t 29),Sb⟩]) (.ret)))))
theorem is_jsondoc_clone:FnIs Tryz.prog 78 30 [.celln 2 4] c_jsondoc_clone:=⟨⟨_,_,Tryz.func78,rfl,rfl,by kernel_rfl,by kernel_rfl⟩⟩
def c_did_Resolve:SCode :=.seq (.reg [⟨Sa 2,.box 62 (.t 0),Sb⟩,⟨Sa 4,.alloc 87 [.s [],.s [],.s [],.s [],.s [],.b false,.b false],Sb⟩,⟨Sa 5,.mv (.c (.i .i64 0)),Sb⟩]) (.seq (.blk 0 (.seq (.reg [⟨Sa 7,.mv (.t 1),Sb⟩,⟨Sa 8,.call 100 [.t 7,.c (.s [100,105,100,58])],Sb⟩,⟨Sa 6,.mv (.t 8),Sb⟩]) (.cond (.t 6) (.seq (.reg [⟨Sa 9,.mv (.t 1),Sb⟩,⟨Sa 10,.call 101 [.t 9],Sb⟩,⟨Sa 11,.ext (.t 10) 0,Sb⟩,⟨Sa 12,.ext (.t 10) 1,Sb⟩,⟨Sb,.store 7 (.t 4) (.t 11),Sb⟩,⟨Sa 5,.mv (.t 12),Sb⟩]) (.ret)) (.seq (.reg [⟨Sa 14,.mv (.t 1),Sb⟩,⟨Sa 15,.bin .eql (.t 14) (.c (.s [])),Sb⟩,⟨Sa 16,.mv (.t 15),Sb⟩,⟨Sa 17,.mv (.t 1),some (16,false)⟩,⟨Sa 18,.idx (.t 17) (.c (.i .i64 0)),some (16,false)⟩,⟨Sa 19,.call 102 [.c (.s [47,63,35]),.t 18],some (16,false)⟩,⟨Sa 20,.bin .geq (.t 19) (.c (.i .i64 0)),some (16,false)⟩,⟨Sa 21,.pick (.t 16) (.c (.b true)) (.t 20),Sb⟩,⟨Sa 13,.mv (.t 21),Sb⟩]) (.cond (.t 13) (.seq (.reg [⟨Sa 22,.loadn 2 (.t 2),Sb⟩,⟨Sa 23,.call 25 [.t 22],Sb⟩,⟨Sa 24,.mv (.t 1),Sb⟩,⟨Sa 25,.bin .add (.t 23) (.t 24),Sb⟩,⟨Sa 26,.call 101 [.t 25],Sb⟩,⟨Sa 27,.ext (.t 26) 0,Sb⟩,⟨Sa 28,.ext (.t 26) 1,Sb⟩,⟨Sb,.store 7 (.t 4) (.t 27),Sb⟩,⟨Sa 5,.mv (.t 28),Sb⟩]) (.ret)) (.skip)))))) (.seq (.reg [⟨Sa 29,.build [.s [],.s [],.s [],.s [],.s [],.b false,.b false] [],Sb⟩,⟨Sb,.store 7 (.t 4) (.t 29),Sb⟩,⟨Sa 5,.mv (.c (.i .i64 6)),Sb⟩]) (.ret)))
theorem is_did_Resolve:FnIs Tryz.prog 79 30 [.celln 4 7,.tmp 5] c_did_Resolve:=⟨⟨_,_,Tryz.func79,rfl,rfl,by kernel_rfl,by kernel_rfl⟩⟩
def c_did_Format:SCode :=.seq (.reg [⟨Sa 1,.box 87 (.t 0),Sb⟩,⟨Sa 2,.mv (.c (.s [])),Sb⟩]) (.seq (.drw [⟨Sa 4,.fad 0 (.t 1),Sb⟩,⟨Sa 5,.loadn 2 (.t 4),Sb⟩,⟨Sa 6,.call 25 [.t 5],Sb⟩,⟨Sa 7,.fad 2 (.t 1),Sb⟩,⟨Sa 8,.load1 (.t 7),Sb⟩,⟨Sa 9,.bin .add (.t 6) (.t 8),Sb⟩,⟨Sa 3,.mv (.t 9),Sb⟩] 7 []) (.seq (.seq (.reg [⟨Sa 10,.fad 5 (.t 1),Sb⟩,⟨Sa 11,.load1 (.t 10),Sb⟩]) (.cond (.t 11) (.reg [⟨Sa 12,.mv (.t 3),Sb⟩,⟨Sa 13,.fad 3 (.t 1),Sb⟩,⟨Sa 14,.load1 (.t 13),Sb⟩,⟨Sa 15,.bin .add (.c (.s [63])) (.t 14),Sb⟩,⟨Sa 16,.bin .add (.t 12) (.t 15),Sb⟩,⟨Sa 3,.mv (.t 16),Sb⟩]) (.skip))) (.seq (.seq (.reg [⟨Sa 17,.fad 6 (.t 1),Sb⟩,⟨Sa 18,.load1 (.t 17),Sb⟩]) (.cond (.t 18) (.reg [⟨Sa 19,.mv (.t 3),Sb⟩,⟨Sa 20,.fad 4 (.t 1),Sb⟩,⟨Sa 21,.load1 (.t 20),Sb⟩,⟨Sa 22,.bin .add (.c (.s [35])) (.t 21),Sb⟩,⟨Sa 23,.bin .add (.t 19) (.t 22),Sb⟩,⟨Sa 3,.mv (.t 23),Sb⟩]) (.skip))) (.seq (.reg [⟨Sa 24,.mv (.t 3),Sb⟩,⟨Sa 2,.mv (.t 24),Sb⟩]) (.ret)))))
theorem is_did_Format:FnIs Tryz.prog 80 25 [.tmp 2] c_did_Format:=⟨⟨_,_,Tryz.func80,rfl,rfl,by kernel_rfl,by kernel_rfl⟩⟩
def c_ref16_with:SCode :=.seq (.reg [⟨Sa 3,.box 25 (.t 0),Sb⟩,⟨Sa 5,.box 25 (.t 2),Sb⟩,⟨Sa 6,.alloc 25 [.i .i64 0,.s [],.nil,.nil],Sb⟩]) (.seq (.drw [⟨Sa 7,.fad 2 (.t 3),Sb⟩,⟨Sa 8,.load1 (.t 7),Sb⟩,⟨Sa 9,.fad 2 (.t 3),Sb⟩,⟨Sa 10,.load1 (.t 9),Sb⟩,⟨Sa 11,.lenr (.t 10),Sb⟩,⟨Sa 12,.fad 2 (.t 3),Sb⟩,⟨Sa 13,.load1 (.t 12),Sb⟩,⟨Sa 14,.lenr (.t 13),Sb⟩,⟨Sa 15,.pu .sl3 [.t 8,.t 11,.t 14],Sb⟩,⟨Sa 16,.mv (.t 1),Sb⟩,⟨Sa 17,.bslice 1 [.s []] [(0,(1,.t 16))],Sb⟩,⟨Sa 18,.capp 1 16 (.t 15) (.t 17),Sb⟩,⟨Sa 19,.fad 3 (.t 3),Sb⟩,⟨Sa 20,.load1 (.t 19),Sb⟩,⟨Sa 21,.fad 3 (.t 3),Sb⟩,⟨Sa 22,.load1 (.t 21),Sb⟩,⟨Sa 23,.lenr (.t 22),Sb⟩,⟨Sa 24,.fad 3 (.t 3),Sb⟩,⟨Sa 25,.load1 (.t 24),Sb⟩,⟨Sa 26,.lenr (.t 25),Sb⟩,⟨Sa 27,.pu .sl3 [.t 20,.t 23,.t 26],Sb⟩,⟨Sa 28,.loadn 4 (.t 5),Sb⟩,⟨Sa 29,.bslice 1 [.i .i64 0,.s [],.nil,.nil] [(0,(4,.t 28))],Sb⟩,⟨Sa 30,.capp 4 72 (.t 27) (.t 29),Sb⟩,⟨Sa 31,.fad 2 (.t 3),Sb⟩,⟨Sb,.store 1 (.t 31) (.t 18),Sb⟩,⟨Sa 32,.fad 3 (.t 3),Sb⟩,⟨Sb,.store 1 (.t 32) (.t 30),Sb⟩] 25 []) (.seq (.reg [⟨Sa 33,.loadn 4 (.t 3),Sb⟩,⟨Sb,.store 4 (.t 6) (.t 33),Sb⟩]) (.ret)))
theorem is_ref16_with:FnIs Tryz.prog 83 34 [.celln 6 4] c_ref16_with:=⟨⟨_,_,Tryz.func83,rfl,rfl,by kernel_rfl,by kernel_rfl⟩⟩
def c_ref13_numeral:SCode :=.seq (.reg [⟨Sa 2,.mv (.c (.i .i64 0)),Sb⟩]) (.seq (.reg [⟨Sa 3,.mv (.c (.i .i64 0)),Sb⟩]) (.seq (.seq (.reg [⟨Sa 7,.mv (.t 3),Sb⟩,⟨Sa 8,.mv (.t 0),Sb⟩,⟨Sa 9,.lens (.t 8),Sb⟩,⟨Sa 10,.bin .lss (.t 7) (.t 9),Sb⟩,⟨Sa 11,.mv (.t 10),Sb⟩,⟨Sa 12,.mv (.t 0),some (11,true)⟩,⟨Sa 13,.mv (.t 3),some (11,true)⟩,⟨Sa 14,.idx (.t 12) (.t 13),some (11,true)⟩,⟨Sa 15,.bin .eql (.t 14) (.c (.i .u8 45)),some (11,true)⟩,⟨Sa 16,.pick (.t 11) (.t 15) (.c (.b false)),Sb⟩]) (.cond (.t 16) (.reg [⟨Sa 17,.mv (.t 3),Sb⟩,⟨Sa 18,.bin .add (.t 17) (.c (.i .i64 1)),Sb⟩,⟨Sa 3,.mv (.t 18),Sb⟩]) (.skip))) (.seq (.seq (.reg [⟨Sa 19,.mv (.t 3),Sb⟩,⟨Sa 20,.mv (.t 0),Sb⟩,⟨Sa 21,.lens (.t 20),Sb⟩,⟨Sa 22,.bin .eql (.t 19) (.t 21),Sb⟩,⟨Sa 23,.mv (.t 22),Sb⟩,⟨Sa 24,.mv (.t 0),some (23,false)⟩,⟨Sa 25,.mv (.t 3),some (23,false)⟩,⟨Sa 26,.idx (.t 24) (.t 25),some (23,false)⟩,⟨Sa 27,.call 90 [.t 26],some (23,false)⟩,⟨Sa 28,.not (.t 27),some (23,false)⟩,⟨Sa 29,.pick (.t 23) (.c (.b true)) (.t 28),Sb⟩]) (.cond (.t 29) (.seq (.reg [⟨Sa 2,.mv (.c (.i .i64 0)),Sb⟩]) (.ret)) (.skip))) (.seq (.seq (.reg [⟨Sa 30,.mv (.t 0),Sb⟩,⟨Sa 31,.mv (.t 3),Sb⟩,⟨Sa 32,.idx (.t 30) (.t 31),Sb⟩,⟨Sa 33,.bin .eql (.t 32) (.c (.i .u8 48)),Sb⟩]) (.cond (.t 33) (.reg [⟨Sa 34,.mv (.t 3),Sb⟩,⟨Sa 35,.bin .add (.t 34) (.c (.i .i64 1)),Sb⟩,⟨Sa 3,.mv (.t 35),Sb⟩]) (.reg [⟨Sa 36,.mv (.t 3),Sb⟩,⟨Sa 37,.mv (.t 0),Sb⟩,⟨Sa 38,.mv (.t 3),Sb⟩,⟨Sa 39,.slcs (.t 37) (some (.t 38)) none,Sb⟩,⟨Sa 40,.call 104 [.t 39],Sb⟩,⟨Sa 41,.bin .add (.t 36) (.t 40),Sb⟩,⟨Sa 3,.mv (.t 41),Sb⟩]))) (.seq (.seq (.reg [⟨Sa 42,.mv (.t 0),Sb⟩,⟨Sa 43,.mv (.t 3),Sb⟩,⟨Sa 44,.bin .add (.t 43) (.c (.i .i64 1)),Sb⟩,⟨Sa 45,.call 86 [.t 42,.t 44],Sb⟩,⟨Sa 46,.call 104 [.t 45],Sb⟩,⟨Sa 4,.mv (.t 46),Sb⟩]) (.seq (.reg [⟨Sa 47,.mv (.t 3),Sb⟩,⟨Sa 48,.mv (.t 0),Sb⟩,⟨Sa 49,.lens (.t 48),Sb⟩,⟨Sa 50,.bin .lss (.t 47) (.t 49),Sb⟩,⟨Sa 51,.mv (.t 50),Sb⟩,⟨Sa 52,.mv (.t 0),some (51,true)⟩,⟨Sa 53,.mv (.t 3),some (51,true)⟩,⟨Sa 54,.idx (.t 52) (.t 53),some (51,true)⟩,⟨Sa 55,.bin .eql (.t 54) (.c (.i .u8 46)),some (51,true)⟩,⟨Sa 56,.pick (.t 51) (.t 55) (.c (.b false)),Sb⟩,⟨Sa 57,.mv (.t 56),Sb⟩,⟨Sa 58,.mv (.t 4),some (57,true)⟩,⟨Sa 59,.bin .gtr (.t 58) (.c (.i .i64 0)),some (57,true)⟩,⟨Sa 60,.pick (.t 57) (.t 59) (.c (.b false)),Sb⟩]) (.cond (.t 60) (.reg [⟨Sa 61,.mv (.t 3),Sb⟩,⟨Sa 62,.mv (.t 4),Sb⟩,⟨Sa 63,.bin .add (.c (.i .i64 1)) (.t 62),Sb⟩,⟨Sa 64,.bin .add (.t 61) (.t 63),Sb⟩,⟨Sa 3,.mv (.t 64),Sb⟩]) (.skip)))) (.seq (.seq (.reg [⟨Sa 65,.mv (.t 3),Sb⟩,⟨Sa 66,.mv (.t 0),Sb⟩,⟨Sa 67,.lens (.t 66),Sb⟩,⟨Sa 68,.bin .lss (.t 65) (.t 67),Sb⟩,⟨Sa 69,.mv (.t 68),Sb⟩,⟨Sa 70,.mv (.t 0),some (69,true)⟩,⟨Sa 71,.mv (.t 3),some (69,true)⟩,⟨Sa 72,.idx (.t 70) (.t 71),some (69,true)⟩,⟨Sa 73,.call 82 [.t 72,.c (.s [101,69])],some (69,true)⟩,⟨Sa 74,.pick (.t 69) (.t 73) (.c (.b false)),Sb⟩]) (.cond (.t 74) (.seq (.reg [⟨Sa 75,.mv (.t 3),Sb⟩,⟨Sa 76,.bin .add (.t 75) (.c (.i .i64 1)),Sb⟩,⟨Sa 5,.mv (.t 76),Sb⟩]) (.seq (.seq (.reg [⟨Sa 77,.mv (.t 5),Sb⟩,⟨Sa 78,.mv (.t 0),Sb⟩,⟨Sa 79,.lens (.t 78),Sb⟩,⟨Sa 80,.bin .lss (.t 77) (.t 79),Sb⟩,⟨Sa 81,.mv (.t 80),Sb⟩,⟨Sa 82,.mv (.t 0),some (81,true)⟩,⟨Sa 83,.mv (.t 5),some (81,true)⟩,⟨Sa 84,.idx (.t 82) (.t 83),some (81,true)⟩,⟨Sa 85,.call 82 [.t 84,.c (.s [43,45])],some (81,true)⟩,⟨Sa 86,.pick (.t 81) (.t 85) (.c (.b false)),Sb⟩]) (.cond (.t 86) (.reg [⟨Sa 87,.mv (.t 5),Sb⟩,⟨Sa 88,.bin .add (.t 87) (.c (.i .i64 1)),Sb⟩,⟨Sa 5,.mv (.t 88),Sb⟩]) (.skip))) (.seq (.reg [⟨Sa 89,.mv (.t 0),Sb⟩,⟨Sa 90,.mv (.t 5),Sb⟩,⟨Sa 91,.call 86 [.t 89,.t 90],Sb⟩,⟨Sa 92,.call 104 [.t 91],Sb⟩,⟨Sa 6,.mv (.t 92),Sb⟩]) (.seq (.reg [⟨Sa 93,.mv (.t 6),Sb⟩,⟨Sa 94,.bin .gtr (.t 93) (.c (.i .i64 0)),Sb⟩]) (.cond (.t 94) (.reg [⟨Sa 95,.mv (.t 5),Sb⟩,⟨Sa 96,.mv (.t 6),Sb⟩,⟨Sa 97,.bin .add (.t 95) (.t 96),Sb⟩,⟨Sa 3,.mv (.t 97),Sb⟩]) (.skip)))))) (.skip))) (.seq (.reg [⟨Sa 98,.mv (.t 3),Sb⟩,⟨Sa 2,.mv (.t 98),Sb⟩]) (.ret))))))))
theorem is_ref13_numeral:FnIs Tryz.prog 84 99 [.tmp 2] c_ref13_numeral:=⟨⟨_,_,Tryz.func84,rfl,rfl,by kernel_rfl,by kernel_rfl⟩⟩
def c_ref13_exponent:SCode :=.seq (.reg [⟨Sa 2,.mv (.c (.i .i64 0)),Sb⟩]) (.seq (.reg [⟨Sa 6,.mv (.t 0),Sb⟩,⟨Sa 7,.bin .neq (.t 6) (.c (.s [])),Sb⟩,⟨Sa 8,.mv (.t 7),Sb⟩,⟨Sa 9,.mv (.t 0),some (8,true)⟩,⟨Sa 10,.idx (.t 9) (.c (.i .i64 0)),some (8,true)⟩,⟨Sa 11,.bin .eql (.t 10) (.c (.i .u8 45)),some (8,true)⟩,⟨Sa 12,.pick (.t 8) (.t 11) (.c (.b false)),Sb⟩,⟨Sa 3,.mv (.t 12),Sb⟩]) (.seq (.seq (.reg [⟨Sa 13,.mv (.t 0),Sb⟩,⟨Sa 14,.bin .neq (.t 13) (.c (.s [])),Sb⟩,⟨Sa 15,.mv (.t 14),Sb⟩,⟨Sa 16,.mv (.t 0),some (15,true)⟩,⟨Sa 17,.idx (.t 16) (.c (.i .i64 0)),some (15,true)⟩,⟨Sa 18,.call 82 [.t 17,.c (.s [43,45])],some (15,true)⟩,⟨Sa 19,.pick (.t 15) (.t 18) (.c (.b false)),Sb⟩]) (.cond (.t 19) (.reg [⟨Sa 20,.mv (.t 0),Sb⟩,⟨Sa 21,.slcs (.t 20) (some (.c (.i .i64 1))) none,Sb⟩,⟨Sa 0,.mv (.t 21),Sb⟩]) (.skip))) (.seq (.reg [⟨Sa 4,.mv (.c (.i .i64 0)),Sb⟩]) (.seq (.seq (.reg [⟨Sa 5,.mv (.c (.i .i64 0)),Sb⟩]) (.blk 0 (.loop (.seq (.seq (.reg [⟨Sa 22,.mv (.t 5),Sb⟩,⟨Sa 23,.mv (.t 0),Sb⟩,⟨Sa 24,.lens (.t 23),Sb⟩,⟨Sa 25,.bin .lss (.t 22) (.t 24),Sb⟩]) (.cond (.t 25) (.skip) (.exit 0))) (.seq (.blk 1 (.reg [⟨Sa 28,.mv (.t 4),Sb⟩,⟨Sa 29,.bin .mul (.t 28) (.c (.i .i64 10)),Sb⟩,⟨Sa 30,.mv (.t 0),Sb⟩,⟨Sa 31,.mv (.t 5),Sb⟩,⟨Sa 32,.idx (.t 30) (.t 31),Sb⟩,⟨Sa 33,.bin .sub (.t 32) (.c (.i .u8 48)),Sb⟩,⟨Sa 34,.cvi .i64 (.t 33),Sb⟩,⟨Sa 35,.bin .add (.t 29) (.t 34),Sb⟩,⟨Sa 36,.pu .mn [.t 35,.c (.i .i64 1073741824)],Sb⟩,⟨Sa 4,.mv (.t 36),Sb⟩])) (.reg [⟨Sa 26,.mv (.t 5),Sb⟩,⟨Sa 27,.bin .add (.t 26) (.c (.i .i64 1)),Sb⟩,⟨Sa 5,.mv (.t 27),Sb⟩])))))) (.seq (.seq (.reg [⟨Sa 37,.mv (.t 3),Sb⟩]) (.cond (.t 37) (.seq (.reg [⟨Sa 38,.mv (.t 4),Sb⟩,⟨Sa 39,.neg (.t 38),Sb⟩,⟨Sa 2,.mv (.t 39),Sb⟩]) (.ret)) (.skip))) (.seq (.reg [⟨Sa 40,.mv (.t 4),Sb⟩,⟨Sa 2,.mv (.t 40),Sb⟩]) (.ret)))))))
theorem is_ref13_exponent:FnIs Tryz.prog 85 41 [.tmp 2] c_ref13_exponent:=⟨⟨_,_,Tryz.func85,rfl,rfl,by kernel_rfl,by kernel_rfl⟩⟩
def c_ref13_tail:SCode :=.seq (.reg [⟨Sa 4,.mv (.c (.s [])),Sb⟩]) (.seq (.seq (.reg [⟨Sa 5,.mv (.t 1),Sb⟩,⟨Sa 6,.mv (.t 0),Sb⟩,⟨Sa 7,.lens (.t 6),Sb⟩,⟨Sa 8,.bin .geq (.t 5) (.t 7),Sb⟩]) (.cond (.t 8) (.seq (.reg [⟨Sa 4,.mv (.c (.s [])),Sb⟩]) (.ret)) (.skip))) (.seq (.reg [⟨Sa 9,.mv (.t 0),Sb⟩,⟨Sa 10,.mv (.t 1),Sb⟩,⟨Sa 11,.slcs (.t 9) (some (.t 10)) none,Sb⟩,⟨Sa 4,.mv (.t 11),Sb⟩]) (.ret)))
theorem is_ref13_tail:FnIs Tryz.prog 86 12 [.tmp 4] c_ref13_tail:=⟨⟨_,_,Tryz.func86,rfl,rfl,by kernel_rfl,by kernel_rfl⟩⟩
def c_ref13_white:SCode :=.seq (.reg [⟨Sa 2,.mv (.c (.b false)),Sb⟩]) (.seq (.reg [⟨Sa 3,.mv (.t 0),Sb⟩,⟨Sa 4,.call 82 [.t 3,.c (.s [32,9,10,13])],Sb⟩,⟨Sa 2,.mv (.t 4),Sb⟩]) (.ret))
theorem is_ref13_white:FnIs Tryz.prog 88 5 [.tmp 2] c_ref13_white:=⟨⟨_,_,Tryz.func88,rfl,rfl,by kernel_rfl,by kernel_rfl⟩⟩
def c_ref13_text:SCode :=.seq (.reg [⟨Sa 4,.mv (.c (.s [])),Sb⟩,⟨Sa 5,.mv (.c (.i .i64 0)),Sb⟩,⟨Sa 6,.mv (.c (.i .i64 0)),Sb⟩]) (.seq (.reg [⟨Sa 7,.mv (.c (.s [])),Sb⟩]) (.seq (.seq (.reg [⟨Sa 15,.mv (.t 1),Sb⟩,⟨Sa 16,.bin .add (.t 15) (.c (.i .i64 1)),Sb⟩,⟨Sa 8,.mv (.t 16),Sb⟩]) (.blk 0 (.loop (.seq (.seq (.reg [⟨Sa 17,.mv (.t 8),Sb⟩,⟨Sa 18,.mv (.t 0),Sb⟩,⟨Sa 19,.lens (.t 18),Sb⟩,⟨Sa 20,.bin .lss (.t 17) (.t 19),Sb⟩]) (.cond (.t 20) (.skip) (.exit 0))) (.blk 1 (.blk 2 (.seq (.reg [⟨Sa 39,.mv (.t 0),Sb⟩,⟨Sa 40,.mv (.t 8),Sb⟩,⟨Sa 41,.idx (.t 39) (.t 40),Sb⟩,⟨Sa 42,.bin .eql (.t 41) (.c (.i .u8 34)),Sb⟩,⟨Sa 38,.mv (.t 42),Sb⟩]) (.cond (.t 38) (.seq (.reg [⟨Sa 43,.mv (.t 7),Sb⟩,⟨Sa 44,.mv (.t 8),Sb⟩,⟨Sa 45,.bin .add (.t 44) (.c (.i .i64 1)),Sb⟩,⟨Sa 4,.mv (.t 43),Sb⟩,⟨Sa 5,.mv (.t 45),Sb⟩,⟨Sa 6,.mv (.c (.i .i64 0)),Sb⟩]) (.ret)) (.seq (.reg [⟨Sa 47,.mv (.t 0),Sb⟩,⟨Sa 48,.mv (.t 8),Sb⟩,⟨Sa 49,.idx (.t 47) (.t 48),Sb⟩,⟨Sa 50,.bin .eql (.t 49) (.c (.i .u8 92)),Sb⟩,⟨Sa 46,.mv (.t 50),Sb⟩]) (.cond (.t 46) (.seq (.reg [⟨Sa 52,.mv (.t 0),Sb⟩,⟨Sa 53,.mv (.t 8),Sb⟩,⟨Sa 54,.call 105 [.t 52,.t 53],Sb⟩,⟨Sa 51,.mv (.t 54),Sb⟩,⟨Sa 55,.ext (.t 51) 0,Sb⟩,⟨Sa 56,.ext (.t 51) 1,Sb⟩,⟨Sa 57,.ext (.t 51) 2,Sb⟩,⟨Sa 9,.mv (.t 55),Sb⟩,⟨Sa 10,.mv (.t 56),Sb⟩,⟨Sa 11,.mv (.t 57),Sb⟩]) (.seq (.seq (.reg [⟨Sa 58,.mv (.t 11),Sb⟩,⟨Sa 59,.bin .neq (.t 58) (.c (.i .i64 0)),Sb⟩]) (.cond (.t 59) (.seq (.reg [⟨Sa 60,.mv (.t 11),Sb⟩,⟨Sa 4,.mv (.c (.s [])),Sb⟩,⟨Sa 5,.mv (.c (.i .i64 0)),Sb⟩,⟨Sa 6,.mv (.t 60),Sb⟩]) (.ret)) (.skip))) (.reg [⟨Sa 61,.mv (.t 7),Sb⟩,⟨Sa 62,.mv (.t 9),Sb⟩,⟨Sa 63,.bin .add (.t 61) (.t 62),Sb⟩,⟨Sa 64,.mv (.t 10),Sb⟩,⟨Sa 7,.mv (.t 63),Sb⟩,⟨Sa 8,.mv (.t 64),Sb⟩]))) (.seq (.reg [⟨Sa 66,.mv (.t 0),Sb⟩,⟨Sa 67,.mv (.t 8),Sb⟩,⟨Sa 68,.idx (.t 66) (.t 67),Sb⟩,⟨Sa 69,.bin .lss (.t 68) (.c (.i .u8 32)),Sb⟩,⟨Sa 65,.mv (.t 69),Sb⟩]) (.cond (.t 65) (.seq (.reg [⟨Sa 4,.mv (.c (.s [])),Sb⟩,⟨Sa 5,.mv (.c (.i .i64 0)),Sb⟩,⟨Sa 6,.mv (.c (.i .i64 130)),Sb⟩]) (.ret)) (.seq (.reg [⟨Sa 22,.mv (.t 0),Sb⟩,⟨Sa 23,.mv (.t 8),Sb⟩,⟨Sa 24,.call 106 [.t 22,.t 23],Sb⟩,⟨Sa 21,.mv (.t 24),Sb⟩,⟨Sa 25,.ext (.t 21) 0,Sb⟩,⟨Sa 26,.ext (.t 21) 1,Sb⟩,⟨Sa 27,.ext (.t 21) 2,Sb⟩,⟨Sa 12,.mv (.t 25),Sb⟩,⟨Sa 13,.mv (.t 26),Sb⟩,⟨Sa 14,.mv (.t 27),Sb⟩]) (.seq (.seq (.reg [⟨Sa 28,.mv (.t 14),Sb⟩,⟨Sa 29,.bin .neq (.t 28) (.c (.i .i64 0)),Sb⟩]) (.cond (.t 29) (.seq (.reg [⟨Sa 30,.mv (.t 14),Sb⟩,⟨Sa 4,.mv (.c (.s [])),Sb⟩,⟨Sa 5,.mv (.c (.i .i64 0)),Sb⟩,⟨Sa 6,.mv (.t 30),Sb⟩]) (.ret)) (.skip))) (.reg [⟨Sa 31,.mv (.t 7),Sb⟩,⟨Sa 32,.mv (.t 0),Sb⟩,⟨Sa 33,.mv (.t 8),Sb⟩,⟨Sa 34,.mv (.t 13),Sb⟩,⟨Sa 35,.slcs (.t 32) (some (.t 33)) (some (.t 34)),Sb⟩,⟨Sa 36,.bin .add (.t 31) (.t 35),Sb⟩,⟨Sa 37,.mv (.t 13),Sb⟩,⟨Sa 7,.mv (.t 36),Sb⟩,⟨Sa 8,.mv (.t 37),Sb⟩]))))))))))))))) (.seq (.reg [⟨Sa 4,.mv (.c (.s [])),Sb⟩,⟨Sa 5,.mv (.c (.i .i64 0)),Sb⟩,⟨Sa 6,.mv (.c (.i .i64 130)),Sb⟩]) (.ret))))
theorem is_ref13_text:FnIs Tryz.prog 89 70 [.tmp 4,.tmp 5,.tmp 6] c_ref13_text:=⟨⟨_,_,Tryz.func89,rfl,rfl,by kernel_rfl,by kernel_rfl⟩⟩
def c_did_isMethod:SCode :=.seq (.reg [⟨Sa 2,.mv (.c (.b false)),Sb⟩]) (.seq (.seq (.reg [⟨Sa 4,.mv (.t 0),Sb⟩,⟨Sa 5,.lens (.t 4),Sb⟩,⟨Sa 6,.mv (.c (.i .i64 0)),Sb⟩]) (.blk 0 (.loop (.seq (.reg [⟨Sa 7,.bin .lss (.t 6) (.t 5),Sb⟩]) (.seq (.cond (.t 7) (.skip) (.exit 0)) (.seq (.blk 1 (.seq (.reg [⟨Sa 8,.mv (.t 6),Sb⟩,⟨Sa 3,.mv (.t 8),Sb⟩]) (.seq (.reg [⟨Sa 9,.mv (.t 0),Sb⟩,⟨Sa 10,.mv (.t 3),Sb⟩,⟨Sa 11,.idx (.t 9) (.t 10),Sb⟩,⟨Sa 12,.call 109 [.t 11],Sb⟩,⟨Sa 13,.not (.t 12),Sb⟩,⟨Sa 14,.mv (.t 13),Sb⟩,⟨Sa 15,.mv (.t 0),some (14,true)⟩,⟨Sa 16,.mv (.t 3),some (14,true)⟩,⟨Sa 17,.idx (.t 15) (.t 16),some (14,true)⟩,⟨Sa 18,.bin .lss (.t 17) (.c (.i .u8 97)),some (14,true)⟩,⟨Sa 19,.mv (.t 18),some (14,true)⟩,⟨Sa 20,.mv (.t 0),some (19,false)⟩,⟨Sa 21,.mv (.t 3),some (19,false)⟩,⟨Sa 22,.idx (.t 20) (.t 21),some (19,false)⟩,⟨Sa 23,.bin .gtr (.t 22) (.c (.i .u8 122)),some (19,false)⟩,⟨Sa 24,.pick (.t 19) (.c (.b true)) (.t 23),some (14,true)⟩,⟨Sa 25,.pick (.t 14) (.t 24) (.c (.b false)),Sb⟩]) (.cond (.t 25) (.seq (.reg [⟨Sa 2,.mv (.c (.b false)),Sb⟩]) (.ret)) (.skip))))) (.reg [⟨Sa 26,.bin .add (.t 6) (.c (.i .i64 1)),Sb⟩,⟨Sa 6,.mv (.t 26),Sb⟩]))))))) (.seq (.reg [⟨Sa 27,.mv (.t 0),Sb⟩,⟨Sa 28,.bin .neq (.t 27) (.c (.s [])),Sb⟩,⟨Sa 2,.mv (.t 28),Sb⟩]) (.ret)))
theorem is_did_isMethod:FnIs Tryz.prog 94 29 [.tmp 2] c_did_isMethod:=⟨⟨_,_,Tryz.func94,rfl,rfl,by kernel_rfl,by kernel_rfl⟩⟩
def c_did_parseID:SCode :=.seq (.reg [⟨Sa 2,.mv (.c (.s [])),Sb⟩,⟨Sa 3,.mv (.c (.i .i64 0)),Sb⟩]) (.seq (.seq (.reg [⟨Sa 10,.mv (.t 0),Sb⟩,⟨Sa 11,.call 110 [.t 10],Sb⟩,⟨Sa 9,.mv (.t 11),Sb⟩,⟨Sa 12,.ext (.t 9) 0,Sb⟩,⟨Sa 13,.ext (.t 9) 1,Sb⟩,⟨Sa 4,.mv (.t 12),Sb⟩,⟨Sa 5,.mv (.t 13),Sb⟩]) (.seq (.reg [⟨Sa 14,.mv (.t 5),Sb⟩,⟨Sa 15,.bin .neq (.t 14) (.c (.i .i64 0)),Sb⟩]) (.cond (.t 15) (.seq (.reg [⟨Sa 16,.mv (.t 5),Sb⟩,⟨Sa 2,.mv (.c (.s [])),Sb⟩,⟨Sa 3,.mv (.t 16),Sb⟩]) (.ret)) (.skip)))) (.seq (.seq (.reg [⟨Sa 17,.mv (.t 0),Sb⟩,⟨Sa 18,.lens (.t 17),Sb⟩,⟨Sa 19,.mv (.c (.i .i64 0)),Sb⟩]) (.blk 0 (.loop (.seq (.reg [⟨Sa 20,.bin .lss (.t 19) (.t 18),Sb⟩]) (.seq (.cond (.t 20) (.skip) (.exit 0)) (.seq (.blk 1 (.seq (.reg [⟨Sa 21,.mv (.t 19),Sb⟩,⟨Sa 6,.mv (.t 21),Sb⟩]) (.seq (.reg [⟨Sa 22,.mv (.t 0),Sb⟩,⟨Sa 23,.mv (.t 6),Sb⟩,⟨Sa 24,.idx (.t 22) (.t 23),Sb⟩,⟨Sa 25,.bin .neq (.t 24) (.c (.i .u8 37)),Sb⟩,⟨Sa 26,.mv (.t 25),Sb⟩,⟨Sa 27,.mv (.t 0),some (26,true)⟩,⟨Sa 28,.mv (.t 6),some (26,true)⟩,⟨Sa 29,.idx (.t 27) (.t 28),some (26,true)⟩,⟨Sa 30,.call 111 [.t 29],some (26,true)⟩,⟨Sa 31,.not (.t 30),some (26,true)⟩,⟨Sa 32,.pick (.t 26) (.t 31) (.c (.b false)),Sb⟩]) (.cond (.t 32) (.seq (.reg [⟨Sa 2,.mv (.c (.s [])),Sb⟩,⟨Sa 3,.mv (.c (.i .i64 1)),Sb⟩]) (.ret)) (.skip))))) (.reg [⟨Sa 33,.bin .add (.t 19) (.c (.i .i64 1)),Sb⟩,⟨Sa 19,.mv (.t 33),Sb⟩]))))))) (.seq (.seq (.reg [⟨Sa 34,.mv (.t 0),Sb⟩,⟨Sa 35,.bin .eql (.t 34) (.c (.s [])),Sb⟩,⟨Sa 36,.mv (.t 35),Sb⟩,⟨Sa 37,.mv (.t 0),some (36,false)⟩,⟨Sa 38,.mv (.t 0),some (36,false)⟩,⟨Sa 39,.lens (.t 38),some (36,false)⟩,⟨Sa 40,.bin .sub (.t 39) (.c (.i .i64 1)),some (36,false)⟩,⟨Sa 41,.idx (.t 37) (.t 40),some (36,false)⟩,⟨Sa 42,.bin .eql (.t 41) (.c (.i .u8 58)),some (36,false)⟩,⟨Sa 43,.pick (.t 36) (.c (.b true)) (.t 42),Sb⟩]) (.cond (.t 43) (.seq (.reg [⟨Sa 2,.mv (.c (.s [])),Sb⟩,⟨Sa 3,.mv (.c (.i .i64 3)),Sb⟩]) (.ret)) (.skip))) (.seq (.reg [⟨Sa 45,.mv (.t 0),Sb⟩,⟨Sa 46,.call 112 [.t 45,.c (.s [46,45,95,58])],Sb⟩,⟨Sa 44,.mv (.t 46),Sb⟩,⟨Sa 47,.ext (.t 44) 0,Sb⟩,⟨Sa 48,.ext (.t 44) 1,Sb⟩,⟨Sa 7,.mv (.t 47),Sb⟩,⟨Sa 8,.mv (.t 48),Sb⟩]) (.seq (.seq (.reg [⟨Sa 49,.mv (.t 8),Sb⟩,⟨Sa 50,.bin .neq (.t 49) (.c (.i .i64 0)),Sb⟩]) (.cond (.t 50) (.seq (.reg [⟨Sa 51,.mv (.t 8),Sb⟩,⟨Sa 2,.mv (.c (.s [])),Sb⟩,⟨Sa 3,.mv (.t 51),Sb⟩]) (.ret)) (.skip))) (.seq (.reg [⟨Sa 52,.mv (.t 7),Sb⟩,⟨Sa 53,.call 113 [.t 52,.c (.s [126]),.c (.s [37,55,69])],Sb⟩,⟨Sa 2,.mv (.t 53),Sb⟩,⟨Sa 3,.mv (.c (.i .i64 0)),Sb⟩]) (.ret)))))))
theorem is_did_parseID:FnIs Tryz.prog 95 54 [.tmp 2,.tmp 3] c_did_parseID:=⟨⟨_,_,Tryz.func95,rfl,rfl,by kernel_rfl,by kernel_rfl⟩⟩
def c_slices_Clone__string_string:SCode :=.seq (.reg [⟨Sa 2,.mv (.c .nil),Sb⟩]) (.seq (.seq (.reg [⟨Sa 3,.mv (.t 0),Sb⟩,⟨Sa 4,.pu (.snil false) [.t 3,.c .nil],Sb⟩]) (.cond (.t 4) (.seq (.reg [⟨Sa 2,.mv (.c .nil),Sb⟩]) (.ret)) (.skip))) (.seq (.reg [⟨Sa 5,.mks 9 1 1 (.c (.i .i64 0)) (.c (.i .i64 0)),Sb⟩,⟨Sa 6,.mv (.t 0),Sb⟩,⟨Sa 7,.app 9 1 16 (.t 5) (.t 6),Sb⟩,⟨Sa 2,.mv (.t 7),Sb⟩]) (.ret)))
theorem is_slices_Clone__string_string:FnIs Tryz.prog 98 8 [.tmp 2] c_slices_Clone__string_string:=⟨⟨_,_,Tryz.func98,rfl,rfl,by kernel_rfl,by kernel_rfl⟩⟩
def c_slices_Clone__api_Value_api_Value:SCode :=.seq (.reg [⟨Sa 2,.mv (.c .nil),Sb⟩]) (.seq (.seq (.reg [⟨Sa 3,.mv (.t 0),Sb⟩,⟨Sa 4,.pu (.snil false) [.t 3,.c .nil],Sb⟩]) (.cond (.t 4) (.seq (.reg [⟨Sa 2,.mv (.c .nil),Sb⟩]) (.ret)) (.skip))) (.seq (.reg [⟨Sa 5,.mks 25 4 1 (.c (.i .i64 0)) (.c (.i .i64 0)),Sb⟩,⟨Sa 6,.mv (.t 0),Sb⟩,⟨Sa 7,.app 25 4 72 (.t 5) (.t 6),Sb⟩,⟨Sa 2,.mv (.t 7),Sb⟩]) (.ret)))
theorem is_slices_Clone__api_Value_api_Value:FnIs Tryz.prog 99 8 [.tmp 2] c_slices_Clone__api_Value_api_Value:=⟨⟨_,_,Tryz.func99,rfl,rfl,by kernel_rfl,by kernel_rfl⟩⟩
def c_did_Parse:SCode :=.seq (.reg [⟨Sa 2,.alloc 87 [.s [],.s [],.s [],.s [],.s [],.b false,.b false],Sb⟩,⟨Sa 3,.mv (.c (.i .i64 0)),Sb⟩]) (.seq (.seq (.reg [⟨Sa 15,.mv (.t 0),Sb⟩,⟨Sa 16,.lens (.t 15),Sb⟩,⟨Sa 17,.bin .gtr (.t 16) (.c (.i .i64 4096)),Sb⟩]) (.cond (.t 17) (.seq (.reg [⟨Sa 18,.build [.s [],.s [],.s [],.s [],.s [],.b false,.b false] [],Sb⟩,⟨Sb,.store 7 (.t 2) (.t 18),Sb⟩,⟨Sa 3,.mv (.c (.i .i64 5)),Sb⟩]) (.ret)) (.skip))) (.seq (.reg [⟨Sa 20,.mv (.t 0),Sb⟩,⟨Sa 21,.call 93 [.t 20,.c (.s [35])],Sb⟩,⟨Sa 19,.mv (.t 21),Sb⟩,⟨Sa 22,.ext (.t 19) 0,Sb⟩,⟨Sa 23,.ext (.t 19) 1,Sb⟩,⟨Sa 24,.ext (.t 19) 2,Sb⟩,⟨Sa 4,.mv (.t 22),Sb⟩,⟨Sa 5,.mv (.t 23),Sb⟩,⟨Sa 6,.mv (.t 24),Sb⟩]) (.seq (.reg [⟨Sa 26,.mv (.t 4),Sb⟩,⟨Sa 27,.call 93 [.t 26,.c (.s [63])],Sb⟩,⟨Sa 25,.mv (.t 27),Sb⟩,⟨Sa 28,.ext (.t 25) 0,Sb⟩,⟨Sa 29,.ext (.t 25) 1,Sb⟩,⟨Sa 30,.ext (.t 25) 2,Sb⟩,⟨Sa 4,.mv (.t 28),Sb⟩,⟨Sa 7,.mv (.t 29),Sb⟩,⟨Sa 8,.mv (.t 30),Sb⟩]) (.seq (.reg [⟨Sa 32,.mv (.t 4),Sb⟩,⟨Sa 33,.call 93 [.t 32,.c (.s [47])],Sb⟩,⟨Sa 31,.mv (.t 33),Sb⟩,⟨Sa 34,.ext (.t 31) 0,Sb⟩,⟨Sa 35,.ext (.t 31) 1,Sb⟩,⟨Sa 36,.ext (.t 31) 2,Sb⟩,⟨Sa 9,.mv (.t 34),Sb⟩,⟨Sa 10,.mv (.t 35),Sb⟩,⟨Sa 11,.mv (.t 36),Sb⟩]) (.seq (.reg [⟨Sa 38,.mv (.t 9),Sb⟩,⟨Sa 39,.call 66 [.t 38],Sb⟩,⟨Sa 37,.mv (.t 39),Sb⟩,⟨Sa 40,.ext (.t 37) 0,Sb⟩,⟨Sa 41,.ext (.t 37) 1,Sb⟩,⟨Sa 12,.alloc 62 [.s [],.s []],Sb⟩,⟨Sb,.store 2 (.t 12) (.t 40),Sb⟩,⟨Sa 13,.mv (.t 41),Sb⟩]) (.seq (.seq (.reg [⟨Sa 42,.mv (.t 13),Sb⟩,⟨Sa 43,.bin .neq (.t 42) (.c (.i .i64 0)),Sb⟩]) (.cond (.t 43) (.seq (.reg [⟨Sa 44,.build [.s [],.s [],.s [],.s [],.s [],.b false,.b false] [],Sb⟩,⟨Sa 45,.mv (.t 13),Sb⟩,⟨Sb,.store 7 (.t 2) (.t 44),Sb⟩,⟨Sa 3,.mv (.t 45),Sb⟩]) (.ret)) (.skip))) (.seq (.reg [⟨Sa 47,.mv (.t 4),Sb⟩,⟨Sa 48,.mv (.t 9),Sb⟩,⟨Sa 49,.lens (.t 48),Sb⟩,⟨Sa 50,.slcs (.t 47) (some (.t 49)) none,Sb⟩,⟨Sa 51,.call 112 [.t 50,.c (.s [33,36,38,39,40,41,42,43,44,59,61,58,64,47])],Sb⟩,⟨Sa 46,.mv (.t 51),Sb⟩,⟨Sa 52,.ext (.t 46) 0,Sb⟩,⟨Sa 53,.ext (.t 46) 1,Sb⟩,⟨Sa 14,.mv (.t 52),Sb⟩,⟨Sa 13,.mv (.t 53),Sb⟩]) (.seq (.seq (.reg [⟨Sa 54,.mv (.t 13),Sb⟩,⟨Sa 55,.bin .neq (.t 54) (.c (.i .i64 0)),Sb⟩]) (.cond (.t 55) (.seq (.reg [⟨Sa 56,.build [.s [],.s [],.s [],.s [],.s [],.b false,.b false] [],Sb⟩,⟨Sa 57,.mv (.t 13),Sb⟩,⟨Sb,.store 7 (.t 2) (.t 56),Sb⟩,⟨Sa 3,.mv (.t 57),Sb⟩]) (.ret)) (.skip))) (.seq (.reg [⟨Sa 59,.mv (.t 7),Sb⟩,⟨Sa 60,.call 112 [.t 59,.c (.s [33,36,38,39,40,41,42,43,44,59,61,58,64,47,63])],Sb⟩,⟨Sa 58,.mv (.t 60),Sb⟩,⟨Sa 61,.ext (.t 58) 0,Sb⟩,⟨Sa 62,.ext (.t 58) 1,Sb⟩,⟨Sa 7,.mv (.t 61),Sb⟩,⟨Sa 13,.mv (.t 62),Sb⟩]) (.seq (.seq (.reg [⟨Sa 63,.mv (.t 13),Sb⟩,⟨Sa 64,.bin .neq (.t 63) (.c (.i .i64 0)),Sb⟩]) (.cond (.t 64) (.seq (.reg [⟨Sa 65,.build [.s [],.s [],.s [],.s [],.s [],.b false,.b false] [],Sb⟩,⟨Sa 66,.mv (.t 13),Sb⟩,⟨Sb,.store 7 (.t 2) (.t 65),Sb⟩,⟨Sa 3,.mv (.t 66),Sb⟩]) (.ret)) (.skip))) (.seq (.reg [⟨Sa 68,.mv (.t 5),Sb⟩,⟨Sa 69,.call 112 [.t 68,.c (.s [33,36,38,39,40,41,42,43,44,59,61,58,64,47,63])],Sb⟩,⟨Sa 67,.mv (.t 69),Sb⟩,⟨Sa 70,.ext (.t 67) 0,Sb⟩,⟨Sa 71,.ext (.t 67) 1,Sb⟩,⟨Sa 5,.mv (.t 70),Sb⟩,⟨Sa 13,.mv (.t 71),Sb⟩]) (.seq (.seq (.reg [⟨Sa 72,.mv (.t 13),Sb⟩,⟨Sa 73,.bin .neq (.t 72) (.c (.i .i64 0)),Sb⟩]) (.cond (.t 73) (.seq (.reg [⟨Sa 74,.build [.s [],.s [],.s [],.s [],.s [],.b false,.b false] [],Sb⟩,⟨Sa 75,.mv (.t 13),Sb⟩,⟨Sb,.store 7 (.t 2) (.t 74),Sb⟩,⟨Sa 3,.mv (.t 75),Sb⟩]) (.ret)) (.skip))) (.seq (.reg [⟨Sa 76,.loadn 2 (.t 12),Sb⟩,⟨Sa 77,.mv (.t 14),Sb⟩,⟨Sa 78,.mv (.t 7),Sb⟩,⟨Sa 79,.mv (.t 8),Sb⟩,⟨Sa 80,.mv (.t 5),Sb⟩,⟨Sa 81,.mv (.t 6),Sb⟩,⟨Sa 82,.build [.s [],.s [],.s [],.s [],.s [],.b false,.b false] [(0,(2,.t 76)),(2,(1,.t 77)),(3,(1,.t 78)),(5,(1,.t 79)),(4,(1,.t 80)),(6,(1,.t 81))],Sb⟩,⟨Sb,.store 7 (.t 2) (.t 82),Sb⟩,⟨Sa 3,.mv (.c (.i .i64 0)),Sb⟩]) (.ret))))))))))))))
theorem is_did_Parse:FnIs Tryz.prog 101 83 [.celln 2 7,.tmp 3] c_did_Parse:=⟨⟨_,_,Tryz.func101,rfl,rfl,by kernel_rfl,by kernel_rfl⟩⟩
def c_ref13_run:SCode :=.seq (.reg [⟨Sa 2,.mv (.c (.i .i64 0)),Sb⟩]) (.seq (.reg [⟨Sa 3,.mv (.c (.i .i64 0)),Sb⟩]) (.seq (.blk 0 (.loop (.seq (.seq (.reg [⟨Sa 4,.mv (.t 3),Sb⟩,⟨Sa 5,.mv (.t 0),Sb⟩,⟨Sa 6,.lens (.t 5),Sb⟩,⟨Sa 7,.bin .lss (.t 4) (.t 6),Sb⟩,⟨Sa 8,.mv (.t 7),Sb⟩,⟨Sa 9,.mv (.t 0),some (8,true)⟩,⟨Sa 10,.mv (.t 3),some (8,true)⟩,⟨Sa 11,.idx (.t 9) (.t 10),some (8,true)⟩,⟨Sa 12,.call 90 [.t 11],some (8,true)⟩,⟨Sa 13,.pick (.t 8) (.t 12) (.c (.b false)),Sb⟩]) (.cond (.t 13) (.skip) (.exit 0))) (.blk 1 (.reg [⟨Sa 14,.mv (.t 3),Sb⟩,⟨Sa 15,.bin .add (.t 14) (.c (.i .i64 1)),Sb⟩,⟨Sa 3,.mv (.t 15),Sb⟩]))))) (.seq (.reg [⟨Sa 16,.mv (.t 3),Sb⟩,⟨Sa 2,.mv (.t 16),Sb⟩]) (.ret))))
theorem is_ref13_run:FnIs Tryz.prog 104 17 [.tmp 2] c_ref13_run:=⟨⟨_,_,Tryz.func104,rfl,rfl,by kernel_rfl,by kernel_rfl⟩⟩
def c_did_isIDByte:SCode :=.seq (.reg [⟨Sa 2,.mv (.c (.b false)),Sb⟩]) (.seq (.reg [⟨Sa 3,.mv (.t 0),Sb⟩,⟨Sa 4,.call 125 [.t 3],Sb⟩,⟨Sa 5,.mv (.t 4),Sb⟩,⟨Sa 6,.mv (.t 0),some (5,false)⟩,⟨Sa 7,.call 109 [.t 6],some (5,false)⟩,⟨Sa 8,.pick (.t 5) (.c (.b true)) (.t 7),Sb⟩,⟨Sa 9,.mv (.t 8),Sb⟩,⟨Sa 10,.mv (.t 0),some (9,false)⟩,⟨Sa 11,.call 102 [.c (.s [46,45,95,58]),.t 10],some (9,false)⟩,⟨Sa 12,.bin .geq (.t 11) (.c (.i .i64 0)),some (9,false)⟩,⟨Sa 13,.pick (.t 9) (.c (.b true)) (.t 12),Sb⟩,⟨Sa 2,.mv (.t 13),Sb⟩]) (.ret))
theorem is_did_isIDByte:FnIs Tryz.prog 111 14 [.tmp 2] c_did_isIDByte:=⟨⟨_,_,Tryz.func111,rfl,rfl,by kernel_rfl,by kernel_rfl⟩⟩
def c_ref13_unit:SCode :=.seq (.reg [⟨Sa 4,.mv (.c (.i .i64 0)),Sb⟩,⟨Sa 5,.mv (.c (.b false)),Sb⟩]) (.seq (.seq (.reg [⟨Sa 8,.mv (.t 1),Sb⟩,⟨Sa 9,.bin .add (.t 8) (.c (.i .i64 6)),Sb⟩,⟨Sa 10,.mv (.t 0),Sb⟩,⟨Sa 11,.lens (.t 10),Sb⟩,⟨Sa 12,.bin .gtr (.t 9) (.t 11),Sb⟩,⟨Sa 13,.mv (.t 12),Sb⟩,⟨Sa 14,.mv (.t 0),some (13,false)⟩,⟨Sa 15,.mv (.t 1),some (13,false)⟩,⟨Sa 16,.idx (.t 14) (.t 15),some (13,false)⟩,⟨Sa 17,.bin .neq (.t 16) (.c (.i .u8 92)),some (13,false)⟩,⟨Sa 18,.pick (.t 13) (.c (.b true)) (.t 17),Sb⟩,⟨Sa 19,.mv (.t 18),Sb⟩,⟨Sa 20,.mv (.t 0),some (19,false)⟩,⟨Sa 21,.mv (.t 1),some (19,false)⟩,⟨Sa 22,.bin .add (.t 21) (.c (.i .i64 1)),some (19,false)⟩,⟨Sa 23,.idx (.t 20) (.t 22),some (19,false)⟩,⟨Sa 24,.bin .neq (.t 23) (.c (.i .u8 117)),some (19,false)⟩,⟨Sa 25,.pick (.t 19) (.c (.b true)) (.t 24),Sb⟩]) (.cond (.t 25) (.seq (.reg [⟨Sa 4,.mv (.c (.i .i64 0)),Sb⟩,⟨Sa 5,.mv (.c (.b false)),Sb⟩]) (.ret)) (.skip))) (.seq (.reg [⟨Sa 27,.mv (.t 0),Sb⟩,⟨Sa 28,.mv (.t 1),Sb⟩,⟨Sa 29,.bin .add (.t 28) (.c (.i .i64 2)),Sb⟩,⟨Sa 30,.mv (.t 1),Sb⟩,⟨Sa 31,.bin .add (.t 30) (.c (.i .i64 6)),Sb⟩,⟨Sa 32,.slcs (.t 27) (some (.t 29)) (some (.t 31)),Sb⟩,⟨Sa 33,.call 132 [.t 32,.c (.i .u64 65535)],Sb⟩,⟨Sa 26,.mv (.t 33),Sb⟩,⟨Sa 34,.ext (.t 26) 0,Sb⟩,⟨Sa 35,.ext (.t 26) 1,Sb⟩,⟨Sa 6,.mv (.t 34),Sb⟩,⟨Sa 7,.mv (.t 35),Sb⟩]) (.seq (.reg [⟨Sa 36,.mv (.t 6),Sb⟩,⟨Sa 37,.cvi .i64 (.t 36),Sb⟩,⟨Sa 38,.mv (.t 7),Sb⟩,⟨Sa 39,.bin .eql (.t 38) (.c (.i .i64 0)),Sb⟩,⟨Sa 4,.mv (.t 37),Sb⟩,⟨Sa 5,.mv (.t 39),Sb⟩]) (.ret))))
theorem is_ref13_unit:FnIs Tryz.prog 119 40 [.tmp 4,.tmp 5] c_ref13_unit:=⟨⟨_,_,Tryz.func119,rfl,rfl,by kernel_rfl,by kernel_rfl⟩⟩
end Go.Proofs.YtceenajkieomoaaGreatDoor.Sx
namespace Go.Proofs.YtceenajkieomoaaGreatDoor
open Go.RowKit Sx
open Lib renaming indexByte->xj
open List renaming all_eq_true->qd
theorem all_of {s:List UInt8} {p:UInt8->Bool} (h:∀j (hj:j<s.length),p s[j]=true):s.all p=true:=by
 rw[qd];intro x hx;obtain⟨j,hj,rfl⟩:=List.mem_iff_getElem.1 hx;exact h j hj
theorem zo3 {s:List UInt8} {p:UInt8->Bool} {j:Nat} (hj:j<s.length) (h:p s[j]=false):s.all p=false:=by
 rw[Bool.eq_false_iff];intro e;have:=qd.1 e s[j] (List.getElem_mem _);rw[h] at this;cases this
theorem zaW {s:List UInt8} {j:Nat} (hj:j<s.length):s.getD j 0=s[j]:=by
 rw[List.getD_eq_getElem?_getD,List.getElem?_eq_getElem hj];rfl
theorem zn2 (l:List UInt8) (c:UInt8):decide (0<=xj l c)=zcl c l:=by
 have:=idx_neg (l:=l) (c:=c);rcases h:zcl c l with _|_
 ·exact decide_eq_false (fun h2=>by have:=this.2 h;omega)
 ·exact decide_eq_true (by
   apply Classical.byContradiction
   intro h2;have:=this.1 (by omega);rw[h] at this;cases this)
theorem wrap_u64 (n:Int) (h0:0<=n) (h1:n<18446744073709551616):IntKind.u64.wrap n=n:=by
 simp[IntKind.wrap,IntKind.bits,IntKind.signed];omega
theorem zey:maxLen=2 ^ 63 - 1:=rfl
theorem Qb.rev {w w':World} (h:w'=w):Qb w w':=by subst h;exact Qb.refl _
section
variable [Tabs Tryz.prog] {objs:List OB} {K:List OB->AV->Prop}
theorem zlb (c:UInt8) (hk:K objs (.b (zaq c))):zad Tryz.prog 109 [.i .u8 c.toNat] objs K :=
 conv (vs:=[.int .u8 c.toNat]) rfl rfl (fun w=>(zdW c w).mono (by rintro e w' ⟨rfl,rfl⟩;exact⟨rfl,Qb.refl _⟩)) hk
theorem aAlpha_k (c:UInt8) (hk:K objs (.b (zbu c))):zad Tryz.prog 125 [.i .u8 c.toNat] objs K :=
 conv (vs:=[.int .u8 c.toNat]) rfl rfl (fun w=>(zf2 c w).mono (by rintro e w' ⟨rfl,rfl⟩;exact⟨rfl,Qb.refl _⟩)) hk
theorem zeO (s:List UInt8) (c:UInt8) (hk:K objs (.i .i64 (xj s c))):zad Tryz.prog 102 [.s s,.i .u8 c.toNat] objs K:=by
 have e:((c.toNat:Nat):Int).toNat.toUInt8=c:=by simp
 exact conv (vs:=[.string (S s),.int .u8 c.toNat]) rfl rfl (fun w=>(Tryz.strings_IndexByte (S s) c.toNat w).mono fun e' w' ⟨h1,h2⟩=>⟨by rw[h1,e],Qb.rev h2⟩) hk
theorem zhN (s p:List UInt8) (hk:K objs (.b (Lib.hasPrefix s p))):zad Tryz.prog 100 [.s s,.s p] objs K :=
 conv (vs:=[.string (S s),.string (S p)]) rfl rfl (fun w=>(Tryz.strings_HasPrefix (S s) (S p) w).mono fun e w' ⟨h1,h2⟩=>⟨h1,Qb.rev h2⟩) hk
theorem zhO (s p:List UInt8) (hk:K objs (.tup [.s (Lib.trimPrefix s p),.b (Lib.hasPrefix s p)])):zad Tryz.prog 92 [.s s,.s p] objs K :=
 conv (vs:=[.string (S s),.string (S p)]) rfl rfl (fun w=>(Tryz.strings_CutPrefix (S s) (S p) w).mono fun e w' ⟨h1,h2⟩=>⟨h1,Qb.rev h2⟩) hk
theorem zjD (s:List UInt8) (c:UInt8) (hs:s.length<=maxLen) (hk:K objs (.tup [.s (zaE c s).1,.s (zaE c s).2.1,.b (zaE c s).2.2])):zad Tryz.prog 93 [.s s,.s [c]] objs K :=
 conv (vs:=[.string (S s),.string (S [c])]) rfl rfl (fun w=>Cut_any (S s) c w (by rw[zcQ];exact hs)) hk
theorem zgl (u:Nat) (hu:u<18446744073709551616) (hk:K objs (.s (Lib.decDigits u))):zad Tryz.prog 87 [.i .u64 u] objs K :=
 conv (vs:=[.int .u64 u]) rfl rfl (fun w=>zhU u hu w) hk
theorem zjU (s set:List UInt8) (hs:s.length<=maxLen) (ha:set.length<=maxLen) (hk:K objs (.i .i64 (zlD s set))):zad Tryz.prog 69 [.s s,.s set] objs K :=
 zoM (vs:=[.string (S s),.string (S set)]) rfl rfl (fun w=>zlw (S s) (S set) w (by rw[zcQ];exact hs) (by rw[zcQ];exact ha)) hk
theorem zfF (c:UInt8) (hk:K objs (.b (zaq c))):zad Tryz.prog 90 [.i .u8 c.toNat] objs K :=
 zoM (vs:=[.int .u8 c.toNat]) rfl rfl (fun w=>zh1 c w) hk
theorem zmP (c:UInt8) (hk:K objs (.b (zbu c))):zad Tryz.prog 91 [.i .u8 c.toNat] objs K :=
 zoM (vs:=[.int .u8 c.toNat]) rfl rfl (fun w=>zh2 c w) hk
theorem zh0 (c:UInt8) (s:List UInt8) (hs:s.length<=maxLen) (hk:K objs (.b (zcl c s))):zad Tryz.prog 82 [.i .u8 c.toNat,.s s] objs K :=
 zoM (vs:=[.int .u8 c.toNat,.string (S s)]) rfl rfl (fun w=>ziZ c (S s) w (by rw[zcQ];exact hs)) hk
theorem rnHex_k (s:List UInt8) (most:Nat) (hs:s.length<=maxLen) (hm:most<=18446744073709551615) (hk:K objs (.tup [.i .u64 (ze2 za0 16 most s).2,.i .i64 (ze2 za0 16 most s).1])):zad Tryz.prog 132 [.s s,.i .u64 most] objs K :=
 zoM (vs:=[.string (S s),.int .u64 most]) rfl rfl (fun w=>rHex_any (S s) most w (by rw[zcQ];exact hs) (by omega) (by omega)) hk
end
end Go.Proofs.YtceenajkieomoaaGreatDoor
namespace Go.Proofs.YtceenajkieomoaaGreatDoor
open Go.RowKit
open Int renaming toNat_natCast->jf
open List renaming map_cons->zo, map_nil->zr
open Nat renaming and_two_pow_sub_one_eq_mod->yg
theorem zd7 (a:Nat) (ha:a<9223372036854775808):(BitVec.ofInt 64 (a:Int)).toNat=a:=by
 rw[BitVec.ofInt_natCast,BitVec.toNat_ofNat];exact Nat.mod_eq_of_lt (by omega)
theorem zc2 (a b:Nat) (ha:a<9223372036854775808) (hb:b<9223372036854775808):bits .and .i64 (a:Int) (b:Int)=((a &&& b:Nat):Int):=by
 have hx:a &&& b<2 ^ 63:=Nat.and_lt_two_pow _ (by omega);show IntKind.i64.wrap ((BitVec.ofInt 64 (a:Int) &&& BitVec.ofInt 64 (b:Int)).toNat:Int)=_;rw[BitVec.toNat_and,zd7 a ha,zd7 b hb,IntKind.wrap_i64];omega
theorem zcL (a b:Nat) (ha:a<9223372036854775808) (hb:b<9223372036854775808):bits .or .i64 (a:Int) (b:Int)=((a ||| b:Nat):Int):=by
 have hx:a ||| b<2 ^ 63:=Nat.or_lt_two_pow (by omega) (by omega);show IntKind.i64.wrap ((BitVec.ofInt 64 (a:Int) ||| BitVec.ofInt 64 (b:Int)).toNat:Int)=_;rw[BitVec.toNat_or,zd7 a ha,zd7 b hb,IntKind.wrap_i64];omega
theorem and63 (a:Nat):a &&& 63=a % 64:=yg a 6
theorem zh7 (a b i:Nat) (h:b<2 ^ i):2 ^ i*a ||| b=2 ^ i*a+b:=(Nat.two_pow_add_eq_or_of_lt h a).symm
theorem zcG (r:Int) (w:World) :
  Calls Tryz.prog 133 #[.int .i64 r] w fun e w'=>e=.returned (.bool (cpB r))/\w=w':=by
 go_enter Tryz.func133,Tryz.ntmps133
 go_wp2
 all_goals go_ret
 all_goals exact⟨za1 (by unfold cpB;first|exact dt (by omega)|exact df (by omega)|(rw[Bool.eq_iff_iff];simp only[Bool.or_eq_true,Bool.and_eq_true,decide_eq_true_eq];omega)),rfl⟩
theorem zk4 (r:Nat) (h:r<=4503599627370496):bits .and .i64 (r:Int) 63=((r % 64:Nat):Int):=by
 have h1:=zc2 r 63 (by omega) (by omega);rw[and63] at h1;exact h1
theorem or128 (x:Nat) (h:x<64):bits .or .i64 128 (x:Int)=((128+x:Nat):Int):=by
 have h2:=zcL 128 x (by omega) (by omega);have h3:=zh7 1 x 7 (by omega);rw[show (128:Nat) ||| x=128+x from h3] at h2;exact h2
theorem or192 (x:Nat) (h:x<64):bits .or .i64 192 (x:Int)=((192+x:Nat):Int):=by
 have h2:=zcL 192 x (by omega) (by omega);have h3:=zh7 3 x 6 (by omega);rw[show (192:Nat) ||| x=192+x from h3] at h2;exact h2
theorem or224 (x:Nat) (h:x<32):bits .or .i64 224 (x:Int)=((224+x:Nat):Int):=by
 have h2:=zcL 224 x (by omega) (by omega);have h3:=zh7 7 x 5 (by omega);rw[show (224:Nat) ||| x=224+x from h3] at h2;exact h2
theorem or240 (x:Nat) (h:x<16):bits .or .i64 240 (x:Int)=((240+x:Nat):Int):=by
 have h2:=zcL 240 x (by omega) (by omega);have h3:=zh7 15 x 4 (by omega);rw[show (240:Nat) ||| x=240+x from h3] at h2;exact h2
theorem or64 (r x:Nat) (hr:r<=4503599627370496) (h:x<64):bits .or .i64 ((r:Int)*64) (x:Int)=((r*64+x:Nat):Int):=by
 have h2:=zcL (r*64) x (by omega) (by omega);have h3:=zh7 r x 6 (by omega);rw[show r*64 ||| x=r*64+x from by rw[Nat.mul_comm];exact h3] at h2;rw[<-h2,Int.natCast_mul];rfl
structure UTabs (w:World):Prop where
 triv:True
theorem UTabs.keep {w w':World} (h:UTabs w) (hq:Qb w w'):UTabs w':=⟨trivial⟩
def zhn (r:Int):Int×List UInt8:=if cpB r=true then (0,zec r.toNat) else (4,[])
theorem encV_1 {n:Nat} (hp:cpB (n:Int)=true) (h:n<128):zhn n=(0,(strOfNums [(n:Int)]).data.toList):=by
 unfold zhn zec;rw[if_pos hp,jf,if_pos h];rfl
theorem encV_2 {n:Nat} (hp:cpB (n:Int)=true) (h1:¬n<128) (h:n<2048):zhn n=(0,(strOfNums [192+(n:Int) / 64,128+(n:Int) % 64]).data.toList):=by
 unfold zhn zec;rw[if_pos hp,jf,if_neg h1,if_pos h];simp only[strOfNums_data,zo,zr,u8b];rw[show (192+(n:Int) / 64).toNat=192+n / 64 from by omega,show (128+(n:Int) % 64).toNat=128+n % 64 from by omega]
theorem encV_3 {n:Nat} (hp:cpB (n:Int)=true) (h1:¬n<2048) (h:n<65536):zhn n=(0,(strOfNums [224+(n:Int) / 4096,128+(n:Int) / 64 % 64,128+(n:Int) % 64]).data.toList):=by
 unfold zhn zec;rw[if_pos hp,jf,if_neg (by omega),if_neg h1,if_pos h];simp only[strOfNums_data,zo,zr,u8b];rw[show (224+(n:Int) / 4096).toNat=224+n / 4096 from by omega,show (128+(n:Int) / 64 % 64).toNat=128+n / 64 % 64 from by omega,show (128+(n:Int) % 64).toNat=128+n % 64 from by omega]
theorem encV_4 {n:Nat} (hp:cpB (n:Int)=true) (h1:¬n<65536):zhn n=(0,(strOfNums [240+(n:Int) / 262144,128+(n:Int) / 4096 % 64,128+(n:Int) / 64 % 64,128+(n:Int) % 64]).data.toList):=by
 unfold zhn zec;rw[if_pos hp,jf,if_neg (by omega),if_neg (by omega),if_neg h1];simp only[strOfNums_data,zo,zr,u8b];rw[show (240+(n:Int) / 262144).toNat=240+n / 262144 from by omega,show (128+(n:Int) / 4096 % 64).toNat=128+n / 4096 % 64 from by omega,show (128+(n:Int) / 64 % 64).toNat=128+n / 64 % 64 from by omega,show (128+(n:Int) % 64).toNat=128+n % 64 from by omega]
theorem cpB_nat {r:Int} (h:cpB r=true):∃n:Nat,r=n/\n<=1114111:=by
 have:=of_decide_eq_true h;exact⟨r.toNat,by omega,by omega⟩
def firstN (c:UInt8) (n:Nat):Nat:=if n=1 then c.toNat else if n=2 then c.toNat % 32 else if n=3 then c.toNat % 16 else c.toNat % 8
theorem and31 (a:Nat):a &&& 31=a % 32:=yg a 5
theorem and15 (a:Nat):a &&& 15=a % 16:=yg a 4
theorem and7 (a:Nat):a &&& 7=a % 8:=yg a 3
def zdn (l:List UInt8) (at_:Int):Int×Int×Int :=
 if at_<0\/(l.length:Int)<=at_ then (0,0,4) else match zeW (l.drop at_.toNat) with
  | none=>(0,0,7)
  | some (r,n)=>((r:Int),at_+n,0)
def triV (x:Int×Int×Int):Value:=.tuple #[.int .i64 x.1,.int .i64 x.2.1,.int .i64 x.2.2]
theorem zlK {l:List UInt8} {a:Int} (h:a<0\/(l.length:Int)<=a):zdn l a=(0,0,4):=if_pos h
theorem zfU {l:List UInt8} {k:Nat} (h:k<l.length) (hd:zeW (l.drop k)=none):zdn l k=(0,0,7):=by
 unfold zdn;rw[if_neg (by omega),jf,hd]
theorem zjq {l:List UInt8} {k r n:Nat} (h:k<l.length) (hd:zeW (l.drop k)=some (r,n)):zdn l k=((r:Int),(k:Int)+n,0):=by
 unfold zdn;rw[if_neg (by omega),jf,hd]
end Go.Proofs.YtceenajkieomoaaGreatDoor
