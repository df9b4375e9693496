/- The texts that the proofs of these statements reach, in their order, as few files. -/
import Derived.Lib.LaidTab
import Derived.Lib.ItoaNum
import Derived.ChangeAgain
import Derived.Lib.Walk
import Derived.Lib.ItoaWalk
import Derived.Lib.ItoaMem
import Derived.Lib.AppendIntMem
import Derived.BigCall
import Derived.BigGuard
import Derived.Lib.ItoaLen
import Derived.Test.YtceenajkieomoaaGreatDoorDt3
set_option linter.unusedVariables false
set_option linter.unusedSimpArgs false
set_option maxRecDepth 100000
namespace Go.Proofs.YtceenajkieomoaaGreatDoor.Sx
open Go.RowKit
open List renaming replicate->qj
inductive IT where
 | code (c:SCode)
 | ops (l:List SO)
 | dops (l:List SO)
 | ap (l:List (Nat×Nat×Option (Nat×Bool)))
 | blk (id:Nat)
def zgQ (P:Program) [Tabs P] (C:Cx) (F:za0):List IT->za0
 | []=>F
 | .code c::k=>zfB (fun o t=>wpC P C c (zgQ P C F k) o t) (zgQ P C F k)
 | .ops l::k=>zfB (fun o t=>wpR P l o t fun o t=>zgQ P C F k .normal o t) (zgQ P C F k)
 | .dops l::k=>zfB (fun o t=>wpD P l o t fun o t=>zgQ P C F k .normal o t) (zgQ P C F k)
 | .ap l::k=>zfB (fun o t=>zgW l t/\zgQ P C F k .normal o t) (zgQ P C F k)
 | .blk id::k=>blkK id (zgQ P C F k)
def run (P:Program) [Tabs P] (C:Cx) (k:List IT) (objs:List OB) (tm:List AV) (F:za0):Prop:=zgQ P C F k .normal objs tm
def xit (P:Program) [Tabs P] (C:Cx) (id:Nat) (k:List IT) (objs:List OB) (tm:List AV) (F:za0):Prop:=zgQ P C F k (.exit id) objs tm
def loopF (P:Program) [Tabs P] (C:Cx) (J:Nat->List OB->List AV->Prop) (n:Nat) (k:List IT) (F:za0):za0:=zfB (fun o t=>∃m,m<n/\J m o t) (zgQ P C F k)
def evs (tm:List AV):List SV->List AV
 | []=>[]
 | x::xs=>x.ev tm::evs tm xs
theorem zfx (tm:List AV):∀l:List SV,evs tm l=l.map fun x=>x.ev tm
 | []=>rfl
 | x::l=>by rw[evs,zfx tm l];rfl
def evp (tm:List AV):List (Nat×Nat×SV)->List (Nat×Nat×AV)
 | []=>[]
 | (o,s,x)::xs=>(o,s,x.ev tm)::evp tm xs
theorem zlI (tm:List AV):∀l:List (Nat×Nat×SV),evp tm l=l.map fun p=>(p.1,p.2.1,p.2.2.ev tm)
 | []=>rfl
 | (o,s,x)::l=>by rw[evp,zlI tm l];rfl
def bxs:Option OB->Option (List AV)
 | some (.box _ cs)=>some cs
 | _=>none
theorem zp4 (T:TypeId) (cs:List AV):bxs (some (.box T cs))=some cs:=Eq.trans rfl rfl
section
variable {P:Program} [Tabs P] {C:Cx} {F:za0} {k:List IT} {r:List SO} {objs:List OB} {tm:List AV} {d:Option Nat}
theorem rn_nil:run P C [] objs tm F=F .normal objs tm:=Eq.trans rfl rfl
theorem rn_seq (x y:SCode):run P C (.code (.seq x y)::k) objs tm F=run P C (.code x::.code y::k) objs tm F:=Eq.trans rfl rfl
theorem znA:run P C (.code .skip::k) objs tm F=run P C k objs tm F:=Eq.trans rfl rfl
theorem rn_reg (l:List SO):run P C (.code (.reg l)::k) objs tm F=run P C (.ops l::k) objs tm F:=Eq.trans rfl rfl
theorem rn_ap (l:List (Nat×Nat×Option (Nat×Bool))):run P C (.ap l::k) objs tm F=(zgW l tm/\run P C k objs tm F):=Eq.trans rfl rfl
theorem apOk_n:zgW [] tm=True:=Eq.trans rfl rfl
theorem apOk_c (s s':Nat) (g:Option (Nat×Bool)) (l:List (Nat×Nat×Option (Nat×Bool))):zgW ((s,s',g)::l) tm=((if s'<1000000 then apG g tm (zet tm[s]? tm[s']?) else apS tm[s]? tm[s' - 1000000]?)/\zgW l tm):=Eq.trans rfl rfl
theorem apG_n (p:Prop):apG none tm p=p:=Eq.trans rfl rfl
theorem apG_s (g:Nat) (b:Bool) (p:Prop):apG (some (g,b)) tm p=apB tm[g]? b p:=Eq.trans rfl rfl
theorem apB_tt (p:Prop):apB (some (.b true)) true p=p:=Eq.trans rfl rfl
theorem apB_ff (p:Prop):apB (some (.b false)) false p=p:=Eq.trans rfl rfl
theorem apB_tf (p:Prop):apB (some (.b true)) false p=True:=Eq.trans rfl rfl
theorem apB_ft (p:Prop):apB (some (.b false)) true p=True:=Eq.trans rfl rfl
theorem apS_o (b g j b' g' j':Nat):apS (some (.porow b g j)) (some (.porow b' g' j'))=(¬b=b'):=Eq.trans rfl rfl
theorem apS_p (b g j b' o':Nat):apS (some (.porow b g j)) (some (.p b' o'))=(¬b=b'):=Eq.trans rfl rfl
theorem zmc (b o b' g':Nat):zet (some (.p b o)) (some (.orow b' g'))=(¬b=b'):=Eq.trans rfl rfl
theorem zmb (b o b' g' j':Nat):zet (some (.p b o)) (some (.porow b' g' j'))=(¬b=b'):=Eq.trans rfl rfl
theorem zma (xs:List AV) (j b' g':Nat):zet (some (.prow xs j)) (some (.orow b' g'))=True:=Eq.trans rfl rfl
theorem zl9 (xs:List AV) (j b' g' j':Nat):zet (some (.prow xs j)) (some (.porow b' g' j'))=True:=Eq.trans rfl rfl
theorem zqc (b o b' o':Nat):zet (some (.p b o)) (some (.p b' o'))=(¬b=b'):=Eq.trans rfl rfl
theorem zqb (xs:List AV) (j b' o':Nat):zet (some (.prow xs j)) (some (.p b' o'))=True:=Eq.trans rfl rfl
theorem rn_drw (l:List SO) (n:Nat) (ap:List (Nat×Nat×Option (Nat×Bool))):run P C (.code (.drw l n ap)::k) objs tm F=run P C (.dops (l.take n)::.ap ap::.ops (l.drop n)::k) objs tm F:=Eq.trans rfl rfl
theorem rn_crg (pre:List SO) (cl:SO) (post:List SO):run P C (.code (.crg pre cl post)::k) objs tm F=run P C [.ops pre] objs tm (fun _ _ t1=>run P C [.ops [cl]] objs t1 (fun _ o2 t2=>run P C [.ops pre] o2 tm (fun _ _ t=>t=t1)/\run P C (.ops post::k) o2 t2 F)):=Eq.trans rfl rfl
def rcr (P:Program) [Tabs P] (C:Cx):List (List SO×List AV×List AV)->List OB->Prop
 | [],_=>True
 | e::r,o=>run P C [.ops e.1] o e.2.1 (fun _ _ x=>x=e.2.2)/\rcr P C r o
def rst (P:Program) [Tabs P] (C:Cx) (st:List (List SO×SO)) (hist:List (List SO×List AV×List AV)) (last:List SO) (k:List IT) (objs:List OB) (tm:List AV) (F:za0):Prop:=wpT P st hist last objs tm fun o t=>run P C k o t F
theorem rcr_n (o:List OB):rcr P C [] o=True:=Eq.trans rfl rfl
theorem rcr_c (L:List SO) (b u:List AV) (h:List (List SO×List AV×List AV)) (o:List OB):rcr P C ((L,b,u)::h) o=(run P C [.ops L] o b (fun _ _ x=>x=u)/\rcr P C h o):=Eq.trans rfl rfl
theorem zkV:∀(h:List (List SO×List AV×List AV)) (o:List OB),zbO P h o=rcr P C h o
 | [],o=>rfl
 | e::h,o=>by
  unfold zbO rcr;rw[zkV h o]
  rfl
theorem rn_crs (st:List (List SO×SO)) (last:List SO):run P C (.code (.crs st last)::k) objs tm F=rst P C st [] last k objs tm F:=Eq.trans rfl rfl
theorem rst_n (h:List (List SO×List AV×List AV)) (last:List SO):rst P C [] h last k objs tm F=run P C (.ops last::k) objs tm F:=Eq.trans rfl rfl
theorem rst_c (L:List SO) (c:SO) (st:List (List SO×SO)) (h:List (List SO×List AV×List AV)) (last:List SO):rst P C ((L,c)::st) h last k objs tm F=run P C [.ops L] objs tm (fun _ _ u=>run P C [.ops [c]] objs u (fun _ o' t'=>rcr P C ((L,tm,u)::h) o'/\rst P C st ((L,tm,u)::h) last k o' t' F)):=by
 rw[show rst P C ((L,c)::st) h last k objs tm F=wpR P L objs tm (fun _ u=>wpR P [c] objs u fun o' t'=>zbO P ((L,tm,u)::h) o'/\wpT P st ((L,tm,u)::h) last o' t' fun o t=>run P C k o t F) from rfl];simp only[zkV (C:=C)]
 rfl
def rsb (P:Program) [Tabs P] (C:Cx) (d:Nat) (T:TypeId) (z:List AV) (sr:SO) (st:List (List SO×SO)) (hist:List (List SO×List AV×List AV)) (last:List SO) (k:List IT) (objs:List OB) (tm:List AV) (F:za0):Prop:=wpB P d T z st hist last objs tm fun o t=>wpR P [sr] o t fun o t=>run P C k o t F
theorem hsV_n (d:Nat) (p:AV):hsV d p []=[]:=Eq.trans rfl rfl
theorem hsV_c (d:Nat) (p:AV) (L:List SO) (b u:List AV) (h:List (List SO×List AV×List AV)):hsV d p ((L,b,u)::h)=(L,b.set d p,u.set d p)::hsV d p h:=Eq.trans rfl rfl
theorem rn_cra (d:Nat) (T:TypeId) (z:List AV) (st:List (List SO×SO)) (last:List SO) (sr:SO):run P C (.code (.cra d T z st last sr)::k) objs tm F=(tm.length<=1000003/\rsb P C d T z sr st [] last k objs tm F):=Eq.trans rfl rfl
theorem rsb_n (d:Nat) (T:TypeId) (z:List AV) (sr:SO) (h:List (List SO×List AV×List AV)) (last:List SO):rsb P C d T z sr [] h last k objs tm F=run P C [.ops last] objs tm (fun _ _ u=>rcr P C (hsV d (.p objs.length 0) ((last,tm,u)::h)) (objs++[.box T z])/\run P C (.ops [sr]::k) (objs++[.box T z]) (u.set d (.p objs.length 0)) F):=by
 rw[show rsb P C d T z sr [] h last k objs tm F=wpR P last objs tm (fun _ u=>zbO P (hsV d (.p objs.length 0) ((last,tm,u)::h)) (objs++[.box T z])/\wpR P [sr] (objs++[.box T z]) (u.set d (.p objs.length 0)) fun o t=>run P C k o t F) from rfl];simp only[zkV (C:=C)]
 rfl
theorem rsb_c (d:Nat) (T:TypeId) (z:List AV) (sr:SO) (L:List SO) (c:SO) (st:List (List SO×SO)) (h:List (List SO×List AV×List AV)) (last:List SO):rsb P C d T z sr ((L,c)::st) h last k objs tm F=run P C [.ops L] objs tm (fun _ _ u=>(rcr P C (hsV d (.p objs.length 0) ((L,tm,u)::h)) (objs++[.box T z])/\run P C [.ops [c]] (objs++[.box T z]) (u.set d (.p objs.length 0)) (fun _ o' t'=>rcr P C (hsV d (.p objs.length 0) ((L,tm,u)::h)) o'/\rst P C st (hsV d (.p objs.length 0) ((L,tm,u)::h)) last (.ops [sr]::k) o' t' F))/\run P C [.ops [c]] objs u (fun _ o' t'=>rcr P C ((L,tm,u)::h) o'/\rsb P C d T z sr st ((L,tm,u)::h) last k o' t' F)):=by
 rw[show rsb P C d T z sr ((L,c)::st) h last k objs tm F=wpR P L objs tm (fun _ u=>(zbO P (hsV d (.p objs.length 0) ((L,tm,u)::h)) (objs++[.box T z])/\wpR P [c] (objs++[.box T z]) (u.set d (.p objs.length 0)) (fun o' t'=>zbO P (hsV d (.p objs.length 0) ((L,tm,u)::h)) o'/\wpT P st (hsV d (.p objs.length 0) ((L,tm,u)::h)) last o' t' fun o t=>wpR P [sr] o t fun o t=>run P C k o t F))/\wpR P [c] objs u (fun o' t'=>zbO P ((L,tm,u)::h) o'/\wpB P d T z st ((L,tm,u)::h) last o' t' fun o t=>wpR P [sr] o t fun o t=>run P C k o t F)) from rfl];simp only[zkV (C:=C)]
 rfl
theorem za8 (id:Nat) (c:SCode):run P C (.code (.blk id c)::k) objs tm F=run P C (.code c::.blk id::k) objs tm F:=Eq.trans rfl rfl
theorem zkO (id:Nat):run P C (.blk id::k) objs tm F=run P C k objs tm F:=Eq.trans rfl rfl
theorem zhf:run P C (.ops []::k) objs tm F=run P C k objs tm F:=Eq.trans rfl rfl
theorem zgj:run P C (.dops []::k) objs tm F=run P C k objs tm F:=Eq.trans rfl rfl
theorem zc1:∀(k:List IT),zgQ P C F k .ret objs tm=F .ret objs tm
 | []=>rfl
 | .code c::k=>zc1 k
 | .ops l::k=>zc1 k
 | .dops l::k=>zc1 k
 | .ap l::k=>zc1 k
 | .blk id::k=>zc1 k
theorem rn_ret:run P C (.code .ret::k) objs tm F=F .ret objs tm:=zc1 k
theorem znL:run P C (.code .dead::k) objs tm F=False:=Eq.trans rfl rfl
theorem znK (id:Nat):run P C (.code (.exit id)::k) objs tm F=xit P C id k objs tm F:=Eq.trans rfl rfl
theorem zm3 (id:Nat):xit P C id [] objs tm F=F (.exit id) objs tm:=Eq.trans rfl rfl
theorem zkv (id:Nat) (c:SCode):xit P C id (.code c::k) objs tm F=xit P C id k objs tm F:=Eq.trans rfl rfl
theorem zm2 (id:Nat) (l:List SO):xit P C id (.ops l::k) objs tm F=xit P C id k objs tm F:=Eq.trans rfl rfl
theorem zku (id:Nat) (l:List SO):xit P C id (.dops l::k) objs tm F=xit P C id k objs tm F:=Eq.trans rfl rfl
theorem xit_ap (id:Nat) (l:List (Nat×Nat×Option (Nat×Bool))):xit P C id (.ap l::k) objs tm F=xit P C id k objs tm F:=Eq.trans rfl rfl
theorem zm4 (id id':Nat):xit P C id (.blk id'::k) objs tm F=if id=id' then run P C k objs tm F else xit P C id k objs tm F:=Eq.trans rfl rfl
theorem zfu (J:Nat->List OB->List AV->Prop) (n:Nat):loopF P C J n k F .normal objs tm=∃m,m<n/\J m objs tm:=Eq.trans rfl rfl
theorem zhq (J:Nat->List OB->List AV->Prop) (n id:Nat):loopF P C J n k F (.exit id) objs tm=xit P C id k objs tm F:=Eq.trans rfl rfl
theorem zje (J:Nat->List OB->List AV->Prop) (n:Nat):loopF P C J n k F .ret objs tm=F .ret objs tm:=zc1 k
theorem zaK [On P C] {c:SCode} (J:Nat->List OB->List AV->Prop) (n:Nat) (h0:J n objs tm) (round:∀n objs tm,J n objs tm->run P C [.code c] objs tm (loopF P C J n k F)):run P C (.code (.loop c)::k) objs tm F :=
 wps_loop J n h0 round
def kO (P:Program) [Tabs P] (C:Cx) (v:Option AV) (d:Option Nat) (r:List SO) (k:List IT) (objs:List OB) (tm:List AV) (F:za0):Prop :=
 match v with
 | some v=>run P C (.ops r::k) objs (zau tm d v) F
 | none=>False
theorem zbv (op:SOp):run P C (.ops (⟨d,op,none⟩::r)::k) objs tm F=wpS P op objs tm fun o v=>run P C (.ops r::k) o (zau tm d v) F:=Eq.trans rfl rfl
theorem zoG (v:AV):kO P C (some v) d r k objs tm F=run P C (.ops r::k) objs (zau tm d v) F:=Eq.trans rfl rfl
theorem rn_mv (x:SV):run P C (.ops (⟨d,.mv x,none⟩::r)::k) objs tm F=run P C (.ops r::k) objs (zau tm d (x.ev tm)) F:=Eq.trans rfl rfl
def kPick (P:Program) [Tabs P] (C:Cx) (c x y:AV) (d:Option Nat) (r:List SO) (k:List IT) (objs:List OB) (tm:List AV) (F:za0):Prop :=
 match c with
 | .b t=>(t=true->run P C (.ops r::k) objs (zau tm d x) F)/\(t=false->run P C (.ops r::k) objs (zau tm d y) F)
 | _=>False
theorem zoD (x y:AV):kPick P C (.b true) x y d r k objs tm F=run P C (.ops r::k) objs (zau tm d x) F:=propext ⟨fun h=>h.1 rfl,fun h=>⟨fun _=>h,fun e=>absurd e.symm Bool.false_ne_true⟩⟩
theorem zoE (x y:AV):kPick P C (.b false) x y d r k objs tm F=run P C (.ops r::k) objs (zau tm d y) F:=propext ⟨fun h=>h.2 rfl,fun h=>⟨fun e=>absurd e Bool.false_ne_true,fun _=>h⟩⟩
theorem znB (c x y:SV):run P C (.ops (⟨d,.pick c x y,none⟩::r)::k) objs tm F=kPick P C (c.ev tm) (x.ev tm) (y.ev tm) d r k objs tm F:=Eq.trans rfl rfl
theorem zkT (T:Nat) (z:List AV):run P C (.ops (⟨d,.alloc T z,none⟩::r)::k) objs tm F=run P C (.ops r::k) (objs++[.box T z]) (zau tm d (.p objs.length 0)) F:=Eq.trans rfl rfl
theorem rn_box (T:Nat) (x:SV):run P C (.ops (⟨d,.box T x,none⟩::r)::k) objs tm F=((x.ev tm).flat=true/\run P C (.ops r::k) (objs++[.box T (x.ev tm).cells]) (zau tm d (.p objs.length 0)) F):=Eq.trans rfl rfl
theorem zkS (z:List AV) (ps:List (Nat×Nat×SV)):run P C (.ops (⟨d,.build z ps,none⟩::r)::k) objs tm F=kO P C ((zde z (evp tm ps)).map .agg) d r k objs tm F:=by
 rw[zlI];rw[zbv];simp only[wpS]
 cases zde z (ps.map fun p=>(p.1,p.2.1,p.2.2.ev tm))<;>rfl
theorem ziV (n:Nat) (z:List AV) (ps:List (Nat×Nat×SV)):run P C (.ops (⟨d,.bslice n z ps,none⟩::r)::k) objs tm F=kO P C ((zde z (evp tm ps)).map (.row n)) d r k objs tm F:=by
 rw[zlI];rw[zbv];simp only[wpS]
 cases zde z (ps.map fun p=>(p.1,p.2.1,p.2.2.ev tm))<;>rfl
def kLit (P:Program) [Tabs P] (C:Cx) (c:Option (List AV)) (E sz n:Nat) (d:Option Nat) (r:List SO) (k:List IT) (objs:List OB) (tm:List AV) (F:za0):Prop :=
 match c with
 | some cs=>cs.length=n*sz/\run P C (.ops r::k) (objs++[.orow E sz 0 n cs]) (zau tm d (.orow objs.length 0)) F
 | none=>False
theorem kLit_s (cs:List AV) (E sz n:Nat):kLit P C (some cs) E sz n d r k objs tm F=(cs.length=n*sz/\run P C (.ops r::k) (objs++[.orow E sz 0 n cs]) (zau tm d (.orow objs.length 0)) F):=Eq.trans rfl rfl
theorem znP (E sz n:Nat) (z:List AV) (ps:List (Nat×Nat×SV)):run P C (.ops (⟨d,.bslo E sz n z ps,none⟩::r)::k) objs tm F=kLit P C (zde z (evp tm ps)) E sz n d r k objs tm F:=by
 rw[zlI];rw[zbv];simp only[wpS]
 cases zde z (ps.map fun p=>(p.1,p.2.1,p.2.2.ev tm))<;>rfl
def kLd1o (P:Program) [Tabs P] (C:Cx) (c:Option OB) (gen j:Nat) (d:Option Nat) (r:List SO) (k:List IT) (objs:List OB) (tm:List AV) (F:za0):Prop :=
 match c with
 | some (.orow _ _ gen' _ xs)=>gen'=gen/\kO P C xs[j]? d r k objs tm F
 | _=>False
def kLd1 (P:Program) [Tabs P] (C:Cx) (v:AV) (d:Option Nat) (r:List SO) (k:List IT) (objs:List OB) (tm:List AV) (F:za0):Prop :=
 match v with
 | .p b off=>kO P C ((bxs objs[b]?).bind fun cs=>cs[off]?) d r k objs tm F
 | .prow xs j=>kO P C xs[j]? d r k objs tm F
 | .porow b gen j=>kLd1o P C objs[b]? gen j d r k objs tm F
 | _=>False
theorem zoO (E sz gen' n gen j:Nat) (xs:List AV):kLd1o P C (some (.orow E sz gen' n xs)) gen j d r k objs tm F=(gen'=gen/\kO P C xs[j]? d r k objs tm F):=Eq.trans rfl rfl
theorem kLd1_o (b gen j:Nat):kLd1 P C (.porow b gen j) d r k objs tm F=kLd1o P C objs[b]? gen j d r k objs tm F:=Eq.trans rfl rfl
theorem kLd1_p (b off:Nat):kLd1 P C (.p b off) d r k objs tm F=kO P C ((bxs objs[b]?).bind fun cs=>cs[off]?) d r k objs tm F:=Eq.trans rfl rfl
theorem kLd1_r (xs:List AV) (j:Nat):kLd1 P C (.prow xs j) d r k objs tm F=kO P C xs[j]? d r k objs tm F:=Eq.trans rfl rfl
theorem zkN (x:SV):run P C (.ops (⟨d,.load1 x,none⟩::r)::k) objs tm F=kLd1 P C (x.ev tm) d r k objs tm F:=by
 rw[zbv];simp only[wpS,kLd1]
 cases x.ev tm<;>try rfl
 case p b off=>
  dsimp only;generalize objs[b]? = q
  cases q with
  | none=>rfl
  | some ob=>
   cases ob<;>try rfl
   all_goals (dsimp only [bxs,Option.bind];split<;>rfl)
 case prow xs j=>
  dsimp only
  cases hx:xs[j]? with
  | none=>simp[kO]
  | some v=>simp[kO]
 case porow b gen j=>
  dsimp only;generalize objs[b]? = q
  cases q with
  | none=>rfl
  | some ob=>
   cases ob<;>try rfl
   rename_i xs;dsimp only [kLd1o]
   cases hx:xs[j]? with
   | none=>simp[kO]
   | some v=>simp[kO]
def kLdn (P:Program) [Tabs P] (C:Cx) (c:Option (List AV)) (off sz:Nat) (d:Option Nat) (r:List SO) (k:List IT) (objs:List OB) (tm:List AV) (F:za0):Prop :=
 match c with
 | some cs=>off+sz<=cs.length/\run P C (.ops r::k) objs (zau tm d (.agg ((cs.drop off).take sz))) F
 | none=>False
def kLdno (P:Program) [Tabs P] (C:Cx) (c:Option OB) (gen j sz:Nat) (d:Option Nat) (r:List SO) (k:List IT) (objs:List OB) (tm:List AV) (F:za0):Prop :=
 match c with
 | some (.orow _ _ gen' _ xs)=>(gen'=gen/\j+sz<=xs.length)/\run P C (.ops r::k) objs (zau tm d (.agg ((xs.drop j).take sz))) F
 | _=>False
def kLdv (P:Program) [Tabs P] (C:Cx) (v:AV) (sz:Nat) (d:Option Nat) (r:List SO) (k:List IT) (objs:List OB) (tm:List AV) (F:za0):Prop :=
 match v with
 | .p b off=>kLdn P C (bxs objs[b]?) off sz d r k objs tm F
 | .prow xs j=>kLdn P C (some xs) j sz d r k objs tm F
 | .porow b gen j=>kLdno P C objs[b]? gen j sz d r k objs tm F
 | _=>False
theorem zoN (E s gen' n gen j sz:Nat) (xs:List AV):kLdno P C (some (.orow E s gen' n xs)) gen j sz d r k objs tm F=((gen'=gen/\j+sz<=xs.length)/\run P C (.ops r::k) objs (zau tm d (.agg ((xs.drop j).take sz))) F):=Eq.trans rfl rfl
theorem kLdv_o (b gen j sz:Nat):kLdv P C (.porow b gen j) sz d r k objs tm F=kLdno P C objs[b]? gen j sz d r k objs tm F:=Eq.trans rfl rfl
theorem kLdn_s (cs:List AV) (off sz:Nat):kLdn P C (some cs) off sz d r k objs tm F=(off+sz<=cs.length/\run P C (.ops r::k) objs (zau tm d (.agg ((cs.drop off).take sz))) F):=Eq.trans rfl rfl
theorem kLdv_p (b off sz:Nat):kLdv P C (.p b off) sz d r k objs tm F=kLdn P C (bxs objs[b]?) off sz d r k objs tm F:=Eq.trans rfl rfl
theorem kLdv_r (xs:List AV) (j sz:Nat):kLdv P C (.prow xs j) sz d r k objs tm F=kLdn P C (some xs) j sz d r k objs tm F:=Eq.trans rfl rfl
theorem zkM (sz:Nat) (x:SV):run P C (.ops (⟨d,.loadn sz x,none⟩::r)::k) objs tm F=kLdv P C (x.ev tm) sz d r k objs tm F:=by
 rw[zbv];simp only[wpS,kLdv]
 cases x.ev tm<;>try rfl
 try (case p b off=>
  dsimp only;generalize objs[b]? = q
  cases q with
  | none=>rfl
  | some ob=>cases ob<;>rfl)
 try (case porow b gen j=>
  dsimp only;generalize objs[b]? = q
  cases q with
  | none=>rfl
  | some ob=>cases ob<;>rfl)
def kSt2 (P:Program) [Tabs P] (C:Cx) (c:Option OB) (b off sz:Nat) (v:AV) (d:Option Nat) (r:List SO) (k:List IT) (objs:List OB) (tm:List AV) (F:za0):Prop :=
 match c with
 | some (.box T cs)=>(v.flat=true/\v.cells.length=sz/\off+sz<=cs.length)/\run P C (.ops r::k) (objs.set b (.box T (zbk cs off v.cells))) (zau tm d .u) F
 | _=>False
def kSt3 (P:Program) [Tabs P] (C:Cx) (c:Option OB) (b gen j sz:Nat) (v:AV) (d:Option Nat) (r:List SO) (k:List IT) (objs:List OB) (tm:List AV) (F:za0):Prop :=
 match c with
 | some (.orow E s gen' n xs)=>(gen'=gen/\v.flat=true/\v.cells.length=sz/\j+sz<=xs.length)/\run P C (.ops r::k) (objs.set b (.orow E s gen' n (zbk xs j v.cells))) (zau tm d .u) F
 | _=>False
def kSt (P:Program) [Tabs P] (C:Cx) (p v:AV) (sz:Nat) (d:Option Nat) (r:List SO) (k:List IT) (objs:List OB) (tm:List AV) (F:za0):Prop :=
 match p with
 | .p b off=>kSt2 P C objs[b]? b off sz v d r k objs tm F
 | .porow b gen j=>kSt3 P C objs[b]? b gen j sz v d r k objs tm F
 | _=>False
theorem kSt3_o (E s gen' n:Nat) (xs:List AV) (b gen j sz:Nat) (v:AV):kSt3 P C (some (.orow E s gen' n xs)) b gen j sz v d r k objs tm F=((gen'=gen/\v.flat=true/\v.cells.length=sz/\j+sz<=xs.length)/\run P C (.ops r::k) (objs.set b (.orow E s gen' n (zbk xs j v.cells))) (zau tm d .u) F):=Eq.trans rfl rfl
theorem kSt_o (b gen j sz:Nat) (v:AV):kSt P C (.porow b gen j) v sz d r k objs tm F=kSt3 P C objs[b]? b gen j sz v d r k objs tm F:=Eq.trans rfl rfl
theorem kSt2_b (T:TypeId) (cs:List AV) (b off sz:Nat) (v:AV):kSt2 P C (some (.box T cs)) b off sz v d r k objs tm F=((v.flat=true/\v.cells.length=sz/\off+sz<=cs.length)/\run P C (.ops r::k) (objs.set b (.box T (zbk cs off v.cells))) (zau tm d .u) F):=Eq.trans rfl rfl
theorem kSt_p (b off sz:Nat) (v:AV):kSt P C (.p b off) v sz d r k objs tm F=kSt2 P C objs[b]? b off sz v d r k objs tm F:=Eq.trans rfl rfl
theorem zkK (sz:Nat) (x y:SV):run P C (.ops (⟨d,.store sz x y,none⟩::r)::k) objs tm F=kSt P C (x.ev tm) (y.ev tm) sz d r k objs tm F:=by
 rw[zbv];simp only[wpS,kSt]
 cases x.ev tm<;>try rfl
 try (case p b off=>
  dsimp only;generalize objs[b]? = q
  cases q with
  | none=>rfl
  | some ob=>cases ob<;>rfl)
 try (case porow b gen j=>
  dsimp only;generalize objs[b]? = q
  cases q with
  | none=>rfl
  | some ob=>cases ob<;>rfl)
def kNck (P:Program) [Tabs P] (C:Cx) (v:AV)  (d:Option Nat) (r:List SO) (k:List IT) (objs:List OB) (tm:List AV) (F:za0):Prop :=
 match v with
 | .p b o=>run P C (.ops r::k) objs (zau tm d (.p b o)) F
 | .prow xs j=>run P C (.ops r::k) objs (zau tm d (.prow xs j)) F
 | .fn f fs cs=>run P C (.ops r::k) objs (zau tm d (.fn f fs cs)) F
 | .porow b gen j=>run P C (.ops r::k) objs (zau tm d (.porow b gen j)) F
 | _=>False
theorem kNck_0 (b o:Nat) :kNck P C (.p b o)  d r k objs tm F=(run P C (.ops r::k) objs (zau tm d (.p b o)) F):=Eq.trans rfl rfl
theorem kNck_1 (xs:List AV) (j:Nat) :kNck P C (.prow xs j)  d r k objs tm F=(run P C (.ops r::k) objs (zau tm d (.prow xs j)) F):=Eq.trans rfl rfl
theorem kNck_2 (f:Nat) (fs cs:List AV) :kNck P C (.fn f fs cs)  d r k objs tm F=(run P C (.ops r::k) objs (zau tm d (.fn f fs cs)) F):=Eq.trans rfl rfl
theorem kNck_3 (b gen j:Nat) :kNck P C (.porow b gen j)  d r k objs tm F=(run P C (.ops r::k) objs (zau tm d (.porow b gen j)) F):=Eq.trans rfl rfl
theorem rn_nck (x:SV):run P C (.ops (⟨d,.nck x,none⟩::r)::k) objs tm F=kNck P C (x.ev tm)  d r k objs tm F:=by
 rw[zbv];simp only[wpS,kNck]
 cases (x.ev tm)<;>rfl
def kNot (P:Program) [Tabs P] (C:Cx) (v:AV)  (d:Option Nat) (r:List SO) (k:List IT) (objs:List OB) (tm:List AV) (F:za0):Prop :=
 match v with
 | .b t=>run P C (.ops r::k) objs (zau tm d (.b (!t))) F
 | _=>False
theorem kNot_0 (t:Bool) :kNot P C (.b t)  d r k objs tm F=(run P C (.ops r::k) objs (zau tm d (.b (!t))) F):=Eq.trans rfl rfl
theorem rn_not (x:SV):run P C (.ops (⟨d,.not x,none⟩::r)::k) objs tm F=kNot P C (x.ev tm)  d r k objs tm F:=by
 rw[zbv];simp only[wpS,kNot]
 cases (x.ev tm)<;>rfl
def kAr (P:Program) [Tabs P] (C:Cx) (q:IntKind) (z:Int) (d:Option Nat) (r:List SO) (k:List IT) (objs:List OB) (tm:List AV) (F:za0):Prop:=arK q z fun z=>run P C (.ops r::k) objs (zau tm d (.i q z)) F
theorem zoZ (z:Int):kAr P C .i64 z d r k objs tm F=((-9223372036854775808<=z/\z<=9223372036854775807)/\run P C (.ops r::k) objs (zau tm d (.i .i64 z)) F):=Eq.trans rfl rfl
theorem kAr_i8 (z:Int):kAr P C .i8 z d r k objs tm F=run P C (.ops r::k) objs (zau tm d (.i .i8 (IntKind.wrap .i8 z))) F:=Eq.trans rfl rfl
theorem zo1 (z:Int):kAr P C .i16 z d r k objs tm F=run P C (.ops r::k) objs (zau tm d (.i .i16 (IntKind.wrap .i16 z))) F:=Eq.trans rfl rfl
theorem zo0 (z:Int):kAr P C .i32 z d r k objs tm F=run P C (.ops r::k) objs (zau tm d (.i .i32 (IntKind.wrap .i32 z))) F:=Eq.trans rfl rfl
theorem kAr_u8 (z:Int):kAr P C .u8 z d r k objs tm F=run P C (.ops r::k) objs (zau tm d (.i .u8 (IntKind.wrap .u8 z))) F:=Eq.trans rfl rfl
theorem zoY (z:Int):kAr P C .u16 z d r k objs tm F=run P C (.ops r::k) objs (zau tm d (.i .u16 (IntKind.wrap .u16 z))) F:=Eq.trans rfl rfl
theorem zoX (z:Int):kAr P C .u32 z d r k objs tm F=run P C (.ops r::k) objs (zau tm d (.i .u32 (IntKind.wrap .u32 z))) F:=Eq.trans rfl rfl
theorem zoW (z:Int):kAr P C .u64 z d r k objs tm F=run P C (.ops r::k) objs (zau tm d (.i .u64 (IntKind.wrap .u64 z))) F:=Eq.trans rfl rfl
def kNeg (P:Program) [Tabs P] (C:Cx) (v:AV)  (d:Option Nat) (r:List SO) (k:List IT) (objs:List OB) (tm:List AV) (F:za0):Prop :=
 match v with
 | .i q n=>kAr P C q (0 - n) d r k objs tm F
 | _=>False
theorem kNeg_0 (q:IntKind) (n:Int) :kNeg P C (.i q n)  d r k objs tm F=(kAr P C q (0 - n) d r k objs tm F):=Eq.trans rfl rfl
theorem rn_neg (x:SV):run P C (.ops (⟨d,.neg x,none⟩::r)::k) objs tm F=kNeg P C (x.ev tm)  d r k objs tm F:=by
 rw[zbv];simp only[wpS,kNeg,kAr]
 cases x.ev tm<;>rfl
def kCvi (P:Program) [Tabs P] (C:Cx) (v:AV) (q:IntKind) (d:Option Nat) (r:List SO) (k:List IT) (objs:List OB) (tm:List AV) (F:za0):Prop :=
 match v with
 | .i kk n=>run P C (.ops r::k) objs (zau tm d (.i q (q.wrap n))) F
 | _=>False
theorem kCvi_0 (kk:IntKind) (n:Int) (q:IntKind):kCvi P C (.i kk n) q d r k objs tm F=(run P C (.ops r::k) objs (zau tm d (.i q (q.wrap n))) F):=Eq.trans rfl rfl
theorem rn_cvi (q:IntKind) (x:SV):run P C (.ops (⟨d,.cvi q x,none⟩::r)::k) objs tm F=kCvi P C (x.ev tm) q d r k objs tm F:=by
 rw[zbv];simp only[wpS,kCvi]
 cases (x.ev tm)<;>rfl
def kCvs (P:Program) [Tabs P] (C:Cx) (v:AV)  (d:Option Nat) (r:List SO) (k:List IT) (objs:List OB) (tm:List AV) (F:za0):Prop :=
 match v with
 | .s l=>run P C (.ops r::k) objs (zau tm d (.s l)) F
 | _=>False
theorem kCvs_0 (l:List UInt8) :kCvs P C (.s l)  d r k objs tm F=(run P C (.ops r::k) objs (zau tm d (.s l)) F):=Eq.trans rfl rfl
theorem rn_cvs (x:SV):run P C (.ops (⟨d,.cvs x,none⟩::r)::k) objs tm F=kCvs P C (x.ev tm)  d r k objs tm F:=by
 rw[zbv];simp only[wpS,kCvs]
 cases (x.ev tm)<;>rfl
def kLens (P:Program) [Tabs P] (C:Cx) (v:AV)  (d:Option Nat) (r:List SO) (k:List IT) (objs:List OB) (tm:List AV) (F:za0):Prop :=
 match v with
 | .s l=>run P C (.ops r::k) objs (zau tm d (.i .i64 l.length)) F
 | _=>False
theorem zoI (l:List UInt8) :kLens P C (.s l)  d r k objs tm F=(run P C (.ops r::k) objs (zau tm d (.i .i64 l.length)) F):=Eq.trans rfl rfl
theorem znE (x:SV):run P C (.ops (⟨d,.lens x,none⟩::r)::k) objs tm F=kLens P C (x.ev tm)  d r k objs tm F:=by
 rw[zbv];simp only[wpS,kLens]
 cases (x.ev tm)<;>rfl
def kFldn (P:Program) [Tabs P] (C:Cx) (v:AV) (off sz:Nat) (d:Option Nat) (r:List SO) (k:List IT) (objs:List OB) (tm:List AV) (F:za0):Prop :=
 match v with
 | .agg cs=>run P C (.ops r::k) objs (zau tm d (.agg ((cs.drop off).take sz))) F
 | _=>False
theorem zoS (cs:List AV) (off sz:Nat):kFldn P C (.agg cs) off sz d r k objs tm F=(run P C (.ops r::k) objs (zau tm d (.agg ((cs.drop off).take sz))) F):=Eq.trans rfl rfl
theorem znI (off sz:Nat) (x:SV):run P C (.ops (⟨d,.fldn off sz x,none⟩::r)::k) objs tm F=kFldn P C (x.ev tm) off sz d r k objs tm F:=by
 rw[zbv];simp only[wpS,kFldn]
 cases (x.ev tm)<;>rfl
def kFad (P:Program) [Tabs P] (C:Cx) (v:AV) (off:Nat) (d:Option Nat) (r:List SO) (k:List IT) (objs:List OB) (tm:List AV) (F:za0):Prop :=
 match v with
 | .p b o=>run P C (.ops r::k) objs (zau tm d (.p b (o+off))) F
 | .prow xs j=>run P C (.ops r::k) objs (zau tm d (.prow xs (j+off))) F
 | .porow b gen j=>run P C (.ops r::k) objs (zau tm d (.porow b gen (j+off))) F
 | _=>False
theorem kFad_0 (b o:Nat) (off:Nat):kFad P C (.p b o) off d r k objs tm F=(run P C (.ops r::k) objs (zau tm d (.p b (o+off))) F):=Eq.trans rfl rfl
theorem kFad_1 (xs:List AV) (j:Nat) (off:Nat):kFad P C (.prow xs j) off d r k objs tm F=(run P C (.ops r::k) objs (zau tm d (.prow xs (j+off))) F):=Eq.trans rfl rfl
theorem kFad_2 (b gen j:Nat) (off:Nat):kFad P C (.porow b gen j) off d r k objs tm F=(run P C (.ops r::k) objs (zau tm d (.porow b gen (j+off))) F):=Eq.trans rfl rfl
theorem rn_fad (off:Nat) (x:SV):run P C (.ops (⟨d,.fad off x,none⟩::r)::k) objs tm F=kFad P C (x.ev tm) off d r k objs tm F:=by
 rw[zbv];simp only[wpS,kFad]
 cases (x.ev tm)<;>rfl
def kFld1 (P:Program) [Tabs P] (C:Cx) (v:AV) (off:Nat) (d:Option Nat) (r:List SO) (k:List IT) (objs:List OB) (tm:List AV) (F:za0):Prop :=
 match v with
 | .agg cs=>kO P C cs[off]? d r k objs tm F
 | _=>False
theorem zoT (cs:List AV) (off:Nat):kFld1 P C (.agg cs) off d r k objs tm F=(kO P C cs[off]? d r k objs tm F):=Eq.trans rfl rfl
theorem znJ (off:Nat) (x:SV):run P C (.ops (⟨d,.fld1 off x,none⟩::r)::k) objs tm F=kFld1 P C (x.ev tm) off d r k objs tm F:=by
 rw[zbv];simp only[wpS,kFld1]
 cases x.ev tm<;>try rfl
 try (case agg cs=>dsimp only;cases cs[off]?<;>rfl)
def kExt (P:Program) [Tabs P] (C:Cx) (v:AV) (j:Nat) (d:Option Nat) (r:List SO) (k:List IT) (objs:List OB) (tm:List AV) (F:za0):Prop :=
 match v with
 | .tup cs=>kO P C cs[j]? d r k objs tm F
 | _=>False
theorem kExt_0 (cs:List AV) (j:Nat):kExt P C (.tup cs) j d r k objs tm F=(kO P C cs[j]? d r k objs tm F):=Eq.trans rfl rfl
theorem rn_ext (x:SV) (j:Nat):run P C (.ops (⟨d,.ext x j,none⟩::r)::k) objs tm F=kExt P C (x.ev tm) j d r k objs tm F:=by
 rw[zbv];simp only[wpS,kExt]
 cases x.ev tm<;>try rfl
 try (case tup cs=>dsimp only;cases cs[j]?<;>rfl)
def kLr2 (P:Program) [Tabs P] (C:Cx) (c:Option OB) (gen:Nat) (d:Option Nat) (r:List SO) (k:List IT) (objs:List OB) (tm:List AV) (F:za0):Prop :=
 match c with
 | some (.orow _ _ gen' n _)=>gen'=gen/\run P C (.ops r::k) objs (zau tm d (.i .i64 n)) F
 | _=>False
theorem kLr2_o (E sz gen' n gen:Nat) (xs:List AV):kLr2 P C (some (.orow E sz gen' n xs)) gen d r k objs tm F=(gen'=gen/\run P C (.ops r::k) objs (zau tm d (.i .i64 n)) F):=Eq.trans rfl rfl
def zmH (P:Program) [Tabs P] (C:Cx) (v:AV)  (d:Option Nat) (r:List SO) (k:List IT) (objs:List OB) (tm:List AV) (F:za0):Prop :=
 match v with
 | .row n xs=>run P C (.ops r::k) objs (zau tm d (.i .i64 n)) F
 | .nil=>run P C (.ops r::k) objs (zau tm d (.i .i64 0)) F
 | .orow b gen=>kLr2 P C objs[b]? gen d r k objs tm F
 | .zn z=>run P C (.ops r::k) objs (zau tm d (.i .i64 0)) F
 | _=>False
theorem zoM (n:Nat) (xs:List AV) :zmH P C (.row n xs)  d r k objs tm F=(run P C (.ops r::k) objs (zau tm d (.i .i64 n)) F):=Eq.trans rfl rfl
theorem zoL  :zmH P C (.nil)  d r k objs tm F=(run P C (.ops r::k) objs (zau tm d (.i .i64 0)) F):=Eq.trans rfl rfl
theorem zoK (b gen:Nat) :zmH P C (.orow b gen)  d r k objs tm F=(kLr2 P C objs[b]? gen d r k objs tm F):=Eq.trans rfl rfl
theorem zoJ (z:Bool) :zmH P C (.zn z)  d r k objs tm F=(run P C (.ops r::k) objs (zau tm d (.i .i64 0)) F):=Eq.trans rfl rfl
theorem znF (x:SV):run P C (.ops (⟨d,.lenr x,none⟩::r)::k) objs tm F=zmH P C (x.ev tm)  d r k objs tm F:=by
 rw[zbv];simp only[wpS,zmH]
 cases x.ev tm<;>try rfl
 try (case orow b gen=>
  dsimp only;generalize objs[b]? = q
  cases q with
  | none=>rfl
  | some ob=>cases ob<;>rfl)
def kBeq (P:Program) [Tabs P] (C:Cx) (ne:Bool) (x y:AV) (d:Option Nat) (r:List SO) (k:List IT) (objs:List OB) (tm:List AV) (F:za0):Prop :=
 match x,y with
 | .b l,.b m=>run P C (.ops r::k) objs (zau tm d (.b (if ne then !(l==m) else (l==m)))) F
 | _,_=>False
def kEq (P:Program) [Tabs P] (C:Cx) (ne:Bool) (x:Option Bool) (d:Option Nat) (r:List SO) (k:List IT) (objs:List OB) (tm:List AV) (F:za0):Prop :=
 match x with
 | some q=>run P C (.ops r::k) objs (zau tm d (.b (if ne then !q else q))) F
 | none=>False
def kEqs (P:Program) [Tabs P] (C:Cx) (ne:Bool) (e:ET) (x y:AV) (d:Option Nat) (r:List SO) (k:List IT) (objs:List OB) (tm:List AV) (F:za0):Prop :=
 match x,y with
 | .agg xs,.agg ys=>kEq P C ne (eqA e (.agg xs) (.agg ys)) d r k objs tm F
 | _,_=>False
theorem zji (l m:Bool):kBeq P C true (.b l) (.b m) d r k objs tm F=run P C (.ops r::k) objs (zau tm d (.b (!(l==m)))) F:=Eq.trans rfl rfl
theorem zlj (q:Bool):kEq P C true (some q) d r k objs tm F=run P C (.ops r::k) objs (zau tm d (.b (!q))) F:=Eq.trans rfl rfl
theorem zhs (l m:Bool):kBeq P C false (.b l) (.b m) d r k objs tm F=run P C (.ops r::k) objs (zau tm d (.b (l==m))) F:=Eq.trans rfl rfl
theorem zjh (q:Bool):kEq P C false (some q) d r k objs tm F=run P C (.ops r::k) objs (zau tm d (.b q)) F:=Eq.trans rfl rfl
theorem kEqs_a (ne:Bool) (e:ET) (xs ys:List AV):kEqs P C ne e (.agg xs) (.agg ys) d r k objs tm F=kEq P C ne (eqA e (.agg xs) (.agg ys)) d r k objs tm F:=Eq.trans rfl rfl
theorem rn_beq (ne:Bool) (x y:SV):run P C (.ops (⟨d,.beq ne x y,none⟩::r)::k) objs tm F=kBeq P C ne (x.ev tm) (y.ev tm) d r k objs tm F:=by
 rw[zbv];simp only[wpS,kBeq]
 cases x.ev tm<;>try rfl
 try (cases y.ev tm<;>rfl)
theorem rn_eqs (ne:Bool) (e:ET) (x y:SV):run P C (.ops (⟨d,.eqs ne e x y,none⟩::r)::k) objs tm F=kEqs P C ne e (x.ev tm) (y.ev tm) d r k objs tm F:=by
 rw[zbv];simp only[wpS,kEqs]
 cases x.ev tm<;>try rfl
 try (cases y.ev tm<;>try rfl)
 try (simp only[kEq];cases eqA e _ _<;>rfl)
def kIado (P:Program) [Tabs P] (C:Cx) (c:Option OB) (b gen:Nat) (i:Int) (sz:Nat) (d:Option Nat) (r:List SO) (k:List IT) (objs:List OB) (tm:List AV) (F:za0):Prop :=
 match c with
 | some (.orow _ s gen' n _)=>(gen'=gen/\s=sz/\0<=i/\i<n)/\run P C (.ops r::k) objs (zau tm d (.porow b gen (i.toNat*sz))) F
 | _=>False
theorem zoQ (E s gen' n:Nat) (xs:List AV) (b gen:Nat) (i:Int) (sz:Nat):kIado P C (some (.orow E s gen' n xs)) b gen i sz d r k objs tm F=((gen'=gen/\s=sz/\0<=i/\i<n)/\run P C (.ops r::k) objs (zau tm d (.porow b gen (i.toNat*sz))) F):=Eq.trans rfl rfl
def kIad (P:Program) [Tabs P] (C:Cx) (x y:AV) (sz:Nat) (d:Option Nat) (r:List SO) (k:List IT) (objs:List OB) (tm:List AV) (F:za0):Prop :=
 match x,y with
 | .row n xs,.i kk i=>(0<=i/\i<n/\n*sz<=xs.length)/\run P C (.ops r::k) objs (zau tm d (.prow xs (i.toNat*sz))) F
 | .orow b gen,.i kk i=>kIado P C objs[b]? b gen i sz d r k objs tm F
 | _,_=>False
theorem kIad_0 (n:Nat) (xs:List AV) (kk:IntKind) (i:Int) (sz:Nat):kIad P C (.row n xs) (.i kk i) sz d r k objs tm F=((0<=i/\i<n/\n*sz<=xs.length)/\run P C (.ops r::k) objs (zau tm d (.prow xs (i.toNat*sz))) F):=Eq.trans rfl rfl
theorem kIad_1 (b gen:Nat) (kk:IntKind) (i:Int) (sz:Nat):kIad P C (.orow b gen) (.i kk i) sz d r k objs tm F=(kIado P C objs[b]? b gen i sz d r k objs tm F):=Eq.trans rfl rfl
theorem rn_iad (sz:Nat) (x y:SV):run P C (.ops (⟨d,.iad sz x y,none⟩::r)::k) objs tm F=kIad P C (x.ev tm) (y.ev tm) sz d r k objs tm F:=by
 rw[zbv];simp only[wpS,kIad]
 cases x.ev tm<;>try rfl
 all_goals try (cases y.ev tm<;>try rfl)
 all_goals (
  dsimp only;rename_i b gen _ _;generalize objs[b]? = q
  cases q with
  | none=>rfl
  | some ob=>cases ob<;>rfl)
def kIadr (P:Program) [Tabs P] (C:Cx) (x y:AV) (sz:Nat) (d:Option Nat) (r:List SO) (k:List IT) (objs:List OB) (tm:List AV) (F:za0):Prop :=
 match x,y with
 | .row n xs,.i kk i=>(0<=i/\i<n/\n*sz<=xs.length)/\run P C (.ops r::k) objs (zau tm d (.prow xs (i.toNat*sz))) F
 | _,_=>False
theorem zoP (n:Nat) (xs:List AV) (kk:IntKind) (i:Int) (sz:Nat):kIadr P C (.row n xs) (.i kk i) sz d r k objs tm F=((0<=i/\i<n/\n*sz<=xs.length)/\run P C (.ops r::k) objs (zau tm d (.prow xs (i.toNat*sz))) F):=Eq.trans rfl rfl
theorem znG (sz:Nat) (x y:SV):run P C (.ops (⟨d,.iadr sz x y,none⟩::r)::k) objs tm F=kIadr P C (x.ev tm) (y.ev tm) sz d r k objs tm F:=by
 rw[zbv];simp only[wpS,kIadr]
 cases x.ev tm<;>try rfl
 try (cases y.ev tm<;>rfl)
def kIada (P:Program) [Tabs P] (C:Cx) (x y:AV) (sz len:Nat) (d:Option Nat) (r:List SO) (k:List IT) (objs:List OB) (tm:List AV) (F:za0):Prop :=
 match x,y with
 | .p b off,.i kk i=>(0<=i/\i<len)/\run P C (.ops r::k) objs (zau tm d (.p b (off+i.toNat*sz))) F
 | _,_=>False
theorem zoR (b off:Nat) (kk:IntKind) (i:Int) (sz len:Nat):kIada P C (.p b off) (.i kk i) sz len d r k objs tm F=((0<=i/\i<len)/\run P C (.ops r::k) objs (zau tm d (.p b (off+i.toNat*sz))) F):=Eq.trans rfl rfl
theorem znH (sz len:Nat) (x y:SV):run P C (.ops (⟨d,.iada sz len x y,none⟩::r)::k) objs tm F=kIada P C (x.ev tm) (y.ev tm) sz len d r k objs tm F:=by
 rw[zbv];simp only[wpS,kIada]
 cases x.ev tm<;>try rfl
 try (cases y.ev tm<;>rfl)
def kIdx (P:Program) [Tabs P] (C:Cx) (x y:AV)  (d:Option Nat) (r:List SO) (k:List IT) (objs:List OB) (tm:List AV) (F:za0):Prop :=
 match x,y with
 | .s l,.i kk i=>(0<=i/\i<l.length)/\run P C (.ops r::k) objs (zau tm d (.i .u8 ((l.getD i.toNat 0).toNat:Int))) F
 | _,_=>False
theorem kIdx_0 (l:List UInt8) (kk:IntKind) (i:Int) :kIdx P C (.s l) (.i kk i)  d r k objs tm F=((0<=i/\i<l.length)/\run P C (.ops r::k) objs (zau tm d (.i .u8 ((l.getD i.toNat 0).toNat:Int))) F):=Eq.trans rfl rfl
theorem rn_idx (x y:SV):run P C (.ops (⟨d,.idx x y,none⟩::r)::k) objs tm F=kIdx P C (x.ev tm) (y.ev tm)  d r k objs tm F:=by
 rw[zbv];simp only[wpS,kIdx]
 cases x.ev tm<;>try rfl
 try (cases y.ev tm<;>rfl)
def kTrno (P:Program) [Tabs P] (C:Cx) (c:Option OB) (b gen:Nat) (i:Int) (sz:Nat) (d:Option Nat) (r:List SO) (k:List IT) (objs:List OB) (tm:List AV) (F:za0):Prop :=
 match c with
 | some (.orow E s gen' n xs)=>(gen'=gen/\s=sz/\0<=i/\i<=n)/\run P C (.ops r::k) (objs.set b (.orow E s (gen+1) i.toNat (xs.take (i.toNat*s)))) (zau tm d (.orow b (gen+1))) F
 | _=>False
theorem zoC (E s gen' n:Nat) (xs:List AV) (b gen:Nat) (i:Int) (sz:Nat):kTrno P C (some (.orow E s gen' n xs)) b gen i sz d r k objs tm F=((gen'=gen/\s=sz/\0<=i/\i<=n)/\run P C (.ops r::k) (objs.set b (.orow E s (gen+1) i.toNat (xs.take (i.toNat*s)))) (zau tm d (.orow b (gen+1))) F):=Eq.trans rfl rfl
def kTrn (P:Program) [Tabs P] (C:Cx) (x y:AV) (sz:Nat) (d:Option Nat) (r:List SO) (k:List IT) (objs:List OB) (tm:List AV) (F:za0):Prop :=
 match x,y with
 | .row n xs,.i kk i=>(0<=i/\i<=n)/\run P C (.ops r::k) objs (zau tm d (.row i.toNat (xs.take (i.toNat*sz)))) F
 | .nil,.i kk i=>i=0/\run P C (.ops r::k) objs (zau tm d .nil) F
 | .orow b gen,.i kk i=>kTrno P C objs[b]? b gen i sz d r k objs tm F
 | _,_=>False
theorem kTrn_0 (n:Nat) (xs:List AV) (kk:IntKind) (i:Int) (sz:Nat):kTrn P C (.row n xs) (.i kk i) sz d r k objs tm F=((0<=i/\i<=n)/\run P C (.ops r::k) objs (zau tm d (.row i.toNat (xs.take (i.toNat*sz)))) F):=Eq.trans rfl rfl
theorem kTrn_1 (kk:IntKind) (i:Int) (sz:Nat):kTrn P C (.nil) (.i kk i) sz d r k objs tm F=(i=0/\run P C (.ops r::k) objs (zau tm d .nil) F):=Eq.trans rfl rfl
theorem kTrn_2 (b gen:Nat) (kk:IntKind) (i:Int) (sz:Nat):kTrn P C (.orow b gen) (.i kk i) sz d r k objs tm F=(kTrno P C objs[b]? b gen i sz d r k objs tm F):=Eq.trans rfl rfl
theorem rn_trn (sz:Nat) (x y:SV):run P C (.ops (⟨d,.trn sz x y,none⟩::r)::k) objs tm F=kTrn P C (x.ev tm) (y.ev tm) sz d r k objs tm F:=by
 rw[zbv];simp only[wpS,kTrn]
 cases x.ev tm<;>try rfl
 all_goals try (cases y.ev tm<;>try rfl)
 all_goals (
  dsimp only;rename_i b gen _ _;generalize objs[b]? = q
  cases q with
  | none=>rfl
  | some ob=>cases ob<;>rfl)
def kMks (P:Program) [Tabs P] (C:Cx) (x y:AV) (E sz by':Nat) (d:Option Nat) (r:List SO) (k:List IT) (objs:List OB) (tm:List AV) (F:za0):Prop :=
 match x,y with
 | .i k1 l,.i k2 c=>(l=0/\0<=c/\(by':Int)*c<=281474976710656/\c<=140737488351232+4096)/\run P C (.ops r::k) (objs++[.orow E sz 0 0 []]) (zau tm d (.orow objs.length 0)) F
 | _,_=>False
theorem kMks_0 (k1:IntKind) (l:Int) (k2:IntKind) (c:Int) (E sz by':Nat):kMks P C (.i k1 l) (.i k2 c) E sz by' d r k objs tm F=((l=0/\0<=c/\(by':Int)*c<=281474976710656/\c<=140737488351232+4096)/\run P C (.ops r::k) (objs++[.orow E sz 0 0 []]) (zau tm d (.orow objs.length 0)) F):=Eq.trans rfl rfl
theorem rn_mks (E sz by':Nat) (x y:SV):run P C (.ops (⟨d,.mks E sz by' x y,none⟩::r)::k) objs tm F=kMks P C (x.ev tm) (y.ev tm) E sz by' d r k objs tm F:=by
 rw[zbv];simp only[wpS,kMks,show (140737488351232+4096:Int)=140737488355328 from rfl]
 cases x.ev tm<;>try rfl
 try (cases y.ev tm<;>rfl)
def kMkz (P:Program) [Tabs P] (C:Cx) (x:AV) (E by':Nat) (kd:IntKind) (z:Int) (d:Option Nat) (r:List SO) (k:List IT) (objs:List OB) (tm:List AV) (F:za0):Prop :=
 match x with
 | .i _ l=>(0<=l/\(by':Int)*l<=281474976710656/\l<=140737488355328)/\run P C (.ops r::k) (objs++[.orow E 1 0 l.toNat (qj l.toNat (.i kd z))]) (zau tm d (.orow objs.length 0)) F
 | _=>False
theorem kMkz_i (q:IntKind) (l:Int) (E by':Nat) (kd:IntKind) (z:Int):kMkz P C (.i q l) E by' kd z d r k objs tm F=((0<=l/\(by':Int)*l<=281474976710656/\l<=140737488355328)/\run P C (.ops r::k) (objs++[.orow E 1 0 l.toNat (qj l.toNat (.i kd z))]) (zau tm d (.orow objs.length 0)) F):=Eq.trans rfl rfl
theorem rn_mkz (E by':Nat) (kd:IntKind) (z:Int) (x:SV):run P C (.ops (⟨d,.mkz E by' kd z x,none⟩::r)::k) objs tm F=kMkz P C (x.ev tm) E by' kd z d r k objs tm F:=by
 rw[zbv];simp only[wpS,kMkz]
 cases x.ev tm<;>rfl
def kCap (P:Program) [Tabs P] (C:Cx) (v:AV) (s:Option (Nat×List AV)) (sz by':Nat) (d:Option Nat) (r:List SO) (k:List IT) (objs:List OB) (tm:List AV) (F:za0):Prop :=
 match v,s with
 | .crow n xs,some (m,ys)=>((xs.length=n*sz/\ys.length=m*sz)/\0<m/\(n+m)*by'<=140737488355328/\n+m<=140737488355328)/\run P C (.ops r::k) objs (zau tm d (.row (n+m) (xs++ys))) F
 | _,_=>False
theorem kCap_c (n m:Nat) (xs ys:List AV) (sz by':Nat):kCap P C (.crow n xs) (some (m,ys)) sz by' d r k objs tm F=(((xs.length=n*sz/\ys.length=m*sz)/\0<m/\(n+m)*by'<=140737488355328/\n+m<=140737488355328)/\run P C (.ops r::k) objs (zau tm d (.row (n+m) (xs++ys))) F):=Eq.trans rfl rfl
theorem znN (sz by':Nat) (x y:SV):run P C (.ops (⟨d,.capp sz by' x y,none⟩::r)::k) objs tm F=kCap P C (x.ev tm) (zdl [] (y.ev tm)) sz by' d r k objs tm F:=by
 rw[zbv];simp only[wpS,kCap]
 cases x.ev tm<;>rfl
def zj8 (P:Program) [Tabs P] (C:Cx) (op:BinOp) (x y:AV) (d:Option Nat) (r:List SO) (k:List IT) (objs:List OB) (tm:List AV) (F:za0):Prop:=binK op x y fun v=>run P C (.ops r::k) objs (zau tm d v) F
theorem rn_bin (q:BinOp) (x y:SV):run P C (.ops (⟨d,.bin q x y,none⟩::r)::k) objs tm F=zj8 P C q (x.ev tm) (y.ev tm) d r k objs tm F:=Eq.trans rfl rfl
theorem zlx (q:IntKind) (m n:Int):zj8 P C .add (.i q m) (.i q n) d r k objs tm F=kAr P C q (m+n) d r k objs tm F:=propext ⟨fun h=>h.2,fun h=>⟨rfl,h⟩⟩
theorem zlk (q:IntKind) (m n:Int):zj8 P C .sub (.i q m) (.i q n) d r k objs tm F=kAr P C q (m - n) d r k objs tm F:=propext ⟨fun h=>h.2,fun h=>⟨rfl,h⟩⟩
theorem zlq (q:IntKind) (m n:Int):zj8 P C .mul (.i q m) (.i q n) d r k objs tm F=kAr P C q (m*n) d r k objs tm F:=propext ⟨fun h=>h.2,fun h=>⟨rfl,h⟩⟩
theorem zlo (q:IntKind) (m n:Int):zj8 P C .quo (.i q m) (.i q n) d r k objs tm F=(n≠0/\kAr P C q (m.tdiv n) d r k objs tm F):=propext ⟨fun h=>h.2,fun h=>⟨rfl,h⟩⟩
theorem zln (q:IntKind) (m n:Int):zj8 P C .rem (.i q m) (.i q n) d r k objs tm F=(n≠0/\run P C (.ops r::k) objs (zau tm d (.i q (m.tmod n))) F):=propext ⟨fun h=>h.2,fun h=>⟨rfl,h⟩⟩
theorem zlv (q:IntKind) (m n:Int):zj8 P C .eql (.i q m) (.i q n) d r k objs tm F=run P C (.ops r::k) objs (zau tm d (.b (decide (m=n)))) F:=propext ⟨fun h=>h.2,fun h=>⟨rfl,h⟩⟩
theorem zlp (q:IntKind) (m n:Int):zj8 P C .neq (.i q m) (.i q n) d r k objs tm F=run P C (.ops r::k) objs (zau tm d (.b (decide (¬m=n)))) F:=propext ⟨fun h=>h.2,fun h=>⟨rfl,h⟩⟩
theorem zlr (q:IntKind) (m n:Int):zj8 P C .lss (.i q m) (.i q n) d r k objs tm F=run P C (.ops r::k) objs (zau tm d (.b (decide (m<n)))) F:=propext ⟨fun h=>h.2,fun h=>⟨rfl,h⟩⟩
theorem zls (q:IntKind) (m n:Int):zj8 P C .leq (.i q m) (.i q n) d r k objs tm F=run P C (.ops r::k) objs (zau tm d (.b (decide (m<=n)))) F:=propext ⟨fun h=>h.2,fun h=>⟨rfl,h⟩⟩
theorem zlt (q:IntKind) (m n:Int):zj8 P C .gtr (.i q m) (.i q n) d r k objs tm F=run P C (.ops r::k) objs (zau tm d (.b (decide (n<m)))) F:=propext ⟨fun h=>h.2,fun h=>⟨rfl,h⟩⟩
theorem zlu (q:IntKind) (m n:Int):zj8 P C .geq (.i q m) (.i q n) d r k objs tm F=run P C (.ops r::k) objs (zau tm d (.b (decide (n<=m)))) F:=propext ⟨fun h=>h.2,fun h=>⟨rfl,h⟩⟩
theorem zlw (l m:List UInt8):zj8 P C .add (.s l) (.s m) d r k objs tm F=(l.length+m.length<=9223372036854775807/\run P C (.ops r::k) objs (zau tm d (.s (l++m))) F):=Eq.trans rfl rfl
theorem zlm (l m:List UInt8):zj8 P C .eql (.s l) (.s m) d r k objs tm F=run P C (.ops r::k) objs (zau tm d (.b (decide (l=m)))) F:=Eq.trans rfl rfl
theorem zll (l m:List UInt8):zj8 P C .neq (.s l) (.s m) d r k objs tm F=run P C (.ops r::k) objs (zau tm d (.b (decide (¬l=m)))) F:=Eq.trans rfl rfl
def kSl2 (P:Program) [Tabs P] (C:Cx) (l:List UInt8) (i j:Option Int) (d:Option Nat) (r:List SO) (k:List IT) (objs:List OB) (tm:List AV) (F:za0):Prop :=
 match i,j with
 | some i,some j=>(0<=i/\i<=j/\j<=l.length)/\run P C (.ops r::k) objs (zau tm d (.s ((l.take j.toNat).drop i.toNat))) F
 | _,_=>False
def kSl (P:Program) [Tabs P] (C:Cx) (v:AV) (lo hi:Option SV) (d:Option Nat) (r:List SO) (k:List IT) (objs:List OB) (tm:List AV) (F:za0):Prop :=
 match v with
 | .s l=>kSl2 P C l (zjK tm 0 lo) (zjK tm l.length hi) d r k objs tm F
 | _=>False
def svi:AV->Option Int
 | .i _ n=>some n
 | _=>none
theorem svi_i (q:IntKind) (n:Int):svi (.i q n)=some n:=Eq.trans rfl rfl
theorem ziI (z:Int):zjK tm z none=some z:=Eq.trans rfl rfl
theorem ziH (z:Int) (x:SV):zjK tm z (some x)=svi (x.ev tm):=by
 simp only[zjK];cases x.ev tm<;>rfl
theorem kSl2_s (l:List UInt8) (i j:Int):kSl2 P C l (some i) (some j) d r k objs tm F=((0<=i/\i<=j/\j<=l.length)/\run P C (.ops r::k) objs (zau tm d (.s ((l.take j.toNat).drop i.toNat))) F):=Eq.trans rfl rfl
theorem kSl_s (l:List UInt8) (lo hi:Option SV):kSl P C (.s l) lo hi d r k objs tm F=kSl2 P C l (zjK tm 0 lo) (zjK tm l.length hi) d r k objs tm F:=Eq.trans rfl rfl
theorem znz (x:SV) (lo hi:Option SV):run P C (.ops (⟨d,.slcs x lo hi,none⟩::r)::k) objs tm F=kSl P C (x.ev tm) lo hi d r k objs tm F:=by
 rw[zbv];simp only[wpS,kSl]
 cases x.ev tm<;>try rfl
 try (case s l=>dsimp only [kSl2];cases zjK tm 0 lo<;>cases zjK tm l.length hi<;>rfl)
def kAp3 (P:Program) [Tabs P] (C:Cx) (c:Option OB) (b gen E sz by' m:Nat) (ys:List AV) (d:Option Nat) (r:List SO) (k:List IT) (objs:List OB) (tm:List AV) (F:za0):Prop :=
 match c with
 | some (.orow E' sz' gen' n xs)=>((E'=E/\sz'=sz/\gen'=gen)/\ys.length=m*sz/\(n+m)*by'<=140737488355328/\n+m<=140737488355328)/\run P C (.ops r::k) (objs.set b (.orow E sz (gen+1) (n+m) (xs++ys))) (zau tm d (.orow b (gen+1))) F
 | _=>False
def kAp2 (P:Program) [Tabs P] (C:Cx) (v:AV) (E sz by' m:Nat) (ys:List AV) (d:Option Nat) (r:List SO) (k:List IT) (objs:List OB) (tm:List AV) (F:za0):Prop :=
 match v with
 | .orow b gen=>kAp3 P C objs[b]? b gen E sz by' m ys d r k objs tm F
 | .nil=>(ys.length=m*sz/\m*by'<=140737488355328/\m<=140737488355328)/\run P C (.ops r::k) (objs++[.orow E sz 0 m ys]) (zau tm d (.orow objs.length 0)) F
 | _=>False
def kAp (P:Program) [Tabs P] (C:Cx) (v:AV) (s:Option (Nat×List AV)) (E sz by':Nat) (d:Option Nat) (r:List SO) (k:List IT) (objs:List OB) (tm:List AV) (F:za0):Prop :=
 match s with
 | some (m,ys)=>kAp2 P C v E sz by' m ys d r k objs tm F
 | none=>False
def kAs2 (P:Program) [Tabs P] (C:Cx) (c:Option OB) (b gen E:Nat) (l:List UInt8) (d:Option Nat) (r:List SO) (k:List IT) (objs:List OB) (tm:List AV) (F:za0):Prop :=
 match c with
 | some (.orow E' sz' gen' n xs)=>((E'=E/\sz'=1/\gen'=gen)/\n+l.length<=140737488355328)/\run P C (.ops r::k) (objs.set b (.orow E 1 (gen+1) (n+l.length) (xs++byA l))) (zau tm d (.orow b (gen+1))) F
 | _=>False
def kAs (P:Program) [Tabs P] (C:Cx) (v y:AV) (E:Nat) (d:Option Nat) (r:List SO) (k:List IT) (objs:List OB) (tm:List AV) (F:za0):Prop :=
 match y with
 | .s l=>match v with
  | .orow b gen=>kAs2 P C objs[b]? b gen E l d r k objs tm F
  | .nil=>l.length<=140737488355328/\run P C (.ops r::k) (objs++[.orow E 1 0 l.length (byA l)]) (zau tm d (.orow objs.length 0)) F
  | _=>False
 | _=>False
theorem kAp_s (v:AV) (m:Nat) (ys:List AV) (E sz by':Nat):kAp P C v (some (m,ys)) E sz by' d r k objs tm F=kAp2 P C v E sz by' m ys d r k objs tm F:=Eq.trans rfl rfl
theorem kAp2_o (b gen E sz by' m:Nat) (ys:List AV):kAp2 P C (.orow b gen) E sz by' m ys d r k objs tm F=kAp3 P C objs[b]? b gen E sz by' m ys d r k objs tm F:=Eq.trans rfl rfl
theorem kAp2_n (E sz by' m:Nat) (ys:List AV):kAp2 P C .nil E sz by' m ys d r k objs tm F=((ys.length=m*sz/\m*by'<=140737488355328/\m<=140737488355328)/\run P C (.ops r::k) (objs++[.orow E sz 0 m ys]) (zau tm d (.orow objs.length 0)) F):=Eq.trans rfl rfl
theorem kAp3_o (b gen E sz by' m n:Nat) (ys xs:List AV):kAp3 P C (some (.orow E sz gen n xs)) b gen E sz by' m ys d r k objs tm F=((ys.length=m*sz/\(n+m)*by'<=140737488355328/\n+m<=140737488355328)/\run P C (.ops r::k) (objs.set b (.orow E sz (gen+1) (n+m) (xs++ys))) (zau tm d (.orow b (gen+1))) F):=propext ⟨fun h=>⟨h.1.2,h.2⟩,fun h=>⟨⟨⟨rfl,rfl,rfl⟩,h.1⟩,h.2⟩⟩
theorem kAs_o (b gen E:Nat) (l:List UInt8):kAs P C (.orow b gen) (.s l) E d r k objs tm F=kAs2 P C objs[b]? b gen E l d r k objs tm F:=Eq.trans rfl rfl
theorem kAs_n (E:Nat) (l:List UInt8):kAs P C .nil (.s l) E d r k objs tm F=(l.length<=140737488355328/\run P C (.ops r::k) (objs++[.orow E 1 0 l.length (byA l)]) (zau tm d (.orow objs.length 0)) F):=Eq.trans rfl rfl
theorem kAs2_o (b gen E n:Nat) (l:List UInt8) (xs:List AV):kAs2 P C (some (.orow E 1 gen n xs)) b gen E l d r k objs tm F=(n+l.length<=140737488355328/\run P C (.ops r::k) (objs.set b (.orow E 1 (gen+1) (n+l.length) (xs++byA l))) (zau tm d (.orow b (gen+1))) F):=propext ⟨fun h=>⟨h.1.2,h.2⟩,fun h=>⟨⟨⟨rfl,rfl,rfl⟩,h.1⟩,h.2⟩⟩
theorem rn_app (E sz by':Nat) (x y:SV):run P C (.ops (⟨d,.app E sz by' x y,none⟩::r)::k) objs tm F=kAp P C (x.ev tm) (zdl objs (y.ev tm)) E sz by' d r k objs tm F:=by
 rw[zbv];simp only[wpS,kAp]
 cases hs:zdl objs (y.ev tm) with
 | none=>rfl
 | some p=>
  obtain⟨m,ys⟩:=p;simp only[kAp2]
  cases x.ev tm<;>try rfl
  try (case orow b gen=>
   dsimp only [kAp3];generalize objs[b]? = q
   cases q with
   | none=>rfl
   | some ob=>cases ob<;>rfl)
theorem znQ (E:Nat) (x y:SV):run P C (.ops (⟨d,.apps E x y,none⟩::r)::k) objs tm F=kAs P C (x.ev tm) (y.ev tm) E d r k objs tm F:=by
 rw[zbv];simp only[wpS,kAs]
 cases y.ev tm<;>try rfl
 try (case s l=>
  cases x.ev tm<;>try rfl
  try (case orow b gen=>
   dsimp only [kAs2];generalize objs[b]? = q
   cases q with
   | none=>rfl
   | some ob=>cases ob<;>rfl))
def kCb2 (P:Program) [Tabs P] (C:Cx) (c:Option OB) (gen:Nat) (d:Option Nat) (r:List SO) (k:List IT) (objs:List OB) (tm:List AV) (F:za0):Prop :=
 match c with
 | some (.orow _ sz gen' _ xs)=>(gen'=gen/\sz=1)/\∃l,xs=byA l/\run P C (.ops r::k) objs (zau tm d (.s l)) F
 | _=>False
def kCb3 (P:Program) [Tabs P] (C:Cx) (c:Option OB) (off n:Nat) (d:Option Nat) (r:List SO) (k:List IT) (objs:List OB) (tm:List AV) (F:za0):Prop :=
 match c with
 | some (.box _ cs)=>∃l,((cs.drop off).take n=byA l/\l.length=n)/\run P C (.ops r::k) objs (zau tm d (.s l)) F
 | _=>False
def kCb (P:Program) [Tabs P] (C:Cx) (v:AV) (d:Option Nat) (r:List SO) (k:List IT) (objs:List OB) (tm:List AV) (F:za0):Prop :=
 match v with
 | .orow b gen=>kCb2 P C objs[b]? gen d r k objs tm F
 | .row n xs=>∃l,(xs=byA l/\n=l.length)/\run P C (.ops r::k) objs (zau tm d (.s l)) F
 | .nil=>run P C (.ops r::k) objs (zau tm d (.s [])) F
 | .bsl b off n=>kCb3 P C objs[b]? off n d r k objs tm F
 | _=>False
theorem kCb_o (b gen:Nat):kCb P C (.orow b gen) d r k objs tm F=kCb2 P C objs[b]? gen d r k objs tm F:=Eq.trans rfl rfl
theorem kCb_n :kCb P C .nil d r k objs tm F=run P C (.ops r::k) objs (zau tm d (.s [])) F:=Eq.trans rfl rfl
theorem kCb_b (b off n:Nat):kCb P C (.bsl b off n) d r k objs tm F=kCb3 P C objs[b]? off n d r k objs tm F:=Eq.trans rfl rfl
theorem znM (x:SV):run P C (.ops (⟨d,.cvbs x,none⟩::r)::k) objs tm F=kCb P C (x.ev tm) d r k objs tm F:=by
 rw[zbv];simp only[wpS,kCb]
 cases x.ev tm<;>try rfl
 try (case orow b gen=>
  dsimp only;generalize objs[b]? = q
  cases q with
  | none=>rfl
  | some ob=>cases ob<;>rfl)
 try (case bsl b off n=>
  dsimp only;generalize objs[b]? = q
  cases q with
  | none=>rfl
  | some ob=>cases ob<;>rfl)
theorem rn_mkf (f:Nat) (fs cs:List SV):run P C (.ops (⟨d,.mkf f fs cs,none⟩::r)::k) objs tm F=run P C (.ops r::k) objs (zau tm d (.fn f (evs tm fs) (evs tm cs))) F:=by rw[zfx,zfx];rfl
theorem kO_if (c:Prop) [Decidable c] (v:AV):kO P C (if c then some v else none) d r k objs tm F=(c/\run P C (.ops r::k) objs (zau tm d v) F):=by
 by_cases h:c
 ·simp[h,kO]
 ·simp[h,kO]
theorem pq_and (q:IntKind) (a b:Int):pq (.bits .and) [.i q a,.i q b]=some (.i q (q.wrap (BitVec.ofInt q.bits a &&& BitVec.ofInt q.bits b).toNat)):=by simp[pq,zmV]
theorem pq_or (q:IntKind) (a b:Int):pq (.bits .or) [.i q a,.i q b]=some (.i q (q.wrap (BitVec.ofInt q.bits a ||| BitVec.ofInt q.bits b).toNat)):=by simp[pq,zmV]
theorem pq_xor (q:IntKind) (a b:Int):pq (.bits .xor) [.i q a,.i q b]=some (.i q (q.wrap (BitVec.ofInt q.bits a ^^^ BitVec.ofInt q.bits b).toNat)):=by simp[pq,zmV]
theorem pq_shl (q q':IntKind) (a b:Int):pq .shl [.i q a,.i q' b]=if 0<=b then some (.i q (q.wrap (a*2 ^ (min b.toNat q.bits)))) else none:=Eq.trans rfl rfl
theorem pq_shr (q q':IntKind) (a b:Int):pq .shr [.i q a,.i q' b]=if 0<=b then some (.i q (a.fdiv (2 ^ (min b.toNat q.bits)))) else none:=Eq.trans rfl rfl
theorem pq_mn (q:IntKind) (a b:Int):pq .mn [.i q a,.i q b]=some (.i q (if b<a then b else a)):=by simp[pq]
theorem pq_mx (q:IntKind) (a b:Int):pq .mx [.i q a,.i q b]=some (.i q (if a<b then b else a)):=by simp[pq]
theorem pq_rsl (sz n:Nat) (xs:List AV) (q:IntKind) (a:Int):pq (.rsl sz) [.row n xs,.i q a]=if 0<=a/\a<=n then some (.row (n - a.toNat) ((xs.take (n*sz)).drop (a.toNat*sz))) else none:=Eq.trans rfl rfl
theorem zn5 (sz:Nat) (q:IntKind) (a:Int):pq (.rsl sz) [.nil,.i q a]=if a=0 then some .nil else none:=Eq.trans rfl rfl
theorem zn6 (sz n:Nat) (xs:List AV) (q:IntKind) (a:Int):pq (.rslh sz) [.row n xs,.i q a]=if 0<=a/\a<=n then some (.row a.toNat (xs.take (a.toNat*sz))) else none:=Eq.trans rfl rfl
theorem zk2 (sz:Nat) (q:IntKind) (a:Int):pq (.rslh sz) [.nil,.i q a]=if a=0 then some .nil else none:=Eq.trans rfl rfl
theorem zn7 (sz n:Nat) (xs:List AV) (q q':IntKind) (a b:Int):pq (.rslb sz) [.row n xs,.i q a,.i q' b]=if 0<=a/\a<=b/\b<=n then some (.row (b.toNat - a.toNat) ((xs.take (b.toNat*sz)).drop (a.toNat*sz))) else none:=Eq.trans rfl rfl
theorem pq_asl (sz len b off:Nat) (q:IntKind) (a:Int):pq (.asl sz len) [.p b off,.i q a]=if 0<=a/\a<len then some (.bsl b (off+a.toNat*sz) (len - a.toNat)) else none:=Eq.trans rfl rfl
theorem zn8 (sz len b off:Nat) (q:IntKind) (a:Int):pq (.aslh sz len) [.p b off,.i q a]=if 0<=a/\a<=len/\0<len then some (.bsl b off a.toNat) else none:=Eq.trans rfl rfl
theorem zn9 (sz len b off:Nat) (q q':IntKind) (a c:Int):pq (.aslb sz len) [.p b off,.i q a,.i q' c]=if 0<=a/\a<=c/\c<=len/\a<len then some (.bsl b (off+a.toNat*sz) (c.toNat - a.toNat)) else none:=Eq.trans rfl rfl
theorem pq_snn (ne:Bool):pq (.snil ne) [.nil,.nil]=some (.b (!ne)):=Eq.trans rfl rfl
theorem pq_snz (ne b:Bool):pq (.snil ne) [.zn b,.nil]=some (.b (if ne then !b else b)):=Eq.trans rfl rfl
theorem pq_snr (ne:Bool) (n:Nat) (x:AV) (xs:List AV):pq (.snil ne) [.row n (x::xs),.nil]=some (.b ne):=Eq.trans rfl rfl
theorem pq_sl3 (n:Nat) (xs:List AV) (q q':IntKind):pq .sl3 [.row n xs,.i q n,.i q' n]=some (.crow n xs):=by simp[pq]
theorem zn4 (q q':IntKind):pq .sl3 [.nil,.i q 0,.i q' 0]=some (.crow 0 []):=by simp[pq]
theorem pq_lss (l m:List UInt8):pq (.scmp .lss) [.s l,.s m]=some (.b (zhS l m)):=Eq.trans rfl rfl
theorem pq_leq (l m:List UInt8):pq (.scmp .leq) [.s l,.s m]=some (.b (zhS l m||l==m)):=Eq.trans rfl rfl
theorem pq_gtr (l m:List UInt8):pq (.scmp .gtr) [.s l,.s m]=some (.b (!zhS l m&&!(l==m))):=Eq.trans rfl rfl
theorem pq_geq (l m:List UInt8):pq (.scmp .geq) [.s l,.s m]=some (.b (!zhS l m)):=Eq.trans rfl rfl
theorem rn_pu (q:PQ) (xs:List SV):run P C (.ops (⟨d,.pu q xs,none⟩::r)::k) objs tm F=kO P C (pq q (evs tm xs)) d r k objs tm F:=by
 rw[zfx];rw[zbv];simp only[wpS]
 cases pq q (xs.map fun x=>x.ev tm)<;>rfl
def kLk2 (P:Program) [Tabs P] (C:Cx) (c:Option OB) (z:AV) (ok:Bool) (l:List UInt8) (d:Option Nat) (r:List SO) (k:List IT) (objs:List OB) (tm:List AV) (F:za0):Prop :=
 match c with
 | some (.mp es)=>run P C (.ops r::k) objs (zau tm d (lkA z ok (zm0 l es))) F
 | _=>False
def kMup2 (P:Program) [Tabs P] (C:Cx) (c:Option OB) (b:Nat) (l:List UInt8) (v:AV) (d:Option Nat) (r:List SO) (k:List IT) (objs:List OB) (tm:List AV) (F:za0):Prop :=
 match c with
 | some (.mp es)=>v.one=true/\run P C (.ops r::k) (objs.set b (.mp (zle l v es))) (zau tm d .u) F
 | _=>False
theorem kLk2_m (es:List (List UInt8×AV)) (z:AV) (ok:Bool) (l:List UInt8):kLk2 P C (some (.mp es)) z ok l d r k objs tm F=run P C (.ops r::k) objs (zau tm d (lkA z ok (zm0 l es))) F:=Eq.trans rfl rfl
theorem zoH (es:List (List UInt8×AV)) (b:Nat) (l:List UInt8) (v:AV):kMup2 P C (some (.mp es)) b l v d r k objs tm F=(v.one=true/\run P C (.ops r::k) (objs.set b (.mp (zle l v es))) (zau tm d .u) F):=Eq.trans rfl rfl
def kLk (P:Program) [Tabs P] (C:Cx) (x y:AV) (z:AV) (ok:Bool) (d:Option Nat) (r:List SO) (k:List IT) (objs:List OB) (tm:List AV) (F:za0):Prop :=
 match x,y with
 | .m b,.s l=>kLk2 P C objs[b]? z ok l d r k objs tm F
 | _,_=>False
theorem kLk_0 (b:Nat) (l:List UInt8) (z:AV) (ok:Bool):kLk P C (.m b) (.s l) z ok d r k objs tm F=(kLk2 P C objs[b]? z ok l d r k objs tm F):=Eq.trans rfl rfl
theorem rn_lk (z:AV) (ok:Bool) (x y:SV):run P C (.ops (⟨d,.lk z ok x y,none⟩::r)::k) objs tm F=kLk P C (x.ev tm) (y.ev tm) z ok d r k objs tm F:=by
 rw[zbv];simp only[wpS,kLk]
 cases x.ev tm<;>try rfl
 all_goals try (cases y.ev tm<;>try rfl)
 all_goals (
  dsimp only;rename_i b l;generalize objs[b]? = q
  cases q with
  | none=>rfl
  | some ob=>cases ob<;>rfl)
def kMup (P:Program) [Tabs P] (C:Cx) (x y:AV) (v:AV) (d:Option Nat) (r:List SO) (k:List IT) (objs:List OB) (tm:List AV) (F:za0):Prop :=
 match x,y with
 | .m b,.s l=>kMup2 P C objs[b]? b l v d r k objs tm F
 | _,_=>False
theorem kMup_0 (b:Nat) (l:List UInt8) (v:AV):kMup P C (.m b) (.s l) v d r k objs tm F=(kMup2 P C objs[b]? b l v d r k objs tm F):=Eq.trans rfl rfl
theorem rn_mup (x y v:SV):run P C (.ops (⟨d,.mup x y v,none⟩::r)::k) objs tm F=kMup P C (x.ev tm) (y.ev tm) (v.ev tm) d r k objs tm F:=by
 rw[zbv];simp only[wpS,kMup]
 cases x.ev tm<;>try rfl
 all_goals try (cases y.ev tm<;>try rfl)
 all_goals (
  dsimp only;rename_i b l;generalize objs[b]? = q
  cases q with
  | none=>rfl
  | some ob=>cases ob<;>rfl)
theorem lkA_tt (z v:AV):lkA z true (some v)=.tup [v,.b true]:=Eq.trans rfl rfl
theorem lkA_tf (z v:AV):lkA z false (some v)=v:=Eq.trans rfl rfl
theorem lkA_nt (z:AV):lkA z true none=.tup [z,.b false]:=Eq.trans rfl rfl
theorem lkA_nf (z:AV):lkA z false none=z:=Eq.trans rfl rfl
theorem znD :run P C (.ops (⟨d,.mkm0,none⟩::r)::k) objs tm F=run P C (.ops r::k) (objs++[.mp []]) (zau tm d (.m objs.length)) F:=by
 rw[zbv]
 rfl
def kMkm (P:Program) [Tabs P] (C:Cx) (x:AV) (d:Option Nat) (r:List SO) (k:List IT) (objs:List OB) (tm:List AV) (F:za0):Prop :=
 match x with
 | .i _ _=>run P C (.ops r::k) (objs++[.mp []]) (zau tm d (.m objs.length)) F
 | _=>False
theorem kMkm_i (q:IntKind) (n:Int):kMkm P C (.i q n) d r k objs tm F=run P C (.ops r::k) (objs++[.mp []]) (zau tm d (.m objs.length)) F:=Eq.trans rfl rfl
theorem znC (x:SV):run P C (.ops (⟨d,.mkm1 x,none⟩::r)::k) objs tm F=kMkm P C (x.ev tm) d r k objs tm F:=by
 rw[zbv];simp only[wpS,kMkm]
 cases x.ev tm<;>rfl
def kG (P:Program) [Tabs P] (C:Cx) (v:AV) (op:SOp) (t:Nat) (w:Bool) (d:Option Nat) (r:List SO) (k:List IT) (objs:List OB) (tm:List AV) (F:za0):Prop :=
 match v with
 | .b x=>(x=w->run P C (.ops (⟨d,op,none⟩::r)::k) objs (tm.set t (.b w)) F)/\(x=!w->run P C (.ops r::k) objs (zau (tm.set t (.b (!w))) d (.o undef)) F)
 | .o (.tuple _)=>run P C (.ops r::k) objs (zau tm d (.o undef)) F
 | _=>False
def kGD (P:Program) [Tabs P] (C:Cx) (v:AV) (op:SOp) (t:Nat) (w:Bool) (d:Option Nat) (r:List SO) (k:List IT) (objs:List OB) (tm:List AV) (F:za0):Prop :=
 match v with
 | .b x=>(x=w->run P C (.dops (⟨d,op,none⟩::r)::k) objs (tm.set t (.b w)) F)/\(x=!w->run P C (.dops r::k) objs (zau (tm.set t (.b (!w))) d (.o undef)) F)
 | .o (.tuple _)=>run P C (.dops r::k) objs (zau tm d (.o undef)) F
 | _=>False
theorem kG_tt (op:SOp) (t:Nat):kG P C (.b true) op t true d r k objs tm F=run P C (.ops (⟨d,op,none⟩::r)::k) objs (tm.set t (.b true)) F:=propext ⟨fun h=>h.1 rfl,fun h=>⟨fun _=>h,fun e=>absurd e (by decide)⟩⟩
theorem kG_tf (op:SOp) (t:Nat):kG P C (.b true) op t false d r k objs tm F=run P C (.ops r::k) objs (zau (tm.set t (.b true)) d (.o undef)) F:=propext ⟨fun h=>h.2 rfl,fun h=>⟨fun e=>absurd e (by decide),fun _=>h⟩⟩
theorem kG_ft (op:SOp) (t:Nat):kG P C (.b false) op t true d r k objs tm F=run P C (.ops r::k) objs (zau (tm.set t (.b false)) d (.o undef)) F:=propext ⟨fun h=>h.2 rfl,fun h=>⟨fun e=>absurd e (by decide),fun _=>h⟩⟩
theorem kG_ff (op:SOp) (t:Nat):kG P C (.b false) op t false d r k objs tm F=run P C (.ops (⟨d,op,none⟩::r)::k) objs (tm.set t (.b false)) F:=propext ⟨fun h=>h.1 rfl,fun h=>⟨fun _=>h,fun e=>absurd e (by decide)⟩⟩
theorem kG_u (op:SOp) (t:Nat) (w:Bool):kG P C (.o undef) op t w d r k objs tm F=run P C (.ops r::k) objs (zau tm d (.o undef)) F:=Eq.trans rfl rfl
theorem kG_v (op:SOp) (t:Nat) (w:Bool) (vs:Array Value):kG P C (.o (.tuple vs)) op t w d r k objs tm F=run P C (.ops r::k) objs (zau tm d (.o undef)) F:=Eq.trans rfl rfl
theorem kGD_tt (op:SOp) (t:Nat):kGD P C (.b true) op t true d r k objs tm F=run P C (.dops (⟨d,op,none⟩::r)::k) objs (tm.set t (.b true)) F:=propext ⟨fun h=>h.1 rfl,fun h=>⟨fun _=>h,fun e=>absurd e (by decide)⟩⟩
theorem kGD_tf (op:SOp) (t:Nat):kGD P C (.b true) op t false d r k objs tm F=run P C (.dops r::k) objs (zau (tm.set t (.b true)) d (.o undef)) F:=propext ⟨fun h=>h.2 rfl,fun h=>⟨fun e=>absurd e (by decide),fun _=>h⟩⟩
theorem kGD_ft (op:SOp) (t:Nat):kGD P C (.b false) op t true d r k objs tm F=run P C (.dops r::k) objs (zau (tm.set t (.b false)) d (.o undef)) F:=propext ⟨fun h=>h.2 rfl,fun h=>⟨fun e=>absurd e (by decide),fun _=>h⟩⟩
theorem kGD_ff (op:SOp) (t:Nat):kGD P C (.b false) op t false d r k objs tm F=run P C (.dops (⟨d,op,none⟩::r)::k) objs (tm.set t (.b false)) F:=propext ⟨fun h=>h.1 rfl,fun h=>⟨fun _=>h,fun e=>absurd e (by decide)⟩⟩
theorem kGD_u (op:SOp) (t:Nat) (w:Bool):kGD P C (.o undef) op t w d r k objs tm F=run P C (.dops r::k) objs (zau tm d (.o undef)) F:=Eq.trans rfl rfl
theorem kGD_v (op:SOp) (t:Nat) (w:Bool) (vs:Array Value):kGD P C (.o (.tuple vs)) op t w d r k objs tm F=run P C (.dops r::k) objs (zau tm d (.o undef)) F:=Eq.trans rfl rfl
theorem zkP (op:SOp) (t:Nat) (w:Bool):run P C (.ops (⟨d,op,some (t,w)⟩::r)::k) objs tm F=kG P C ((tm[t]?).getD .u) op t w d r k objs tm F:=by
 show wpR P _ _ _ _=_;simp only[wpR,kG]
 cases (tm[t]?).getD .u<;>try rfl
 try (case o v=>cases v<;>rfl)
theorem ziU (op:SOp) (t:Nat) (w:Bool):run P C (.dops (⟨d,op,some (t,w)⟩::r)::k) objs tm F=kGD P C ((tm[t]?).getD .u) op t w d r k objs tm F:=by
 show wpD P _ _ _ _=_;simp only[wpD,kGD]
 cases (tm[t]?).getD .u<;>try rfl
 try (case o v=>cases v<;>rfl)
def kC (P:Program) [Tabs P] (C:Cx) (v:AV) (x y:SCode) (k:List IT) (objs:List OB) (tm:List AV) (F:za0):Prop :=
 match v with
 | .b t=>(t=true->run P C (.code x::k) objs tm F)/\(t=false->run P C (.code y::k) objs tm F)
 | _=>False
theorem kC_t (x y:SCode):kC P C (.b true) x y k objs tm F=run P C (.code x::k) objs tm F:=propext ⟨fun h=>h.1 rfl,fun h=>⟨fun _=>h,fun e=>absurd e (by decide)⟩⟩
theorem kC_f (x y:SCode):kC P C (.b false) x y k objs tm F=run P C (.code y::k) objs tm F:=propext ⟨fun h=>h.2 rfl,fun h=>⟨fun e=>absurd e (by decide),fun _=>h⟩⟩
theorem zh4 (c:SV) (x y:SCode):run P C (.code (.cond c x y)::k) objs tm F=kC P C (c.ev tm) x y k objs tm F:=by
 show wpC P C _ _ _ _=_;simp only[wpC,kC]
 cases c.ev tm<;>rfl
def kCall (P:Program) [Tabs P] (C:Cx) (f:Nat) (args:List AV) (d:Option Nat) (r:List SO) (k:List IT) (objs:List OB) (tm:List AV) (F:za0):Prop:=zaf P f args objs fun o v=>run P C (.ops r::k) o (zau tm d v) F
theorem znO (f:Nat) (args:List SV):run P C (.ops (⟨d,.call f args,none⟩::r)::k) objs tm F=kCall P C f (evs tm args) d r k objs tm F:=by
 show wpR P _ _ _ _=_;simp only[wpR,wpS,kCall,zfx];rfl
theorem zae {f:Nat} {args:List AV} (h:zaf P f args objs fun o v=>run P C (.ops r::k) o (zau tm d v) F):kCall P C f args d r k objs tm F:=h
def zoU (P:Program) [Tabs P] (C:Cx) (f:Nat) (args:List AV) (d:Option Nat) (r:List SO) (k:List IT) (objs:List OB) (tm:List AV) (F:za0):Prop:=∃v,(zaf P f args objs fun o x=>o=objs/\x=v)/\run P C (.dops r::k) objs (zau tm d v) F
theorem zkQ (f:Nat) (args:List SV):run P C (.dops (⟨d,.call f args,none⟩::r)::k) objs tm F=zoU P C f (evs tm args) d r k objs tm F:=by
 show wpD P _ _ _ _=_;simp only[wpD,wpS,zoU,zfx,SOp.isCall,if_true];rfl
def zoF (P:Program) [Tabs P] (C:Cx) (f:Nat) (args:List AV) (d:Option Nat) (r:List SO) (k:List IT) (objs:List OB) (tm:List AV) (F:za0):Prop:=∃v,(zao args=true/\zaf P f args [] fun _ x=>x.plain=true/\objs=objs/\x=v)/\run P C (.dops r::k) objs (zau tm d v) F
theorem zkL (f:Nat) (args:List SV):run P C (.dops (⟨d,.pcall f args,none⟩::r)::k) objs tm F=zoF P C f (evs tm args) d r k objs tm F:=by
 show wpD P (⟨d,.pcall f args,none⟩::r) objs tm _=_;simp only[wpD,wpS,zoF,zfx,SOp.isCall,if_true];rfl
theorem kpcall {f:Nat} {args:List AV} {v:AV} (h:zaf P f args [] fun _ x=>x=v) (hp:zao args=true) (hv:v.plain=true) (hr:run P C (.dops r::k) objs (zau tm d v) F):zoF P C f args d r k objs tm F :=
 ⟨v,⟨hp,h.mono fun _ x e=>by subst e;exact⟨hv,rfl,rfl⟩⟩,hr⟩
theorem zhr {f:Nat} {args:List AV} {v:AV} (h:zaf P f args objs fun o x=>o=objs/\x=v) (hr:run P C (.dops r::k) objs (zau tm d v) F):zoU P C f args d r k objs tm F:=⟨v,h,hr⟩
def IsFn (P : Program) (f : Nat) : Prop := ∃ fn, P.funcs[f]? = some fn ∧ fn.body.isSome = true ∧ fn.name ≠ "runtime.NumGoroutine"
def zoV (P:Program) [Tabs P] (C:Cx) (x:AV) (args:List AV) (d:Option Nat) (r:List SO) (k:List IT) (objs:List OB) (tm:List AV) (F:za0):Prop :=
 match x with
 | .fn f fs cs=>IsFn P f/\zaf P f (fs++args++cs) objs fun o v=>run P C (.ops r::k) o (zau tm d v) F
 | _=>False
theorem zkR (x:SV) (args:List SV):run P C (.ops (⟨d,.callv x args,none⟩::r)::k) objs tm F=zoV P C (x.ev tm) (evs tm args) d r k objs tm F:=by
 show wpR P _ _ _ _=_;simp only[wpR,wpS,zoV,zfx]
 cases x.ev tm<;>rfl
theorem zeK {f:Nat} {fs cs args:List AV} (hf:IsFn P f) (h:zaf P f (fs++args++cs) objs fun o v=>run P C (.ops r::k) o (zau tm d v) F):zoV P C (.fn f fs cs) args d r k objs tm F:=⟨hf,h⟩
theorem drn_mv (x:SV):run P C (.dops (⟨d,.mv x,none⟩::r)::k) objs tm F=run P C (.ops [⟨d,.mv x,none⟩]::.dops r::k) objs tm F:=Eq.trans rfl rfl
theorem zlR (c x y:SV):run P C (.dops (⟨d,.pick c x y,none⟩::r)::k) objs tm F=run P C (.ops [⟨d,.pick c x y,none⟩]::.dops r::k) objs tm F:=Eq.trans rfl rfl
theorem zjv (z:List AV) (ps:List (Nat×Nat×SV)):run P C (.dops (⟨d,.build z ps,none⟩::r)::k) objs tm F=run P C (.ops [⟨d,.build z ps,none⟩]::.dops r::k) objs tm F:=Eq.trans rfl rfl
theorem zhx (n:Nat) (z:List AV) (ps:List (Nat×Nat×SV)):run P C (.dops (⟨d,.bslice n z ps,none⟩::r)::k) objs tm F=run P C (.ops [⟨d,.bslice n z ps,none⟩]::.dops r::k) objs tm F:=Eq.trans rfl rfl
theorem zju (x:SV):run P C (.dops (⟨d,.load1 x,none⟩::r)::k) objs tm F=run P C (.ops [⟨d,.load1 x,none⟩]::.dops r::k) objs tm F:=Eq.trans rfl rfl
theorem zjt (sz:Nat) (x:SV):run P C (.dops (⟨d,.loadn sz x,none⟩::r)::k) objs tm F=run P C (.ops [⟨d,.loadn sz x,none⟩]::.dops r::k) objs tm F:=Eq.trans rfl rfl
theorem zpw (x:SV):run P C (.dops (⟨d,.nck x,none⟩::r)::k) objs tm F=run P C (.ops [⟨d,.nck x,none⟩]::.dops r::k) objs tm F:=Eq.trans rfl rfl
theorem zpJ (q:BinOp) (x y:SV):run P C (.dops (⟨d,.bin q x y,none⟩::r)::k) objs tm F=run P C (.ops [⟨d,.bin q x y,none⟩]::.dops r::k) objs tm F:=Eq.trans rfl rfl
theorem zpK (ne:Bool) (x y:SV):run P C (.dops (⟨d,.beq ne x y,none⟩::r)::k) objs tm F=run P C (.ops [⟨d,.beq ne x y,none⟩]::.dops r::k) objs tm F:=Eq.trans rfl rfl
theorem zpF (ne:Bool) (e:ET) (x y:SV):run P C (.dops (⟨d,.eqs ne e x y,none⟩::r)::k) objs tm F=run P C (.ops [⟨d,.eqs ne e x y,none⟩]::.dops r::k) objs tm F:=Eq.trans rfl rfl
theorem zpu (x:SV):run P C (.dops (⟨d,.not x,none⟩::r)::k) objs tm F=run P C (.ops [⟨d,.not x,none⟩]::.dops r::k) objs tm F:=Eq.trans rfl rfl
theorem zpv (x:SV):run P C (.dops (⟨d,.neg x,none⟩::r)::k) objs tm F=run P C (.ops [⟨d,.neg x,none⟩]::.dops r::k) objs tm F:=Eq.trans rfl rfl
theorem zlX (sz len:Nat) (x y:SV):run P C (.dops (⟨d,.iada sz len x y,none⟩::r)::k) objs tm F=run P C (.ops [⟨d,.iada sz len x y,none⟩]::.dops r::k) objs tm F:=Eq.trans rfl rfl
theorem zpH (q:IntKind) (x:SV):run P C (.dops (⟨d,.cvi q x,none⟩::r)::k) objs tm F=run P C (.ops [⟨d,.cvi q x,none⟩]::.dops r::k) objs tm F:=Eq.trans rfl rfl
theorem zpG (x:SV):run P C (.dops (⟨d,.cvs x,none⟩::r)::k) objs tm F=run P C (.ops [⟨d,.cvs x,none⟩]::.dops r::k) objs tm F:=Eq.trans rfl rfl
theorem zl0 (x:SV):run P C (.dops (⟨d,.cvbs x,none⟩::r)::k) objs tm F=run P C (.ops [⟨d,.cvbs x,none⟩]::.dops r::k) objs tm F:=Eq.trans rfl rfl
theorem zlQ (x:SV) (lo hi:Option SV):run P C (.dops (⟨d,.slcs x lo hi,none⟩::r)::k) objs tm F=run P C (.ops [⟨d,.slcs x lo hi,none⟩]::.dops r::k) objs tm F:=Eq.trans rfl rfl
theorem zpD (off:Nat) (x:SV):run P C (.dops (⟨d,.fad off x,none⟩::r)::k) objs tm F=run P C (.ops [⟨d,.fad off x,none⟩]::.dops r::k) objs tm F:=Eq.trans rfl rfl
theorem zlZ (off:Nat) (x:SV):run P C (.dops (⟨d,.fld1 off x,none⟩::r)::k) objs tm F=run P C (.ops [⟨d,.fld1 off x,none⟩]::.dops r::k) objs tm F:=Eq.trans rfl rfl
theorem zlY (off sz:Nat) (x:SV):run P C (.dops (⟨d,.fldn off sz x,none⟩::r)::k) objs tm F=run P C (.ops [⟨d,.fldn off sz x,none⟩]::.dops r::k) objs tm F:=Eq.trans rfl rfl
theorem zpC (sz:Nat) (x y:SV):run P C (.dops (⟨d,.iad sz x y,none⟩::r)::k) objs tm F=run P C (.ops [⟨d,.iad sz x y,none⟩]::.dops r::k) objs tm F:=Eq.trans rfl rfl
theorem zpB (x y:SV):run P C (.dops (⟨d,.idx x y,none⟩::r)::k) objs tm F=run P C (.ops [⟨d,.idx x y,none⟩]::.dops r::k) objs tm F:=Eq.trans rfl rfl
theorem zpE (x:SV) (j:Nat):run P C (.dops (⟨d,.ext x j,none⟩::r)::k) objs tm F=run P C (.ops [⟨d,.ext x j,none⟩]::.dops r::k) objs tm F:=Eq.trans rfl rfl
theorem zlU (x:SV):run P C (.dops (⟨d,.lens x,none⟩::r)::k) objs tm F=run P C (.ops [⟨d,.lens x,none⟩]::.dops r::k) objs tm F:=Eq.trans rfl rfl
theorem zlV (x:SV):run P C (.dops (⟨d,.lenr x,none⟩::r)::k) objs tm F=run P C (.ops [⟨d,.lenr x,none⟩]::.dops r::k) objs tm F:=Eq.trans rfl rfl
theorem zpA (f:Nat) (fs cs:List SV):run P C (.dops (⟨d,.mkf f fs cs,none⟩::r)::k) objs tm F=run P C (.ops [⟨d,.mkf f fs cs,none⟩]::.dops r::k) objs tm F:=Eq.trans rfl rfl
theorem zl2 (E sz n:Nat) (z:List AV) (ps:List (Nat×Nat×SV)):run P C (.dops (⟨d,.bslo E sz n z ps,none⟩::r)::k) objs tm F=run P C (.ops [⟨d,.bslo E sz n z ps,none⟩]::.dops r::k) objs tm F:=Eq.trans rfl rfl
theorem zjw (T:Nat) (z:List AV):run P C (.dops (⟨d,.alloc T z,none⟩::r)::k) objs tm F=run P C (.ops [⟨d,.alloc T z,none⟩]::.dops r::k) objs tm F:=Eq.trans rfl rfl
theorem zpI (T:Nat) (x:SV):run P C (.dops (⟨d,.box T x,none⟩::r)::k) objs tm F=run P C (.ops [⟨d,.box T x,none⟩]::.dops r::k) objs tm F:=Eq.trans rfl rfl
theorem zjs (sz:Nat) (x y:SV):run P C (.dops (⟨d,.store sz x y,none⟩::r)::k) objs tm F=run P C (.ops [⟨d,.store sz x y,none⟩]::.dops r::k) objs tm F:=Eq.trans rfl rfl
theorem zpL (E sz by':Nat) (x y:SV):run P C (.dops (⟨d,.app E sz by' x y,none⟩::r)::k) objs tm F=run P C (.ops [⟨d,.app E sz by' x y,none⟩]::.dops r::k) objs tm F:=Eq.trans rfl rfl
theorem zl3 (E:Nat) (x y:SV):run P C (.dops (⟨d,.apps E x y,none⟩::r)::k) objs tm F=run P C (.ops [⟨d,.apps E x y,none⟩]::.dops r::k) objs tm F:=Eq.trans rfl rfl
theorem zpz (E sz by':Nat) (x y:SV):run P C (.dops (⟨d,.mks E sz by' x y,none⟩::r)::k) objs tm F=run P C (.ops [⟨d,.mks E sz by' x y,none⟩]::.dops r::k) objs tm F:=Eq.trans rfl rfl
theorem zpy (E by':Nat) (kd:IntKind) (z:Int) (x:SV):run P C (.dops (⟨d,.mkz E by' kd z x,none⟩::r)::k) objs tm F=run P C (.ops [⟨d,.mkz E by' kd z x,none⟩]::.dops r::k) objs tm F:=Eq.trans rfl rfl
theorem zl1 (sz by':Nat) (x y:SV):run P C (.dops (⟨d,.capp sz by' x y,none⟩::r)::k) objs tm F=run P C (.ops [⟨d,.capp sz by' x y,none⟩]::.dops r::k) objs tm F:=Eq.trans rfl rfl
theorem drn_pu (q:PQ) (xs:List SV):run P C (.dops (⟨d,.pu q xs,none⟩::r)::k) objs tm F=run P C (.ops [⟨d,.pu q xs,none⟩]::.dops r::k) objs tm F:=Eq.trans rfl rfl
theorem zpt (sz:Nat) (x y:SV):run P C (.dops (⟨d,.trn sz x y,none⟩::r)::k) objs tm F=run P C (.ops [⟨d,.trn sz x y,none⟩]::.dops r::k) objs tm F:=Eq.trans rfl rfl
theorem zlW (sz:Nat) (x y:SV):run P C (.dops (⟨d,.iadr sz x y,none⟩::r)::k) objs tm F=run P C (.ops [⟨d,.iadr sz x y,none⟩]::.dops r::k) objs tm F:=Eq.trans rfl rfl
theorem zlT :run P C (.dops (⟨d,.mkm0,none⟩::r)::k) objs tm F=run P C (.ops [⟨d,.mkm0,none⟩]::.dops r::k) objs tm F:=Eq.trans rfl rfl
theorem zlS (x:SV):run P C (.dops (⟨d,.mkm1 x,none⟩::r)::k) objs tm F=run P C (.ops [⟨d,.mkm1 x,none⟩]::.dops r::k) objs tm F:=Eq.trans rfl rfl
theorem drn_lk (z:AV) (ok:Bool) (x y:SV):run P C (.dops (⟨d,.lk z ok x y,none⟩::r)::k) objs tm F=run P C (.ops [⟨d,.lk z ok x y,none⟩]::.dops r::k) objs tm F:=Eq.trans rfl rfl
theorem zpx (x y v:SV):run P C (.dops (⟨d,.mup x y v,none⟩::r)::k) objs tm F=run P C (.ops [⟨d,.mup x y v,none⟩]::.dops r::k) objs tm F:=Eq.trans rfl rfl
theorem za4 {f:FuncId} {n:Nat} {ss:List SRes} {sc:SCode} (hf:FnIs P f n ss sc) {args:List AV} {objs:List OB} {K:List OB->AV->Prop} (hp:zao args=true)
  (h:∀(C:Cx) [On P C],run P C [.code sc] [] (args++qj (n - args.length) (.o undef)) (endK ss fun r=>K objs r)):zaf P f args objs K :=
 fn_ok hf hp h
theorem zcu {f:FuncId} {n:Nat} {ss:List SRes} {sc:SCode} (hf:FnIs P f n ss sc) {args:List AV} {objs:List OB} {K:List OB->AV->Prop}
  (h:∀(C:Cx) [On P C],run P C [.code sc] objs (args++qj (n - args.length) (.o undef)) (endI ss K)):zaf P f args objs K :=
 fn_in hf h
theorem endI_n (ss:List SRes) (K:List OB->AV->Prop):endI ss K .normal objs tm=outI ss K objs tm:=Eq.trans rfl rfl
theorem endI_r (ss:List SRes) (K:List OB->AV->Prop):endI ss K .ret objs tm=outI ss K objs tm:=Eq.trans rfl rfl
def outJ (K:List OB->AV->Prop) (objs:List OB):Option (List AV)->Prop
 | some xs=>K objs (zmo xs)
 | none=>False
theorem outJ_s (K:List OB->AV->Prop) (xs:List AV):outJ K objs (some xs)=K objs (zmo xs):=Eq.trans rfl rfl
theorem zof (ss:List SRes) (K:List OB->AV->Prop):outI ss K objs tm=outJ K objs (zej objs tm ss):=by
 unfold outI
 cases zej objs tm ss<;>rfl
theorem endK_n (ss:List SRes) (K:AV->Prop):endK ss K .normal objs tm=outK ss K objs tm:=Eq.trans rfl rfl
theorem endK_r (ss:List SRes) (K:AV->Prop):endK ss K .ret objs tm=outK ss K objs tm:=Eq.trans rfl rfl
def outO (K:AV->Prop):Option AV->Prop
 | some r=>K r
 | none=>False
theorem outO_s (K:AV->Prop) (r:AV):outO K (some r)=K r:=Eq.trans rfl rfl
theorem zoe (ss:List SRes) (K:AV->Prop):outK ss K objs tm=outO K ((zej objs tm ss).bind fun xs=>pub objs 5 (zmo xs)):=by
 unfold outK
 cases (zej objs tm ss).bind (fun xs=>pub objs 5 (zmo xs))<;>rfl
end
theorem sxA:type_of% (And.intro @rn_nil (And.intro @rn_seq (And.intro @znA (And.intro @rn_reg (And.intro @rn_drw (And.intro @rn_crs (And.intro @rst_n (And.intro @rst_c (And.intro @rcr_n (And.intro @rcr_c (And.intro @rn_crg (And.intro @za8 (And.intro @zkO (And.intro @zhf (And.intro @zgj (And.intro @rn_ret (And.intro @znK (And.intro @zm3 (And.intro @zkv (And.intro @zm2 (And.intro @zku (And.intro @zm4 (And.intro @xit_ap (And.intro @rn_ap (And.intro @apOk_n (And.intro @apOk_c (And.intro @zqc (And.intro @zfu (And.intro @zhq (And.intro @zje (And.intro @zoG (And.intro @zp4 (And.intro @endK_n (And.intro @endK_r (And.intro @outO_s (And.intro @zoe (And.intro @endI_n (And.intro @endI_r (And.intro @outJ_s (And.intro @zof (And.intro @rn_mv (And.intro @zoD (And.intro @zoE (And.intro @znB (And.intro @zkT (@rn_box)))))))))))))))))))))))))))))))))))))))))))))):=And.intro @rn_nil (And.intro @rn_seq (And.intro @znA (And.intro @rn_reg (And.intro @rn_drw (And.intro @rn_crs (And.intro @rst_n (And.intro @rst_c (And.intro @rcr_n (And.intro @rcr_c (And.intro @rn_crg (And.intro @za8 (And.intro @zkO (And.intro @zhf (And.intro @zgj (And.intro @rn_ret (And.intro @znK (And.intro @zm3 (And.intro @zkv (And.intro @zm2 (And.intro @zku (And.intro @zm4 (And.intro @xit_ap (And.intro @rn_ap (And.intro @apOk_n (And.intro @apOk_c (And.intro @zqc (And.intro @zfu (And.intro @zhq (And.intro @zje (And.intro @zoG (And.intro @zp4 (And.intro @endK_n (And.intro @endK_r (And.intro @outO_s (And.intro @zoe (And.intro @endI_n (And.intro @endI_r (And.intro @outJ_s (And.intro @zof (And.intro @rn_mv (And.intro @zoD (And.intro @zoE (And.intro @znB (And.intro @zkT (@rn_box)))))))))))))))))))))))))))))))))))))))))))))
theorem sxB:type_of% (And.intro @kLit_s (And.intro @znP (And.intro @zkS (And.intro @ziV (And.intro @kLd1_p (And.intro @kLd1_r (And.intro @zkN (And.intro @kLdn_s (And.intro @kLdv_p (And.intro @kLdv_r (And.intro @zkM (And.intro @kSt2_b (And.intro @kSt_p (And.intro @zkK (And.intro @kNck_0 (And.intro @kNck_1 (And.intro @kNck_2 (And.intro @rn_nck (And.intro @kNot_0 (And.intro @rn_not (And.intro @zoZ (And.intro @kAr_i8 (And.intro @zo1 (And.intro @zo0 (And.intro @kAr_u8 (And.intro @zoY (And.intro @zoX (And.intro @zoW (And.intro @kNeg_0 (And.intro @rn_neg (And.intro @kCvi_0 (And.intro @rn_cvi (And.intro @kCvs_0 (And.intro @rn_cvs (And.intro @zoI (And.intro @znE (And.intro @zoS (And.intro @znI (And.intro @kFad_0 (And.intro @kFad_1 (And.intro @rn_fad (@zoT)))))))))))))))))))))))))))))))))))))))))):=And.intro @kLit_s (And.intro @znP (And.intro @zkS (And.intro @ziV (And.intro @kLd1_p (And.intro @kLd1_r (And.intro @zkN (And.intro @kLdn_s (And.intro @kLdv_p (And.intro @kLdv_r (And.intro @zkM (And.intro @kSt2_b (And.intro @kSt_p (And.intro @zkK (And.intro @kNck_0 (And.intro @kNck_1 (And.intro @kNck_2 (And.intro @rn_nck (And.intro @kNot_0 (And.intro @rn_not (And.intro @zoZ (And.intro @kAr_i8 (And.intro @zo1 (And.intro @zo0 (And.intro @kAr_u8 (And.intro @zoY (And.intro @zoX (And.intro @zoW (And.intro @kNeg_0 (And.intro @rn_neg (And.intro @kCvi_0 (And.intro @rn_cvi (And.intro @kCvs_0 (And.intro @rn_cvs (And.intro @zoI (And.intro @znE (And.intro @zoS (And.intro @znI (And.intro @kFad_0 (And.intro @kFad_1 (And.intro @rn_fad (@zoT)))))))))))))))))))))))))))))))))))))))))
theorem sxC:type_of% (And.intro @znJ (And.intro @kExt_0 (And.intro @rn_ext (And.intro @kLr2_o (And.intro @zoM (And.intro @zoL (And.intro @zoK (And.intro @znF (And.intro @zji (And.intro @zlj (And.intro @zhs (And.intro @zjh (And.intro @kEqs_a (And.intro @rn_beq (And.intro @rn_eqs (And.intro @kIad_0 (And.intro @rn_iad (And.intro @zoR (And.intro @znH (And.intro @kIdx_0 (And.intro @rn_idx (And.intro @kMks_0 (And.intro @rn_mks (And.intro @rn_bin (And.intro @zlx (And.intro @zlk (And.intro @zlq (And.intro @zlo (And.intro @zln (And.intro @zlv (And.intro @zlp (And.intro @zlr (And.intro @zls (And.intro @zlt (And.intro @zlu (And.intro @zlw (And.intro @zlm (And.intro @zll (And.intro @svi_i (@ziI)))))))))))))))))))))))))))))))))))))))):=And.intro @znJ (And.intro @kExt_0 (And.intro @rn_ext (And.intro @kLr2_o (And.intro @zoM (And.intro @zoL (And.intro @zoK (And.intro @znF (And.intro @zji (And.intro @zlj (And.intro @zhs (And.intro @zjh (And.intro @kEqs_a (And.intro @rn_beq (And.intro @rn_eqs (And.intro @kIad_0 (And.intro @rn_iad (And.intro @zoR (And.intro @znH (And.intro @kIdx_0 (And.intro @rn_idx (And.intro @kMks_0 (And.intro @rn_mks (And.intro @rn_bin (And.intro @zlx (And.intro @zlk (And.intro @zlq (And.intro @zlo (And.intro @zln (And.intro @zlv (And.intro @zlp (And.intro @zlr (And.intro @zls (And.intro @zlt (And.intro @zlu (And.intro @zlw (And.intro @zlm (And.intro @zll (And.intro @svi_i (@ziI)))))))))))))))))))))))))))))))))))))))
theorem sxD:type_of% (And.intro @ziH (And.intro @kSl2_s (And.intro @kSl_s (And.intro @znz (And.intro @kAp_s (And.intro @kAp2_o (And.intro @kAp2_n (And.intro @kAp3_o (And.intro @kAs_o (And.intro @kAs_n (And.intro @kAs2_o (And.intro @rn_app (And.intro @znQ (And.intro @kCb_o (And.intro @kCb_n (And.intro @znM (And.intro @rn_mkf (And.intro @kG_tt (And.intro @kG_tf (And.intro @kG_ft (And.intro @kG_ff (And.intro @kG_u (And.intro @kG_v (And.intro @kGD_tt (And.intro @kGD_tf (And.intro @kGD_ft (And.intro @kGD_ff (And.intro @kGD_u (And.intro @kGD_v (And.intro @zkP (And.intro @ziU (And.intro @kC_t (And.intro @kC_f (And.intro @zh4 (And.intro @znO (And.intro @zkQ (And.intro @zkR (And.intro @drn_mv (And.intro @zlR (@zjv)))))))))))))))))))))))))))))))))))))))):=And.intro @ziH (And.intro @kSl2_s (And.intro @kSl_s (And.intro @znz (And.intro @kAp_s (And.intro @kAp2_o (And.intro @kAp2_n (And.intro @kAp3_o (And.intro @kAs_o (And.intro @kAs_n (And.intro @kAs2_o (And.intro @rn_app (And.intro @znQ (And.intro @kCb_o (And.intro @kCb_n (And.intro @znM (And.intro @rn_mkf (And.intro @kG_tt (And.intro @kG_tf (And.intro @kG_ft (And.intro @kG_ff (And.intro @kG_u (And.intro @kG_v (And.intro @kGD_tt (And.intro @kGD_tf (And.intro @kGD_ft (And.intro @kGD_ff (And.intro @kGD_u (And.intro @kGD_v (And.intro @zkP (And.intro @ziU (And.intro @kC_t (And.intro @kC_f (And.intro @zh4 (And.intro @znO (And.intro @zkQ (And.intro @zkR (And.intro @drn_mv (And.intro @zlR (@zjv)))))))))))))))))))))))))))))))))))))))
theorem sxE:type_of% (And.intro @zl2 (And.intro @zhx (And.intro @zju (And.intro @zjt (And.intro @zpw (And.intro @zpJ (And.intro @zpK (And.intro @zpF (And.intro @zpu (And.intro @zpv (And.intro @zlX (And.intro @zpH (And.intro @zpG (And.intro @zl0 (And.intro @zlQ (And.intro @zpD (And.intro @zlZ (And.intro @zlY (And.intro @zpC (And.intro @zpB (And.intro @zpE (And.intro @zlU (And.intro @zlV (And.intro @zpA (And.intro @zjw (And.intro @zpI (And.intro @zjs (And.intro @zpL (And.intro @zl3 (@zpz)))))))))))))))))))))))))))))):=And.intro @zl2 (And.intro @zhx (And.intro @zju (And.intro @zjt (And.intro @zpw (And.intro @zpJ (And.intro @zpK (And.intro @zpF (And.intro @zpu (And.intro @zpv (And.intro @zlX (And.intro @zpH (And.intro @zpG (And.intro @zl0 (And.intro @zlQ (And.intro @zpD (And.intro @zlZ (And.intro @zlY (And.intro @zpC (And.intro @zpB (And.intro @zpE (And.intro @zlU (And.intro @zlV (And.intro @zpA (And.intro @zjw (And.intro @zpI (And.intro @zjs (And.intro @zpL (And.intro @zl3 (@zpz)))))))))))))))))))))))))))))
theorem sxF:type_of% (And.intro @kO_if (And.intro @pq_and (And.intro @pq_or (And.intro @pq_xor (And.intro @pq_shl (And.intro @pq_shr (And.intro @pq_mn (And.intro @pq_mx (And.intro @pq_rsl (And.intro @zn5 (And.intro @zn6 (And.intro @zk2 (And.intro @zn7 (And.intro @pq_asl (And.intro @kCb_b (And.intro @pq_lss (And.intro @pq_leq (And.intro @pq_gtr (And.intro @pq_geq (And.intro @rn_pu (@drn_pu))))))))))))))))))))):=And.intro @kO_if (And.intro @pq_and (And.intro @pq_or (And.intro @pq_xor (And.intro @pq_shl (And.intro @pq_shr (And.intro @pq_mn (And.intro @pq_mx (And.intro @pq_rsl (And.intro @zn5 (And.intro @zn6 (And.intro @zk2 (And.intro @zn7 (And.intro @pq_asl (And.intro @kCb_b (And.intro @pq_lss (And.intro @pq_leq (And.intro @pq_gtr (And.intro @pq_geq (And.intro @rn_pu (@drn_pu))))))))))))))))))))
theorem sxM:type_of% (And.intro @znL (And.intro @kLd1_o (And.intro @zoO (And.intro @kLdv_o (And.intro @zoN (And.intro @kSt_o (And.intro @kSt3_o (And.intro @kNck_3 (And.intro @kFad_2 (And.intro @kIad_1 (And.intro @zoQ (And.intro @zoC (And.intro @kTrn_0 (And.intro @kTrn_1 (And.intro @kTrn_2 (And.intro @rn_trn (And.intro @zpt (And.intro @zn8 (And.intro @zn9 (And.intro @pq_snn (And.intro @pq_snz (And.intro @pq_snr (And.intro @zoJ (And.intro @zoP (And.intro @znG (And.intro @zlW (@zqb))))))))))))))))))))))))))):=And.intro @znL (And.intro @kLd1_o (And.intro @zoO (And.intro @kLdv_o (And.intro @zoN (And.intro @kSt_o (And.intro @kSt3_o (And.intro @kNck_3 (And.intro @kFad_2 (And.intro @kIad_1 (And.intro @zoQ (And.intro @zoC (And.intro @kTrn_0 (And.intro @kTrn_1 (And.intro @kTrn_2 (And.intro @rn_trn (And.intro @zpt (And.intro @zn8 (And.intro @zn9 (And.intro @pq_snn (And.intro @pq_snz (And.intro @pq_snr (And.intro @zoJ (And.intro @zoP (And.intro @znG (And.intro @zlW (@zqb))))))))))))))))))))))))))
theorem sxN:type_of% (And.intro @apG_n (And.intro @apG_s (And.intro @apB_tt (And.intro @apB_ff (And.intro @apB_tf (And.intro @apB_ft (And.intro @rn_mkz (And.intro @kMkz_i (And.intro @zpy (And.intro @znD (And.intro @znC (And.intro @kMkm_i (And.intro @rn_lk (And.intro @kLk_0 (And.intro @kLk2_m (And.intro @rn_mup (And.intro @kMup_0 (And.intro @zoH (And.intro @zlT (And.intro @zlS (And.intro @drn_lk (And.intro @zpx (And.intro @lkA_tt (And.intro @lkA_tf (And.intro @lkA_nt (And.intro @lkA_nf (And.intro @apS_o (And.intro @apS_p (And.intro @zmc (And.intro @zmb (And.intro @zma (And.intro @zl9 (And.intro @pq_sl3 (And.intro @zn4 (And.intro @znN (And.intro @kCap_c (And.intro @zl1 (And.intro @rn_cra (And.intro @rsb_n (And.intro @rsb_c (And.intro @hsV_n (@hsV_c)))))))))))))))))))))))))))))))))))))))))):=And.intro @apG_n (And.intro @apG_s (And.intro @apB_tt (And.intro @apB_ff (And.intro @apB_tf (And.intro @apB_ft (And.intro @rn_mkz (And.intro @kMkz_i (And.intro @zpy (And.intro @znD (And.intro @znC (And.intro @kMkm_i (And.intro @rn_lk (And.intro @kLk_0 (And.intro @kLk2_m (And.intro @rn_mup (And.intro @kMup_0 (And.intro @zoH (And.intro @zlT (And.intro @zlS (And.intro @drn_lk (And.intro @zpx (And.intro @lkA_tt (And.intro @lkA_tf (And.intro @lkA_nt (And.intro @lkA_nf (And.intro @apS_o (And.intro @apS_p (And.intro @zmc (And.intro @zmb (And.intro @zma (And.intro @zl9 (And.intro @pq_sl3 (And.intro @zn4 (And.intro @znN (And.intro @kCap_c (And.intro @zl1 (And.intro @rn_cra (And.intro @rsb_n (And.intro @rsb_c (And.intro @hsV_n (@hsV_c)))))))))))))))))))))))))))))))))))))))))
theorem sxL:type_of% (And.intro @List.length_cons.{0} (And.intro @List.length_nil.{0} (And.intro @List.length_append.{0} (And.intro @List.length_replicate.{0} (And.intro @List.length_set.{0} (And.intro @List.cons_append.{0} (And.intro @List.nil_append.{0} (And.intro @List.append_nil.{0} (And.intro @List.getElem?_cons_zero.{0} (And.intro @List.getElem?_cons_succ.{0} (And.intro @List.getElem?_nil.{0} (And.intro @Option.getD_some.{0} (And.intro @Option.getD_none.{0} (And.intro @List.set_cons_zero.{0} (And.intro @List.set_cons_succ.{0} (And.intro @List.set_nil.{0} (And.intro @List.map_cons.{0,0} (And.intro @List.map_nil.{0,0} (And.intro @List.take_succ_cons.{0} (And.intro @List.take_zero.{0} (And.intro @List.drop_succ_cons.{0} (And.intro @List.drop_zero.{0} (And.intro @List.take_nil.{0} (And.intro @List.drop_nil.{0} (And.intro @List.take_length.{0} (And.intro @Int.toNat_natCast (And.intro @Int.toNat_natCast_add_one (And.intro @Bool.not_true (And.intro @Bool.not_false (And.intro @Bool.and_true (And.intro @Bool.true_and (And.intro @Bool.and_false (And.intro @Bool.false_and (And.intro @true_and (And.intro @and_true (And.intro @true_implies (And.intro @false_implies (And.intro @Option.bind_some.{0,0} (And.intro @Option.map_some.{0,0} (And.intro @Bool.false_eq_true (And.intro @Bool.true_eq_false (And.intro @decide_true (And.intro @decide_false (And.intro @not_true_eq_false (And.intro @not_false_eq_true (@beq_self_eq_true.{0})))))))))))))))))))))))))))))))))))))))))))))):=And.intro @List.length_cons.{0} (And.intro @List.length_nil.{0} (And.intro @List.length_append.{0} (And.intro @List.length_replicate.{0} (And.intro @List.length_set.{0} (And.intro @List.cons_append.{0} (And.intro @List.nil_append.{0} (And.intro @List.append_nil.{0} (And.intro @List.getElem?_cons_zero.{0} (And.intro @List.getElem?_cons_succ.{0} (And.intro @List.getElem?_nil.{0} (And.intro @Option.getD_some.{0} (And.intro @Option.getD_none.{0} (And.intro @List.set_cons_zero.{0} (And.intro @List.set_cons_succ.{0} (And.intro @List.set_nil.{0} (And.intro @List.map_cons.{0,0} (And.intro @List.map_nil.{0,0} (And.intro @List.take_succ_cons.{0} (And.intro @List.take_zero.{0} (And.intro @List.drop_succ_cons.{0} (And.intro @List.drop_zero.{0} (And.intro @List.take_nil.{0} (And.intro @List.drop_nil.{0} (And.intro @List.take_length.{0} (And.intro @Int.toNat_natCast (And.intro @Int.toNat_natCast_add_one (And.intro @Bool.not_true (And.intro @Bool.not_false (And.intro @Bool.and_true (And.intro @Bool.true_and (And.intro @Bool.and_false (And.intro @Bool.false_and (And.intro @true_and (And.intro @and_true (And.intro @true_implies (And.intro @false_implies (And.intro @Option.bind_some.{0,0} (And.intro @Option.map_some.{0,0} (And.intro @Bool.false_eq_true (And.intro @Bool.true_eq_false (And.intro @decide_true (And.intro @decide_false (And.intro @not_true_eq_false (And.intro @not_false_eq_true (@beq_self_eq_true.{0})))))))))))))))))))))))))))))))))))))))))))))
theorem sxZ:type_of% (And.intro @zkL (And.intro sxA (And.intro sxB (And.intro sxC (And.intro sxD (And.intro sxE (And.intro sxF (And.intro sxM (And.intro sxN (And.intro sxL (And.intro @forall_const.{1} (And.intro @implies_true.{1} (And.intro @implies_true.{0} (And.intro @if_true.{1} (And.intro @if_false.{1} (And.intro @ite_true.{1} (And.intro @ite_false.{1} (And.intro @exists_eq_left'.{1} (And.intro @exists_eq'.{1} (And.intro @ne_eq.{1} (And.intro @evs.eq_1 (And.intro @evs.eq_2 (And.intro @evp.eq_1 (And.intro @evp.eq_2 (And.intro @zau.eq_1 (And.intro @zau.eq_2 (And.intro @SV.ev.eq_1 (And.intro @SV.ev.eq_2 (And.intro @AV.flat.eq_1 (And.intro @AV.flat.eq_2 (And.intro @AV.one.eq_1 (And.intro @AV.one.eq_2 (And.intro @AV.one.eq_3 (And.intro @AV.one.eq_4 (And.intro @AV.one.eq_5 (And.intro @AV.cells.eq_1 (And.intro @AV.cells.eq_2 (And.intro @zej.eq_1 (And.intro @zej.eq_2 (And.intro @znT.eq_1 (And.intro @znT.eq_2 (And.intro @znT.eq_3 (And.intro @zmo.eq_1 (And.intro @zmo.eq_2 (And.intro @pub.eq_1 (And.intro @pub.eq_2 (And.intro @pub.eq_3 (And.intro @pub.eq_4 (And.intro @pub.eq_5 (And.intro @zft.eq_1 (And.intro @zft.eq_2 (And.intro @AV.plain.eq_1 (And.intro @AV.plain.eq_2 (And.intro @AV.plain.eq_3 (And.intro @AV.plain.eq_4 (And.intro @AV.plain.eq_5 (And.intro @AV.plain.eq_6 (And.intro @AV.plain.eq_7 (And.intro @AV.plain.eq_8 (And.intro @AV.plain.eq_9 (And.intro @AV.plain.eq_10 (And.intro @AV.plain.eq_11 (And.intro @AV.plain.eq_12 (And.intro @zao.eq_1 (And.intro @zao.eq_2 (And.intro @zdl.eq_1 (And.intro @zdl.eq_2 (And.intro @zdl.eq_3 (And.intro @zdl.eq_4 (And.intro @zbk.eq_1 (And.intro @zde.eq_1 (And.intro @zde.eq_2 (And.intro @eqA.eq_1 (And.intro @eqA.eq_2 (And.intro @eqA.eq_3 (And.intro @eqA.eq_4 (And.intro @eqA.eq_5 (And.intro @zlM.eq_1 (And.intro @zlM.eq_2 (And.intro @zlM.eq_3 (And.intro @List.replicate.eq_1.{0} (@List.replicate.eq_2.{0})))))))))))))))))))))))))))))))))))))))))))))))))))))))))))))))))))))))))))))))))):=And.intro @zkL (And.intro sxA (And.intro sxB (And.intro sxC (And.intro sxD (And.intro sxE (And.intro sxF (And.intro sxM (And.intro sxN (And.intro sxL (And.intro @forall_const.{1} (And.intro @implies_true.{1} (And.intro @implies_true.{0} (And.intro @if_true.{1} (And.intro @if_false.{1} (And.intro @ite_true.{1} (And.intro @ite_false.{1} (And.intro @exists_eq_left'.{1} (And.intro @exists_eq'.{1} (And.intro @ne_eq.{1} (And.intro @evs.eq_1 (And.intro @evs.eq_2 (And.intro @evp.eq_1 (And.intro @evp.eq_2 (And.intro @zau.eq_1 (And.intro @zau.eq_2 (And.intro @SV.ev.eq_1 (And.intro @SV.ev.eq_2 (And.intro @AV.flat.eq_1 (And.intro @AV.flat.eq_2 (And.intro @AV.one.eq_1 (And.intro @AV.one.eq_2 (And.intro @AV.one.eq_3 (And.intro @AV.one.eq_4 (And.intro @AV.one.eq_5 (And.intro @AV.cells.eq_1 (And.intro @AV.cells.eq_2 (And.intro @zej.eq_1 (And.intro @zej.eq_2 (And.intro @znT.eq_1 (And.intro @znT.eq_2 (And.intro @znT.eq_3 (And.intro @zmo.eq_1 (And.intro @zmo.eq_2 (And.intro @pub.eq_1 (And.intro @pub.eq_2 (And.intro @pub.eq_3 (And.intro @pub.eq_4 (And.intro @pub.eq_5 (And.intro @zft.eq_1 (And.intro @zft.eq_2 (And.intro @AV.plain.eq_1 (And.intro @AV.plain.eq_2 (And.intro @AV.plain.eq_3 (And.intro @AV.plain.eq_4 (And.intro @AV.plain.eq_5 (And.intro @AV.plain.eq_6 (And.intro @AV.plain.eq_7 (And.intro @AV.plain.eq_8 (And.intro @AV.plain.eq_9 (And.intro @AV.plain.eq_10 (And.intro @AV.plain.eq_11 (And.intro @AV.plain.eq_12 (And.intro @zao.eq_1 (And.intro @zao.eq_2 (And.intro @zdl.eq_1 (And.intro @zdl.eq_2 (And.intro @zdl.eq_3 (And.intro @zdl.eq_4 (And.intro @zbk.eq_1 (And.intro @zde.eq_1 (And.intro @zde.eq_2 (And.intro @eqA.eq_1 (And.intro @eqA.eq_2 (And.intro @eqA.eq_3 (And.intro @eqA.eq_4 (And.intro @eqA.eq_5 (And.intro @zlM.eq_1 (And.intro @zlM.eq_2 (And.intro @zlM.eq_3 (And.intro @List.replicate.eq_1.{0} (@List.replicate.eq_2.{0})))))))))))))))))))))))))))))))))))))))))))))))))))))))))))))))))))))))))))))))))
end Go.Proofs.YtceenajkieomoaaGreatDoor.Sx
namespace Go.Proofs.YtceenajkieomoaaGreatDoor
open Go.RowKit Sx
open Option renaming some->zr
class Shp (P:Program) [Tabs P]:Prop where
 sh:∀w:World,Tabs.T (P:=P) w->w.ShapedOpen P
class Pow (P:Program) [Tabs P]:Prop where
 pw : ∀ w : World, Tabs.T (P := P) w → Lib.TabIs P w "internal/strconv.uint64pow10" .u64 Lib.pow10Tab
theorem zjP {P:Program} {w w':World} (h:w.ShapedOpen P) (hk:∀k,k<w.heap.size->w'.heap[k]? = w.heap[k]?):w'.ShapedOpen P:=by
 have lt:∀{k:Nat} {o:Obj},w.heap[k]? = some o->k<w.heap.size:=fun {k o} e=>by
  rcases Nat.lt_or_ge k w.heap.size with h1|h1
  ·exact h1
  ·rw[Array.getElem?_eq_none h1] at e;cases e
 refine⟨fun g zero t hg hz=>?_,fun k hk1 hk2=>?_⟩
 ·obtain⟨cs,h1,h2,h3⟩:=h.1 g zero t hg hz;refine⟨cs,(hk g (lt h1)).trans h1,h2,fun hb=>Row.ok_of_shape (fun b x hx=>?_) (h3 hb)⟩;rcases Nat.lt_or_ge b w.heap.size with h4|h4
  ·simpa[World.shape?,hk b h4] using hx
  ·simp[World.shape?,Array.getElem?_eq_none h4] at hx
 ·obtain⟨o,o₀,h1,h2,h3⟩:=h.2 k hk1 hk2;exact⟨o,o₀,(hk k (lt h1)).trans h1,h2,h3⟩
mutual
/-- a value without memory, as it is -/
def val:AV->Option Value
 | .s l=>some (.string ⟨l.toArray⟩)
 | .i k n=>some (.int k n)
 | .b x=>some (.bool x)
 | .agg cs=>match zm8 cs with
  | some vs=>if vs.all (·.oneCell')=true then some (.agg vs.toArray) else none
  | none=>none
 | .tup cs=>(zm8 cs).map fun vs=>.tuple vs.toArray
 | _=>none
def zm8:List AV->Option (List Value)
 | []=>some []
 | x::xs=>match val x,zm8 xs with
  | some v,some vs=>some (v::vs)
  | _,_=>none
end
mutual
theorem zf4 (G:Gh) (I:Imm):∀(x:AV) (v:Value),val x=some v->∀y,Den G I x y↔y=v
 | .s l,v,h,y=>by simp only[val,zr.injEq] at h;subst h;simp[Den]
 | .i k n,v,h,y=>by simp only[val,zr.injEq] at h;subst h;simp[Den]
 | .b x,v,h,y=>by simp only[val,zr.injEq] at h;subst h;simp[Den]
 | .agg cs,v,h,y=>by
  simp only[val] at h
  split at h
  ·rename_i vs h1
   split at h
   ·rename_i h2;injection h with h;subst h
    simp only[Den]
    constructor
    ·rintro⟨ys,rfl,k1,_⟩;rw[(zcg G I cs vs h1 ys).1 k1]
    ·rintro rfl;exact⟨vs,rfl,(zcg G I cs vs h1 vs).2 rfl,fun u hu=>(List.all_eq_true.1 h2) u hu⟩
   ·cases h
  ·cases h
 | .tup cs,v,h,y=>by
  simp only[val,Option.map_eq_some_iff] at h;obtain⟨vs,h1,rfl⟩:=h;simp only[Den]
  constructor
  ·rintro⟨ys,rfl,k1⟩;rw[(zcg G I cs vs h1 ys).1 k1]
  ·rintro rfl;exact⟨vs,rfl,(zcg G I cs vs h1 vs).2 rfl⟩
 | .p _ _,v,h,y=>by simp[val] at h
 | .row _ _,v,h,y=>by simp[val] at h
 | .prow _ _,v,h,y=>by simp[val] at h
 | .orow _ _,v,h,y=>by simp[val] at h
 | .porow _ _ _,v,h,y=>by simp[val] at h
 | .bsl _ _ _,v,h,y=>by simp[val] at h
 | .m _,v,h,y=>by simp[val] at h
 | .zn _,v,h,y=>by simp[val] at h
 | .nil,v,h,y=>by simp[val] at h
 | .fn _ _ _,v,h,y=>by simp[val] at h
 | .o _,v,h,y=>by simp[val] at h
 | .u,v,h,y=>by simp[val] at h
theorem zcg (G:Gh) (I:Imm):∀(xs:List AV) (vs:List Value),zm8 xs=some vs->∀ys,zaj G I xs ys↔ys=vs
 | [],vs,h,ys=>by simp only[zm8,zr.injEq] at h;subst h;simp[zaj]
 | x::xs,vs,h,ys=>by
  simp only[zm8] at h
  split at h
  ·rename_i v vs' h1 h2;injection h with h;subst h
   simp only[zaj]
   constructor
   ·rintro⟨y,ys',rfl,k1,k2⟩;rw[(zf4 G I x v h1 y).1 k1,(zcg G I xs vs' h2 ys').1 k2]
   ·rintro rfl;exact⟨v,vs',rfl,(zf4 G I x v h1 v).2 rfl,(zcg G I xs vs' h2 vs').2 rfl⟩
  ·cases h
end
section
variable {P:Program} [Tabs P] {f:FuncId} {args:List AV} {vs:List Value} {r:AV} {v:Value} {objs:List OB} {K:List OB->AV->Prop}
theorem conv (ha:zm8 args=some vs) (hr:val r=some v) (h:∀w,Calls P f vs.toArray w fun e w'=>e=.returned v/\Qb w w') (hk:K objs r):zaf P f args objs K :=
 zks r hk fun G I w ys hm hd=>by
  rw[(zcg G I args vs ha ys).1 hd];exact⟨v,h w,(zf4 G I r v hr v).2 rfl⟩
theorem zmR (ha:zm8 args=some vs) (hr:val r=some v) (h:∀w,Calls P f vs.toArray w fun e w'=>e=.returned v/\w=w') (hk:K objs r):zaf P f args objs K :=
 conv ha hr (fun w=>(h w).mono (by rintro e w' ⟨rfl,rfl⟩;exact⟨rfl,Qb.refl _⟩)) hk
theorem convT (ha:zm8 args=some vs) (hr:val r=some v) (h:∀w,Tabs.T (P:=P) w->Calls P f vs.toArray w fun e w'=>e=.returned v/\Qb w w') (hk:K objs r):zaf P f args objs K :=
 zhF r hk fun G I w ys hT hm hd=>by
  rw[(zcg G I args vs ha ys).1 hd];exact⟨v,h w hT,(zf4 G I r v hr v).2 rfl⟩
end
end Go.Proofs.YtceenajkieomoaaGreatDoor
namespace Go.Proofs.YtceenajkieomoaaGreatDoor
open Sx
theorem gn1 (l:List OB) (x:OB):(l++[x])[l.length]? = some x:=by simp
theorem sn1 (l:List OB) (x y:OB):(l++[x]).set l.length y=l++[y]:=by simp
theorem gn20 (l:List OB) (x y:OB):(l++[x]++[y])[l.length]? = some x:=by simp
theorem gn21 (l:List OB) (x y:OB):(l++[x]++[y])[l.length+1]? = some y:=by simp
end Go.Proofs.YtceenajkieomoaaGreatDoor
namespace Go.Proofs.YtceenajkieomoaaGreatDoor
open Go.RowKit
open Lib renaming hid->zb
open Nat renaming zero_le->zd
theorem nor_32:∀n:Fin 256,(97<=n.val/\n.val<=102\/65<=n.val/\n.val<=70)->bits .or .u8 ((n.val:Nat):Int) 32=(((if n.val<=70 then n.val+32 else n.val):Nat):Int):=by decide +kernel
theorem all_at {p:UInt8->Bool} {s:ByteArray} (h:s.data.toList.all p=true) (k:Nat) (hk:k<s.size):p s[k]=true:=by
 rw[List.all_eq_true] at h;exact h _ (by rw[<-zpe s k hk,List.getD_eq_getElem?_getD,List.getElem?_eq_getElem (by rw[zal];exact hk)];exact List.getElem_mem _)
theorem zmA {c:UInt8} (h:zaT c=true):(48<=c.toNat/\c.toNat<=57/\dvN c=c.toNat - 48)\/(57<c.toNat/\∃x:Int,bits .or .u8 (c.toNat:Int) 32=x/\97<=x/\x<=102/\x - 97+10=dvN c):=by
 have h3:=hexC h
 by_cases hd:c.toNat<=57
 ·refine .inl ⟨by omega,hd,?_⟩;unfold dvN;rw[if_pos hd]
 ·have h4:97<=c.toNat/\c.toNat<=102\/65<=c.toNat/\c.toNat<=70:=by omega
  refine .inr ⟨by omega,_,nor_32 ⟨c.toNat,c.toNat_lt⟩ h4,?_,?_,?_⟩
  all_goals simp only[dvN]
  all_goals (repeat' split)
  all_goals omega
theorem zkA {M d:Nat} (hM:(M:Int)<=18446744073709551615) (hd:d<16) (h:M<d):∃y:Int,IntKind.u64.wrap ((M:Int) - (d:Int))=y/\1000<y:=by
 refine⟨_,rfl,?_⟩;rw[IntKind.wrap_u64];omega
set_option maxHeartbeats 4000000 in
theorem ziT (s:ByteArray) (most:Int) (w:World) (hs:s.size<=maxLen) (h0:0<=most) (h1:most<=18446744073709551615) :
  Calls Tryz.prog 148 #[.string s,.int .u64 16,.int .u64 most] w fun e w'=>e=.returned (numV (zfF zaT 16 most.toNat s.data.toList))/\w=w':=by
 unfold maxLen at hs;obtain⟨M,rfl⟩:=Int.eq_ofNat_of_zero_le h0;rw[Int.toNat_natCast];clear h0
 by_cases h0:s.size=0
 ·obtain rfl:s=S []:=S_nil_of h0;clear h0 hs
  go_enter Tryz.func148,Tryz.ntmps148
  go_wp2_with fail
  go_ret2
  exact⟨rfl,rfl⟩
 ·have hne:s.data.toList≠[]:=fun e=>h0 (by rw[<-zal,e];rfl);have HE:=zb hne;have he1:s.toList.isEmpty=false:=by rw[ByteArray.toList_eq];simpa using hne
  have hpos:0<s.size:=by omega
  clear h0 hne
  go_enter Tryz.func148,Tryz.ntmps148
  go_wp2_with fail
  go_loop [8] (fun i=>∃k:Nat,k<=s.size/\i=.int .i64 k/\Hid ((s.data.toList.take k).all zaT=true)) (fun i=>s.size - (intOf i).toNat)
  case atStart=>exact⟨0,zd _,rfl,zb rfl⟩
  case round=>
   obtain⟨k,hk,rfl,HA⟩:=hrel
   by_cases hlt:k<s.size
   ·rcases hp:zaT s[k] with _|_
    ·have HB:Hid (s.data.toList.all zaT=false):=zb (zg1 _ _ (k+1) (by rw[zmg _ _ _ hlt,hp,Bool.and_false]));have HP:=zb hp;clear hp
     go_wp2_with fail
     refine(zdb _ _).mono ?_;rintro e w' ⟨rfl,rfl⟩;rw[HP.out]
     go_wp2_with fail
     go_ret2
     exact⟨by unfold zfF;rw[zmU HE.out HB.out,if_neg (by decide)];rfl,rfl⟩
    ·have HB:Hid ((s.data.toList.take (k+1)).all zaT=true):=zb (by rw[zmg _ _ _ hlt,hp,HA.out];rfl);have HP:=zb hp;clear hp
     go_wp2_with fail
     refine(zdb _ _).mono ?_;rintro e w' ⟨rfl,rfl⟩;rw[HP.out]
     go_wp2_with fail
     go_round
     case rel=>exact⟨k+1,by omega,by go_num,HB⟩
     case measure=>simp[intOf];omega
   ·have HB:Hid (s.data.toList.all zaT=true):=zb (by rw[<-zky s k hlt];exact HA.out);have HQ:Hid (zfF zaT 16 M s.data.toList=zmm 16 M s.data.toList):=zb (by unfold zfF;rw[zp1 HE.out HB.out,if_pos rfl]);have HH:Hid (s.data.toList.all zaT=true):=zb HB.out;clear HA HB
    go_wp2_with fail
    go_loop [9,10,11] (fun n i _=>∃k m:Nat,k<=s.size/\m<=M/\i=.int .i64 k/\n=.int .u64 m/\Hid (zhN 16 M s.data.toList 0=zhN 16 M (s.data.toList.drop k) m)) (fun _ i _=>s.size - (intOf i).toNat)
    case atStart=>exact⟨0,0,zd _,zd _,rfl,rfl,zb rfl⟩
    case round=>
     obtain⟨k,m,hk,hm,rfl,rfl,HV⟩:=hrel
     by_cases hlt:k<s.size
     ·have hx:=all_at HH.out k hlt;have hd16:=dvN_lt hx;have hcs:=zmA hx;have HC:Hid (zhN 16 M (s.data.toList.drop k) m=if m*16+dvN s[k]<=M then zhN 16 M (s.data.toList.drop (k+1)) (m*16+dvN s[k]) else none):=zb (by rw[za9 s k hlt];rfl);clear hx;generalize hdv:dvN s[k]=d at *;clear hdv;rcases hcs with ⟨c1,c2,hc3⟩|⟨c1,x,hx,hx1,hx2,hx3⟩
      ·have HD:=zb hc3;clear hc3
       by_cases hdm:d<=M
       ·by_cases hok:m*16+d<=M
        ·have HN:Hid (zhN 16 M s.data.toList 0=zhN 16 M (s.data.toList.drop (k+1)) (m*16+d)):=zb (by rw[HV.out,HC.out,if_pos hok]);have e1:(m:Int)<=(M:Int) / 16:=by omega
         have hde:=HD.out;have hdi:(s[k].toNat:Int) - 48=(d:Int):=by omega
         have e2:(m:Int)*16<=(M:Int) - ((s[k].toNat:Int) - 48):=by omega
         have e3:(s[k].toNat:Int) - 48<=(M:Int):=by omega
         have HI:=zb hdi;clear hde hdi
         go_wp2_with fail
         go_round
         case rel=>exact⟨k+1,m*16+d,by omega,hok,by go_num,congrArg (Value.int .u64) (by have:=HI.out;omega),HN⟩
         case measure=>simp[intOf];omega
        ·have HN:Hid (zhN 16 M s.data.toList 0=none):=zb (by rw[HV.out,HC.out,if_neg hok])
         by_cases e1:(m:Int)<=(M:Int) / 16
         ·have hde:=HD.out;have e2:(M:Int) - ((s[k].toNat:Int) - 48)<(m:Int)*16:=by omega
          have e3:(s[k].toNat:Int) - 48<=(M:Int):=by omega
          have e4:(m:Int)*16<=18446744073709551615:=by omega
          clear hde hok
          go_wp2_with fail
          go_ret2
          exact⟨by rw[HQ.out];unfold zmm;rw[HN.out];rfl,rfl⟩
         ·have e2:(M:Int) / 16<(m:Int):=by omega
          clear e1 hok
          go_wp2_with fail
          go_ret2
          exact⟨by rw[HQ.out];unfold zmm;rw[HN.out];rfl,rfl⟩
       ·have HN:Hid (zhN 16 M s.data.toList 0=none):=zb (by rw[HV.out,HC.out,if_neg (by omega)])
        by_cases e1:(m:Int)<=(M:Int) / 16
        ·have hde:=HD.out;obtain⟨y,hy,hy1⟩:=zkA h1 hd16 (by omega:M<d);have hdi:(d:Int)=(s[k].toNat:Int) - 48:=by omega
         rw[hdi] at hy;have e3:(M:Int)<(s[k].toNat:Int) - 48:=by omega
         have e4:(m:Int)*16<=1000:=by omega
         clear hde hdi hdm
         go_wp2_with fail
         go_ret2
         exact⟨by rw[HQ.out];unfold zmm;rw[HN.out];rfl,rfl⟩
        ·have e2:(M:Int) / 16<(m:Int):=by omega
         clear e1 hdm
         go_wp2_with fail
         go_ret2
         exact⟨by rw[HQ.out];unfold zmm;rw[HN.out];rfl,rfl⟩
      ·have HD:=zb hx3;have c3:(10:Int)<=d:=by omega
       clear hx3
       by_cases hdm:d<=M
       ·by_cases hok:m*16+d<=M
        ·have HN:Hid (zhN 16 M s.data.toList 0=zhN 16 M (s.data.toList.drop (k+1)) (m*16+d)):=zb (by rw[HV.out,HC.out,if_pos hok]);have e1:(m:Int)<=(M:Int) / 16:=by omega
         have hde:=HD.out;have hdi:x - 97+10=(d:Int):=by omega
         have e2:(m:Int)*16<=(M:Int) - (x - 97+10):=by omega
         have e3:x - 97+10<=(M:Int):=by omega
         have HI:=zb hdi;clear hde hdi
         go_wp2_with fail
         go_round
         case rel=>exact⟨k+1,m*16+d,by omega,hok,by go_num,congrArg (Value.int .u64) (by have:=HI.out;omega),HN⟩
         case measure=>simp[intOf];omega
        ·have HN:Hid (zhN 16 M s.data.toList 0=none):=zb (by rw[HV.out,HC.out,if_neg hok])
         by_cases e1:(m:Int)<=(M:Int) / 16
         ·have hde:=HD.out;have e2:(M:Int) - (x - 97+10)<(m:Int)*16:=by omega
          have e3:x - 97+10<=(M:Int):=by omega
          have e4:(m:Int)*16<=18446744073709551615:=by omega
          clear hde hok
          go_wp2_with fail
          go_ret2
          exact⟨by rw[HQ.out];unfold zmm;rw[HN.out];rfl,rfl⟩
         ·have e2:(M:Int) / 16<(m:Int):=by omega
          clear e1 hok
          go_wp2_with fail
          go_ret2
          exact⟨by rw[HQ.out];unfold zmm;rw[HN.out];rfl,rfl⟩
       ·have HN:Hid (zhN 16 M s.data.toList 0=none):=zb (by rw[HV.out,HC.out,if_neg (by omega)])
        by_cases e1:(m:Int)<=(M:Int) / 16
        ·have hde:=HD.out;obtain⟨y,hy,hy1⟩:=zkA h1 hd16 (by omega:M<d);have hdi:(d:Int)=x - 97+10:=by omega
         rw[hdi] at hy;have e3:(M:Int)<x - 97+10:=by omega
         have e4:(m:Int)*16<=1000:=by omega
         clear hde hdi hdm
         go_wp2_with fail
         go_ret2
         exact⟨by rw[HQ.out];unfold zmm;rw[HN.out];rfl,rfl⟩
        ·have e2:(M:Int) / 16<(m:Int):=by omega
         clear e1 hdm
         go_wp2_with fail
         go_ret2
         exact⟨by rw[HQ.out];unfold zmm;rw[HN.out];rfl,rfl⟩
     ·have HN:Hid (zhN 16 M s.data.toList 0=some m):=zb (by rw[HV.out,List.drop_of_length_le (by rw[zal];omega)];rfl)
      go_wp2_with fail
      go_ret2
      exact⟨by rw[HQ.out];unfold zmm;rw[HN.out];rfl,rfl⟩
theorem rHex_any (s:ByteArray) (most:Int) (w:World) (hs:s.size<=maxLen) (h0:0<=most) (h1:most<=18446744073709551615) :
  Calls Tryz.prog 132 #[.string s,.int .u64 most] w fun e w'=>e=.returned (numV (zfF zaT 16 most.toNat s.data.toList))/\w=w':=by
 go_enter Tryz.func132,Tryz.ntmps132
 go_wp2_with fail
 refine(ziT s most _ hs h0 h1).mono ?_;rintro e w' ⟨rfl,rfl⟩;unfold numV
 go_wp2_with fail
 go_ret2
 exact⟨rfl,rfl⟩
open Go.Sort
def Pw (w : World) : Prop := Lib.TabIs Tryz.prog w "internal/strconv.uint64pow10" .u64 Lib.pow10Tab
theorem Pw.keep {w w':World} (h:Pw w) (hq:Qb w w'):Pw w':=Lib.tabBelow_of_tabIs h w' hq
theorem Pw.drew {w:World} (h:Pw w):Pw w.drew:=h
theorem Pw.alloc {w:World} (h:Pw w) (o:Obj):Pw (w.alloc o):=Lib.tabIs_alloc h o
end Go.Proofs.YtceenajkieomoaaGreatDoor
namespace Go.Proofs.YtceenajkieomoaaGreatDoor
open Go.RowKit
open Lib renaming decDigits->xe, hid->zb
theorem str_cons (x:Nat) (t:List UInt8):(strOfNums [48+(x:Int)]++S t:ByteArray)=S (UInt8.ofNat (48+x)::t):=by
 rw[<-S_of (strOfNums [48+(x:Int)]++S t),ByteArray.data_append,Array.toList_append,strOfNums_data];have:(48+(x:Int)).toNat=48+x:=by omega
 simp[this]
set_option maxHeartbeats 1000000 in
theorem ziW (u:Nat) (hu64:u<18446744073709551616) (w:World) :
  Calls Tryz.prog 87 #[.int .u64 u] w fun e w'=>e=.returned (.string (S (xe u)))/\Qb w w':=by
 go_enter Tryz.func87,Tryz.ntmps87
 go_wp2_with fail
 go_loopw [0,3] (fun n s wr=>∃(m:Nat) (t:List UInt8),m<=u/\n=.int .u64 m/\s=.string (S t)/\Hid (xe u=xe m++t)/\Qb w wr) (fun n _ _=>(intOf n).toNat)
 case atStart=>exact⟨u,[],Nat.le_refl _,rfl,rfl,zb (by simp),Qb.refl w⟩
 case round=>
  obtain⟨m,t,hm,rfl,rfl,HD,hq⟩:=hrel;have hst:=zeR wr [48+(m:Int) % 10] 1 rfl;simp only[List.map_cons,List.map_nil] at hst;have HC:Hid ((strOfNums [48+(m:Int) % 10]++S t:ByteArray)=S (UInt8.ofNat (48+m % 10)::t)):=zb (str_cons (m % 10) t);have hsz:(S t).size<=30:=by
   have h1:=congrArg List.length HD.out;rw[List.length_append,Lib.decDigits_length] at h1;have h2:=Lib.nDigits_le20 u hu64;rw[zcb];omega
  have hsx:(strOfNums [48+(m:Int) % 10]).size<=1:=by rw[<-zal,strOfNums_data];simp
  by_cases h10:m<10
  ·have HN:Hid (xe u=UInt8.ofNat (48+m % 10)::t):=zb (by rw[HD.out,dec_one h10,Nat.mod_eq_of_lt h10];rfl);have hz:((m:Int) / 10==0)=true:=by rw[beq_iff_eq];omega
   clear HD
   go_wp2_with fail
   go_ret
   exact⟨znR (by rw[HN.out,HC.out]),hq.alloc _⟩
  ·have HN:Hid (xe u=xe (m / 10)++(UInt8.ofNat (48+m % 10)::t)):=zb (by rw[HD.out,dec_more h10,List.append_assoc];rfl);have hz:((m:Int) / 10==0)=false:=by rw[beq_eq_false_iff_ne];omega
   clear HD
   go_wp2_with fail
   go_roundw
   case rel=>exact⟨m / 10,_,by omega,by go_num,congrArg Value.string HC.out,HN,hq.alloc _⟩
   case measure=>simp[intOf];omega
end Go.Proofs.YtceenajkieomoaaGreatDoor
