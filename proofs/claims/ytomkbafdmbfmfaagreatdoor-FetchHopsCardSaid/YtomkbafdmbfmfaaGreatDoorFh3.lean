/- The texts that the proofs of these statements reach, in their order, as few files. -/
import Derived.Shelf.Strings.Builder1
import Derived.Shelf.Strings.Builder2
import Derived.Shelf.Strings.OnBuilder
import Derived.Shelf.Small.Strs
import Derived.Shelf.Small.Wraps
import Derived.Shelf.Strings.BuilderF
import Derived.Shelf.Strings.BuilderK
import Derived.Shelf.Utf8.RuneCount
import Derived.Shelf.Strings.Builder2Cap
import Derived.Shelf.Strconv.Itoa0
import Derived.Shelf.Strconv.Itoa1
import Derived.Shelf.LaysM
import Derived.Shelf.Strconv.Itoa2
import Derived.Shelf.Strconv.Itoa3
import Derived.Shelf.Strings.Search1
import Derived.Shelf.Strings.Search2
import Derived.Shelf.Strings.Search3
import Derived.Shelf.Strings.Cut
import Derived.Shelf.Strings.Count
import Derived.Shelf.Strings.Shaped
import Derived.Shelf.Strings.LastIndex
import Derived.Shelf.Strings.Prefix
import Derived.Shelf.Strings.Split
import Derived.Shelf.Strings.SplitShaped
import Derived.Shelf.Unicode.Decode
import Derived.Shelf.Strings.RuneCount
import Derived.Shelf.Strings.Explode
import Derived.Shelf.Unicode.DecodeSlow
import Derived.Shelf.Unicode.DecodeAny
import Derived.Shelf.Strings.BuilderCap
import Derived.Ground.PaProg
import Derived.Shelf.Path.Small
import Derived.Test.YtomkbafdmbfmfaaGreatDoorProg
import Derived.WalkKit
import Derived.WalkLawsBesides
import Derived.WalkSmall
import Derived.WalkSpells
import Derived.Lib.Hide
import Derived.Lib.IndexAny
import Derived.ShutString
import Derived.Lib.Strings
import Derived.Deep.QuietTactic
import Derived.BigQuiet
import Derived.Laws.BytesArg
import Derived.Laws.IdiomStrings
import Derived.Lib.ConvBytes
import Derived.Lib.AppendStr
import Derived.Lib.LaidTab
import Derived.Lib.ItoaNum
import Derived.ChangeAgain
import Derived.Laws.Rows
import Derived.Lib.ItoaMem
import Derived.Lib.ItoaLen
import Derived.Lib.Walk
import Derived.Lib.ItoaWalk
import Derived.Lib.AppendIntMem
import Derived.BigCall
import Derived.BigGuard
import Derived.Test.YtomkbafdmbfmfaaGreatDoorFh2
set_option linter.unusedVariables false
set_option linter.unusedSimpArgs false
set_option maxRecDepth 100000
namespace Go.Proofs.YtomkbafdmbfmfaaGreatDoor.Sx
open Go.RowKit
open List renaming replicate->qs
inductive IT where
 | code (c:SCode)
 | ops (l:List SO)
 | dops (l:List SO)
 | ap (l:List (Nat×Nat×Option (Nat×Bool)))
 | blk (id:Nat)
def zld (P:Program) [Tabs P] (C:Cx) (F:zaP):List IT->zaP
 | []=>F
 | .code c::k=>zed (fun o t=>wpC P C c (zld P C F k) o t) (zld P C F k)
 | .ops l::k=>zed (fun o t=>wpR P l o t fun o t=>zld P C F k .normal o t) (zld P C F k)
 | .dops l::k=>zed (fun o t=>wpD P l o t fun o t=>zld P C F k .normal o t) (zld P C F k)
 | .ap l::k=>zed (fun o t=>zgc l t/\zld P C F k .normal o t) (zld P C F k)
 | .blk id::k=>blkK id (zld P C F k)
def run (P:Program) [Tabs P] (C:Cx) (k:List IT) (objs:List OB) (tm:List AV) (F:zaP):Prop:=zld P C F k .normal objs tm
def xit (P:Program) [Tabs P] (C:Cx) (id:Nat) (k:List IT) (objs:List OB) (tm:List AV) (F:zaP):Prop:=zld P C F k (.exit id) objs tm
def loopF (P:Program) [Tabs P] (C:Cx) (J:Nat->List OB->List AV->Prop) (n:Nat) (k:List IT) (F:zaP):zaP:=zed (fun o t=>∃m,m<n/\J m o t) (zld P C F k)
def evs (tm:List AV):List SV->List AV
 | []=>[]
 | x::xs=>x.ev tm::evs tm xs
theorem ze6 (tm:List AV):∀l:List SV,evs tm l=l.map fun x=>x.ev tm
 | []=>rfl
 | x::l=>by rw[evs,ze6 tm l];rfl
def evp (tm:List AV):List (Nat×Nat×SV)->List (Nat×Nat×AV)
 | []=>[]
 | (o,s,x)::xs=>(o,s,x.ev tm)::evp tm xs
theorem zkR (tm:List AV):∀l:List (Nat×Nat×SV),evp tm l=l.map fun p=>(p.1,p.2.1,p.2.2.ev tm)
 | []=>rfl
 | (o,s,x)::l=>by rw[evp,zkR tm l];rfl
def bxs:Option OB->Option (List AV)
 | some (.box _ cs)=>some cs
 | _=>none
theorem zpk (T:TypeId) (cs:List AV):bxs (some (.box T cs))=some cs:=Eq.trans rfl rfl
section
variable {P:Program} [Tabs P] {C:Cx} {F:zaP} {k:List IT} {r:List SO} {objs:List OB} {tm:List AV} {d:Option Nat}
theorem rn_nil:run P C [] objs tm F=F .normal objs tm:=Eq.trans rfl rfl
theorem rn_seq (x y:SCode):run P C (.code (.seq x y)::k) objs tm F=run P C (.code x::.code y::k) objs tm F:=Eq.trans rfl rfl
theorem zmL:run P C (.code .skip::k) objs tm F=run P C k objs tm F:=Eq.trans rfl rfl
theorem rn_reg (l:List SO):run P C (.code (.reg l)::k) objs tm F=run P C (.ops l::k) objs tm F:=Eq.trans rfl rfl
theorem rn_ap (l:List (Nat×Nat×Option (Nat×Bool))):run P C (.ap l::k) objs tm F=(zgc l tm/\run P C k objs tm F):=Eq.trans rfl rfl
theorem apOk_n:zgc [] tm=True:=Eq.trans rfl rfl
theorem apOk_c (s s':Nat) (g:Option (Nat×Bool)) (l:List (Nat×Nat×Option (Nat×Bool))):zgc ((s,s',g)::l) tm=((if s'<1000000 then apG g tm (zd7 tm[s]? tm[s']?) else apS tm[s]? tm[s' - 1000000]?)/\zgc l tm):=Eq.trans rfl rfl
theorem apG_n (p:Prop):apG none tm p=p:=Eq.trans rfl rfl
theorem apG_s (g:Nat) (b:Bool) (p:Prop):apG (some (g,b)) tm p=apB tm[g]? b p:=Eq.trans rfl rfl
theorem apB_tt (p:Prop):apB (some (.b true)) true p=p:=Eq.trans rfl rfl
theorem apB_ff (p:Prop):apB (some (.b false)) false p=p:=Eq.trans rfl rfl
theorem apB_tf (p:Prop):apB (some (.b true)) false p=True:=Eq.trans rfl rfl
theorem apB_ft (p:Prop):apB (some (.b false)) true p=True:=Eq.trans rfl rfl
theorem apS_o (b g j b' g' j':Nat):apS (some (.porow b g j)) (some (.porow b' g' j'))=(¬b=b'):=Eq.trans rfl rfl
theorem apS_p (b g j b' o':Nat):apS (some (.porow b g j)) (some (.p b' o'))=(¬b=b'):=Eq.trans rfl rfl
theorem zlk (b o b' g':Nat):zd7 (some (.p b o)) (some (.orow b' g'))=(¬b=b'):=Eq.trans rfl rfl
theorem zlj (b o b' g' j':Nat):zd7 (some (.p b o)) (some (.porow b' g' j'))=(¬b=b'):=Eq.trans rfl rfl
theorem zli (xs:List AV) (j b' g':Nat):zd7 (some (.prow xs j)) (some (.orow b' g'))=True:=Eq.trans rfl rfl
theorem zlh (xs:List AV) (j b' g' j':Nat):zd7 (some (.prow xs j)) (some (.porow b' g' j'))=True:=Eq.trans rfl rfl
theorem zps (b o b' o':Nat):zd7 (some (.p b o)) (some (.p b' o'))=(¬b=b'):=Eq.trans rfl rfl
theorem zpr (xs:List AV) (j b' o':Nat):zd7 (some (.prow xs j)) (some (.p b' o'))=True:=Eq.trans rfl rfl
theorem rn_drw (l:List SO) (n:Nat) (ap:List (Nat×Nat×Option (Nat×Bool))):run P C (.code (.drw l n ap)::k) objs tm F=run P C (.dops (l.take n)::.ap ap::.ops (l.drop n)::k) objs tm F:=Eq.trans rfl rfl
theorem rn_crg (pre:List SO) (cl:SO) (post:List SO):run P C (.code (.crg pre cl post)::k) objs tm F=run P C [.ops pre] objs tm (fun _ _ t1=>run P C [.ops [cl]] objs t1 (fun _ o2 t2=>run P C [.ops pre] o2 tm (fun _ _ t=>t=t1)/\run P C (.ops post::k) o2 t2 F)):=Eq.trans rfl rfl
def rcr (P:Program) [Tabs P] (C:Cx):List (List SO×List AV×List AV)->List OB->Prop
 | [],_=>True
 | e::r,o=>run P C [.ops e.1] o e.2.1 (fun _ _ x=>x=e.2.2)/\rcr P C r o
def rst (P:Program) [Tabs P] (C:Cx) (st:List (List SO×SO)) (hist:List (List SO×List AV×List AV)) (last:List SO) (k:List IT) (objs:List OB) (tm:List AV) (F:zaP):Prop:=wpT P st hist last objs tm fun o t=>run P C k o t F
theorem rcr_n (o:List OB):rcr P C [] o=True:=Eq.trans rfl rfl
theorem rcr_c (L:List SO) (b u:List AV) (h:List (List SO×List AV×List AV)) (o:List OB):rcr P C ((L,b,u)::h) o=(run P C [.ops L] o b (fun _ _ x=>x=u)/\rcr P C h o):=Eq.trans rfl rfl
theorem zjZ:∀(h:List (List SO×List AV×List AV)) (o:List OB),zbv P h o=rcr P C h o
 | [],o=>rfl
 | e::h,o=>by
  unfold zbv rcr;rw[zjZ h o]
  rfl
theorem rn_crs (st:List (List SO×SO)) (last:List SO):run P C (.code (.crs st last)::k) objs tm F=rst P C st [] last k objs tm F:=Eq.trans rfl rfl
theorem rst_n (h:List (List SO×List AV×List AV)) (last:List SO):rst P C [] h last k objs tm F=run P C (.ops last::k) objs tm F:=Eq.trans rfl rfl
theorem rst_c (L:List SO) (c:SO) (st:List (List SO×SO)) (h:List (List SO×List AV×List AV)) (last:List SO):rst P C ((L,c)::st) h last k objs tm F=run P C [.ops L] objs tm (fun _ _ u=>run P C [.ops [c]] objs u (fun _ o' t'=>rcr P C ((L,tm,u)::h) o'/\rst P C st ((L,tm,u)::h) last k o' t' F)):=by
 rw[show rst P C ((L,c)::st) h last k objs tm F=wpR P L objs tm (fun _ u=>wpR P [c] objs u fun o' t'=>zbv P ((L,tm,u)::h) o'/\wpT P st ((L,tm,u)::h) last o' t' fun o t=>run P C k o t F) from rfl];simp only[zjZ (C:=C)]
 rfl
def rsb (P:Program) [Tabs P] (C:Cx) (d:Nat) (T:TypeId) (z:List AV) (sr:SO) (st:List (List SO×SO)) (hist:List (List SO×List AV×List AV)) (last:List SO) (k:List IT) (objs:List OB) (tm:List AV) (F:zaP):Prop:=wpB P d T z st hist last objs tm fun o t=>wpR P [sr] o t fun o t=>run P C k o t F
theorem hsV_n (d:Nat) (p:AV):hsV d p []=[]:=Eq.trans rfl rfl
theorem hsV_c (d:Nat) (p:AV) (L:List SO) (b u:List AV) (h:List (List SO×List AV×List AV)):hsV d p ((L,b,u)::h)=(L,b.set d p,u.set d p)::hsV d p h:=Eq.trans rfl rfl
theorem rn_cra (d:Nat) (T:TypeId) (z:List AV) (st:List (List SO×SO)) (last:List SO) (sr:SO):run P C (.code (.cra d T z st last sr)::k) objs tm F=(tm.length<=1000003/\rsb P C d T z sr st [] last k objs tm F):=Eq.trans rfl rfl
theorem rsb_n (d:Nat) (T:TypeId) (z:List AV) (sr:SO) (h:List (List SO×List AV×List AV)) (last:List SO):rsb P C d T z sr [] h last k objs tm F=run P C [.ops last] objs tm (fun _ _ u=>rcr P C (hsV d (.p objs.length 0) ((last,tm,u)::h)) (objs++[.box T z])/\run P C (.ops [sr]::k) (objs++[.box T z]) (u.set d (.p objs.length 0)) F):=by
 rw[show rsb P C d T z sr [] h last k objs tm F=wpR P last objs tm (fun _ u=>zbv P (hsV d (.p objs.length 0) ((last,tm,u)::h)) (objs++[.box T z])/\wpR P [sr] (objs++[.box T z]) (u.set d (.p objs.length 0)) fun o t=>run P C k o t F) from rfl];simp only[zjZ (C:=C)]
 rfl
theorem rsb_c (d:Nat) (T:TypeId) (z:List AV) (sr:SO) (L:List SO) (c:SO) (st:List (List SO×SO)) (h:List (List SO×List AV×List AV)) (last:List SO):rsb P C d T z sr ((L,c)::st) h last k objs tm F=run P C [.ops L] objs tm (fun _ _ u=>(rcr P C (hsV d (.p objs.length 0) ((L,tm,u)::h)) (objs++[.box T z])/\run P C [.ops [c]] (objs++[.box T z]) (u.set d (.p objs.length 0)) (fun _ o' t'=>rcr P C (hsV d (.p objs.length 0) ((L,tm,u)::h)) o'/\rst P C st (hsV d (.p objs.length 0) ((L,tm,u)::h)) last (.ops [sr]::k) o' t' F))/\run P C [.ops [c]] objs u (fun _ o' t'=>rcr P C ((L,tm,u)::h) o'/\rsb P C d T z sr st ((L,tm,u)::h) last k o' t' F)):=by
 rw[show rsb P C d T z sr ((L,c)::st) h last k objs tm F=wpR P L objs tm (fun _ u=>(zbv P (hsV d (.p objs.length 0) ((L,tm,u)::h)) (objs++[.box T z])/\wpR P [c] (objs++[.box T z]) (u.set d (.p objs.length 0)) (fun o' t'=>zbv P (hsV d (.p objs.length 0) ((L,tm,u)::h)) o'/\wpT P st (hsV d (.p objs.length 0) ((L,tm,u)::h)) last o' t' fun o t=>wpR P [sr] o t fun o t=>run P C k o t F))/\wpR P [c] objs u (fun o' t'=>zbv P ((L,tm,u)::h) o'/\wpB P d T z st ((L,tm,u)::h) last o' t' fun o t=>wpR P [sr] o t fun o t=>run P C k o t F)) from rfl];simp only[zjZ (C:=C)]
 rfl
theorem zgt (id:Nat) (c:SCode):run P C (.code (.blk id c)::k) objs tm F=run P C (.code c::.blk id::k) objs tm F:=Eq.trans rfl rfl
theorem zjS (id:Nat):run P C (.blk id::k) objs tm F=run P C k objs tm F:=Eq.trans rfl rfl
theorem zgs:run P C (.ops []::k) objs tm F=run P C k objs tm F:=Eq.trans rfl rfl
theorem zfE:run P C (.dops []::k) objs tm F=run P C k objs tm F:=Eq.trans rfl rfl
theorem zcD:∀(k:List IT),zld P C F k .ret objs tm=F .ret objs tm
 | []=>rfl
 | .code c::k=>zcD k
 | .ops l::k=>zcD k
 | .dops l::k=>zcD k
 | .ap l::k=>zcD k
 | .blk id::k=>zcD k
theorem rn_ret:run P C (.code .ret::k) objs tm F=F .ret objs tm:=zcD k
theorem zmW:run P C (.code .dead::k) objs tm F=False:=Eq.trans rfl rfl
theorem zmV (id:Nat):run P C (.code (.exit id)::k) objs tm F=xit P C id k objs tm F:=Eq.trans rfl rfl
theorem zmj (id:Nat):xit P C id [] objs tm F=F (.exit id) objs tm:=Eq.trans rfl rfl
theorem zjB (id:Nat) (c:SCode):xit P C id (.code c::k) objs tm F=xit P C id k objs tm F:=Eq.trans rfl rfl
theorem zmi (id:Nat) (l:List SO):xit P C id (.ops l::k) objs tm F=xit P C id k objs tm F:=Eq.trans rfl rfl
theorem zjA (id:Nat) (l:List SO):xit P C id (.dops l::k) objs tm F=xit P C id k objs tm F:=Eq.trans rfl rfl
theorem xit_ap (id:Nat) (l:List (Nat×Nat×Option (Nat×Bool))):xit P C id (.ap l::k) objs tm F=xit P C id k objs tm F:=Eq.trans rfl rfl
theorem zmk (id id':Nat):xit P C id (.blk id'::k) objs tm F=if id=id' then run P C k objs tm F else xit P C id k objs tm F:=Eq.trans rfl rfl
theorem zeY (J:Nat->List OB->List AV->Prop) (n:Nat):loopF P C J n k F .normal objs tm=∃m,m<n/\J m objs tm:=Eq.trans rfl rfl
theorem zdH (J:Nat->List OB->List AV->Prop) (n id:Nat):loopF P C J n k F (.exit id) objs tm=xit P C id k objs tm F:=Eq.trans rfl rfl
theorem zbV (J:Nat->List OB->List AV->Prop) (n:Nat):loopF P C J n k F .ret objs tm=F .ret objs tm:=zcD k
theorem zbi [On P C] {c:SCode} (J:Nat->List OB->List AV->Prop) (n:Nat) (h0:J n objs tm) (round:∀n objs tm,J n objs tm->run P C [.code c] objs tm (loopF P C J n k F)):run P C (.code (.loop c)::k) objs tm F :=
 wps_loop J n h0 round
def kO (P:Program) [Tabs P] (C:Cx) (v:Option AV) (d:Option Nat) (r:List SO) (k:List IT) (objs:List OB) (tm:List AV) (F:zaP):Prop :=
 match v with
 | some v=>run P C (.ops r::k) objs (zan tm d v) F
 | none=>False
theorem zbl (op:SOp):run P C (.ops (⟨d,op,none⟩::r)::k) objs tm F=wpS P op objs tm fun o v=>run P C (.ops r::k) o (zan tm d v) F:=Eq.trans rfl rfl
theorem znT (v:AV):kO P C (some v) d r k objs tm F=run P C (.ops r::k) objs (zan tm d v) F:=Eq.trans rfl rfl
theorem rn_mv (x:SV):run P C (.ops (⟨d,.mv x,none⟩::r)::k) objs tm F=run P C (.ops r::k) objs (zan tm d (x.ev tm)) F:=Eq.trans rfl rfl
def kPick (P:Program) [Tabs P] (C:Cx) (c x y:AV) (d:Option Nat) (r:List SO) (k:List IT) (objs:List OB) (tm:List AV) (F:zaP):Prop :=
 match c with
 | .b t=>(t=true->run P C (.ops r::k) objs (zan tm d x) F)/\(t=false->run P C (.ops r::k) objs (zan tm d y) F)
 | _=>False
theorem znQ (x y:AV):kPick P C (.b true) x y d r k objs tm F=run P C (.ops r::k) objs (zan tm d x) F:=propext ⟨fun h=>h.1 rfl,fun h=>⟨fun _=>h,fun e=>absurd e.symm Bool.false_ne_true⟩⟩
theorem znR (x y:AV):kPick P C (.b false) x y d r k objs tm F=run P C (.ops r::k) objs (zan tm d y) F:=propext ⟨fun h=>h.2 rfl,fun h=>⟨fun e=>absurd e Bool.false_ne_true,fun _=>h⟩⟩
theorem zmM (c x y:SV):run P C (.ops (⟨d,.pick c x y,none⟩::r)::k) objs tm F=kPick P C (c.ev tm) (x.ev tm) (y.ev tm) d r k objs tm F:=Eq.trans rfl rfl
theorem zjX (T:Nat) (z:List AV):run P C (.ops (⟨d,.alloc T z,none⟩::r)::k) objs tm F=run P C (.ops r::k) (objs++[.box T z]) (zan tm d (.p objs.length 0)) F:=Eq.trans rfl rfl
theorem rn_box (T:Nat) (x:SV):run P C (.ops (⟨d,.box T x,none⟩::r)::k) objs tm F=((x.ev tm).flat=true/\run P C (.ops r::k) (objs++[.box T (x.ev tm).cells]) (zan tm d (.p objs.length 0)) F):=Eq.trans rfl rfl
theorem zjW (z:List AV) (ps:List (Nat×Nat×SV)):run P C (.ops (⟨d,.build z ps,none⟩::r)::k) objs tm F=kO P C ((zcQ z (evp tm ps)).map .agg) d r k objs tm F:=by
 rw[zkR];rw[zbl];simp only[wpS]
 cases zcQ z (ps.map fun p=>(p.1,p.2.1,p.2.2.ev tm))<;>rfl
theorem zh4 (n:Nat) (z:List AV) (ps:List (Nat×Nat×SV)):run P C (.ops (⟨d,.bslice n z ps,none⟩::r)::k) objs tm F=kO P C ((zcQ z (evp tm ps)).map (.row n)) d r k objs tm F:=by
 rw[zkR];rw[zbl];simp only[wpS]
 cases zcQ z (ps.map fun p=>(p.1,p.2.1,p.2.2.ev tm))<;>rfl
def kLit (P:Program) [Tabs P] (C:Cx) (c:Option (List AV)) (E sz n:Nat) (d:Option Nat) (r:List SO) (k:List IT) (objs:List OB) (tm:List AV) (F:zaP):Prop :=
 match c with
 | some cs=>cs.length=n*sz/\run P C (.ops r::k) (objs++[.orow E sz 0 n cs]) (zan tm d (.orow objs.length 0)) F
 | none=>False
theorem kLit_s (cs:List AV) (E sz n:Nat):kLit P C (some cs) E sz n d r k objs tm F=(cs.length=n*sz/\run P C (.ops r::k) (objs++[.orow E sz 0 n cs]) (zan tm d (.orow objs.length 0)) F):=Eq.trans rfl rfl
theorem zm1 (E sz n:Nat) (z:List AV) (ps:List (Nat×Nat×SV)):run P C (.ops (⟨d,.bslo E sz n z ps,none⟩::r)::k) objs tm F=kLit P C (zcQ z (evp tm ps)) E sz n d r k objs tm F:=by
 rw[zkR];rw[zbl];simp only[wpS]
 cases zcQ z (ps.map fun p=>(p.1,p.2.1,p.2.2.ev tm))<;>rfl
def kLd1o (P:Program) [Tabs P] (C:Cx) (c:Option OB) (gen j:Nat) (d:Option Nat) (r:List SO) (k:List IT) (objs:List OB) (tm:List AV) (F:zaP):Prop :=
 match c with
 | some (.orow _ _ gen' _ xs)=>gen'=gen/\kO P C xs[j]? d r k objs tm F
 | _=>False
def kLd1 (P:Program) [Tabs P] (C:Cx) (v:AV) (d:Option Nat) (r:List SO) (k:List IT) (objs:List OB) (tm:List AV) (F:zaP):Prop :=
 match v with
 | .p b off=>kO P C ((bxs objs[b]?).bind fun cs=>cs[off]?) d r k objs tm F
 | .prow xs j=>kO P C xs[j]? d r k objs tm F
 | .porow b gen j=>kLd1o P C objs[b]? gen j d r k objs tm F
 | _=>False
theorem zn1 (E sz gen' n gen j:Nat) (xs:List AV):kLd1o P C (some (.orow E sz gen' n xs)) gen j d r k objs tm F=(gen'=gen/\kO P C xs[j]? d r k objs tm F):=Eq.trans rfl rfl
theorem kLd1_o (b gen j:Nat):kLd1 P C (.porow b gen j) d r k objs tm F=kLd1o P C objs[b]? gen j d r k objs tm F:=Eq.trans rfl rfl
theorem kLd1_p (b off:Nat):kLd1 P C (.p b off) d r k objs tm F=kO P C ((bxs objs[b]?).bind fun cs=>cs[off]?) d r k objs tm F:=Eq.trans rfl rfl
theorem kLd1_r (xs:List AV) (j:Nat):kLd1 P C (.prow xs j) d r k objs tm F=kO P C xs[j]? d r k objs tm F:=Eq.trans rfl rfl
theorem zjR (x:SV):run P C (.ops (⟨d,.load1 x,none⟩::r)::k) objs tm F=kLd1 P C (x.ev tm) d r k objs tm F:=by
 rw[zbl];simp only[wpS,kLd1]
 cases x.ev tm<;>try rfl
 case p b off=>
  dsimp only;generalize objs[b]? = q
  cases q with
  | none=>rfl
  | some ob=>
   cases ob<;>try rfl
   all_goals (dsimp only [bxs,Option.bind];split<;>rfl)
 case prow xs j=>
  dsimp only
  cases hx:xs[j]? with
  | none=>simp[kO]
  | some v=>simp[kO]
 case porow b gen j=>
  dsimp only;generalize objs[b]? = q
  cases q with
  | none=>rfl
  | some ob=>
   cases ob<;>try rfl
   rename_i xs;dsimp only [kLd1o]
   cases hx:xs[j]? with
   | none=>simp[kO]
   | some v=>simp[kO]
def kLdn (P:Program) [Tabs P] (C:Cx) (c:Option (List AV)) (off sz:Nat) (d:Option Nat) (r:List SO) (k:List IT) (objs:List OB) (tm:List AV) (F:zaP):Prop :=
 match c with
 | some cs=>off+sz<=cs.length/\run P C (.ops r::k) objs (zan tm d (.agg ((cs.drop off).take sz))) F
 | none=>False
def kLdno (P:Program) [Tabs P] (C:Cx) (c:Option OB) (gen j sz:Nat) (d:Option Nat) (r:List SO) (k:List IT) (objs:List OB) (tm:List AV) (F:zaP):Prop :=
 match c with
 | some (.orow _ _ gen' _ xs)=>(gen'=gen/\j+sz<=xs.length)/\run P C (.ops r::k) objs (zan tm d (.agg ((xs.drop j).take sz))) F
 | _=>False
def kLdv (P:Program) [Tabs P] (C:Cx) (v:AV) (sz:Nat) (d:Option Nat) (r:List SO) (k:List IT) (objs:List OB) (tm:List AV) (F:zaP):Prop :=
 match v with
 | .p b off=>kLdn P C (bxs objs[b]?) off sz d r k objs tm F
 | .prow xs j=>kLdn P C (some xs) j sz d r k objs tm F
 | .porow b gen j=>kLdno P C objs[b]? gen j sz d r k objs tm F
 | _=>False
theorem zn0 (E s gen' n gen j sz:Nat) (xs:List AV):kLdno P C (some (.orow E s gen' n xs)) gen j sz d r k objs tm F=((gen'=gen/\j+sz<=xs.length)/\run P C (.ops r::k) objs (zan tm d (.agg ((xs.drop j).take sz))) F):=Eq.trans rfl rfl
theorem kLdv_o (b gen j sz:Nat):kLdv P C (.porow b gen j) sz d r k objs tm F=kLdno P C objs[b]? gen j sz d r k objs tm F:=Eq.trans rfl rfl
theorem kLdn_s (cs:List AV) (off sz:Nat):kLdn P C (some cs) off sz d r k objs tm F=(off+sz<=cs.length/\run P C (.ops r::k) objs (zan tm d (.agg ((cs.drop off).take sz))) F):=Eq.trans rfl rfl
theorem kLdv_p (b off sz:Nat):kLdv P C (.p b off) sz d r k objs tm F=kLdn P C (bxs objs[b]?) off sz d r k objs tm F:=Eq.trans rfl rfl
theorem kLdv_r (xs:List AV) (j sz:Nat):kLdv P C (.prow xs j) sz d r k objs tm F=kLdn P C (some xs) j sz d r k objs tm F:=Eq.trans rfl rfl
theorem zjQ (sz:Nat) (x:SV):run P C (.ops (⟨d,.loadn sz x,none⟩::r)::k) objs tm F=kLdv P C (x.ev tm) sz d r k objs tm F:=by
 rw[zbl];simp only[wpS,kLdv]
 cases x.ev tm<;>try rfl
 try (case p b off=>
  dsimp only;generalize objs[b]? = q
  cases q with
  | none=>rfl
  | some ob=>cases ob<;>rfl)
 try (case porow b gen j=>
  dsimp only;generalize objs[b]? = q
  cases q with
  | none=>rfl
  | some ob=>cases ob<;>rfl)
def kSt2 (P:Program) [Tabs P] (C:Cx) (c:Option OB) (b off sz:Nat) (v:AV) (d:Option Nat) (r:List SO) (k:List IT) (objs:List OB) (tm:List AV) (F:zaP):Prop :=
 match c with
 | some (.box T cs)=>(v.flat=true/\v.cells.length=sz/\off+sz<=cs.length)/\run P C (.ops r::k) (objs.set b (.box T (za2 cs off v.cells))) (zan tm d .u) F
 | _=>False
def kSt3 (P:Program) [Tabs P] (C:Cx) (c:Option OB) (b gen j sz:Nat) (v:AV) (d:Option Nat) (r:List SO) (k:List IT) (objs:List OB) (tm:List AV) (F:zaP):Prop :=
 match c with
 | some (.orow E s gen' n xs)=>(gen'=gen/\v.flat=true/\v.cells.length=sz/\j+sz<=xs.length)/\run P C (.ops r::k) (objs.set b (.orow E s gen' n (za2 xs j v.cells))) (zan tm d .u) F
 | _=>False
def kSt (P:Program) [Tabs P] (C:Cx) (p v:AV) (sz:Nat) (d:Option Nat) (r:List SO) (k:List IT) (objs:List OB) (tm:List AV) (F:zaP):Prop :=
 match p with
 | .p b off=>kSt2 P C objs[b]? b off sz v d r k objs tm F
 | .porow b gen j=>kSt3 P C objs[b]? b gen j sz v d r k objs tm F
 | _=>False
theorem kSt3_o (E s gen' n:Nat) (xs:List AV) (b gen j sz:Nat) (v:AV):kSt3 P C (some (.orow E s gen' n xs)) b gen j sz v d r k objs tm F=((gen'=gen/\v.flat=true/\v.cells.length=sz/\j+sz<=xs.length)/\run P C (.ops r::k) (objs.set b (.orow E s gen' n (za2 xs j v.cells))) (zan tm d .u) F):=Eq.trans rfl rfl
theorem kSt_o (b gen j sz:Nat) (v:AV):kSt P C (.porow b gen j) v sz d r k objs tm F=kSt3 P C objs[b]? b gen j sz v d r k objs tm F:=Eq.trans rfl rfl
theorem kSt2_b (T:TypeId) (cs:List AV) (b off sz:Nat) (v:AV):kSt2 P C (some (.box T cs)) b off sz v d r k objs tm F=((v.flat=true/\v.cells.length=sz/\off+sz<=cs.length)/\run P C (.ops r::k) (objs.set b (.box T (za2 cs off v.cells))) (zan tm d .u) F):=Eq.trans rfl rfl
theorem kSt_p (b off sz:Nat) (v:AV):kSt P C (.p b off) v sz d r k objs tm F=kSt2 P C objs[b]? b off sz v d r k objs tm F:=Eq.trans rfl rfl
theorem zjO (sz:Nat) (x y:SV):run P C (.ops (⟨d,.store sz x y,none⟩::r)::k) objs tm F=kSt P C (x.ev tm) (y.ev tm) sz d r k objs tm F:=by
 rw[zbl];simp only[wpS,kSt]
 cases x.ev tm<;>try rfl
 try (case p b off=>
  dsimp only;generalize objs[b]? = q
  cases q with
  | none=>rfl
  | some ob=>cases ob<;>rfl)
 try (case porow b gen j=>
  dsimp only;generalize objs[b]? = q
  cases q with
  | none=>rfl
  | some ob=>cases ob<;>rfl)
def kNck (P:Program) [Tabs P] (C:Cx) (v:AV)  (d:Option Nat) (r:List SO) (k:List IT) (objs:List OB) (tm:List AV) (F:zaP):Prop :=
 match v with
 | .p b o=>run P C (.ops r::k) objs (zan tm d (.p b o)) F
 | .prow xs j=>run P C (.ops r::k) objs (zan tm d (.prow xs j)) F
 | .fn f fs cs=>run P C (.ops r::k) objs (zan tm d (.fn f fs cs)) F
 | .porow b gen j=>run P C (.ops r::k) objs (zan tm d (.porow b gen j)) F
 | _=>False
theorem kNck_0 (b o:Nat) :kNck P C (.p b o)  d r k objs tm F=(run P C (.ops r::k) objs (zan tm d (.p b o)) F):=Eq.trans rfl rfl
theorem kNck_1 (xs:List AV) (j:Nat) :kNck P C (.prow xs j)  d r k objs tm F=(run P C (.ops r::k) objs (zan tm d (.prow xs j)) F):=Eq.trans rfl rfl
theorem kNck_2 (f:Nat) (fs cs:List AV) :kNck P C (.fn f fs cs)  d r k objs tm F=(run P C (.ops r::k) objs (zan tm d (.fn f fs cs)) F):=Eq.trans rfl rfl
theorem kNck_3 (b gen j:Nat) :kNck P C (.porow b gen j)  d r k objs tm F=(run P C (.ops r::k) objs (zan tm d (.porow b gen j)) F):=Eq.trans rfl rfl
theorem rn_nck (x:SV):run P C (.ops (⟨d,.nck x,none⟩::r)::k) objs tm F=kNck P C (x.ev tm)  d r k objs tm F:=by
 rw[zbl];simp only[wpS,kNck]
 cases (x.ev tm)<;>rfl
def kNot (P:Program) [Tabs P] (C:Cx) (v:AV)  (d:Option Nat) (r:List SO) (k:List IT) (objs:List OB) (tm:List AV) (F:zaP):Prop :=
 match v with
 | .b t=>run P C (.ops r::k) objs (zan tm d (.b (!t))) F
 | _=>False
theorem kNot_0 (t:Bool) :kNot P C (.b t)  d r k objs tm F=(run P C (.ops r::k) objs (zan tm d (.b (!t))) F):=Eq.trans rfl rfl
theorem rn_not (x:SV):run P C (.ops (⟨d,.not x,none⟩::r)::k) objs tm F=kNot P C (x.ev tm)  d r k objs tm F:=by
 rw[zbl];simp only[wpS,kNot]
 cases (x.ev tm)<;>rfl
def kAr (P:Program) [Tabs P] (C:Cx) (q:IntKind) (z:Int) (d:Option Nat) (r:List SO) (k:List IT) (objs:List OB) (tm:List AV) (F:zaP):Prop:=arK q z fun z=>run P C (.ops r::k) objs (zan tm d (.i q z)) F
theorem zoc (z:Int):kAr P C .i64 z d r k objs tm F=((-9223372036854775808<=z/\z<=9223372036854775807)/\run P C (.ops r::k) objs (zan tm d (.i .i64 z)) F):=Eq.trans rfl rfl
theorem kAr_i8 (z:Int):kAr P C .i8 z d r k objs tm F=run P C (.ops r::k) objs (zan tm d (.i .i8 (IntKind.wrap .i8 z))) F:=Eq.trans rfl rfl
theorem zoe (z:Int):kAr P C .i16 z d r k objs tm F=run P C (.ops r::k) objs (zan tm d (.i .i16 (IntKind.wrap .i16 z))) F:=Eq.trans rfl rfl
theorem zod (z:Int):kAr P C .i32 z d r k objs tm F=run P C (.ops r::k) objs (zan tm d (.i .i32 (IntKind.wrap .i32 z))) F:=Eq.trans rfl rfl
theorem kAr_u8 (z:Int):kAr P C .u8 z d r k objs tm F=run P C (.ops r::k) objs (zan tm d (.i .u8 (IntKind.wrap .u8 z))) F:=Eq.trans rfl rfl
theorem zob (z:Int):kAr P C .u16 z d r k objs tm F=run P C (.ops r::k) objs (zan tm d (.i .u16 (IntKind.wrap .u16 z))) F:=Eq.trans rfl rfl
theorem zoa (z:Int):kAr P C .u32 z d r k objs tm F=run P C (.ops r::k) objs (zan tm d (.i .u32 (IntKind.wrap .u32 z))) F:=Eq.trans rfl rfl
theorem zn9 (z:Int):kAr P C .u64 z d r k objs tm F=run P C (.ops r::k) objs (zan tm d (.i .u64 (IntKind.wrap .u64 z))) F:=Eq.trans rfl rfl
def kNeg (P:Program) [Tabs P] (C:Cx) (v:AV)  (d:Option Nat) (r:List SO) (k:List IT) (objs:List OB) (tm:List AV) (F:zaP):Prop :=
 match v with
 | .i q n=>kAr P C q (0 - n) d r k objs tm F
 | _=>False
theorem kNeg_0 (q:IntKind) (n:Int) :kNeg P C (.i q n)  d r k objs tm F=(kAr P C q (0 - n) d r k objs tm F):=Eq.trans rfl rfl
theorem rn_neg (x:SV):run P C (.ops (⟨d,.neg x,none⟩::r)::k) objs tm F=kNeg P C (x.ev tm)  d r k objs tm F:=by
 rw[zbl];simp only[wpS,kNeg,kAr]
 cases x.ev tm<;>rfl
def kCvi (P:Program) [Tabs P] (C:Cx) (v:AV) (q:IntKind) (d:Option Nat) (r:List SO) (k:List IT) (objs:List OB) (tm:List AV) (F:zaP):Prop :=
 match v with
 | .i kk n=>run P C (.ops r::k) objs (zan tm d (.i q (q.wrap n))) F
 | _=>False
theorem kCvi_0 (kk:IntKind) (n:Int) (q:IntKind):kCvi P C (.i kk n) q d r k objs tm F=(run P C (.ops r::k) objs (zan tm d (.i q (q.wrap n))) F):=Eq.trans rfl rfl
theorem rn_cvi (q:IntKind) (x:SV):run P C (.ops (⟨d,.cvi q x,none⟩::r)::k) objs tm F=kCvi P C (x.ev tm) q d r k objs tm F:=by
 rw[zbl];simp only[wpS,kCvi]
 cases (x.ev tm)<;>rfl
def kCvs (P:Program) [Tabs P] (C:Cx) (v:AV)  (d:Option Nat) (r:List SO) (k:List IT) (objs:List OB) (tm:List AV) (F:zaP):Prop :=
 match v with
 | .s l=>run P C (.ops r::k) objs (zan tm d (.s l)) F
 | _=>False
theorem kCvs_0 (l:List UInt8) :kCvs P C (.s l)  d r k objs tm F=(run P C (.ops r::k) objs (zan tm d (.s l)) F):=Eq.trans rfl rfl
theorem rn_cvs (x:SV):run P C (.ops (⟨d,.cvs x,none⟩::r)::k) objs tm F=kCvs P C (x.ev tm)  d r k objs tm F:=by
 rw[zbl];simp only[wpS,kCvs]
 cases (x.ev tm)<;>rfl
def kLens (P:Program) [Tabs P] (C:Cx) (v:AV)  (d:Option Nat) (r:List SO) (k:List IT) (objs:List OB) (tm:List AV) (F:zaP):Prop :=
 match v with
 | .s l=>run P C (.ops r::k) objs (zan tm d (.i .i64 l.length)) F
 | _=>False
theorem znV (l:List UInt8) :kLens P C (.s l)  d r k objs tm F=(run P C (.ops r::k) objs (zan tm d (.i .i64 l.length)) F):=Eq.trans rfl rfl
theorem zmP (x:SV):run P C (.ops (⟨d,.lens x,none⟩::r)::k) objs tm F=kLens P C (x.ev tm)  d r k objs tm F:=by
 rw[zbl];simp only[wpS,kLens]
 cases (x.ev tm)<;>rfl
def kFldn (P:Program) [Tabs P] (C:Cx) (v:AV) (off sz:Nat) (d:Option Nat) (r:List SO) (k:List IT) (objs:List OB) (tm:List AV) (F:zaP):Prop :=
 match v with
 | .agg cs=>run P C (.ops r::k) objs (zan tm d (.agg ((cs.drop off).take sz))) F
 | _=>False
theorem zn5 (cs:List AV) (off sz:Nat):kFldn P C (.agg cs) off sz d r k objs tm F=(run P C (.ops r::k) objs (zan tm d (.agg ((cs.drop off).take sz))) F):=Eq.trans rfl rfl
theorem zmT (off sz:Nat) (x:SV):run P C (.ops (⟨d,.fldn off sz x,none⟩::r)::k) objs tm F=kFldn P C (x.ev tm) off sz d r k objs tm F:=by
 rw[zbl];simp only[wpS,kFldn]
 cases (x.ev tm)<;>rfl
def kFad (P:Program) [Tabs P] (C:Cx) (v:AV) (off:Nat) (d:Option Nat) (r:List SO) (k:List IT) (objs:List OB) (tm:List AV) (F:zaP):Prop :=
 match v with
 | .p b o=>run P C (.ops r::k) objs (zan tm d (.p b (o+off))) F
 | .prow xs j=>run P C (.ops r::k) objs (zan tm d (.prow xs (j+off))) F
 | .porow b gen j=>run P C (.ops r::k) objs (zan tm d (.porow b gen (j+off))) F
 | _=>False
theorem kFad_0 (b o:Nat) (off:Nat):kFad P C (.p b o) off d r k objs tm F=(run P C (.ops r::k) objs (zan tm d (.p b (o+off))) F):=Eq.trans rfl rfl
theorem kFad_1 (xs:List AV) (j:Nat) (off:Nat):kFad P C (.prow xs j) off d r k objs tm F=(run P C (.ops r::k) objs (zan tm d (.prow xs (j+off))) F):=Eq.trans rfl rfl
theorem kFad_2 (b gen j:Nat) (off:Nat):kFad P C (.porow b gen j) off d r k objs tm F=(run P C (.ops r::k) objs (zan tm d (.porow b gen (j+off))) F):=Eq.trans rfl rfl
theorem rn_fad (off:Nat) (x:SV):run P C (.ops (⟨d,.fad off x,none⟩::r)::k) objs tm F=kFad P C (x.ev tm) off d r k objs tm F:=by
 rw[zbl];simp only[wpS,kFad]
 cases (x.ev tm)<;>rfl
def kFld1 (P:Program) [Tabs P] (C:Cx) (v:AV) (off:Nat) (d:Option Nat) (r:List SO) (k:List IT) (objs:List OB) (tm:List AV) (F:zaP):Prop :=
 match v with
 | .agg cs=>kO P C cs[off]? d r k objs tm F
 | _=>False
theorem zn6 (cs:List AV) (off:Nat):kFld1 P C (.agg cs) off d r k objs tm F=(kO P C cs[off]? d r k objs tm F):=Eq.trans rfl rfl
theorem zmU (off:Nat) (x:SV):run P C (.ops (⟨d,.fld1 off x,none⟩::r)::k) objs tm F=kFld1 P C (x.ev tm) off d r k objs tm F:=by
 rw[zbl];simp only[wpS,kFld1]
 cases x.ev tm<;>try rfl
 try (case agg cs=>dsimp only;cases cs[off]?<;>rfl)
def kExt (P:Program) [Tabs P] (C:Cx) (v:AV) (j:Nat) (d:Option Nat) (r:List SO) (k:List IT) (objs:List OB) (tm:List AV) (F:zaP):Prop :=
 match v with
 | .tup cs=>kO P C cs[j]? d r k objs tm F
 | _=>False
theorem kExt_0 (cs:List AV) (j:Nat):kExt P C (.tup cs) j d r k objs tm F=(kO P C cs[j]? d r k objs tm F):=Eq.trans rfl rfl
theorem rn_ext (x:SV) (j:Nat):run P C (.ops (⟨d,.ext x j,none⟩::r)::k) objs tm F=kExt P C (x.ev tm) j d r k objs tm F:=by
 rw[zbl];simp only[wpS,kExt]
 cases x.ev tm<;>try rfl
 try (case tup cs=>dsimp only;cases cs[j]?<;>rfl)
def kLr2 (P:Program) [Tabs P] (C:Cx) (c:Option OB) (gen:Nat) (d:Option Nat) (r:List SO) (k:List IT) (objs:List OB) (tm:List AV) (F:zaP):Prop :=
 match c with
 | some (.orow _ _ gen' n _)=>gen'=gen/\run P C (.ops r::k) objs (zan tm d (.i .i64 n)) F
 | _=>False
theorem kLr2_o (E sz gen' n gen:Nat) (xs:List AV):kLr2 P C (some (.orow E sz gen' n xs)) gen d r k objs tm F=(gen'=gen/\run P C (.ops r::k) objs (zan tm d (.i .i64 n)) F):=Eq.trans rfl rfl
def zlR (P:Program) [Tabs P] (C:Cx) (v:AV)  (d:Option Nat) (r:List SO) (k:List IT) (objs:List OB) (tm:List AV) (F:zaP):Prop :=
 match v with
 | .row n xs=>run P C (.ops r::k) objs (zan tm d (.i .i64 n)) F
 | .nil=>run P C (.ops r::k) objs (zan tm d (.i .i64 0)) F
 | .orow b gen=>kLr2 P C objs[b]? gen d r k objs tm F
 | .zn z=>run P C (.ops r::k) objs (zan tm d (.i .i64 0)) F
 | _=>False
theorem znZ (n:Nat) (xs:List AV) :zlR P C (.row n xs)  d r k objs tm F=(run P C (.ops r::k) objs (zan tm d (.i .i64 n)) F):=Eq.trans rfl rfl
theorem znY  :zlR P C (.nil)  d r k objs tm F=(run P C (.ops r::k) objs (zan tm d (.i .i64 0)) F):=Eq.trans rfl rfl
theorem znX (b gen:Nat) :zlR P C (.orow b gen)  d r k objs tm F=(kLr2 P C objs[b]? gen d r k objs tm F):=Eq.trans rfl rfl
theorem znW (z:Bool) :zlR P C (.zn z)  d r k objs tm F=(run P C (.ops r::k) objs (zan tm d (.i .i64 0)) F):=Eq.trans rfl rfl
theorem zmQ (x:SV):run P C (.ops (⟨d,.lenr x,none⟩::r)::k) objs tm F=zlR P C (x.ev tm)  d r k objs tm F:=by
 rw[zbl];simp only[wpS,zlR]
 cases x.ev tm<;>try rfl
 try (case orow b gen=>
  dsimp only;generalize objs[b]? = q
  cases q with
  | none=>rfl
  | some ob=>cases ob<;>rfl)
def kBeq (P:Program) [Tabs P] (C:Cx) (ne:Bool) (x y:AV) (d:Option Nat) (r:List SO) (k:List IT) (objs:List OB) (tm:List AV) (F:zaP):Prop :=
 match x,y with
 | .b l,.b m=>run P C (.ops r::k) objs (zan tm d (.b (if ne then !(l==m) else (l==m)))) F
 | _,_=>False
def kEq (P:Program) [Tabs P] (C:Cx) (ne:Bool) (x:Option Bool) (d:Option Nat) (r:List SO) (k:List IT) (objs:List OB) (tm:List AV) (F:zaP):Prop :=
 match x with
 | some q=>run P C (.ops r::k) objs (zan tm d (.b (if ne then !q else q))) F
 | none=>False
def kEqs (P:Program) [Tabs P] (C:Cx) (ne:Bool) (e:ET) (x y:AV) (d:Option Nat) (r:List SO) (k:List IT) (objs:List OB) (tm:List AV) (F:zaP):Prop :=
 match x,y with
 | .agg xs,.agg ys=>kEq P C ne (eqA e (.agg xs) (.agg ys)) d r k objs tm F
 | _,_=>False
theorem zik (l m:Bool):kBeq P C true (.b l) (.b m) d r k objs tm F=run P C (.ops r::k) objs (zan tm d (.b (!(l==m)))) F:=Eq.trans rfl rfl
theorem zkn (q:Bool):kEq P C true (some q) d r k objs tm F=run P C (.ops r::k) objs (zan tm d (.b (!q))) F:=Eq.trans rfl rfl
theorem zgC (l m:Bool):kBeq P C false (.b l) (.b m) d r k objs tm F=run P C (.ops r::k) objs (zan tm d (.b (l==m))) F:=Eq.trans rfl rfl
theorem zij (q:Bool):kEq P C false (some q) d r k objs tm F=run P C (.ops r::k) objs (zan tm d (.b q)) F:=Eq.trans rfl rfl
theorem kEqs_a (ne:Bool) (e:ET) (xs ys:List AV):kEqs P C ne e (.agg xs) (.agg ys) d r k objs tm F=kEq P C ne (eqA e (.agg xs) (.agg ys)) d r k objs tm F:=Eq.trans rfl rfl
theorem rn_beq (ne:Bool) (x y:SV):run P C (.ops (⟨d,.beq ne x y,none⟩::r)::k) objs tm F=kBeq P C ne (x.ev tm) (y.ev tm) d r k objs tm F:=by
 rw[zbl];simp only[wpS,kBeq]
 cases x.ev tm<;>try rfl
 try (cases y.ev tm<;>rfl)
theorem rn_eqs (ne:Bool) (e:ET) (x y:SV):run P C (.ops (⟨d,.eqs ne e x y,none⟩::r)::k) objs tm F=kEqs P C ne e (x.ev tm) (y.ev tm) d r k objs tm F:=by
 rw[zbl];simp only[wpS,kEqs]
 cases x.ev tm<;>try rfl
 try (cases y.ev tm<;>try rfl)
 try (simp only[kEq];cases eqA e _ _<;>rfl)
def kIado (P:Program) [Tabs P] (C:Cx) (c:Option OB) (b gen:Nat) (i:Int) (sz:Nat) (d:Option Nat) (r:List SO) (k:List IT) (objs:List OB) (tm:List AV) (F:zaP):Prop :=
 match c with
 | some (.orow _ s gen' n _)=>(gen'=gen/\s=sz/\0<=i/\i<n)/\run P C (.ops r::k) objs (zan tm d (.porow b gen (i.toNat*sz))) F
 | _=>False
theorem zn3 (E s gen' n:Nat) (xs:List AV) (b gen:Nat) (i:Int) (sz:Nat):kIado P C (some (.orow E s gen' n xs)) b gen i sz d r k objs tm F=((gen'=gen/\s=sz/\0<=i/\i<n)/\run P C (.ops r::k) objs (zan tm d (.porow b gen (i.toNat*sz))) F):=Eq.trans rfl rfl
def kIad (P:Program) [Tabs P] (C:Cx) (x y:AV) (sz:Nat) (d:Option Nat) (r:List SO) (k:List IT) (objs:List OB) (tm:List AV) (F:zaP):Prop :=
 match x,y with
 | .row n xs,.i kk i=>(0<=i/\i<n/\n*sz<=xs.length)/\run P C (.ops r::k) objs (zan tm d (.prow xs (i.toNat*sz))) F
 | .orow b gen,.i kk i=>kIado P C objs[b]? b gen i sz d r k objs tm F
 | _,_=>False
theorem kIad_0 (n:Nat) (xs:List AV) (kk:IntKind) (i:Int) (sz:Nat):kIad P C (.row n xs) (.i kk i) sz d r k objs tm F=((0<=i/\i<n/\n*sz<=xs.length)/\run P C (.ops r::k) objs (zan tm d (.prow xs (i.toNat*sz))) F):=Eq.trans rfl rfl
theorem kIad_1 (b gen:Nat) (kk:IntKind) (i:Int) (sz:Nat):kIad P C (.orow b gen) (.i kk i) sz d r k objs tm F=(kIado P C objs[b]? b gen i sz d r k objs tm F):=Eq.trans rfl rfl
theorem rn_iad (sz:Nat) (x y:SV):run P C (.ops (⟨d,.iad sz x y,none⟩::r)::k) objs tm F=kIad P C (x.ev tm) (y.ev tm) sz d r k objs tm F:=by
 rw[zbl];simp only[wpS,kIad]
 cases x.ev tm<;>try rfl
 all_goals try (cases y.ev tm<;>try rfl)
 all_goals (
  dsimp only;rename_i b gen _ _;generalize objs[b]? = q
  cases q with
  | none=>rfl
  | some ob=>cases ob<;>rfl)
def kIadr (P:Program) [Tabs P] (C:Cx) (x y:AV) (sz:Nat) (d:Option Nat) (r:List SO) (k:List IT) (objs:List OB) (tm:List AV) (F:zaP):Prop :=
 match x,y with
 | .row n xs,.i kk i=>(0<=i/\i<n/\n*sz<=xs.length)/\run P C (.ops r::k) objs (zan tm d (.prow xs (i.toNat*sz))) F
 | _,_=>False
theorem zn2 (n:Nat) (xs:List AV) (kk:IntKind) (i:Int) (sz:Nat):kIadr P C (.row n xs) (.i kk i) sz d r k objs tm F=((0<=i/\i<n/\n*sz<=xs.length)/\run P C (.ops r::k) objs (zan tm d (.prow xs (i.toNat*sz))) F):=Eq.trans rfl rfl
theorem zmR (sz:Nat) (x y:SV):run P C (.ops (⟨d,.iadr sz x y,none⟩::r)::k) objs tm F=kIadr P C (x.ev tm) (y.ev tm) sz d r k objs tm F:=by
 rw[zbl];simp only[wpS,kIadr]
 cases x.ev tm<;>try rfl
 try (cases y.ev tm<;>rfl)
def kIada (P:Program) [Tabs P] (C:Cx) (x y:AV) (sz len:Nat) (d:Option Nat) (r:List SO) (k:List IT) (objs:List OB) (tm:List AV) (F:zaP):Prop :=
 match x,y with
 | .p b off,.i kk i=>(0<=i/\i<len)/\run P C (.ops r::k) objs (zan tm d (.p b (off+i.toNat*sz))) F
 | _,_=>False
theorem zn4 (b off:Nat) (kk:IntKind) (i:Int) (sz len:Nat):kIada P C (.p b off) (.i kk i) sz len d r k objs tm F=((0<=i/\i<len)/\run P C (.ops r::k) objs (zan tm d (.p b (off+i.toNat*sz))) F):=Eq.trans rfl rfl
theorem zmS (sz len:Nat) (x y:SV):run P C (.ops (⟨d,.iada sz len x y,none⟩::r)::k) objs tm F=kIada P C (x.ev tm) (y.ev tm) sz len d r k objs tm F:=by
 rw[zbl];simp only[wpS,kIada]
 cases x.ev tm<;>try rfl
 try (cases y.ev tm<;>rfl)
def kIdx (P:Program) [Tabs P] (C:Cx) (x y:AV)  (d:Option Nat) (r:List SO) (k:List IT) (objs:List OB) (tm:List AV) (F:zaP):Prop :=
 match x,y with
 | .s l,.i kk i=>(0<=i/\i<l.length)/\run P C (.ops r::k) objs (zan tm d (.i .u8 ((l.getD i.toNat 0).toNat:Int))) F
 | _,_=>False
theorem kIdx_0 (l:List UInt8) (kk:IntKind) (i:Int) :kIdx P C (.s l) (.i kk i)  d r k objs tm F=((0<=i/\i<l.length)/\run P C (.ops r::k) objs (zan tm d (.i .u8 ((l.getD i.toNat 0).toNat:Int))) F):=Eq.trans rfl rfl
theorem rn_idx (x y:SV):run P C (.ops (⟨d,.idx x y,none⟩::r)::k) objs tm F=kIdx P C (x.ev tm) (y.ev tm)  d r k objs tm F:=by
 rw[zbl];simp only[wpS,kIdx]
 cases x.ev tm<;>try rfl
 try (cases y.ev tm<;>rfl)
def kTrno (P:Program) [Tabs P] (C:Cx) (c:Option OB) (b gen:Nat) (i:Int) (sz:Nat) (d:Option Nat) (r:List SO) (k:List IT) (objs:List OB) (tm:List AV) (F:zaP):Prop :=
 match c with
 | some (.orow E s gen' n xs)=>(gen'=gen/\s=sz/\0<=i/\i<=n)/\run P C (.ops r::k) (objs.set b (.orow E s (gen+1) i.toNat (xs.take (i.toNat*s)))) (zan tm d (.orow b (gen+1))) F
 | _=>False
theorem znP (E s gen' n:Nat) (xs:List AV) (b gen:Nat) (i:Int) (sz:Nat):kTrno P C (some (.orow E s gen' n xs)) b gen i sz d r k objs tm F=((gen'=gen/\s=sz/\0<=i/\i<=n)/\run P C (.ops r::k) (objs.set b (.orow E s (gen+1) i.toNat (xs.take (i.toNat*s)))) (zan tm d (.orow b (gen+1))) F):=Eq.trans rfl rfl
def kTrn (P:Program) [Tabs P] (C:Cx) (x y:AV) (sz:Nat) (d:Option Nat) (r:List SO) (k:List IT) (objs:List OB) (tm:List AV) (F:zaP):Prop :=
 match x,y with
 | .row n xs,.i kk i=>(0<=i/\i<=n)/\run P C (.ops r::k) objs (zan tm d (.row i.toNat (xs.take (i.toNat*sz)))) F
 | .nil,.i kk i=>i=0/\run P C (.ops r::k) objs (zan tm d .nil) F
 | .orow b gen,.i kk i=>kTrno P C objs[b]? b gen i sz d r k objs tm F
 | _,_=>False
theorem kTrn_0 (n:Nat) (xs:List AV) (kk:IntKind) (i:Int) (sz:Nat):kTrn P C (.row n xs) (.i kk i) sz d r k objs tm F=((0<=i/\i<=n)/\run P C (.ops r::k) objs (zan tm d (.row i.toNat (xs.take (i.toNat*sz)))) F):=Eq.trans rfl rfl
theorem kTrn_1 (kk:IntKind) (i:Int) (sz:Nat):kTrn P C (.nil) (.i kk i) sz d r k objs tm F=(i=0/\run P C (.ops r::k) objs (zan tm d .nil) F):=Eq.trans rfl rfl
theorem kTrn_2 (b gen:Nat) (kk:IntKind) (i:Int) (sz:Nat):kTrn P C (.orow b gen) (.i kk i) sz d r k objs tm F=(kTrno P C objs[b]? b gen i sz d r k objs tm F):=Eq.trans rfl rfl
theorem rn_trn (sz:Nat) (x y:SV):run P C (.ops (⟨d,.trn sz x y,none⟩::r)::k) objs tm F=kTrn P C (x.ev tm) (y.ev tm) sz d r k objs tm F:=by
 rw[zbl];simp only[wpS,kTrn]
 cases x.ev tm<;>try rfl
 all_goals try (cases y.ev tm<;>try rfl)
 all_goals (
  dsimp only;rename_i b gen _ _;generalize objs[b]? = q
  cases q with
  | none=>rfl
  | some ob=>cases ob<;>rfl)
def kMks (P:Program) [Tabs P] (C:Cx) (x y:AV) (E sz by':Nat) (d:Option Nat) (r:List SO) (k:List IT) (objs:List OB) (tm:List AV) (F:zaP):Prop :=
 match x,y with
 | .i k1 l,.i k2 c=>(l=0/\0<=c/\(by':Int)*c<=281474976710656/\c<=140737488351232+4096)/\run P C (.ops r::k) (objs++[.orow E sz 0 0 []]) (zan tm d (.orow objs.length 0)) F
 | _,_=>False
theorem kMks_0 (k1:IntKind) (l:Int) (k2:IntKind) (c:Int) (E sz by':Nat):kMks P C (.i k1 l) (.i k2 c) E sz by' d r k objs tm F=((l=0/\0<=c/\(by':Int)*c<=281474976710656/\c<=140737488351232+4096)/\run P C (.ops r::k) (objs++[.orow E sz 0 0 []]) (zan tm d (.orow objs.length 0)) F):=Eq.trans rfl rfl
theorem rn_mks (E sz by':Nat) (x y:SV):run P C (.ops (⟨d,.mks E sz by' x y,none⟩::r)::k) objs tm F=kMks P C (x.ev tm) (y.ev tm) E sz by' d r k objs tm F:=by
 rw[zbl];simp only[wpS,kMks,show (140737488351232+4096:Int)=140737488355328 from rfl]
 cases x.ev tm<;>try rfl
 try (cases y.ev tm<;>rfl)
def kMkz (P:Program) [Tabs P] (C:Cx) (x:AV) (E by':Nat) (kd:IntKind) (z:Int) (d:Option Nat) (r:List SO) (k:List IT) (objs:List OB) (tm:List AV) (F:zaP):Prop :=
 match x with
 | .i _ l=>(0<=l/\(by':Int)*l<=281474976710656/\l<=140737488355328)/\run P C (.ops r::k) (objs++[.orow E 1 0 l.toNat (qs l.toNat (.i kd z))]) (zan tm d (.orow objs.length 0)) F
 | _=>False
theorem kMkz_i (q:IntKind) (l:Int) (E by':Nat) (kd:IntKind) (z:Int):kMkz P C (.i q l) E by' kd z d r k objs tm F=((0<=l/\(by':Int)*l<=281474976710656/\l<=140737488355328)/\run P C (.ops r::k) (objs++[.orow E 1 0 l.toNat (qs l.toNat (.i kd z))]) (zan tm d (.orow objs.length 0)) F):=Eq.trans rfl rfl
theorem rn_mkz (E by':Nat) (kd:IntKind) (z:Int) (x:SV):run P C (.ops (⟨d,.mkz E by' kd z x,none⟩::r)::k) objs tm F=kMkz P C (x.ev tm) E by' kd z d r k objs tm F:=by
 rw[zbl];simp only[wpS,kMkz]
 cases x.ev tm<;>rfl
def kCap (P:Program) [Tabs P] (C:Cx) (v:AV) (s:Option (Nat×List AV)) (sz by':Nat) (d:Option Nat) (r:List SO) (k:List IT) (objs:List OB) (tm:List AV) (F:zaP):Prop :=
 match v,s with
 | .crow n xs,some (m,ys)=>((xs.length=n*sz/\ys.length=m*sz)/\0<m/\(n+m)*by'<=140737488355328/\n+m<=140737488355328)/\run P C (.ops r::k) objs (zan tm d (.row (n+m) (xs++ys))) F
 | _,_=>False
theorem kCap_c (n m:Nat) (xs ys:List AV) (sz by':Nat):kCap P C (.crow n xs) (some (m,ys)) sz by' d r k objs tm F=(((xs.length=n*sz/\ys.length=m*sz)/\0<m/\(n+m)*by'<=140737488355328/\n+m<=140737488355328)/\run P C (.ops r::k) objs (zan tm d (.row (n+m) (xs++ys))) F):=Eq.trans rfl rfl
theorem zmZ (sz by':Nat) (x y:SV):run P C (.ops (⟨d,.capp sz by' x y,none⟩::r)::k) objs tm F=kCap P C (x.ev tm) (zcV [] (y.ev tm)) sz by' d r k objs tm F:=by
 rw[zbl];simp only[wpS,kCap]
 cases x.ev tm<;>rfl
def zjg (P:Program) [Tabs P] (C:Cx) (op:BinOp) (x y:AV) (d:Option Nat) (r:List SO) (k:List IT) (objs:List OB) (tm:List AV) (F:zaP):Prop:=binK op x y fun v=>run P C (.ops r::k) objs (zan tm d v) F
theorem rn_bin (q:BinOp) (x y:SV):run P C (.ops (⟨d,.bin q x y,none⟩::r)::k) objs tm F=zjg P C q (x.ev tm) (y.ev tm) d r k objs tm F:=Eq.trans rfl rfl
theorem zkB (q:IntKind) (m n:Int):zjg P C .add (.i q m) (.i q n) d r k objs tm F=kAr P C q (m+n) d r k objs tm F:=propext ⟨fun h=>h.2,fun h=>⟨rfl,h⟩⟩
theorem zko (q:IntKind) (m n:Int):zjg P C .sub (.i q m) (.i q n) d r k objs tm F=kAr P C q (m - n) d r k objs tm F:=propext ⟨fun h=>h.2,fun h=>⟨rfl,h⟩⟩
theorem zku (q:IntKind) (m n:Int):zjg P C .mul (.i q m) (.i q n) d r k objs tm F=kAr P C q (m*n) d r k objs tm F:=propext ⟨fun h=>h.2,fun h=>⟨rfl,h⟩⟩
theorem zks (q:IntKind) (m n:Int):zjg P C .quo (.i q m) (.i q n) d r k objs tm F=(n≠0/\kAr P C q (m.tdiv n) d r k objs tm F):=propext ⟨fun h=>h.2,fun h=>⟨rfl,h⟩⟩
theorem zkr (q:IntKind) (m n:Int):zjg P C .rem (.i q m) (.i q n) d r k objs tm F=(n≠0/\run P C (.ops r::k) objs (zan tm d (.i q (m.tmod n))) F):=propext ⟨fun h=>h.2,fun h=>⟨rfl,h⟩⟩
theorem zkz (q:IntKind) (m n:Int):zjg P C .eql (.i q m) (.i q n) d r k objs tm F=run P C (.ops r::k) objs (zan tm d (.b (decide (m=n)))) F:=propext ⟨fun h=>h.2,fun h=>⟨rfl,h⟩⟩
theorem zkt (q:IntKind) (m n:Int):zjg P C .neq (.i q m) (.i q n) d r k objs tm F=run P C (.ops r::k) objs (zan tm d (.b (decide (¬m=n)))) F:=propext ⟨fun h=>h.2,fun h=>⟨rfl,h⟩⟩
theorem zkv (q:IntKind) (m n:Int):zjg P C .lss (.i q m) (.i q n) d r k objs tm F=run P C (.ops r::k) objs (zan tm d (.b (decide (m<n)))) F:=propext ⟨fun h=>h.2,fun h=>⟨rfl,h⟩⟩
theorem zkw (q:IntKind) (m n:Int):zjg P C .leq (.i q m) (.i q n) d r k objs tm F=run P C (.ops r::k) objs (zan tm d (.b (decide (m<=n)))) F:=propext ⟨fun h=>h.2,fun h=>⟨rfl,h⟩⟩
theorem zkx (q:IntKind) (m n:Int):zjg P C .gtr (.i q m) (.i q n) d r k objs tm F=run P C (.ops r::k) objs (zan tm d (.b (decide (n<m)))) F:=propext ⟨fun h=>h.2,fun h=>⟨rfl,h⟩⟩
theorem zky (q:IntKind) (m n:Int):zjg P C .geq (.i q m) (.i q n) d r k objs tm F=run P C (.ops r::k) objs (zan tm d (.b (decide (n<=m)))) F:=propext ⟨fun h=>h.2,fun h=>⟨rfl,h⟩⟩
theorem zkA (l m:List UInt8):zjg P C .add (.s l) (.s m) d r k objs tm F=(l.length+m.length<=9223372036854775807/\run P C (.ops r::k) objs (zan tm d (.s (l++m))) F):=Eq.trans rfl rfl
theorem zkq (l m:List UInt8):zjg P C .eql (.s l) (.s m) d r k objs tm F=run P C (.ops r::k) objs (zan tm d (.b (decide (l=m)))) F:=Eq.trans rfl rfl
theorem zkp (l m:List UInt8):zjg P C .neq (.s l) (.s m) d r k objs tm F=run P C (.ops r::k) objs (zan tm d (.b (decide (¬l=m)))) F:=Eq.trans rfl rfl
def kSl2 (P:Program) [Tabs P] (C:Cx) (l:List UInt8) (i j:Option Int) (d:Option Nat) (r:List SO) (k:List IT) (objs:List OB) (tm:List AV) (F:zaP):Prop :=
 match i,j with
 | some i,some j=>(0<=i/\i<=j/\j<=l.length)/\run P C (.ops r::k) objs (zan tm d (.s ((l.take j.toNat).drop i.toNat))) F
 | _,_=>False
def kSl (P:Program) [Tabs P] (C:Cx) (v:AV) (lo hi:Option SV) (d:Option Nat) (r:List SO) (k:List IT) (objs:List OB) (tm:List AV) (F:zaP):Prop :=
 match v with
 | .s l=>kSl2 P C l (ziV tm 0 lo) (ziV tm l.length hi) d r k objs tm F
 | _=>False
def svi:AV->Option Int
 | .i _ n=>some n
 | _=>none
theorem svi_i (q:IntKind) (n:Int):svi (.i q n)=some n:=Eq.trans rfl rfl
theorem zhT (z:Int):ziV tm z none=some z:=Eq.trans rfl rfl
theorem zhS (z:Int) (x:SV):ziV tm z (some x)=svi (x.ev tm):=by
 simp only[ziV];cases x.ev tm<;>rfl
theorem kSl2_s (l:List UInt8) (i j:Int):kSl2 P C l (some i) (some j) d r k objs tm F=((0<=i/\i<=j/\j<=l.length)/\run P C (.ops r::k) objs (zan tm d (.s ((l.take j.toNat).drop i.toNat))) F):=Eq.trans rfl rfl
theorem kSl_s (l:List UInt8) (lo hi:Option SV):kSl P C (.s l) lo hi d r k objs tm F=kSl2 P C l (ziV tm 0 lo) (ziV tm l.length hi) d r k objs tm F:=Eq.trans rfl rfl
theorem zmK (x:SV) (lo hi:Option SV):run P C (.ops (⟨d,.slcs x lo hi,none⟩::r)::k) objs tm F=kSl P C (x.ev tm) lo hi d r k objs tm F:=by
 rw[zbl];simp only[wpS,kSl]
 cases x.ev tm<;>try rfl
 try (case s l=>dsimp only [kSl2];cases ziV tm 0 lo<;>cases ziV tm l.length hi<;>rfl)
def kAp3 (P:Program) [Tabs P] (C:Cx) (c:Option OB) (b gen E sz by' m:Nat) (ys:List AV) (d:Option Nat) (r:List SO) (k:List IT) (objs:List OB) (tm:List AV) (F:zaP):Prop :=
 match c with
 | some (.orow E' sz' gen' n xs)=>((E'=E/\sz'=sz/\gen'=gen)/\ys.length=m*sz/\(n+m)*by'<=140737488355328/\n+m<=140737488355328)/\run P C (.ops r::k) (objs.set b (.orow E sz (gen+1) (n+m) (xs++ys))) (zan tm d (.orow b (gen+1))) F
 | _=>False
def kAp2 (P:Program) [Tabs P] (C:Cx) (v:AV) (E sz by' m:Nat) (ys:List AV) (d:Option Nat) (r:List SO) (k:List IT) (objs:List OB) (tm:List AV) (F:zaP):Prop :=
 match v with
 | .orow b gen=>kAp3 P C objs[b]? b gen E sz by' m ys d r k objs tm F
 | .nil=>(ys.length=m*sz/\m*by'<=140737488355328/\m<=140737488355328)/\run P C (.ops r::k) (objs++[.orow E sz 0 m ys]) (zan tm d (.orow objs.length 0)) F
 | _=>False
def kAp (P:Program) [Tabs P] (C:Cx) (v:AV) (s:Option (Nat×List AV)) (E sz by':Nat) (d:Option Nat) (r:List SO) (k:List IT) (objs:List OB) (tm:List AV) (F:zaP):Prop :=
 match s with
 | some (m,ys)=>kAp2 P C v E sz by' m ys d r k objs tm F
 | none=>False
def kAs2 (P:Program) [Tabs P] (C:Cx) (c:Option OB) (b gen E:Nat) (l:List UInt8) (d:Option Nat) (r:List SO) (k:List IT) (objs:List OB) (tm:List AV) (F:zaP):Prop :=
 match c with
 | some (.orow E' sz' gen' n xs)=>((E'=E/\sz'=1/\gen'=gen)/\n+l.length<=140737488355328)/\run P C (.ops r::k) (objs.set b (.orow E 1 (gen+1) (n+l.length) (xs++byA l))) (zan tm d (.orow b (gen+1))) F
 | _=>False
def kAs (P:Program) [Tabs P] (C:Cx) (v y:AV) (E:Nat) (d:Option Nat) (r:List SO) (k:List IT) (objs:List OB) (tm:List AV) (F:zaP):Prop :=
 match y with
 | .s l=>match v with
  | .orow b gen=>kAs2 P C objs[b]? b gen E l d r k objs tm F
  | .nil=>l.length<=140737488355328/\run P C (.ops r::k) (objs++[.orow E 1 0 l.length (byA l)]) (zan tm d (.orow objs.length 0)) F
  | _=>False
 | _=>False
theorem kAp_s (v:AV) (m:Nat) (ys:List AV) (E sz by':Nat):kAp P C v (some (m,ys)) E sz by' d r k objs tm F=kAp2 P C v E sz by' m ys d r k objs tm F:=Eq.trans rfl rfl
theorem kAp2_o (b gen E sz by' m:Nat) (ys:List AV):kAp2 P C (.orow b gen) E sz by' m ys d r k objs tm F=kAp3 P C objs[b]? b gen E sz by' m ys d r k objs tm F:=Eq.trans rfl rfl
theorem kAp2_n (E sz by' m:Nat) (ys:List AV):kAp2 P C .nil E sz by' m ys d r k objs tm F=((ys.length=m*sz/\m*by'<=140737488355328/\m<=140737488355328)/\run P C (.ops r::k) (objs++[.orow E sz 0 m ys]) (zan tm d (.orow objs.length 0)) F):=Eq.trans rfl rfl
theorem kAp3_o (b gen E sz by' m n:Nat) (ys xs:List AV):kAp3 P C (some (.orow E sz gen n xs)) b gen E sz by' m ys d r k objs tm F=((ys.length=m*sz/\(n+m)*by'<=140737488355328/\n+m<=140737488355328)/\run P C (.ops r::k) (objs.set b (.orow E sz (gen+1) (n+m) (xs++ys))) (zan tm d (.orow b (gen+1))) F):=propext ⟨fun h=>⟨h.1.2,h.2⟩,fun h=>⟨⟨⟨rfl,rfl,rfl⟩,h.1⟩,h.2⟩⟩
theorem kAs_o (b gen E:Nat) (l:List UInt8):kAs P C (.orow b gen) (.s l) E d r k objs tm F=kAs2 P C objs[b]? b gen E l d r k objs tm F:=Eq.trans rfl rfl
theorem kAs_n (E:Nat) (l:List UInt8):kAs P C .nil (.s l) E d r k objs tm F=(l.length<=140737488355328/\run P C (.ops r::k) (objs++[.orow E 1 0 l.length (byA l)]) (zan tm d (.orow objs.length 0)) F):=Eq.trans rfl rfl
theorem kAs2_o (b gen E n:Nat) (l:List UInt8) (xs:List AV):kAs2 P C (some (.orow E 1 gen n xs)) b gen E l d r k objs tm F=(n+l.length<=140737488355328/\run P C (.ops r::k) (objs.set b (.orow E 1 (gen+1) (n+l.length) (xs++byA l))) (zan tm d (.orow b (gen+1))) F):=propext ⟨fun h=>⟨h.1.2,h.2⟩,fun h=>⟨⟨⟨rfl,rfl,rfl⟩,h.1⟩,h.2⟩⟩
theorem rn_app (E sz by':Nat) (x y:SV):run P C (.ops (⟨d,.app E sz by' x y,none⟩::r)::k) objs tm F=kAp P C (x.ev tm) (zcV objs (y.ev tm)) E sz by' d r k objs tm F:=by
 rw[zbl];simp only[wpS,kAp]
 cases hs:zcV objs (y.ev tm) with
 | none=>rfl
 | some p=>
  obtain⟨m,ys⟩:=p;simp only[kAp2]
  cases x.ev tm<;>try rfl
  try (case orow b gen=>
   dsimp only [kAp3];generalize objs[b]? = q
   cases q with
   | none=>rfl
   | some ob=>cases ob<;>rfl)
theorem zm2 (E:Nat) (x y:SV):run P C (.ops (⟨d,.apps E x y,none⟩::r)::k) objs tm F=kAs P C (x.ev tm) (y.ev tm) E d r k objs tm F:=by
 rw[zbl];simp only[wpS,kAs]
 cases y.ev tm<;>try rfl
 try (case s l=>
  cases x.ev tm<;>try rfl
  try (case orow b gen=>
   dsimp only [kAs2];generalize objs[b]? = q
   cases q with
   | none=>rfl
   | some ob=>cases ob<;>rfl))
def kCb2 (P:Program) [Tabs P] (C:Cx) (c:Option OB) (gen:Nat) (d:Option Nat) (r:List SO) (k:List IT) (objs:List OB) (tm:List AV) (F:zaP):Prop :=
 match c with
 | some (.orow _ sz gen' _ xs)=>(gen'=gen/\sz=1)/\∃l,xs=byA l/\run P C (.ops r::k) objs (zan tm d (.s l)) F
 | _=>False
def kCb3 (P:Program) [Tabs P] (C:Cx) (c:Option OB) (off n:Nat) (d:Option Nat) (r:List SO) (k:List IT) (objs:List OB) (tm:List AV) (F:zaP):Prop :=
 match c with
 | some (.box _ cs)=>∃l,((cs.drop off).take n=byA l/\l.length=n)/\run P C (.ops r::k) objs (zan tm d (.s l)) F
 | _=>False
def kCb (P:Program) [Tabs P] (C:Cx) (v:AV) (d:Option Nat) (r:List SO) (k:List IT) (objs:List OB) (tm:List AV) (F:zaP):Prop :=
 match v with
 | .orow b gen=>kCb2 P C objs[b]? gen d r k objs tm F
 | .row n xs=>∃l,(xs=byA l/\n=l.length)/\run P C (.ops r::k) objs (zan tm d (.s l)) F
 | .nil=>run P C (.ops r::k) objs (zan tm d (.s [])) F
 | .bsl b off n=>kCb3 P C objs[b]? off n d r k objs tm F
 | _=>False
theorem kCb2_o (E n gen:Nat) (l:List UInt8) (h:run P C (.ops r::k) objs (zan tm d (.s l)) F):kCb2 P C (some (.orow E 1 gen n (byA l))) gen d r k objs tm F:=⟨⟨rfl,rfl⟩,l,rfl,h⟩
theorem zho (l:List UInt8) (n:Nat) (hn:n=l.length) (h:run P C (.ops r::k) objs (zan tm d (.s l)) F):kCb P C (.row n (byA l)) d r k objs tm F:=⟨l,⟨rfl,hn⟩,h⟩
theorem kCb_o (b gen:Nat):kCb P C (.orow b gen) d r k objs tm F=kCb2 P C objs[b]? gen d r k objs tm F:=Eq.trans rfl rfl
theorem kCb_n :kCb P C .nil d r k objs tm F=run P C (.ops r::k) objs (zan tm d (.s [])) F:=Eq.trans rfl rfl
theorem kCb_b (b off n:Nat):kCb P C (.bsl b off n) d r k objs tm F=kCb3 P C objs[b]? off n d r k objs tm F:=Eq.trans rfl rfl
theorem zmX (x:SV):run P C (.ops (⟨d,.cvbs x,none⟩::r)::k) objs tm F=kCb P C (x.ev tm) d r k objs tm F:=by
 rw[zbl];simp only[wpS,kCb]
 cases x.ev tm<;>try rfl
 try (case orow b gen=>
  dsimp only;generalize objs[b]? = q
  cases q with
  | none=>rfl
  | some ob=>cases ob<;>rfl)
 try (case bsl b off n=>
  dsimp only;generalize objs[b]? = q
  cases q with
  | none=>rfl
  | some ob=>cases ob<;>rfl)
theorem rn_mkf (f:Nat) (fs cs:List SV):run P C (.ops (⟨d,.mkf f fs cs,none⟩::r)::k) objs tm F=run P C (.ops r::k) objs (zan tm d (.fn f (evs tm fs) (evs tm cs))) F:=by rw[ze6,ze6];rfl
theorem kO_if (c:Prop) [Decidable c] (v:AV):kO P C (if c then some v else none) d r k objs tm F=(c/\run P C (.ops r::k) objs (zan tm d v) F):=by
 by_cases h:c
 ·simp[h,kO]
 ·simp[h,kO]
theorem pq_and (q:IntKind) (a b:Int):pq (.bits .and) [.i q a,.i q b]=some (.i q (q.wrap (BitVec.ofInt q.bits a &&& BitVec.ofInt q.bits b).toNat)):=by simp[pq,zmc]
theorem pq_or (q:IntKind) (a b:Int):pq (.bits .or) [.i q a,.i q b]=some (.i q (q.wrap (BitVec.ofInt q.bits a ||| BitVec.ofInt q.bits b).toNat)):=by simp[pq,zmc]
theorem pq_xor (q:IntKind) (a b:Int):pq (.bits .xor) [.i q a,.i q b]=some (.i q (q.wrap (BitVec.ofInt q.bits a ^^^ BitVec.ofInt q.bits b).toNat)):=by simp[pq,zmc]
theorem pq_shl (q q':IntKind) (a b:Int):pq .shl [.i q a,.i q' b]=if 0<=b then some (.i q (q.wrap (a*2 ^ (min b.toNat q.bits)))) else none:=Eq.trans rfl rfl
theorem pq_shr (q q':IntKind) (a b:Int):pq .shr [.i q a,.i q' b]=if 0<=b then some (.i q (a.fdiv (2 ^ (min b.toNat q.bits)))) else none:=Eq.trans rfl rfl
theorem pq_mn (q:IntKind) (a b:Int):pq .mn [.i q a,.i q b]=some (.i q (if b<a then b else a)):=by simp[pq]
theorem pq_mx (q:IntKind) (a b:Int):pq .mx [.i q a,.i q b]=some (.i q (if a<b then b else a)):=by simp[pq]
theorem pq_rsl (sz n:Nat) (xs:List AV) (q:IntKind) (a:Int):pq (.rsl sz) [.row n xs,.i q a]=if 0<=a/\a<=n then some (.row (n - a.toNat) ((xs.take (n*sz)).drop (a.toNat*sz))) else none:=Eq.trans rfl rfl
theorem znf (sz:Nat) (q:IntKind) (a:Int):pq (.rsl sz) [.nil,.i q a]=if a=0 then some .nil else none:=Eq.trans rfl rfl
theorem zng (sz n:Nat) (xs:List AV) (q:IntKind) (a:Int):pq (.rslh sz) [.row n xs,.i q a]=if 0<=a/\a<=n then some (.row a.toNat (xs.take (a.toNat*sz))) else none:=Eq.trans rfl rfl
theorem zj6 (sz:Nat) (q:IntKind) (a:Int):pq (.rslh sz) [.nil,.i q a]=if a=0 then some .nil else none:=Eq.trans rfl rfl
theorem znh (sz n:Nat) (xs:List AV) (q q':IntKind) (a b:Int):pq (.rslb sz) [.row n xs,.i q a,.i q' b]=if 0<=a/\a<=b/\b<=n then some (.row (b.toNat - a.toNat) ((xs.take (b.toNat*sz)).drop (a.toNat*sz))) else none:=Eq.trans rfl rfl
theorem pq_asl (sz len b off:Nat) (q:IntKind) (a:Int):pq (.asl sz len) [.p b off,.i q a]=if 0<=a/\a<len then some (.bsl b (off+a.toNat*sz) (len - a.toNat)) else none:=Eq.trans rfl rfl
theorem zni (sz len b off:Nat) (q:IntKind) (a:Int):pq (.aslh sz len) [.p b off,.i q a]=if 0<=a/\a<=len/\0<len then some (.bsl b off a.toNat) else none:=Eq.trans rfl rfl
theorem znj (sz len b off:Nat) (q q':IntKind) (a c:Int):pq (.aslb sz len) [.p b off,.i q a,.i q' c]=if 0<=a/\a<=c/\c<=len/\a<len then some (.bsl b (off+a.toNat*sz) (c.toNat - a.toNat)) else none:=Eq.trans rfl rfl
theorem pq_snn (ne:Bool):pq (.snil ne) [.nil,.nil]=some (.b (!ne)):=Eq.trans rfl rfl
theorem pq_snz (ne b:Bool):pq (.snil ne) [.zn b,.nil]=some (.b (if ne then !b else b)):=Eq.trans rfl rfl
theorem pq_snr (ne:Bool) (n:Nat) (x:AV) (xs:List AV):pq (.snil ne) [.row n (x::xs),.nil]=some (.b ne):=Eq.trans rfl rfl
theorem pq_sl3 (n:Nat) (xs:List AV) (q q':IntKind):pq .sl3 [.row n xs,.i q n,.i q' n]=some (.crow n xs):=by simp[pq]
theorem zne (q q':IntKind):pq .sl3 [.nil,.i q 0,.i q' 0]=some (.crow 0 []):=by simp[pq]
theorem pq_lss (l m:List UInt8):pq (.scmp .lss) [.s l,.s m]=some (.b (zg0 l m)):=Eq.trans rfl rfl
theorem pq_leq (l m:List UInt8):pq (.scmp .leq) [.s l,.s m]=some (.b (zg0 l m||l==m)):=Eq.trans rfl rfl
theorem pq_gtr (l m:List UInt8):pq (.scmp .gtr) [.s l,.s m]=some (.b (!zg0 l m&&!(l==m))):=Eq.trans rfl rfl
theorem pq_geq (l m:List UInt8):pq (.scmp .geq) [.s l,.s m]=some (.b (!zg0 l m)):=Eq.trans rfl rfl
theorem rn_pu (q:PQ) (xs:List SV):run P C (.ops (⟨d,.pu q xs,none⟩::r)::k) objs tm F=kO P C (pq q (evs tm xs)) d r k objs tm F:=by
 rw[ze6];rw[zbl];simp only[wpS]
 cases pq q (xs.map fun x=>x.ev tm)<;>rfl
def kLk2 (P:Program) [Tabs P] (C:Cx) (c:Option OB) (z:AV) (ok:Bool) (l:List UInt8) (d:Option Nat) (r:List SO) (k:List IT) (objs:List OB) (tm:List AV) (F:zaP):Prop :=
 match c with
 | some (.mp es)=>run P C (.ops r::k) objs (zan tm d (lkA z ok (zmg l es))) F
 | _=>False
def kMup2 (P:Program) [Tabs P] (C:Cx) (c:Option OB) (b:Nat) (l:List UInt8) (v:AV) (d:Option Nat) (r:List SO) (k:List IT) (objs:List OB) (tm:List AV) (F:zaP):Prop :=
 match c with
 | some (.mp es)=>v.one=true/\run P C (.ops r::k) (objs.set b (.mp (zkf l v es))) (zan tm d .u) F
 | _=>False
theorem kLk2_m (es:List (List UInt8×AV)) (z:AV) (ok:Bool) (l:List UInt8):kLk2 P C (some (.mp es)) z ok l d r k objs tm F=run P C (.ops r::k) objs (zan tm d (lkA z ok (zmg l es))) F:=Eq.trans rfl rfl
theorem znU (es:List (List UInt8×AV)) (b:Nat) (l:List UInt8) (v:AV):kMup2 P C (some (.mp es)) b l v d r k objs tm F=(v.one=true/\run P C (.ops r::k) (objs.set b (.mp (zkf l v es))) (zan tm d .u) F):=Eq.trans rfl rfl
def kLk (P:Program) [Tabs P] (C:Cx) (x y:AV) (z:AV) (ok:Bool) (d:Option Nat) (r:List SO) (k:List IT) (objs:List OB) (tm:List AV) (F:zaP):Prop :=
 match x,y with
 | .m b,.s l=>kLk2 P C objs[b]? z ok l d r k objs tm F
 | _,_=>False
theorem kLk_0 (b:Nat) (l:List UInt8) (z:AV) (ok:Bool):kLk P C (.m b) (.s l) z ok d r k objs tm F=(kLk2 P C objs[b]? z ok l d r k objs tm F):=Eq.trans rfl rfl
theorem rn_lk (z:AV) (ok:Bool) (x y:SV):run P C (.ops (⟨d,.lk z ok x y,none⟩::r)::k) objs tm F=kLk P C (x.ev tm) (y.ev tm) z ok d r k objs tm F:=by
 rw[zbl];simp only[wpS,kLk]
 cases x.ev tm<;>try rfl
 all_goals try (cases y.ev tm<;>try rfl)
 all_goals (
  dsimp only;rename_i b l;generalize objs[b]? = q
  cases q with
  | none=>rfl
  | some ob=>cases ob<;>rfl)
def kMup (P:Program) [Tabs P] (C:Cx) (x y:AV) (v:AV) (d:Option Nat) (r:List SO) (k:List IT) (objs:List OB) (tm:List AV) (F:zaP):Prop :=
 match x,y with
 | .m b,.s l=>kMup2 P C objs[b]? b l v d r k objs tm F
 | _,_=>False
theorem kMup_0 (b:Nat) (l:List UInt8) (v:AV):kMup P C (.m b) (.s l) v d r k objs tm F=(kMup2 P C objs[b]? b l v d r k objs tm F):=Eq.trans rfl rfl
theorem rn_mup (x y v:SV):run P C (.ops (⟨d,.mup x y v,none⟩::r)::k) objs tm F=kMup P C (x.ev tm) (y.ev tm) (v.ev tm) d r k objs tm F:=by
 rw[zbl];simp only[wpS,kMup]
 cases x.ev tm<;>try rfl
 all_goals try (cases y.ev tm<;>try rfl)
 all_goals (
  dsimp only;rename_i b l;generalize objs[b]? = q
  cases q with
  | none=>rfl
  | some ob=>cases ob<;>rfl)
theorem lkA_tt (z v:AV):lkA z true (some v)=.tup [v,.b true]:=Eq.trans rfl rfl
theorem lkA_tf (z v:AV):lkA z false (some v)=v:=Eq.trans rfl rfl
theorem lkA_nt (z:AV):lkA z true none=.tup [z,.b false]:=Eq.trans rfl rfl
theorem lkA_nf (z:AV):lkA z false none=z:=Eq.trans rfl rfl
theorem zmO :run P C (.ops (⟨d,.mkm0,none⟩::r)::k) objs tm F=run P C (.ops r::k) (objs++[.mp []]) (zan tm d (.m objs.length)) F:=by
 rw[zbl]
 rfl
def kMkm (P:Program) [Tabs P] (C:Cx) (x:AV) (d:Option Nat) (r:List SO) (k:List IT) (objs:List OB) (tm:List AV) (F:zaP):Prop :=
 match x with
 | .i _ _=>run P C (.ops r::k) (objs++[.mp []]) (zan tm d (.m objs.length)) F
 | _=>False
theorem kMkm_i (q:IntKind) (n:Int):kMkm P C (.i q n) d r k objs tm F=run P C (.ops r::k) (objs++[.mp []]) (zan tm d (.m objs.length)) F:=Eq.trans rfl rfl
theorem zmN (x:SV):run P C (.ops (⟨d,.mkm1 x,none⟩::r)::k) objs tm F=kMkm P C (x.ev tm) d r k objs tm F:=by
 rw[zbl];simp only[wpS,kMkm]
 cases x.ev tm<;>rfl
def kG (P:Program) [Tabs P] (C:Cx) (v:AV) (op:SOp) (t:Nat) (w:Bool) (d:Option Nat) (r:List SO) (k:List IT) (objs:List OB) (tm:List AV) (F:zaP):Prop :=
 match v with
 | .b x=>(x=w->run P C (.ops (⟨d,op,none⟩::r)::k) objs (tm.set t (.b w)) F)/\(x=!w->run P C (.ops r::k) objs (zan (tm.set t (.b (!w))) d (.o undef)) F)
 | .o (.tuple _)=>run P C (.ops r::k) objs (zan tm d (.o undef)) F
 | _=>False
def kGD (P:Program) [Tabs P] (C:Cx) (v:AV) (op:SOp) (t:Nat) (w:Bool) (d:Option Nat) (r:List SO) (k:List IT) (objs:List OB) (tm:List AV) (F:zaP):Prop :=
 match v with
 | .b x=>(x=w->run P C (.dops (⟨d,op,none⟩::r)::k) objs (tm.set t (.b w)) F)/\(x=!w->run P C (.dops r::k) objs (zan (tm.set t (.b (!w))) d (.o undef)) F)
 | .o (.tuple _)=>run P C (.dops r::k) objs (zan tm d (.o undef)) F
 | _=>False
theorem kG_tt (op:SOp) (t:Nat):kG P C (.b true) op t true d r k objs tm F=run P C (.ops (⟨d,op,none⟩::r)::k) objs (tm.set t (.b true)) F:=propext ⟨fun h=>h.1 rfl,fun h=>⟨fun _=>h,fun e=>absurd e (by decide)⟩⟩
theorem kG_tf (op:SOp) (t:Nat):kG P C (.b true) op t false d r k objs tm F=run P C (.ops r::k) objs (zan (tm.set t (.b true)) d (.o undef)) F:=propext ⟨fun h=>h.2 rfl,fun h=>⟨fun e=>absurd e (by decide),fun _=>h⟩⟩
theorem kG_ft (op:SOp) (t:Nat):kG P C (.b false) op t true d r k objs tm F=run P C (.ops r::k) objs (zan (tm.set t (.b false)) d (.o undef)) F:=propext ⟨fun h=>h.2 rfl,fun h=>⟨fun e=>absurd e (by decide),fun _=>h⟩⟩
theorem kG_ff (op:SOp) (t:Nat):kG P C (.b false) op t false d r k objs tm F=run P C (.ops (⟨d,op,none⟩::r)::k) objs (tm.set t (.b false)) F:=propext ⟨fun h=>h.1 rfl,fun h=>⟨fun _=>h,fun e=>absurd e (by decide)⟩⟩
theorem kG_u (op:SOp) (t:Nat) (w:Bool):kG P C (.o undef) op t w d r k objs tm F=run P C (.ops r::k) objs (zan tm d (.o undef)) F:=Eq.trans rfl rfl
theorem kG_v (op:SOp) (t:Nat) (w:Bool) (vs:Array Value):kG P C (.o (.tuple vs)) op t w d r k objs tm F=run P C (.ops r::k) objs (zan tm d (.o undef)) F:=Eq.trans rfl rfl
theorem kGD_tt (op:SOp) (t:Nat):kGD P C (.b true) op t true d r k objs tm F=run P C (.dops (⟨d,op,none⟩::r)::k) objs (tm.set t (.b true)) F:=propext ⟨fun h=>h.1 rfl,fun h=>⟨fun _=>h,fun e=>absurd e (by decide)⟩⟩
theorem kGD_tf (op:SOp) (t:Nat):kGD P C (.b true) op t false d r k objs tm F=run P C (.dops r::k) objs (zan (tm.set t (.b true)) d (.o undef)) F:=propext ⟨fun h=>h.2 rfl,fun h=>⟨fun e=>absurd e (by decide),fun _=>h⟩⟩
theorem kGD_ft (op:SOp) (t:Nat):kGD P C (.b false) op t true d r k objs tm F=run P C (.dops r::k) objs (zan (tm.set t (.b false)) d (.o undef)) F:=propext ⟨fun h=>h.2 rfl,fun h=>⟨fun e=>absurd e (by decide),fun _=>h⟩⟩
theorem kGD_ff (op:SOp) (t:Nat):kGD P C (.b false) op t false d r k objs tm F=run P C (.dops (⟨d,op,none⟩::r)::k) objs (tm.set t (.b false)) F:=propext ⟨fun h=>h.1 rfl,fun h=>⟨fun _=>h,fun e=>absurd e (by decide)⟩⟩
theorem kGD_u (op:SOp) (t:Nat) (w:Bool):kGD P C (.o undef) op t w d r k objs tm F=run P C (.dops r::k) objs (zan tm d (.o undef)) F:=Eq.trans rfl rfl
theorem kGD_v (op:SOp) (t:Nat) (w:Bool) (vs:Array Value):kGD P C (.o (.tuple vs)) op t w d r k objs tm F=run P C (.dops r::k) objs (zan tm d (.o undef)) F:=Eq.trans rfl rfl
theorem zjT (op:SOp) (t:Nat) (w:Bool):run P C (.ops (⟨d,op,some (t,w)⟩::r)::k) objs tm F=kG P C ((tm[t]?).getD .u) op t w d r k objs tm F:=by
 show wpR P _ _ _ _=_;simp only[wpR,kG]
 cases (tm[t]?).getD .u<;>try rfl
 try (case o v=>cases v<;>rfl)
theorem zh3 (op:SOp) (t:Nat) (w:Bool):run P C (.dops (⟨d,op,some (t,w)⟩::r)::k) objs tm F=kGD P C ((tm[t]?).getD .u) op t w d r k objs tm F:=by
 show wpD P _ _ _ _=_;simp only[wpD,kGD]
 cases (tm[t]?).getD .u<;>try rfl
 try (case o v=>cases v<;>rfl)
def kC (P:Program) [Tabs P] (C:Cx) (v:AV) (x y:SCode) (k:List IT) (objs:List OB) (tm:List AV) (F:zaP):Prop :=
 match v with
 | .b t=>(t=true->run P C (.code x::k) objs tm F)/\(t=false->run P C (.code y::k) objs tm F)
 | _=>False
theorem kC_t (x y:SCode):kC P C (.b true) x y k objs tm F=run P C (.code x::k) objs tm F:=propext ⟨fun h=>h.1 rfl,fun h=>⟨fun _=>h,fun e=>absurd e (by decide)⟩⟩
theorem kC_f (x y:SCode):kC P C (.b false) x y k objs tm F=run P C (.code y::k) objs tm F:=propext ⟨fun h=>h.2 rfl,fun h=>⟨fun e=>absurd e (by decide),fun _=>h⟩⟩
theorem zmY (c:SV) (x y:SCode):run P C (.code (.cond c x y)::k) objs tm F=kC P C (c.ev tm) x y k objs tm F:=by
 show wpC P C _ _ _ _=_;simp only[wpC,kC]
 cases c.ev tm<;>rfl
def kCall (P:Program) [Tabs P] (C:Cx) (f:Nat) (args:List AV) (d:Option Nat) (r:List SO) (k:List IT) (objs:List OB) (tm:List AV) (F:zaP):Prop:=zaa P f args objs fun o v=>run P C (.ops r::k) o (zan tm d v) F
theorem zm0 (f:Nat) (args:List SV):run P C (.ops (⟨d,.call f args,none⟩::r)::k) objs tm F=kCall P C f (evs tm args) d r k objs tm F:=by
 show wpR P _ _ _ _=_;simp only[wpR,wpS,kCall,ze6];rfl
theorem zal {f:Nat} {args:List AV} (h:zaa P f args objs fun o v=>run P C (.ops r::k) o (zan tm d v) F):kCall P C f args d r k objs tm F:=h
def zn7 (P:Program) [Tabs P] (C:Cx) (f:Nat) (args:List AV) (d:Option Nat) (r:List SO) (k:List IT) (objs:List OB) (tm:List AV) (F:zaP):Prop:=∃v,(zaa P f args objs fun o x=>o=objs/\x=v)/\run P C (.dops r::k) objs (zan tm d v) F
theorem zjU (f:Nat) (args:List SV):run P C (.dops (⟨d,.call f args,none⟩::r)::k) objs tm F=zn7 P C f (evs tm args) d r k objs tm F:=by
 show wpD P _ _ _ _=_;simp only[wpD,wpS,zn7,ze6,SOp.isCall,if_true];rfl
def znS (P:Program) [Tabs P] (C:Cx) (f:Nat) (args:List AV) (d:Option Nat) (r:List SO) (k:List IT) (objs:List OB) (tm:List AV) (F:zaP):Prop:=∃v,(zar args=true/\zaa P f args [] fun _ x=>x.plain=true/\objs=objs/\x=v)/\run P C (.dops r::k) objs (zan tm d v) F
theorem zjP (f:Nat) (args:List SV):run P C (.dops (⟨d,.pcall f args,none⟩::r)::k) objs tm F=znS P C f (evs tm args) d r k objs tm F:=by
 show wpD P (⟨d,.pcall f args,none⟩::r) objs tm _=_;simp only[wpD,wpS,znS,ze6,SOp.isCall,if_true];rfl
theorem znO {f:Nat} {args:List AV} {v:AV} (h:zaa P f args [] fun _ x=>x=v) (hp:zar args=true) (hv:v.plain=true) (hr:run P C (.dops r::k) objs (zan tm d v) F):znS P C f args d r k objs tm F :=
 ⟨v,⟨hp,h.mono fun _ x e=>by subst e;exact⟨hv,rfl,rfl⟩⟩,hr⟩
theorem zbs {f:Nat} {args:List AV} {v:AV} (h:zaa P f args objs fun o x=>o=objs/\x=v) (hr:run P C (.dops r::k) objs (zan tm d v) F):zn7 P C f args d r k objs tm F:=⟨v,h,hr⟩
def IsFn (P : Program) (f : Nat) : Prop := ∃ fn, P.funcs[f]? = some fn ∧ fn.body.isSome = true ∧ fn.name ≠ "runtime.NumGoroutine"
def zn8 (P:Program) [Tabs P] (C:Cx) (x:AV) (args:List AV) (d:Option Nat) (r:List SO) (k:List IT) (objs:List OB) (tm:List AV) (F:zaP):Prop :=
 match x with
 | .fn f fs cs=>IsFn P f/\zaa P f (fs++args++cs) objs fun o v=>run P C (.ops r::k) o (zan tm d v) F
 | _=>False
theorem zjV (x:SV) (args:List SV):run P C (.ops (⟨d,.callv x args,none⟩::r)::k) objs tm F=zn8 P C (x.ev tm) (evs tm args) d r k objs tm F:=by
 show wpR P _ _ _ _=_;simp only[wpR,wpS,zn8,ze6]
 cases x.ev tm<;>rfl
theorem kcallv {f:Nat} {fs cs args:List AV} (hf:IsFn P f) (h:zaa P f (fs++args++cs) objs fun o v=>run P C (.ops r::k) o (zan tm d v) F):zn8 P C (.fn f fs cs) args d r k objs tm F:=⟨hf,h⟩
theorem drn_mv (x:SV):run P C (.dops (⟨d,.mv x,none⟩::r)::k) objs tm F=run P C (.ops [⟨d,.mv x,none⟩]::.dops r::k) objs tm F:=Eq.trans rfl rfl
theorem zkV (c x y:SV):run P C (.dops (⟨d,.pick c x y,none⟩::r)::k) objs tm F=run P C (.ops [⟨d,.pick c x y,none⟩]::.dops r::k) objs tm F:=Eq.trans rfl rfl
theorem ziA (z:List AV) (ps:List (Nat×Nat×SV)):run P C (.dops (⟨d,.build z ps,none⟩::r)::k) objs tm F=run P C (.ops [⟨d,.build z ps,none⟩]::.dops r::k) objs tm F:=Eq.trans rfl rfl
theorem zgJ (n:Nat) (z:List AV) (ps:List (Nat×Nat×SV)):run P C (.dops (⟨d,.bslice n z ps,none⟩::r)::k) objs tm F=run P C (.ops [⟨d,.bslice n z ps,none⟩]::.dops r::k) objs tm F:=Eq.trans rfl rfl
theorem ziz (x:SV):run P C (.dops (⟨d,.load1 x,none⟩::r)::k) objs tm F=run P C (.ops [⟨d,.load1 x,none⟩]::.dops r::k) objs tm F:=Eq.trans rfl rfl
theorem ziy (sz:Nat) (x:SV):run P C (.dops (⟨d,.loadn sz x,none⟩::r)::k) objs tm F=run P C (.ops [⟨d,.loadn sz x,none⟩]::.dops r::k) objs tm F:=Eq.trans rfl rfl
theorem zoS (x:SV):run P C (.dops (⟨d,.nck x,none⟩::r)::k) objs tm F=run P C (.ops [⟨d,.nck x,none⟩]::.dops r::k) objs tm F:=Eq.trans rfl rfl
theorem zo5 (q:BinOp) (x y:SV):run P C (.dops (⟨d,.bin q x y,none⟩::r)::k) objs tm F=run P C (.ops [⟨d,.bin q x y,none⟩]::.dops r::k) objs tm F:=Eq.trans rfl rfl
theorem zo6 (ne:Bool) (x y:SV):run P C (.dops (⟨d,.beq ne x y,none⟩::r)::k) objs tm F=run P C (.ops [⟨d,.beq ne x y,none⟩]::.dops r::k) objs tm F:=Eq.trans rfl rfl
theorem zo1 (ne:Bool) (e:ET) (x y:SV):run P C (.dops (⟨d,.eqs ne e x y,none⟩::r)::k) objs tm F=run P C (.ops [⟨d,.eqs ne e x y,none⟩]::.dops r::k) objs tm F:=Eq.trans rfl rfl
theorem zoQ (x:SV):run P C (.dops (⟨d,.not x,none⟩::r)::k) objs tm F=run P C (.ops [⟨d,.not x,none⟩]::.dops r::k) objs tm F:=Eq.trans rfl rfl
theorem zoR (x:SV):run P C (.dops (⟨d,.neg x,none⟩::r)::k) objs tm F=run P C (.ops [⟨d,.neg x,none⟩]::.dops r::k) objs tm F:=Eq.trans rfl rfl
theorem zk1 (sz len:Nat) (x y:SV):run P C (.dops (⟨d,.iada sz len x y,none⟩::r)::k) objs tm F=run P C (.ops [⟨d,.iada sz len x y,none⟩]::.dops r::k) objs tm F:=Eq.trans rfl rfl
theorem zo3 (q:IntKind) (x:SV):run P C (.dops (⟨d,.cvi q x,none⟩::r)::k) objs tm F=run P C (.ops [⟨d,.cvi q x,none⟩]::.dops r::k) objs tm F:=Eq.trans rfl rfl
theorem zo2 (x:SV):run P C (.dops (⟨d,.cvs x,none⟩::r)::k) objs tm F=run P C (.ops [⟨d,.cvs x,none⟩]::.dops r::k) objs tm F:=Eq.trans rfl rfl
theorem zk4 (x:SV):run P C (.dops (⟨d,.cvbs x,none⟩::r)::k) objs tm F=run P C (.ops [⟨d,.cvbs x,none⟩]::.dops r::k) objs tm F:=Eq.trans rfl rfl
theorem zkU (x:SV) (lo hi:Option SV):run P C (.dops (⟨d,.slcs x lo hi,none⟩::r)::k) objs tm F=run P C (.ops [⟨d,.slcs x lo hi,none⟩]::.dops r::k) objs tm F:=Eq.trans rfl rfl
theorem zoZ (off:Nat) (x:SV):run P C (.dops (⟨d,.fad off x,none⟩::r)::k) objs tm F=run P C (.ops [⟨d,.fad off x,none⟩]::.dops r::k) objs tm F:=Eq.trans rfl rfl
theorem zk3 (off:Nat) (x:SV):run P C (.dops (⟨d,.fld1 off x,none⟩::r)::k) objs tm F=run P C (.ops [⟨d,.fld1 off x,none⟩]::.dops r::k) objs tm F:=Eq.trans rfl rfl
theorem zk2 (off sz:Nat) (x:SV):run P C (.dops (⟨d,.fldn off sz x,none⟩::r)::k) objs tm F=run P C (.ops [⟨d,.fldn off sz x,none⟩]::.dops r::k) objs tm F:=Eq.trans rfl rfl
theorem zoY (sz:Nat) (x y:SV):run P C (.dops (⟨d,.iad sz x y,none⟩::r)::k) objs tm F=run P C (.ops [⟨d,.iad sz x y,none⟩]::.dops r::k) objs tm F:=Eq.trans rfl rfl
theorem zoX (x y:SV):run P C (.dops (⟨d,.idx x y,none⟩::r)::k) objs tm F=run P C (.ops [⟨d,.idx x y,none⟩]::.dops r::k) objs tm F:=Eq.trans rfl rfl
theorem zo0 (x:SV) (j:Nat):run P C (.dops (⟨d,.ext x j,none⟩::r)::k) objs tm F=run P C (.ops [⟨d,.ext x j,none⟩]::.dops r::k) objs tm F:=Eq.trans rfl rfl
theorem zkY (x:SV):run P C (.dops (⟨d,.lens x,none⟩::r)::k) objs tm F=run P C (.ops [⟨d,.lens x,none⟩]::.dops r::k) objs tm F:=Eq.trans rfl rfl
theorem zkZ (x:SV):run P C (.dops (⟨d,.lenr x,none⟩::r)::k) objs tm F=run P C (.ops [⟨d,.lenr x,none⟩]::.dops r::k) objs tm F:=Eq.trans rfl rfl
theorem zoW (f:Nat) (fs cs:List SV):run P C (.dops (⟨d,.mkf f fs cs,none⟩::r)::k) objs tm F=run P C (.ops [⟨d,.mkf f fs cs,none⟩]::.dops r::k) objs tm F:=Eq.trans rfl rfl
theorem zk6 (E sz n:Nat) (z:List AV) (ps:List (Nat×Nat×SV)):run P C (.dops (⟨d,.bslo E sz n z ps,none⟩::r)::k) objs tm F=run P C (.ops [⟨d,.bslo E sz n z ps,none⟩]::.dops r::k) objs tm F:=Eq.trans rfl rfl
theorem ziB (T:Nat) (z:List AV):run P C (.dops (⟨d,.alloc T z,none⟩::r)::k) objs tm F=run P C (.ops [⟨d,.alloc T z,none⟩]::.dops r::k) objs tm F:=Eq.trans rfl rfl
theorem zo4 (T:Nat) (x:SV):run P C (.dops (⟨d,.box T x,none⟩::r)::k) objs tm F=run P C (.ops [⟨d,.box T x,none⟩]::.dops r::k) objs tm F:=Eq.trans rfl rfl
theorem zix (sz:Nat) (x y:SV):run P C (.dops (⟨d,.store sz x y,none⟩::r)::k) objs tm F=run P C (.ops [⟨d,.store sz x y,none⟩]::.dops r::k) objs tm F:=Eq.trans rfl rfl
theorem zo7 (E sz by':Nat) (x y:SV):run P C (.dops (⟨d,.app E sz by' x y,none⟩::r)::k) objs tm F=run P C (.ops [⟨d,.app E sz by' x y,none⟩]::.dops r::k) objs tm F:=Eq.trans rfl rfl
theorem zk7 (E:Nat) (x y:SV):run P C (.dops (⟨d,.apps E x y,none⟩::r)::k) objs tm F=run P C (.ops [⟨d,.apps E x y,none⟩]::.dops r::k) objs tm F:=Eq.trans rfl rfl
theorem zoV (E sz by':Nat) (x y:SV):run P C (.dops (⟨d,.mks E sz by' x y,none⟩::r)::k) objs tm F=run P C (.ops [⟨d,.mks E sz by' x y,none⟩]::.dops r::k) objs tm F:=Eq.trans rfl rfl
theorem zoU (E by':Nat) (kd:IntKind) (z:Int) (x:SV):run P C (.dops (⟨d,.mkz E by' kd z x,none⟩::r)::k) objs tm F=run P C (.ops [⟨d,.mkz E by' kd z x,none⟩]::.dops r::k) objs tm F:=Eq.trans rfl rfl
theorem zk5 (sz by':Nat) (x y:SV):run P C (.dops (⟨d,.capp sz by' x y,none⟩::r)::k) objs tm F=run P C (.ops [⟨d,.capp sz by' x y,none⟩]::.dops r::k) objs tm F:=Eq.trans rfl rfl
theorem drn_pu (q:PQ) (xs:List SV):run P C (.dops (⟨d,.pu q xs,none⟩::r)::k) objs tm F=run P C (.ops [⟨d,.pu q xs,none⟩]::.dops r::k) objs tm F:=Eq.trans rfl rfl
theorem zoP (sz:Nat) (x y:SV):run P C (.dops (⟨d,.trn sz x y,none⟩::r)::k) objs tm F=run P C (.ops [⟨d,.trn sz x y,none⟩]::.dops r::k) objs tm F:=Eq.trans rfl rfl
theorem zk0 (sz:Nat) (x y:SV):run P C (.dops (⟨d,.iadr sz x y,none⟩::r)::k) objs tm F=run P C (.ops [⟨d,.iadr sz x y,none⟩]::.dops r::k) objs tm F:=Eq.trans rfl rfl
theorem zkX :run P C (.dops (⟨d,.mkm0,none⟩::r)::k) objs tm F=run P C (.ops [⟨d,.mkm0,none⟩]::.dops r::k) objs tm F:=Eq.trans rfl rfl
theorem zkW (x:SV):run P C (.dops (⟨d,.mkm1 x,none⟩::r)::k) objs tm F=run P C (.ops [⟨d,.mkm1 x,none⟩]::.dops r::k) objs tm F:=Eq.trans rfl rfl
theorem drn_lk (z:AV) (ok:Bool) (x y:SV):run P C (.dops (⟨d,.lk z ok x y,none⟩::r)::k) objs tm F=run P C (.ops [⟨d,.lk z ok x y,none⟩]::.dops r::k) objs tm F:=Eq.trans rfl rfl
theorem zoT (x y v:SV):run P C (.dops (⟨d,.mup x y v,none⟩::r)::k) objs tm F=run P C (.ops [⟨d,.mup x y v,none⟩]::.dops r::k) objs tm F:=Eq.trans rfl rfl
theorem zaR {f:FuncId} {n:Nat} {ss:List SRes} {sc:SCode} (hf:FnIs P f n ss sc) {args:List AV} {objs:List OB} {K:List OB->AV->Prop} (hp:zar args=true)
  (h:∀(C:Cx) [On P C],run P C [.code sc] [] (args++qs (n - args.length) (.o undef)) (endK ss fun r=>K objs r)):zaa P f args objs K :=
 fn_ok hf hp h
theorem zdp {f:FuncId} {n:Nat} {ss:List SRes} {sc:SCode} (hf:FnIs P f n ss sc) {args:List AV} {objs:List OB} {K:List OB->AV->Prop}
  (h:∀(C:Cx) [On P C],run P C [.code sc] objs (args++qs (n - args.length) (.o undef)) (endI ss K)):zaa P f args objs K :=
 fn_in hf h
theorem endI_n (ss:List SRes) (K:List OB->AV->Prop):endI ss K .normal objs tm=outI ss K objs tm:=Eq.trans rfl rfl
theorem endI_r (ss:List SRes) (K:List OB->AV->Prop):endI ss K .ret objs tm=outI ss K objs tm:=Eq.trans rfl rfl
def outJ (K:List OB->AV->Prop) (objs:List OB):Option (List AV)->Prop
 | some xs=>K objs (zlt xs)
 | none=>False
theorem outJ_s (K:List OB->AV->Prop) (xs:List AV):outJ K objs (some xs)=K objs (zlt xs):=Eq.trans rfl rfl
theorem znr (ss:List SRes) (K:List OB->AV->Prop):outI ss K objs tm=outJ K objs (zd1 objs tm ss):=by
 unfold outI
 cases zd1 objs tm ss<;>rfl
theorem endK_n (ss:List SRes) (K:AV->Prop):endK ss K .normal objs tm=outK ss K objs tm:=Eq.trans rfl rfl
theorem endK_r (ss:List SRes) (K:AV->Prop):endK ss K .ret objs tm=outK ss K objs tm:=Eq.trans rfl rfl
def outO (K:AV->Prop):Option AV->Prop
 | some r=>K r
 | none=>False
theorem outO_s (K:AV->Prop) (r:AV):outO K (some r)=K r:=Eq.trans rfl rfl
theorem znq (ss:List SRes) (K:AV->Prop):outK ss K objs tm=outO K ((zd1 objs tm ss).bind fun xs=>pub objs 5 (zlt xs)):=by
 unfold outK
 cases (zd1 objs tm ss).bind (fun xs=>pub objs 5 (zlt xs))<;>rfl
end
end Go.Proofs.YtomkbafdmbfmfaaGreatDoor.Sx
/-
 DERIVED: THE SHELF's CONTRACTS AT THIS DUMP,IN PLAIN WORDS (tools/lay-plain.mjs out of 'TryzShelf.lean',which tools/lay-shelf.mjs wrote): THE SAME DECLARATIONS UNDER THE SAME NAMES: 'import','namespace','open','def','theorem' AND NOTHING ELSE: no command of the shelf's: FOR A HAND-IN. Each laying: the table of numbers ('.._ren') and one theorem,a field a fact of the dump's own or the kernel's comparison;each contract: ONE APPLICATION.
-/
namespace Go.Proofs
open Go.Shelf
open Lib renaming hasPrefix->zm, indexByte->jr
def Tryz.lays156_ren:Go.Shelf.Ren:=⟨fun|156=>187|165=>248|166=>249|169=>250|240=>282|241=>283|276=>300|277=>301|n=>n,fun|31=>82|9=>9|3=>3|4=>4|0=>0|20=>20|72=>260|76=>264|70=>258|37=>22|75=>263|127=>285|164=>295|5=>5|80=>266|n=>n,fun|n=>n⟩
theorem Tryz.lays156:Go.Proofs.Lays.n156 Tryz.prog Tryz.lays156_ren:={
 mixed:=by kernel_rfl
 f156:=Tryz.func187.trans (congrArg some (by kernel_rfl))
 f165:=Tryz.func248.trans (congrArg some (by kernel_rfl))
 f166:=Tryz.func249.trans (congrArg some (by kernel_rfl))
 f169:=Tryz.func250.trans (congrArg some (by kernel_rfl))
 f240:=Tryz.func282.trans (congrArg some (by kernel_rfl))
 f241:=Tryz.func283.trans (congrArg some (by kernel_rfl))
 f276:=Tryz.func300.trans (congrArg some (by kernel_rfl))
 f277:=Tryz.func301.trans (congrArg some (by kernel_rfl))
 t0:=Tryz.underlying0
 a0:=Tryz.isAgg0
 z0:=Tryz.sizeOf0
 v0:=Tryz.zeroValue0
 t3:=Tryz.underlying3
 a3:=Tryz.isAgg3
 z3:=Tryz.sizeOf3
 v3:=Tryz.zeroValue3
 t4:=Tryz.underlying4
 a4:=Tryz.isAgg4
 z4:=Tryz.sizeOf4
 v4:=Tryz.zeroValue4
 t9:=Tryz.underlying9
 a9:=Tryz.isAgg9
 z9:=Tryz.sizeOf9
 v9:=Tryz.zeroValue9
 t20:=Tryz.underlying20
 a20:=Tryz.isAgg20
 z20:=Tryz.sizeOf20
 v20:=Tryz.zeroValue20
 t31:=Tryz.underlying82
 a31:=Tryz.isAgg82
 z31:=Tryz.sizeOf82
 v31:=Tryz.zeroValue82
 t37:=Tryz.underlying22
 a37:=Tryz.isAgg22
 z37:=Tryz.sizeOf22
 v37:=Tryz.zeroValue22
 t70:=Tryz.underlying258
 a70:=Tryz.isAgg258
 z70:=Tryz.sizeOf258
 v70:=Tryz.zeroValue258
 t72:=Tryz.underlying260
 a72:=Tryz.isAgg260
 z72:=Tryz.sizeOf260
 v72:=Tryz.zeroValue260
 t75:=Tryz.underlying263
 a75:=Tryz.isAgg263
 z75:=Tryz.sizeOf263
 v75:=Tryz.zeroValue263
 t76:=Tryz.underlying264
 a76:=Tryz.isAgg264
 z76:=Tryz.sizeOf264
 v76:=Tryz.zeroValue264
 t127:=Tryz.underlying285
 a127:=Tryz.isAgg285
 z127:=Tryz.sizeOf285
 v127:=Tryz.zeroValue285
 t164:=Tryz.underlying295
 a164:=Tryz.isAgg295
 z164:=Tryz.sizeOf295
 v164:=Tryz.zeroValue295 }
theorem Tryz.Builder_Extra_156:Builder.Extra Tryz.prog Tryz.lays156_ren:={
 sizeBuilder:=by kernel_rfl
 liesBuilder:=by kernel_rfl
 t5:=Tryz.underlying5
 a5:=Tryz.isAgg5
 z5:=Tryz.sizeOf5
 v5:=Tryz.zeroValue5
 infoByte:=by kernel_rfl
 cellsByte:=by kernel_rfl
 sizeByte:=by kernel_rfl
 neB5:=by decide }
open Go.RowKit in
/-- No element: the empty string; the world is as it was. (Whatever the slice's address and capacity: a nil slice too.) (LAID: no walk: one application.) -/
theorem Tryz.strings_Join_none (a:Option Addr) (c:Nat) (sep:ByteArray) (w:World) :
  Calls Tryz.prog 187 #[.slice a 0 c,.string sep] w fun e w'=>e=.returned (.string ⟨#[]⟩)/\w'=w:=Any.strings_Join_none Tryz.lays156 Tryz.Builder_Extra_156 a c sep w
open Go.RowKit in
/-- strings.Join: "Join concatenates the elements of its first argument to create a single string. The separator string sep is placed between elements in the resulting string.": HOWEVER MANY ELEMENTS. Below the heap's end the world is as it was. (LAID: no walk: one application.) -/
theorem Tryz.strings_Join (bk o c:Nat) (xs:List ByteArray) (sep:ByteArray) (w:World) (hcells:∀(j:Nat) x,xs[j]? = some x->w.cell? ⟨bk,o+j,none⟩=some (.string x)) (hbk:bk<w.heap.size) (hN:xs.length<=140737488355328) (hcap:xs.length<=c) (hlen:(Lib.join (xs.map (·.data.toList)) sep.data.toList).length<=140737488355328) :
  Calls Tryz.prog 187 #[.slice (some ⟨bk,o,none⟩) xs.length c,.string sep] w fun e w'=>e=.returned (.string ⟨(Lib.join (xs.map (·.data.toList)) sep.data.toList).toArray⟩)/\Below w.heap.size w w':=Any.strings_Join Tryz.lays156 Tryz.Builder_Extra_156 bk o c xs sep w hcells hbk hN hcap hlen
def Tryz.lays137_ren:Go.Shelf.Ren:=⟨fun|137=>219|217=>235|266=>272|n=>n,fun|9=>9|5=>5|3=>3|n=>n,fun|n=>n⟩
theorem Tryz.lays137:Go.Proofs.Lays.n137 Tryz.prog Tryz.lays137_ren:={
 mixed:=by kernel_rfl
 f137:=Tryz.func219.trans (congrArg some (by kernel_rfl))
 f217:=Tryz.func235.trans (congrArg some (by kernel_rfl))
 f266:=Tryz.func272.trans (congrArg some (by kernel_rfl))
 t3:=Tryz.underlying3
 a3:=Tryz.isAgg3
 z3:=Tryz.sizeOf3
 v3:=Tryz.zeroValue3
 t5:=Tryz.underlying5
 a5:=Tryz.isAgg5
 z5:=Tryz.sizeOf5
 v5:=Tryz.zeroValue5
 t9:=Tryz.underlying9
 a9:=Tryz.isAgg9
 z9:=Tryz.sizeOf9
 v9:=Tryz.zeroValue9 }
open Go.RowKit in
/-- strings.IndexByte: "IndexByte returns the index of the first instance of c in s, or -1 if c is not present in s.": IT RETURNS 'Lib.indexByte s c'; the world is as it was. (LAID: no walk: one application.) -/
theorem Tryz.strings_IndexByte (s:ByteArray) (c:Int) (w:World) :
  Calls Tryz.prog 219 #[.string s,.int .u8 c] w fun e w'=>e=.returned (.int .i64 (jr s.data.toList c.toNat.toUInt8))/\w'=w:=Any.strings_IndexByte Tryz.lays137 s c w
def Tryz.lays103_ren:Go.Shelf.Ren:=⟨fun|103=>222|210=>264|206=>129|n=>n,fun|9=>9|4=>4|24=>175|3=>3|n=>n,fun|n=>n⟩
theorem Tryz.lays103:Go.Proofs.Lays.n103 Tryz.prog Tryz.lays103_ren:={
 mixed:=by kernel_rfl
 f103:=Tryz.func222.trans (congrArg some (by kernel_rfl))
 f206:=Tryz.func129.trans (congrArg some (by kernel_rfl))
 f210:=Tryz.func264.trans (congrArg some (by kernel_rfl))
 t3:=Tryz.underlying3
 a3:=Tryz.isAgg3
 z3:=Tryz.sizeOf3
 v3:=Tryz.zeroValue3
 t4:=Tryz.underlying4
 a4:=Tryz.isAgg4
 z4:=Tryz.sizeOf4
 v4:=Tryz.zeroValue4
 t9:=Tryz.underlying9
 a9:=Tryz.isAgg9
 z9:=Tryz.sizeOf9
 v9:=Tryz.zeroValue9
 t24:=Tryz.underlying175
 a24:=Tryz.isAgg175
 z24:=Tryz.sizeOf175
 v24:=Tryz.zeroValue175 }
open Go.RowKit in
/-- strings.CutPrefix: "CutPrefix returns s without the provided leading prefix string and reports whether it found the prefix. If s doesn't start with prefix, CutPrefix returns s, false. If prefix is the empty string, CutPrefix returns s, true.": IT RETURNS '(Lib.trimPrefix s p, Lib.hasPrefix s p)'; the world is as it was. (LAID: no walk: one application.) -/
theorem Tryz.strings_CutPrefix (s p:ByteArray) (w:World) :
  Calls Tryz.prog 222 #[.string s,.string p] w fun e w'=>e=.returned (.tuple #[.string ⟨(Lib.trimPrefix s.data.toList p.data.toList).toArray⟩,.bool (zm s.data.toList p.data.toList)])/\w'=w:=Any.strings_CutPrefix Tryz.lays103 s p w
def Tryz.laysM171_ren:Go.Shelf.Ren:=⟨fun|171=>128|243=>199|246=>256|283=>284|284=>285|285=>286|286=>287|129=>303|317=>302|318=>304|319=>305|320=>306|337=>311|338=>312|n=>n,fun|3=>3|9=>9|2=>2|4=>4|171=>286|0=>0|53=>25|37=>22|5=>5|173=>289|212=>299|51=>277|20=>20|213=>300|46=>255|232=>310|233=>311|n=>n,fun|17=>1|18=>4|19=>5|n=>n⟩
theorem Tryz.laysM171:Go.Proofs.LaysM.n171 Tryz.prog Tryz.laysM171_ren:={
 mixed:=by kernel_rfl
 f129:=Tryz.func303.trans (congrArg some (by kernel_rfl))
 f171:=Tryz.func128.trans (congrArg some (by kernel_rfl))
 f243:=Tryz.func199.trans (congrArg some (by kernel_rfl))
 f246:=Tryz.func256.trans (congrArg some (by kernel_rfl))
 f283:=Tryz.func284.trans (congrArg some (by kernel_rfl))
 f284:=Tryz.func285.trans (congrArg some (by kernel_rfl))
 f285:=Tryz.func286.trans (congrArg some (by kernel_rfl))
 f286:=Tryz.func287.trans (congrArg some (by kernel_rfl))
 f317:=Tryz.func302.trans (congrArg some (by kernel_rfl))
 f318:=Tryz.func304.trans (congrArg some (by kernel_rfl))
 f319:=Tryz.func305.trans (congrArg some (by kernel_rfl))
 f320:=Tryz.func306.trans (congrArg some (by kernel_rfl))
 f337:=Tryz.func311.trans (congrArg some (by kernel_rfl))
 f338:=Tryz.func312.trans (congrArg some (by kernel_rfl))
 t0:=Tryz.underlying0
 a0:=Tryz.isAgg0
 z0:=Tryz.sizeOf0
 v0:=Tryz.zeroValue0
 t2:=Tryz.underlying2
 a2:=Tryz.isAgg2
 z2:=Tryz.sizeOf2
 v2:=Tryz.zeroValue2
 t3:=Tryz.underlying3
 a3:=Tryz.isAgg3
 z3:=Tryz.sizeOf3
 v3:=Tryz.zeroValue3
 t4:=Tryz.underlying4
 a4:=Tryz.isAgg4
 z4:=Tryz.sizeOf4
 v4:=Tryz.zeroValue4
 t5:=Tryz.underlying5
 a5:=Tryz.isAgg5
 z5:=Tryz.sizeOf5
 v5:=Tryz.zeroValue5
 t9:=Tryz.underlying9
 a9:=Tryz.isAgg9
 z9:=Tryz.sizeOf9
 v9:=Tryz.zeroValue9
 t20:=Tryz.underlying20
 a20:=Tryz.isAgg20
 z20:=Tryz.sizeOf20
 v20:=Tryz.zeroValue20
 t37:=Tryz.underlying22
 a37:=Tryz.isAgg22
 z37:=Tryz.sizeOf22
 v37:=Tryz.zeroValue22
 t46:=Tryz.underlying255
 a46:=Tryz.isAgg255
 z46:=Tryz.sizeOf255
 v46:=Tryz.zeroValue255
 t51:=Tryz.underlying277
 a51:=Tryz.isAgg277
 z51:=Tryz.sizeOf277
 v51:=Tryz.zeroValue277
 t53:=Tryz.underlying25
 a53:=Tryz.isAgg25
 z53:=Tryz.sizeOf25
 v53:=Tryz.zeroValue25
 t171:=Tryz.underlying286
 a171:=Tryz.isAgg286
 z171:=Tryz.sizeOf286
 v171:=Tryz.zeroValue286
 t173:=Tryz.underlying289
 a173:=Tryz.isAgg289
 z173:=Tryz.sizeOf289
 v173:=Tryz.zeroValue289
 t212:=Tryz.underlying299
 a212:=Tryz.isAgg299
 z212:=Tryz.sizeOf299
 v212:=Tryz.zeroValue299
 t213:=Tryz.underlying300
 a213:=Tryz.isAgg300
 z213:=Tryz.sizeOf300
 t232:=Tryz.underlying310
 a232:=Tryz.isAgg310
 z232:=Tryz.sizeOf310
 v232:=Tryz.zeroValue310
 t233:=Tryz.underlying311
 a233:=Tryz.isAgg311
 z233:=Tryz.sizeOf311
 v233:=Tryz.zeroValue311
 g17:=by kernel_rfl
 g18:=by kernel_rfl
 g19:=by kernel_rfl
 i0:=by kernel_rfl
 i2:=by kernel_rfl
 i3:=by kernel_rfl
 i4:=by kernel_rfl
 i5:=by kernel_rfl
 i9:=by kernel_rfl
 i20:=by kernel_rfl
 i37:=by kernel_rfl
 i46:=by kernel_rfl
 i51:=by kernel_rfl
 i53:=by kernel_rfl
 i171:=by kernel_rfl
 i173:=by kernel_rfl
 i212:=by kernel_rfl
 i232:=by kernel_rfl
 i233:=by kernel_rfl
 m17:=by kernel_rfl
 m18:=by kernel_rfl
 m19:=by kernel_rfl }
open Go.RowKit Go.Sort Go.Lib in
/-- strconv.Itoa: "Itoa is equivalent to FormatInt(int64(i), 10).": i's DECIMAL NUMERAL ('Lib.itoa': a '-' where i is negative, then the digits), FOR EVERY int. The world behind the call: the world before it, new blocks behind the heap (the library's 'var a [24]byte'), draws. (LAID: no walk: one application.) -/
theorem Tryz.strconv_Itoa (n : Int) (h0 : -9223372036854775808 ≤ n) (h1 : n ≤ 9223372036854775807) (w : World) (htab : Lib.TabIs Tryz.prog w "internal/strconv.uint64pow10" .u64 Lib.pow10Tab) :
  Calls Tryz.prog 128 #[.int .i64 n] w fun e w'=>e=.returned (.string ⟨(Lib.itoa n).toArray⟩)/\∃k os,w'=grow (w.drewN k) os:=Any.strconv_Itoa Tryz.laysM171 n h0 h1 w htab
def Tryz.lays219_ren:Go.Shelf.Ren:=⟨fun|219=>179|217=>235|225=>236|224=>237|267=>238|266=>272|314=>273|n=>n,fun|9=>9|3=>3|4=>4|5=>5|46=>255|146=>278|51=>277|n=>n,fun|1=>0|n=>n⟩
theorem Tryz.lays219:Go.Proofs.Lays.n219 Tryz.prog Tryz.lays219_ren:={
 mixed:=by kernel_rfl
 f217:=Tryz.func235.trans (congrArg some (by kernel_rfl))
 f219:=Tryz.func179.trans (congrArg some (by kernel_rfl))
 f224:=Tryz.func237.trans (congrArg some (by kernel_rfl))
 f225:=Tryz.func236.trans (congrArg some (by kernel_rfl))
 f266:=Tryz.func272.trans (congrArg some (by kernel_rfl))
 f267:=Tryz.func238.trans (congrArg some (by kernel_rfl))
 f314:=Tryz.func273.trans (congrArg some (by kernel_rfl))
 t3:=Tryz.underlying3
 a3:=Tryz.isAgg3
 z3:=Tryz.sizeOf3
 v3:=Tryz.zeroValue3
 t4:=Tryz.underlying4
 a4:=Tryz.isAgg4
 z4:=Tryz.sizeOf4
 v4:=Tryz.zeroValue4
 t5:=Tryz.underlying5
 a5:=Tryz.isAgg5
 z5:=Tryz.sizeOf5
 v5:=Tryz.zeroValue5
 t9:=Tryz.underlying9
 a9:=Tryz.isAgg9
 z9:=Tryz.sizeOf9
 v9:=Tryz.zeroValue9
 t46:=Tryz.underlying255
 a46:=Tryz.isAgg255
 z46:=Tryz.sizeOf255
 v46:=Tryz.zeroValue255
 t51:=Tryz.underlying277
 a51:=Tryz.isAgg277
 z51:=Tryz.sizeOf277
 v51:=Tryz.zeroValue277
 t146:=Tryz.underlying278
 a146:=Tryz.isAgg278
 z146:=Tryz.sizeOf278
 v146:=Tryz.zeroValue278
 g1:=by kernel_rfl }
open Go.RowKit Go.Lib in
/-- internal/stringslite.Index (what strings.Index calls) AT A substr OF ONE BYTE c: IT RETURNS 'Lib.indexByte s c'; the world is as it was. (LAID: no walk: one application.) -/
theorem Tryz.stringslite_Index_one (s:ByteArray) (c:UInt8) (w:World) :
  Calls Tryz.prog 179 #[.string s,.string ⟨#[c]⟩] w fun e w'=>e=.returned (.int .i64 (jr s.data.toList c))/\w'=w:=Any.stringslite_Index_one Tryz.lays219 s c w
def Tryz.lays144_ren:Go.Shelf.Ren:=⟨fun|144=>225|143=>113|219=>179|217=>235|225=>236|224=>237|267=>238|266=>272|314=>273|n=>n,fun|9=>9|4=>4|3=>3|5=>5|46=>255|146=>278|51=>277|n=>n,fun|1=>0|n=>n⟩
theorem Tryz.lays144:Go.Proofs.Lays.n144 Tryz.prog Tryz.lays144_ren:={
 mixed:=by kernel_rfl
 f143:=Tryz.func113.trans (congrArg some (by kernel_rfl))
 f144:=Tryz.func225.trans (congrArg some (by kernel_rfl))
 f217:=Tryz.func235.trans (congrArg some (by kernel_rfl))
 f219:=Tryz.func179.trans (congrArg some (by kernel_rfl))
 f224:=Tryz.func237.trans (congrArg some (by kernel_rfl))
 f225:=Tryz.func236.trans (congrArg some (by kernel_rfl))
 f266:=Tryz.func272.trans (congrArg some (by kernel_rfl))
 f267:=Tryz.func238.trans (congrArg some (by kernel_rfl))
 f314:=Tryz.func273.trans (congrArg some (by kernel_rfl))
 t3:=Tryz.underlying3
 a3:=Tryz.isAgg3
 z3:=Tryz.sizeOf3
 v3:=Tryz.zeroValue3
 t4:=Tryz.underlying4
 a4:=Tryz.isAgg4
 z4:=Tryz.sizeOf4
 v4:=Tryz.zeroValue4
 t5:=Tryz.underlying5
 a5:=Tryz.isAgg5
 z5:=Tryz.sizeOf5
 v5:=Tryz.zeroValue5
 t9:=Tryz.underlying9
 a9:=Tryz.isAgg9
 z9:=Tryz.sizeOf9
 v9:=Tryz.zeroValue9
 t46:=Tryz.underlying255
 a46:=Tryz.isAgg255
 z46:=Tryz.sizeOf255
 v46:=Tryz.zeroValue255
 t51:=Tryz.underlying277
 a51:=Tryz.isAgg277
 z51:=Tryz.sizeOf277
 v51:=Tryz.zeroValue277
 t146:=Tryz.underlying278
 a146:=Tryz.isAgg278
 z146:=Tryz.sizeOf278
 v146:=Tryz.zeroValue278
 g1:=by kernel_rfl }
open Go.RowKit Go.Lib in
/-- strings.Contains: "Contains reports whether substr is within s.": AT A substr OF ONE BYTE c: IT RETURNS 'decide (0 ≤ Lib.indexByte s c)'; the world is as it was. (LAID: no walk: one application.) -/
theorem Tryz.strings_Contains_one (s:ByteArray) (c:UInt8) (w:World) :
  Calls Tryz.prog 225 #[.string s,.string ⟨#[c]⟩] w fun e w'=>e=.returned (.bool (decide (0<=jr s.data.toList c)))/\w'=w:=Any.strings_Contains_one Tryz.lays144 s c w
def Tryz.laysM143_ren:Go.Shelf.Ren:=⟨fun|143=>113|219=>179|217=>235|225=>236|224=>237|267=>238|266=>272|314=>273|n=>n,fun|9=>9|3=>3|4=>4|5=>5|46=>255|146=>278|51=>277|n=>n,fun|1=>0|n=>n⟩
theorem Tryz.laysM143:Go.Proofs.LaysM.n143 Tryz.prog Tryz.laysM143_ren:={
 mixed:=by kernel_rfl
 f143:=Tryz.func113.trans (congrArg some (by kernel_rfl))
 f217:=Tryz.func235.trans (congrArg some (by kernel_rfl))
 f219:=Tryz.func179.trans (congrArg some (by kernel_rfl))
 f224:=Tryz.func237.trans (congrArg some (by kernel_rfl))
 f225:=Tryz.func236.trans (congrArg some (by kernel_rfl))
 f266:=Tryz.func272.trans (congrArg some (by kernel_rfl))
 f267:=Tryz.func238.trans (congrArg some (by kernel_rfl))
 f314:=Tryz.func273.trans (congrArg some (by kernel_rfl))
 t3:=Tryz.underlying3
 a3:=Tryz.isAgg3
 z3:=Tryz.sizeOf3
 v3:=Tryz.zeroValue3
 t4:=Tryz.underlying4
 a4:=Tryz.isAgg4
 z4:=Tryz.sizeOf4
 v4:=Tryz.zeroValue4
 t5:=Tryz.underlying5
 a5:=Tryz.isAgg5
 z5:=Tryz.sizeOf5
 v5:=Tryz.zeroValue5
 t9:=Tryz.underlying9
 a9:=Tryz.isAgg9
 z9:=Tryz.sizeOf9
 v9:=Tryz.zeroValue9
 t46:=Tryz.underlying255
 a46:=Tryz.isAgg255
 z46:=Tryz.sizeOf255
 v46:=Tryz.zeroValue255
 t51:=Tryz.underlying277
 a51:=Tryz.isAgg277
 z51:=Tryz.sizeOf277
 v51:=Tryz.zeroValue277
 t146:=Tryz.underlying278
 a146:=Tryz.isAgg278
 z146:=Tryz.sizeOf278
 v146:=Tryz.zeroValue278
 g1:=by kernel_rfl
 i3:=by kernel_rfl
 i4:=by kernel_rfl
 i5:=by kernel_rfl
 i9:=by kernel_rfl
 i46:=by kernel_rfl
 i51:=by kernel_rfl
 i146:=by kernel_rfl
 m1:=by kernel_rfl
 s1_3:=fun w h=>Go.Proofs.cell_of_shapedOpen_int (zero:=#[.int .i64 0]) (t:=3) h (of_decide_eq_true (by kernel_rfl)) (by kernel_rfl) rfl (by kernel_rfl) (by kernel_rfl) Tryz.underlying3 }
open Go.RowKit Go.Lib in
theorem Tryz.strings_Index_shaped (s sub:ByteArray) (w:World) (h:w.ShapedOpen Tryz.prog) (hs:s.size<4294967281) :
  Calls Tryz.prog 113 #[.string s,.string sub] w fun e w'=>e=.returned (.int .i64 (Lib.index s.data.toList sub.data.toList))/\w'=w:=Any.strings_Index_shaped Tryz.laysM143 s sub w h hs
def Tryz.lays149_ren:Go.Shelf.Ren:=⟨fun|149=>299|222=>310|n=>n,fun|9=>9|5=>5|3=>3|4=>4|n=>n,fun|n=>n⟩
theorem Tryz.lays149:Go.Proofs.Lays.n149 Tryz.prog Tryz.lays149_ren:={
 mixed:=by kernel_rfl
 f149:=Tryz.func299.trans (congrArg some (by kernel_rfl))
 f222:=Tryz.func310.trans (congrArg some (by kernel_rfl))
 t3:=Tryz.underlying3
 a3:=Tryz.isAgg3
 z3:=Tryz.sizeOf3
 v3:=Tryz.zeroValue3
 t4:=Tryz.underlying4
 a4:=Tryz.isAgg4
 z4:=Tryz.sizeOf4
 v4:=Tryz.zeroValue4
 t5:=Tryz.underlying5
 a5:=Tryz.isAgg5
 z5:=Tryz.sizeOf5
 v5:=Tryz.zeroValue5
 t9:=Tryz.underlying9
 a9:=Tryz.isAgg9
 z9:=Tryz.sizeOf9
 v9:=Tryz.zeroValue9 }
open Go.RowKit Go.Lib in
/-- strings.LastIndexByte: "LastIndexByte returns the index of the last instance of c in s, or -1 if c is not present in s." (LAID: no walk: one application.) -/
theorem Tryz.strings_LastIndexByte (s:ByteArray) (c:Int) (hs:s.size<4611686018427387904) (w:World) :
  Calls Tryz.prog 299 #[.string s,.int .u8 c] w fun e w'=>e=.returned (.int .i64 (Lib.lastIndexByte s c))/\w'=w:=Any.strings_LastIndexByte Tryz.lays149 s c hs w
def Tryz.lays99_ren:Go.Shelf.Ren:=⟨fun|99=>68|206=>129|n=>n,fun|9=>9|4=>4|3=>3|n=>n,fun|n=>n⟩
theorem Tryz.lays99:Go.Proofs.Lays.n99 Tryz.prog Tryz.lays99_ren:={
 mixed:=by kernel_rfl
 f99:=Tryz.func68.trans (congrArg some (by kernel_rfl))
 f206:=Tryz.func129.trans (congrArg some (by kernel_rfl))
 t3:=Tryz.underlying3
 a3:=Tryz.isAgg3
 z3:=Tryz.sizeOf3
 v3:=Tryz.zeroValue3
 t4:=Tryz.underlying4
 a4:=Tryz.isAgg4
 z4:=Tryz.sizeOf4
 v4:=Tryz.zeroValue4
 t9:=Tryz.underlying9
 a9:=Tryz.isAgg9
 z9:=Tryz.sizeOf9
 v9:=Tryz.zeroValue9 }
open Go.RowKit Go.Lib in
/-- strings.HasPrefix: "HasPrefix reports whether the string s begins with prefix.": IT RETURNS 'Lib.hasPrefix s prefix'; the world is as it was. (LAID: no walk: one application.) -/
theorem Tryz.strings_HasPrefix (s p:ByteArray) (w:World) :
  Calls Tryz.prog 68 #[.string s,.string p] w fun e w'=>e=.returned (.bool (zm s.data.toList p.data.toList))/\w'=w:=Any.strings_HasPrefix Tryz.lays99 s p w
def Tryz.laysM146_ren:Go.Shelf.Ren:=⟨fun|146=>114|221=>180|268=>239|138=>240|143=>113|195=>274|197=>275|218=>276|219=>179|260=>298|217=>235|225=>236|224=>237|267=>238|266=>272|314=>273|n=>n,fun|9=>9|31=>82|3=>3|4=>4|0=>0|105=>280|21=>21|5=>5|46=>255|119=>304|139=>307|138=>306|146=>278|51=>277|n=>n,fun|1=>0|3=>2|4=>3|n=>n⟩
theorem Tryz.laysM146:Go.Proofs.LaysM.n146 Tryz.prog Tryz.laysM146_ren:={
 mixed:=by kernel_rfl
 f138:=Tryz.func240.trans (congrArg some (by kernel_rfl))
 f143:=Tryz.func113.trans (congrArg some (by kernel_rfl))
 f146:=Tryz.func114.trans (congrArg some (by kernel_rfl))
 f195:=Tryz.func274.trans (congrArg some (by kernel_rfl))
 f197:=Tryz.func275.trans (congrArg some (by kernel_rfl))
 f217:=Tryz.func235.trans (congrArg some (by kernel_rfl))
 f218:=Tryz.func276.trans (congrArg some (by kernel_rfl))
 f219:=Tryz.func179.trans (congrArg some (by kernel_rfl))
 f221:=Tryz.func180.trans (congrArg some (by kernel_rfl))
 f224:=Tryz.func237.trans (congrArg some (by kernel_rfl))
 f225:=Tryz.func236.trans (congrArg some (by kernel_rfl))
 f260:=Tryz.func298.trans (congrArg some (by kernel_rfl))
 f266:=Tryz.func272.trans (congrArg some (by kernel_rfl))
 f267:=Tryz.func238.trans (congrArg some (by kernel_rfl))
 f268:=Tryz.func239.trans (congrArg some (by kernel_rfl))
 f314:=Tryz.func273.trans (congrArg some (by kernel_rfl))
 t0:=Tryz.underlying0
 a0:=Tryz.isAgg0
 z0:=Tryz.sizeOf0
 v0:=Tryz.zeroValue0
 t3:=Tryz.underlying3
 a3:=Tryz.isAgg3
 z3:=Tryz.sizeOf3
 v3:=Tryz.zeroValue3
 t4:=Tryz.underlying4
 a4:=Tryz.isAgg4
 z4:=Tryz.sizeOf4
 v4:=Tryz.zeroValue4
 t5:=Tryz.underlying5
 a5:=Tryz.isAgg5
 z5:=Tryz.sizeOf5
 v5:=Tryz.zeroValue5
 t9:=Tryz.underlying9
 a9:=Tryz.isAgg9
 z9:=Tryz.sizeOf9
 v9:=Tryz.zeroValue9
 t21:=Tryz.underlying21
 a21:=Tryz.isAgg21
 z21:=Tryz.sizeOf21
 v21:=Tryz.zeroValue21
 t31:=Tryz.underlying82
 a31:=Tryz.isAgg82
 z31:=Tryz.sizeOf82
 v31:=Tryz.zeroValue82
 t46:=Tryz.underlying255
 a46:=Tryz.isAgg255
 z46:=Tryz.sizeOf255
 v46:=Tryz.zeroValue255
 t51:=Tryz.underlying277
 a51:=Tryz.isAgg277
 z51:=Tryz.sizeOf277
 v51:=Tryz.zeroValue277
 t105:=Tryz.underlying280
 a105:=Tryz.isAgg280
 z105:=Tryz.sizeOf280
 v105:=Tryz.zeroValue280
 t119:=Tryz.underlying304
 a119:=Tryz.isAgg304
 z119:=Tryz.sizeOf304
 t138:=Tryz.underlying306
 a138:=Tryz.isAgg306
 z138:=Tryz.sizeOf306
 v138:=Tryz.zeroValue306
 t139:=Tryz.underlying307
 a139:=Tryz.isAgg307
 z139:=Tryz.sizeOf307
 v139:=Tryz.zeroValue307
 t146:=Tryz.underlying278
 a146:=Tryz.isAgg278
 z146:=Tryz.sizeOf278
 v146:=Tryz.zeroValue278
 g1:=by kernel_rfl
 g3:=by kernel_rfl
 g4:=by kernel_rfl
 i0:=by kernel_rfl
 i3:=by kernel_rfl
 i4:=by kernel_rfl
 i5:=by kernel_rfl
 i9:=by kernel_rfl
 i21:=by kernel_rfl
 i31:=by kernel_rfl
 i46:=by kernel_rfl
 i51:=by kernel_rfl
 i105:=by kernel_rfl
 i138:=by kernel_rfl
 i139:=by kernel_rfl
 i146:=by kernel_rfl
 m1:=by kernel_rfl
 s1_3:=fun w h=>Go.Proofs.cell_of_shapedOpen_int (zero:=#[.int .i64 0]) (t:=3) h (of_decide_eq_true (by kernel_rfl)) (by kernel_rfl) rfl (by kernel_rfl) (by kernel_rfl) Tryz.underlying3
 m3:=by kernel_rfl
 m4:=by kernel_rfl }
open Go.RowKit Go.Lib in
/-- strings.Split, sep not empty. (LAID: no walk: one application.) -/
theorem Tryz.strings_Split_shaped (s sep:ByteArray) (w:World) (h:w.ShapedOpen Tryz.prog) (hs:s.size<4294967281) (h1:1<=sep.size) :
  Calls Tryz.prog 114 #[.string s,.string sep] w fun e w'=>
   e=.returned (.slice (some ⟨w.heap.size,0,none⟩) (Lib.countB s sep+1) (Lib.countB s sep+1))/\w'=w.alloc (.cells ((Lib.splitB sep 0 (Lib.countB s sep) s).map Value.string).toArray 9):=Any.strings_Split_shaped Tryz.laysM146 s sep w h hs h1
end Go.Proofs
namespace Go.Proofs.YtomkbafdmbfmfaaGreatDoor
open Go.RowKit
open Int renaming toNat_natCast->ql
open Lib renaming hid->za
open List renaming append_assoc->zi, cons_append->zl, dropWhile_cons->xg, dropWhile_sublist->xn, eq_nil_of_length_eq_zero->jb, getElem?_eq_getElem->qj, length->jq, length_set->zh, map_cons->zt, mem_append->qn, replicate->qs, singleton_append->xm, take_of_length_le->jg, take_succ_eq_append_getElem->xh
open Nat renaming le_refl->zd, zero_le->zq
theorem zaq {a b:Bool} (h:a=b):Ending.returned (.bool a)=.returned (.bool b):=by rw[h]
theorem zcm {k:IntKind} {a b:Int} (h:a=b):Ending.returned (.int k a)=.returned (.int k b):=by rw[h]
theorem zi6 {a b:ByteArray} (h:a=b):Ending.returned (.string a)=.returned (.string b):=by rw[h]
theorem zjY {a b:List UInt8} (h:a=b):Ending.returned (.string ⟨a.toArray⟩)=.returned (.string ⟨b.toArray⟩):=by rw[h]
theorem dd {p q:Prop} [Decidable p] [Decidable q] (h:p↔q):decide p=decide q:=decide_eq_decide.2 h
theorem dt {q:Prop} [Decidable q] (h:q):true=decide q:=(decide_eq_true h).symm
theorem df {q:Prop} [Decidable q] (h:¬q):false=decide q:=(decide_eq_false h).symm
abbrev S (l:List UInt8):ByteArray:=⟨l.toArray⟩
theorem zap (l:List UInt8):(S l).size=l.length:=size_of_list l
theorem zak (l:List UInt8):(S l).data.toList=l:=rfl
theorem S_of (s:ByteArray):S s.data.toList=s:=rfl
theorem zae (s:ByteArray):s.data.toList.length=s.size:=rfl
theorem zcv (c:UInt8):((c.toNat:Int)).toNat.toUInt8=c:=by rw[ql];exact UInt8.ofNat_toNat
theorem at_list (s:ByteArray) (k:Nat) (h:k<s.size):s.data.toList[k]'(by rw[zae];exact h)=s[k]:=rfl
theorem zoA (s:ByteArray) (k:Nat) (h:k<s.size):s.data.toList.getD k 0=s[k]:=by
 rw[List.getD_eq_getElem?_getD,qj (by rw[zae];exact h)];rfl
theorem zee (s:ByteArray) (k:Nat) (h:k<s.size):s.data.toList.take (k+1)=s.data.toList.take k++[s[k]]:=by
 rw[xh (by simpa using h)];rfl
theorem zaQ (s:ByteArray) (k:Nat) (h:k<s.size):s.data.toList.drop k=s[k]::s.data.toList.drop (k+1):=by
 rw[List.drop_eq_getElem_cons (by simpa using h)];rfl
theorem zdR {s:ByteArray} (h:s.size=0):s=S []:=by
 have:s.data.toList=[]:=jb (by rw[zae];exact h);rw[<-S_of s,this]
def Qb (w w':World):Prop:=Below w.heap.size w w'
theorem Qb.refl (w:World):Qb w w:=Below.refl _ _
theorem Qb.trans {a b c:World} (h:Qb a b) (k:Qb b c):Qb a c:=Below.trans h (Below.mono k h.size)
theorem Qb.alloc {a b:World} (h:Qb a b) (o:Obj):Qb a (b.alloc o):=Below.alloc h h.size o
theorem Qb.drew {a b:World} (h:Qb a b):Qb a b.drew:=Below.drew h
theorem Qb.drewN {a b:World} (h:Qb a b) (n:Nat):Qb a (b.drewN n):=below_drewN h n
theorem Qb.set {a b:World} (h:Qb a b) {p:Addr} (hp:a.heap.size<=p.block) (u:Value):Qb a (b.setCell p u):=Below.setCell h hp u
theorem Qb.grown {a b c:World} (h:Qb a b) {row:Option Nat} (hg:b.grownBy c row) (hr:∀k,row=some k->a.heap.size<=k):Qb a c:=Below.grown h hg h.size hr
theorem Qb.size {a b:World} (h:Qb a b):a.heap.size<=b.heap.size:=Below.size h
theorem Qb.below {a b:World} (h:Qb a b):Below a.heap.size a b:=h
def zm4 (r:Int×List UInt8):Value:=.tuple #[.string (S r.2),.int .i64 r.1]
def strLen:Value->Nat | .string c=>c.size|_=>0
theorem zao (c:ByteArray):strLen (.string c)=c.size:=rfl
theorem zeG {P:Program} {f:FuncId} {args:Array Value} {w:World} {n:Nat} {v:Value}
  (h:Calls P f args (w.drewN n) fun e w'=>e=.returned v/\w.drewN n=w'):Calls P f args (w.drewN n) fun e w''=>e=.returned v/\∃m,w''=w.drewN m :=
 h.mono fun _ _ ⟨he,hm⟩=>⟨he,n,hm.symm⟩
def zoi (c:UInt8):Bool:=decide (65<=c.toNat/\c.toNat<=90)
def zbx (c:UInt8):Bool:=decide (97<=c.toNat/\c.toNat<=122\/65<=c.toNat/\c.toNat<=90)
def zaf (c:UInt8):Bool:=decide (48<=c.toNat/\c.toNat<=57)
def zau (c:UInt8):Bool:=decide (48<=c.toNat/\c.toNat<=57\/97<=c.toNat/\c.toNat<=102\/65<=c.toNat/\c.toNat<=70)
def zc4 (c:UInt8) (l:List UInt8):Bool:=l.contains c
def isLD (c:UInt8):Bool:=zbx c||zaf c
def za9 (c:UInt8):Bool:=isLD c||zc4 c [45,46,95,126]
def zcu (c:UInt8):Bool:=isLD c||zc4 c [33,35,36,37,38,39,42,43,45,46,94,95,96,124,126]
theorem zhp (c:UInt8) (w:World) :
  Calls Tryz.prog 251 #[.int .u8 c.toNat] w fun e w'=>e=.returned (.bool (zoi c))/\w=w':=by
 go_enter Tryz.func251,Tryz.ntmps251
 go_wp2
 all_goals go_ret
 all_goals exact⟨zaq (by unfold zoi;first|exact dt (by omega)|exact df (by omega)|(rw[Bool.eq_iff_iff];simp only[Bool.or_eq_true,Bool.and_eq_true,decide_eq_true_eq];omega)),rfl⟩
theorem za1 (c:UInt8) (w:World) :
  Calls Tryz.prog 263 #[.int .u8 c.toNat] w fun e w'=>e=.returned (.bool (zbx c))/\w=w':=by
 go_enter Tryz.func263,Tryz.ntmps263
 go_wp2
 all_goals go_ret
 all_goals exact⟨zaq (by unfold zbx;first|exact dt (by omega)|exact df (by omega)|(rw[Bool.eq_iff_iff];simp only[Bool.or_eq_true,Bool.and_eq_true,decide_eq_true_eq];omega)),rfl⟩
theorem zaL (c:UInt8) (w:World) :
  Calls Tryz.prog 242 #[.int .u8 c.toNat] w fun e w'=>e=.returned (.bool (zaf c))/\w=w':=by
 go_enter Tryz.func242,Tryz.ntmps242
 go_wp2
 all_goals go_ret
 all_goals exact⟨zaq (by unfold zaf;first|exact dt (by omega)|exact df (by omega)|(rw[Bool.eq_iff_iff];simp only[Bool.or_eq_true,Bool.and_eq_true,decide_eq_true_eq];omega)),rfl⟩
theorem zew (c:UInt8) (w:World) :
  Calls Tryz.prog 252 #[.int .u8 c.toNat] w fun e w'=>e=.returned (.bool (zau c))/\w=w':=by
 go_enter Tryz.func252,Tryz.ntmps252
 go_wp2
 all_goals go_ret
 all_goals exact⟨zaq (by unfold zau;first|exact dt (by omega)|exact df (by omega)|(rw[Bool.eq_iff_iff];simp only[Bool.or_eq_true,Bool.and_eq_true,decide_eq_true_eq];omega)),rfl⟩
theorem zfR (c:UInt8) (s:ByteArray) (w:World) :
  Calls Tryz.prog 297 #[.int .u8 c.toNat,.string s] w fun e w'=>e=.returned (.bool (zc4 c s.data.toList))/\w=w':=by
 go_enter Tryz.func297,Tryz.ntmps297
 go_wp2_with (go_at_call 219;refine(Tryz.strings_IndexByte _ _ _).mono ?_;rintro e w' ⟨rfl,rfl⟩)
 go_ret
 exact⟨zaq (by unfold zc4;rw[Lib.contains_iff_indexByte]),rfl⟩
theorem zkE (c:UInt8) (w:World) :
  Calls Tryz.prog 296 #[.int .u8 c.toNat] w fun e w'=>e=.returned (.bool (isLD c))/\w=w':=by
 go_enter Tryz.func296,Tryz.ntmps296
 go_wp2_with (first|(go_at_call 263;refine(za1 _ _).mono ?_;rintro e w' ⟨rfl,rfl⟩)|(go_at_call 242;refine(zaL _ _).mono ?_;rintro e w' ⟨rfl,rfl⟩))
 all_goals go_ret
 all_goals exact⟨zaq (by simp_all [isLD]),rfl⟩
theorem zdc (c:UInt8) (w:World) :
  Calls Tryz.prog 267 #[.int .u8 c.toNat] w fun e w'=>e=.returned (.bool (za9 c))/\w=w':=by
 go_enter Tryz.func267,Tryz.ntmps267
 go_wp2_with (first|(go_at_call 296;refine(zkE _ _).mono ?_;rintro e w' ⟨rfl,rfl⟩)|(go_at_call 297;refine(zfR _ _ _).mono ?_;rintro e w' ⟨rfl,rfl⟩))
 all_goals go_ret
 all_goals exact⟨zaq (by simp_all [za9]),rfl⟩
theorem zpA (c:UInt8) (w:World) :
  Calls Tryz.prog 278 #[.int .u8 c.toNat] w fun e w'=>e=.returned (.bool (zcu c))/\w=w':=by
 go_enter Tryz.func278,Tryz.ntmps278
 go_wp2_with (first|(go_at_call 296;refine(zkE _ _).mono ?_;rintro e w' ⟨rfl,rfl⟩)|(go_at_call 297;refine(zfR _ _ _).mono ?_;rintro e w' ⟨rfl,rfl⟩))
 all_goals go_ret
 all_goals exact⟨zaq (by simp_all [zcu]),rfl⟩
def zb1 (c:UInt8):UInt8:=if zoi c then c+32 else c
theorem zif (c:UInt8) (w:World) :
  Calls Tryz.prog 188 #[.int .u8 c.toNat] w fun e w'=>e=.returned (.int .u8 (zb1 c).toNat)/\w=w':=by
 go_enter Tryz.func188,Tryz.ntmps188
 go_wp2_with (go_at_call 251;refine(zhp _ _).mono ?_;rintro e w' ⟨rfl,rfl⟩)
 all_goals go_ret
 ·have h:zoi c=true:=by assumption
  exact⟨zcm (by simp[zb1,h,UInt8.toNat_add]),rfl⟩
 ·have h:zoi c=false:=by assumption
  exact⟨zcm (by simp[zb1,h]),rfl⟩
theorem zkF:(Tryz.prog.info? 5).map (fun i=>(i.zero,i.size,i.bytes))=some (some (.int .u8 0),1,1):=by kernel_rfl
def bv (l:List UInt8):List Value:=l.map fun c=>.int .u8 c.toNat
theorem zdx (l:List UInt8):(bv l).length=l.length:=by simp[bv]
theorem zf6 (a b:List UInt8):bv (a++b)=bv a++bv b:=by simp[bv]
theorem bv_set (l:List UInt8) (i:Nat) (c:UInt8):(bv l).set i (.int .u8 c.toNat)=bv (l.set i c):=by simp[bv,List.map_set]
theorem bv_get (l:List UInt8) (i:Nat) (h:i<l.length):(bv l)[i]? = some (.int .u8 l[i].toNat):=by simp[bv,h]
def zbY (w:World) (base:Nat) (v:Value) (l:List UInt8):Prop:=w.ownsRow base 5 1 v l.length (bv l)
theorem zbY.nil (w:World) (base:Nat):zbY w base (.slice none 0 0) []:=World.ownsRow_nil w base _ _
theorem zbY.drew {w:World} {base:Nat} {v:Value} {l:List UInt8} (h:zbY w base v l):zbY w.drew base v l:=h
theorem zbY.drewN {w:World} {base:Nat} {v:Value} {l:List UInt8} (h:zbY w base v l) (n:Nat):zbY (w.drewN n) base v l:=h
theorem zbY.alloc {w:World} {base:Nat} {v:Value} {l:List UInt8} (h:zbY w base v l) (o:Obj):zbY (w.alloc o) base v l:=World.ownsRow.alloc h o
theorem zbY.below {w w':World} {base:Nat} {v:Value} {l:List UInt8} (h:zbY w base v l) (hb:Qb w w'):zbY w' base v l:=by
 refine World.ownsRow.kept (row:=none) h ⟨hb.os,hb.tape,hb.output,Below.size hb,fun k hk _=>Below.block hb k hk⟩ ?_;rcases h.2 with ⟨rfl,_⟩|⟨g,cap,cur,rfl,_⟩
 ·exact .inl rfl
 ·exact .inr (by simp[Value.ownBlock])
theorem zkO:∀(l:List UInt8) (s:ByteArray),(l.map fun c=>(c.toNat:Int)).foldl (fun r n=>r.push (UInt8.ofNat n.toNat)) s=⟨s.data++l.toArray⟩
 | [],s=>by simp
 | n::ns,s=>by
  rw[zt,List.foldl_cons,zkO ns];simp[ByteArray.push]
theorem zi3 {w:World} {base:Nat} {v:Value} {l:List UInt8} (h:zbY w base v l) :
  (convert 22 9 v).run Tryz.prog w=.ok (.string ⟨l.toArray⟩) w:=by
 rcases h.2 with ⟨rfl,hn⟩|⟨g,cap,cur,rfl,hb,hg,hnc,hcm,hcs,htake⟩
 ·have:l=[]:=jb hn;subst this;exact run_convert_bytes_nil w 22 5 Tryz.underlying22 Tryz.underlying5 0 0 _ Tryz.underlying9
 ·have hl:(loadCells ⟨g,0,none⟩ l.length).run Tryz.prog w=.ok ((l.map fun c=>(c.toNat:Int)).map (Value.int .u8)).toArray w:=by
   have:=run_loadCells_list (P:=Tryz.prog) w ⟨g,0,none⟩ (bv l) (fun j v hj=>World.ownsRow.cells h (g:=g) rfl j v hj);rw[zdx] at this;rw[this];simp[bv,Function.comp_def]
  rw[run_convert_bytes_string w _ _ 5 _ _ _ Tryz.underlying22 Tryz.underlying5 Tryz.underlying9,run_bytesToString w _ _ cap _ hl,zkO];simp[ByteArray.empty,ByteArray.emptyWithCapacity]
  rfl
def mkB (c:Nat):Array Value:=madeCells (Value.int .u8 0).cells (c*1)
theorem mkB_size (c:Nat):(mkB c).size=c:=by unfold mkB;rw[size_madeCells];omega
theorem mkB_list (c:Nat):(mkB c).toList=bv (qs c 0):=by
 show (madeCells #[.int .u8 0] (c*1)).toList=_;rw[toList_madeCells_one];simp[bv]
theorem zkg (n c:Nat) (hn:n<=c) (hc:c<=281474976710656) (w:World) :
  (Instr.makeSlice 22 (.int .i64 (n:Int)) (.int .i64 (c:Int))).run Tryz.prog w=.ok (.slice (some ⟨w.heap.size,0,none⟩) n c) (w.alloc (.cells (mkB c) 5)):=by
 obtain⟨i0,hi,hz0,hz1,hz2⟩:=info_parts zkF;have hb:(i0.bytes:Int)*(c:Int)<=281474976710656:=by rw[hz2];omega
 have hr:=run_make (P:=Tryz.prog) w 22 5 i0 (.int .u8 0) Tryz.underlying22 hi hz0 .i64 .i64 n c (by omega) (by omega) hb (by omega);simp only[ql,hz1] at hr;exact hr
theorem zie (c:Nat) (hc:c<=281474976710656) (w:World) :
  (Instr.makeSlice 22 (.int .i64 0) (.int .i64 (c:Int))).run Tryz.prog w=.ok (.slice (some ⟨w.heap.size,0,none⟩) 0 c) (w.alloc (.cells (mkB c) 5)) :=
 zkg 0 c (zq _) hc w
theorem zf8 (w:World) (B n c:Nat) (hB:B<=w.heap.size) (hn:n<=c) (hc:c<=281474976710656) :
  zbY (w.alloc (.cells (mkB c) 5)) B (.slice (some ⟨w.heap.size,0,none⟩) n c) (qs n 0):=by
 refine⟨by simp[zdx],.inr ⟨w.heap.size,c,mkB c,by simp,hB,heap_alloc_new w _,by simpa using hn,by simp only[maxLen];omega,by rw[mkB_size];omega,?_⟩⟩;rw[mkB_list,List.length_replicate];simp[bv,List.take_replicate,Nat.min_eq_left hn]
theorem zbY.cell {w:World} {B g n cap:Nat} {l:List UInt8} (h:zbY w B (.slice (some ⟨g,0,none⟩) n cap) l) (j:Nat) (hj:j<l.length):w.cell? ⟨g,j,none⟩=some (.int .u8 l[j].toNat):=by
 have h':=h;rcases h'.2 with ⟨e,_⟩|⟨g',cap',cur,e,_⟩
 ·simp at e
 ·simp only[Value.slice.injEq] at e;obtain⟨_,rfl,_⟩:=e;rw[World.ownsRow.cellAt (h:World.ownsRow _ _ _ _ _ _ _) j (by omega),bv_get l j hj]
theorem zbY.frozen {w:World} {B g n cap:Nat} {l:List UInt8} (h:zbY w B (.slice (some ⟨g,0,none⟩) n cap) l) (j:Nat):w.frozen? ⟨g,j,none⟩=false:=by
 have h':=h;rcases h'.2 with ⟨e,_⟩|⟨g',cap',cur,e,_⟩
 ·simp at e
 ·simp only[Value.slice.injEq] at e;obtain⟨_,rfl,_⟩:=e;exact World.ownsRow.frozenAt (h:World.ownsRow _ _ _ _ _ _ _) j
theorem zbY.stored {w:World} {B g n cap:Nat} {l:List UInt8} (h:zbY w B (.slice (some ⟨g,0,none⟩) n cap) l) (j:Nat) (c:UInt8) :
  zbY (w.setCell ⟨g,j,none⟩ (.int .u8 c.toNat)) B (.slice (some ⟨g,0,none⟩) n cap) (l.set j c):=by
 have h':=h;rcases h'.2 with ⟨e,_⟩|⟨g',cap',cur,e,_⟩
 ·simp at e
 ·simp only[Value.slice.injEq] at e;obtain⟨_,rfl,_⟩:=e;have:=(World.ownsRow.stored (h:World.ownsRow _ _ _ _ _ _ _) j (.int .u8 c.toNat)).1;unfold zbY;rw[<-bv_set,zh];exact this
def Crow (w:World) (g:Nat) (l:List UInt8):Prop:=∀j (h:j<l.length),w.cell? ⟨g,j,none⟩=some (.int .u8 l[j].toNat)/\w.frozen? ⟨g,j,none⟩=false
theorem zay (g j:Nat):(⟨g,0,none⟩:Addr).add j=⟨g,j,none⟩:=by unfold Addr.add;split<;>simp_all
theorem Crow.str {w:World} {g:Nat} {l:List UInt8} (h:Crow w g l) (n cap:Nat) (hn:n=l.length) :
  (convert 22 9 (.slice (some ⟨g,0,none⟩) n cap)).run Tryz.prog w=.ok (.string ⟨l.toArray⟩) w:=by
 subst hn;exact run_convert_bytes_back w _ _ 5 _ cap l Tryz.underlying22 Tryz.underlying5 Tryz.underlying9 (fun j hj=>by rw[zay];exact(h j hj).1)
theorem Crow.stored {w:World} {g:Nat} {l:List UInt8} (h:Crow w g l) (k:Nat) (hk:k<l.length) (c:UInt8) :
  Crow (w.setCell ⟨g,k,none⟩ (.int .u8 c.toNat)) g (l.set k c):=by
 intro j hj;rw[zh] at hj;refine⟨?_,(World.frozen?_setCell _ _ _ _).trans (h j hj).2⟩
 by_cases e:k=j
 ·subst e;rw[World.cell?_setCell_same _ _ _ (h k hj).1];simp
 ·rw[World.cell?_setCell_other _ _ _ _ (fun e2=>e (by injection e2)),(h j hj).1];simp[e]
theorem zbY.appended {w':World} {B:Nat} {v':Value} {l m:List UInt8} {xs:List Value} {n:Nat} (h:w'.ownsRow B 5 1 v' n xs) (hx:xs=bv (l++m)) (hn:n=(l++m).length):zbY w' B v' (l++m):=by
 subst hx hn;exact h
theorem bv_one (vs:List UInt8):∀u∈bv vs,u.oneCell'=true:=by
 intro u hu;obtain⟨c,_,rfl⟩:=List.mem_map.1 hu
 rfl
theorem zdy {w w':World} {B:Nat} {v:Value} {l:List UInt8} (h:zbY w B v l) (hB:B<=w.heap.size) (hg:w.grownBy w' v.ownBlock):Below B w w' :=
 (Below.refl B w).grown hg hB (fun k hk=>(World.ownsRow.lt h k hk).1)
theorem zcI {w:World} {ops:Array Oper} {rest:List Oper} {o:Oper} {a:Act} {Q:Exit->Act->World->Prop} (hgd:o.guard=none) (s x:Operand)
  (ho:o.op=.call { callee:=.builtin .append,args:=#[s,x],argTypes:=#[22,22] })
  (B:Nat) (v:Value) (l m:List UInt8) (hs:a.eval s=v) (hrow:zbY w B v l) (ad:Addr) (n c:Nat) (hx:a.eval x=.slice (some ad) n c) (hn:n=m.length)
  (hnews:∀j u,(bv m)[j]? = some u->w.cell? (ad.add j)=some u) (hlen:l.length+m.length<=140737488355328) (hB:B<=w.heap.size)
  (h:∀v' w',zbY w' B v' (l++m)->Below B w w'->wpList Tryz.prog ops Q rest (a.put o.dst v') w'):wpList Tryz.prog ops Q (o::rest) a w:=by
 obtain⟨i0,hi,hz0,hz1,hz2⟩:=info_parts zkF;subst hn;exact wpList_append_own w hgd s x _ ho B 5 i0 _ 1 1 Tryz.underlying22 hi hz0 hz1 hz2 rfl (by omega) v l.length (bv l) hs hrow ad m.length c (bv m) hx (by rw[zdx];omega) hnews (bv_one m)
  (by simp only[maxLen];omega) (by omega) hB fun v' w' h1 h2 _=>h v' w' (zbY.appended h1 (zf6 l m).symm (by simp)) (zdy hrow hB h2)
theorem zfy {w:World} {ops:Array Oper} {o:Oper} {a:Act} {K:Act->World->Prop} {Q:Exit->Act->World->Prop} {E:Prop} (hgd:o.guard=none) (s x:Operand)
  (ho:o.op=.call { callee:=.builtin .append,args:=#[s,x],argTypes:=#[22,22] })
  (B:Nat) (v:Value) (l m:List UInt8) (hs:a.eval s=v) (hrow:zbY w B v l) (ad:Addr) (n c:Nat) (hx:a.eval x=.slice (some ad) n c) (hn:n=m.length)
  (hnews:∀j u,(bv m)[j]? = some u->w.cell? (ad.add j)=some u) (hlen:l.length+m.length<=140737488355328) (hB:B<=w.heap.size)
  (h:∀v' w',zbY w' B v' (l++m)->Below B w w'->K (a.put o.dst v') w'):if Region.wanted o (yielded ops a.tmps)=true then Oper.wp Tryz.prog o a w K Q else E:=by
 have hw:Region.wanted o (yielded ops a.tmps)=true:=by simp[Region.wanted,hgd]
 rw[if_pos hw];obtain⟨i0,hi,hz0,hz1,hz2⟩:=info_parts zkF;subst hn;exact wp_append_own w s x _ ho B 5 i0 _ 1 1 Tryz.underlying22 hi hz0 hz1 hz2 rfl (by omega) v l.length (bv l) hs hrow ad m.length c (bv m) hx (by rw[zdx];omega) hnews (bv_one m)
  (by simp only[maxLen];omega) (by omega) hB fun v' w' h1 h2 _=>h v' w' (zbY.appended h1 (zf6 l m).symm (by simp)) (zdy hrow hB h2)
theorem ziW (s:ByteArray):Lib.strCells s=bv s.data.toList:=by simp[Lib.strCells,bv]
theorem conv_new (W:World) (xs:List Int) (n:Nat) (hn:n=xs.length) :
  (convert 22 9 (.slice (some ⟨W.heap.size,0,none⟩) n n)).run Tryz.prog (W.alloc (.cells (xs.map (Value.int .u8)).toArray 5))=.ok (.string (strOfNums xs)) (W.alloc (.cells (xs.map (Value.int .u8)).toArray 5)):=by
 refine run_convert_bytes_arg _ 22 5 Tryz.underlying22 Tryz.underlying5 W.heap.size 0 n n xs hn.symm ?_ _ Tryz.underlying9;intro i hi;rw[World.cell?_alloc_at _ _ _ _ rfl];have h:i<xs.length:=by omega
 simp[List.getD,qj h]
def zbm (l:List UInt8):List UInt8:=l.map zb1
theorem low_set (l:List UInt8) (k n:Nat) (hn:l.length=n) (hk:k<n) :
  (zbm (l.take k)++qs (n - k) 0).set k (zb1 (l[k]'(by omega)))=zbm (l.take (k+1))++qs (n - (k+1)) 0:=by
 have h1:(zbm (l.take k)).length=k:=by simp[zbm];omega
 rw[List.set_append_right _ _ (by omega),h1,Nat.sub_self,show n - k=(n - (k+1))+1 from by omega,List.replicate_succ,List.set_cons_zero,xh (by omega)];simp only[zbm,List.map_append,zt,List.map_nil,zi,xm]
theorem zga (s:ByteArray) (w:World) (hs:s.size<=140737488351232) :
  Calls Tryz.prog 120 #[.string s] w fun e w'=>e=.returned (.string (S (zbm s.data.toList)))/\Qb w w':=by
 have hmk:=fun W=>zkg s.size s.size (zd _) (by omega) W
 go_enter Tryz.func120,Tryz.ntmps120
 go_wp2_with fail
 clear hmk
 go_loopw [4,10] (fun _ i wr=>∃k:Nat,k<=s.size/\i=.int .i64 k/\zbY wr w.heap.size (.slice (some ⟨w.heap.size,0,none⟩) s.size s.size) (zbm (s.data.toList.take k)++qs (s.size - k) 0)/\Qb w wr) (fun _ i _=>s.size - (intOf i).toNat)
 case atStart=>exact⟨0,zq _,rfl,zf8 w _ _ _ (zd _) (zd _) (by omega),(Qb.refl w).alloc _⟩
 case round=>
  obtain⟨k,hk,rfl,hrow,hq⟩:=hrel
  by_cases hlt:k<s.size
  ·have hlen:(zbm (s.data.toList.take k)++qs (s.size - k) 0).length=s.size:=by simp[zbm,zae];omega
   obtain⟨u,hc⟩:∃u,wr.cell? ⟨w.heap.size,k,none⟩=some u:=⟨_,hrow.cell k (by omega)⟩;have hf:wr.frozen? ⟨w.heap.size,k,none⟩=false:=hrow.frozen k;have hrow':=hrow.stored k (zb1 s[k]);have hset:=low_set s.data.toList k s.size (zae s) hlt;rw[at_list s k hlt] at hset;rw[hset] at hrow';clear hset hrow hlen;have HR:=za hrow';clear hrow'
   go_wp2_with (go_at_call 188;refine(zif _ _).mono ?_;rintro e w' ⟨rfl,rfl⟩)
   go_roundw
   case rel=>exact⟨k+1,by omega,by go_num,HR.out,hq.set (zd _) _⟩
   case measure=>simp[intOf];omega
  ·obtain rfl:k=s.size:=by omega
   have hl:zbm (s.data.toList.take s.size)++qs (s.size - s.size) 0=zbm s.data.toList:=by
    rw[jg (by rw[zae];omega)];simp
   rw[hl] at hrow;have hst:=zi3 hrow;clear hl
   go_wp2
   go_ret
   exact⟨rfl,hq⟩
def zb2 (l:List UInt8):Bool:=l.all zaf&&!l.isEmpty
def eqL (a b:List UInt8):Bool:=zbm a==zbm b
theorem zdb (p:UInt8->Bool) (s:ByteArray) (k:Nat) (h:k<s.size):(s.data.toList.take (k+1)).all p=((s.data.toList.take k).all p&&p s[k]):=by
 rw[zee s k h,List.all_append];simp
theorem zbt (p:UInt8->Bool) (l:List UInt8) (k:Nat) (h:(l.take k).all p=false):l.all p=false:=by
 rw[<-List.take_append_drop k l,List.all_append,h,Bool.false_and]
theorem zcw (s:ByteArray) (k:Nat) (h:¬k<s.size):s.data.toList.take k=s.data.toList:=jg (by rw[zae];omega)
theorem zgT (s:ByteArray) (w:World) (hs:s.size<=maxLen) :
  Calls Tryz.prog 193 #[.string s] w fun e w'=>e=.returned (.bool (zb2 s.data.toList))/\w=w':=by
 unfold maxLen at hs
 go_enter Tryz.func193,Tryz.ntmps193
 go_wp2_with fail
 go_loop [3,6] (fun _ i=>∃k:Nat,k<=s.size/\i=.int .i64 k/\Hid ((s.data.toList.take k).all zaf=true)) (fun _ i=>s.size - (intOf i).toNat)
 case atStart=>exact⟨0,zq _,rfl,za rfl⟩
 case round=>
  obtain⟨k,hk,rfl,HA⟩:=hrel
  by_cases hlt:k<s.size
  ·have HT:=za (zdb zaf s k hlt)
   go_wp2_with (go_at_call 242;refine(zaL _ _).mono ?_;rintro e w' ⟨rfl,rfl⟩)
   ·have hd:(!zaf s[k])=true:=by assumption
    go_ret
    exact⟨zaq (by
     unfold zb2;rw[zbt zaf _ (k+1) (by rw[HT.out];simpa using fun _=>hd)];rfl),rfl⟩
   ·have hd:(!zaf s[k])=false:=by assumption
    go_round
    case rel=>exact⟨k+1,by omega,by go_num,za (by rw[HT.out,HA.out];simpa using hd)⟩
    case measure=>simp[intOf];omega
  ·have HF:Hid ((s.data.toList).all zaf=true):=za (by rw[<-zcw s k hlt];exact HA.out)
   go_wp2_with fail
   go_ret
   exact⟨zaq (by rw[ByteArray.toList_eq];unfold zb2;rw[HF.out];rfl),rfl⟩
theorem eqL_len {a b:List UInt8} (h:a.length≠b.length):eqL a b=false:=by
 unfold eqL zbm;rw[beq_eq_false_iff_ne];intro e;exact h (by have:=congrArg jq e;simpa using this)
theorem zki (s:ByteArray) (k:Nat) (h:k<s.size):zbm (s.data.toList.take (k+1))=zbm (s.data.toList.take k)++[zb1 s[k]]:=by
 rw[zee s k h];simp[zbm]
theorem eqL_ne {a b:List UInt8} {k:Nat} (h:zbm (a.take k)≠zbm (b.take k)):eqL a b=false:=by
 unfold eqL;rw[beq_eq_false_iff_ne];intro e
 apply h
 simp only[zbm,List.map_take] at e ⊢;rw[e]
theorem zpC (a b:ByteArray) (w:World) (ha:a.size<=maxLen) (hb:b.size<=maxLen) :
  Calls Tryz.prog 224 #[.string a,.string b] w fun e w'=>e=.returned (.bool (eqL a.data.toList b.data.toList))/\Qb w w':=by
 unfold maxLen at ha hb
 go_enter Tryz.func224,Tryz.ntmps224
 by_cases hl:a.size=b.size
 ·have HL:=za hl;have hl1:a.size<=b.size:=by omega
  have hb1:((a.size:Int) != (b.size:Int))=false:=by simp[hl]
  clear hl
  go_wp2_with fail
  go_loopw [5,13] (fun _ i wr=>∃k:Nat,k<=a.size/\i=.int .i64 k/\Hid (zbm (a.data.toList.take k)=zbm (b.data.toList.take k))/\Qb w wr) (fun _ i _=>a.size - (intOf i).toNat)
  case atStart=>exact⟨0,zq _,rfl,za rfl,Qb.refl w⟩
  case round=>
   obtain⟨k,hk,rfl,HA,hq⟩:=hrel
   by_cases hlt:k<a.size
   ·have hlt2:k<b.size:=by omega
    have HT:=za (zki a k hlt);have HU:=za (zki b k hlt2)
    go_wp2_with fail
    go_quiet ((go_at_call 188;exact zeG (zif _ _)))
    go_wp2_with fail
    ·have hd:((zb1 a[k]).toNat:Int) != ((zb1 b[k]).toNat:Int):=by assumption
     go_ret
     refine⟨zaq (eqL_ne (k:=k+1) ?_).symm,hq.drewN _⟩;rw[HT.out,HU.out,HA.out];intro e;have e1:=List.append_cancel_left e;injection e1 with e1
     rw[e1] at hd;simp at hd
    ·have hd:(((zb1 a[k]).toNat:Int) != ((zb1 b[k]).toNat:Int))=false:=by assumption
     go_roundw
     case rel=>
      refine⟨k+1,by omega,by go_num,za ?_,hq.drewN _⟩;rw[HT.out,HU.out,HA.out];have e1:(zb1 a[k]).toNat=(zb1 b[k]).toNat:=by simp only[bne_eq_false_iff_eq] at hd;omega
      rw[UInt8.toNat_inj.1 e1]
     case measure=>simp[intOf];omega
   ·go_wp2_with fail
    go_ret
    refine⟨zaq ?_,hq⟩;have h:=HA.out;rw[zcw a k hlt,zcw b k (by have:=HL.out;omega)] at h;unfold eqL;rw[h,beq_self_eq_true]
 ·have hb1:((a.size:Int) != (b.size:Int))=true:=by simp;omega
  have HL:=za hl;clear hl
  go_wp2_with fail
  go_ret
  exact⟨zaq (eqL_len (by rw[zae,zae];exact HL.out)).symm,Qb.refl w⟩
def zbK (c:UInt8):Bool:=decide (c.toNat=32\/c.toNat=9)
def rdw (l:List UInt8):List UInt8:=(l.reverse.dropWhile zbK).reverse
def zbD (l:List UInt8):List UInt8:=rdw (l.dropWhile zbK)
theorem rdw_snoc (l:List UInt8) (x:UInt8):rdw (l++[x])=if zbK x=true then rdw l else l++[x]:=by
 unfold rdw;rw[List.reverse_append,List.reverse_singleton,xm,xg]
 split<;>simp
theorem S_eq {a:ByteArray} {l:List UInt8} (h:a.data.toList=l):a=S l:=by rw[<-h]
def TP (n:Nat) (l:List UInt8) (f t:Nat):Prop :=
 ∃A M B,l=A++M++B/\(∀a∈A,zbK a=true)/\(∀b∈B,zbK b=true)/\M.dropWhile zbK=M/\rdw M=M /\
  ((M=[]/\f=n/\t=0)\/(M≠[]/\f=A.length/\t=A.length+M.length))
theorem TP.start (n:Nat):TP n [] n 0:=⟨[],[],[],rfl,by simp,by simp,rfl,rfl,.inl ⟨rfl,rfl,rfl⟩⟩
theorem TP.blank_ {n:Nat} {l:List UInt8} {f t:Nat} {c:UInt8} (h:TP n l f t) (hc:zbK c=true):TP n (l++[c]) f t:=by
 obtain⟨A,M,B,rfl,hA,hB,h1,h2,h3⟩:=h;refine⟨A,M,B++[c],by simp,hA,?_,h1,h2,h3⟩;intro b hb;rcases qn.1 hb with hb|hb
 ·exact hB b hb
 ·rw[List.mem_singleton.1 hb];exact hc
theorem TP.other {n:Nat} {l:List UInt8} {f t:Nat} {c:UInt8} (h:TP n l f t) (hc:zbK c=false) (hl:l.length<n):TP n (l++[c]) (min f l.length) (l.length+1):=by
 obtain⟨A,M,B,rfl,hA,hB,h1,h2,h3⟩:=h;rcases h3 with ⟨rfl,rfl,rfl⟩|⟨h3,rfl,rfl⟩
 ·refine⟨A++B,[c],[],by simp,?_,by simp,by simp[hc],by simp[rdw,hc],.inr ⟨by simp,?_,?_⟩⟩
  ·intro a ha;rcases qn.1 ha with ha|ha
   ·exact hA a ha
   ·exact hB a ha
  ·simp at hl ⊢;omega
  ·simp
 ·refine⟨A,M++B++[c],[],by simp,hA,by simp,?_,?_,.inr ⟨by simp,?_,?_⟩⟩
  ·cases M with
   | nil=>exact absurd rfl h3
   | cons x M=>
    have hx:¬zbK x=true:=by
     intro hx;rw[xg,if_pos hx] at h1;have:=congrArg jq h1;have h4:=(xn (p:=zbK) (l:=M)).length_le;simp at this;omega
    simp only[zl];rw[xg,if_neg hx]
  ·rw[rdw_snoc,if_neg (by rw[hc];exact Bool.false_ne_true)]
  ·simp
  ·simp;omega
theorem zlG {B:List UInt8} (hB:∀b∈B,zbK b=true) (l:List UInt8):rdw (l++B)=rdw l:=by
 unfold rdw;rw[List.reverse_append,List.dropWhile_append_of_pos];intro a ha;exact hB a (List.mem_reverse.1 ha)
theorem TP.done {l:List UInt8} {f t:Nat} (h:TP l.length l f t):(t<=f/\zbD l=[])\/(f<t/\t<=l.length/\zbD l=(l.drop f).take (t - f)):=by
 obtain⟨A,M,B,rfl,hA,hB,h1,h2,h3⟩:=h;have ht:zbD (A++M++B)=rdw ((M++B).dropWhile zbK):=by
  unfold zbD;rw[zi,List.dropWhile_append_of_pos hA]
 rcases h3 with ⟨rfl,rfl,rfl⟩|⟨h3,rfl,rfl⟩
 ·refine .inl ⟨zq _,?_⟩;rw[ht,List.nil_append,<-List.append_nil B,List.dropWhile_append_of_pos hB]
  rfl
 ·have hp:0<M.length:=List.length_pos_iff.2 h3;refine .inr ⟨by omega,by simp,?_⟩;have hm:(M++B).dropWhile zbK=M++B:=by
   cases M with
   | nil=>exact absurd rfl h3
   | cons x M=>
    have hx:¬zbK x=true:=by
     intro hx;rw[xg,if_pos hx] at h1;have:=congrArg jq h1;have h4:=(xn (p:=zbK) (l:=M)).length_le;simp at this;omega
    simp only[zl];rw[xg,if_neg hx]
  rw[ht,hm,zlG hB,h2,zi,List.drop_left,Nat.add_sub_cancel_left,List.take_left]
theorem Trim_any (s:ByteArray) (w:World) (hs:s.size<=maxLen) :
  Calls Tryz.prog 184 #[.string s] w fun e w'=>e=.returned (.string (S (zbD s.data.toList)))/\w=w':=by
 unfold maxLen at hs
 go_enter Tryz.func184,Tryz.ntmps184
 go_wp2_with fail
 go_loop [3,4,5,10] (fun x y _ i=>∃k f t:Nat,k<=s.size/\f<=s.size/\t<=s.size/\i=.int .i64 k/\x=.int .i64 f/\y=.int .i64 t/\Hid (TP s.size (s.data.toList.take k) f t)) (fun _ _ _ i=>s.size - (intOf i).toNat)
 case atStart=>exact⟨0,s.size,0,zq _,zd _,zq _,rfl,rfl,rfl,za (TP.start _)⟩
 case round=>
  obtain⟨k,f,t,hk,hf,ht,rfl,rfl,rfl,HT⟩:=hrel
  by_cases hlt:k<s.size
  ·have HS:=za (zee s k hlt);have hlen:(s.data.toList.take k).length=k:=by rw[List.length_take,zae];omega
   have HL:=za hlen;clear hlen
   go_wp2_with fail
   ·have h1:(s[k].toNat:Int)=32:=by assumption
    go_round
    case rel=>exact⟨k+1,f,t,by omega,hf,ht,by go_num,rfl,rfl,za (by rw[HS.out];exact HT.out.blank_ (decide_eq_true (by omega)))⟩
    case measure=>simp[intOf];omega
   ·have h1:((s[k].toNat:Int) != 32)=true/\((s[k].toNat:Int) != 9)=true:=by assumption
    go_round
    case rel=>
     have hb:zbK s[k]=false:=decide_eq_false (by simp only[bne_iff_ne] at h1;omega);have hT:=HT.out.other hb (by rw[HL.out];exact hlt);rw[HL.out] at hT;exact⟨k+1,min f k,k+1,by omega,by omega,by omega,by go_num,congrArg (Value.int .i64) (by omega),by go_num,za (by rw[HS.out];exact hT)⟩
    case measure=>simp[intOf];omega
   ·have h1:((s[k].toNat:Int) != 32)=false\/((s[k].toNat:Int) != 9)=false:=by assumption
    go_round
    case rel=>exact⟨k+1,f,t,by omega,hf,ht,by go_num,rfl,rfl,za (by rw[HS.out];exact HT.out.blank_ (decide_eq_true (by simp only[bne_eq_false_iff_eq] at h1;omega)))⟩
    case measure=>simp[intOf];omega
  ·have hd:=TP.done (l:=s.data.toList) (f:=f) (t:=t) (by have:=HT.out;rw[zcw s k hlt] at this;rw[zae];exact this);rcases hd with ⟨hle,hd⟩|⟨hlt2,hle,hd⟩
   ·have HD:=za hd;clear hd
    go_wp2_with fail
    go_ret
    exact⟨zi6 (by rw[HD.out]),rfl⟩
   ·have HD:=za hd;clear hd
    go_wp2_with fail
    go_ret
    exact⟨zi6 (S_eq (by rw[HD.out,Lib.extract_data])),rfl⟩
end Go.Proofs.YtomkbafdmbfmfaaGreatDoor
namespace Go.Proofs.YtomkbafdmbfmfaaGreatDoor.Sx
open Go.RowKit
theorem sxA:type_of% (And.intro @rn_nil (And.intro @rn_seq (And.intro @zmL (And.intro @rn_reg (And.intro @rn_drw (And.intro @rn_crs (And.intro @rst_n (And.intro @rst_c (And.intro @rcr_n (And.intro @rcr_c (And.intro @rn_crg (And.intro @zgt (And.intro @zjS (And.intro @zgs (And.intro @zfE (And.intro @rn_ret (And.intro @zmV (And.intro @zmj (And.intro @zjB (And.intro @zmi (And.intro @zjA (And.intro @zmk (And.intro @xit_ap (And.intro @rn_ap (And.intro @apOk_n (And.intro @apOk_c (And.intro @zps (And.intro @zeY (And.intro @zdH (And.intro @zbV (And.intro @znT (And.intro @zpk (And.intro @endK_n (And.intro @endK_r (And.intro @outO_s (And.intro @znq (And.intro @endI_n (And.intro @endI_r (And.intro @outJ_s (And.intro @znr (And.intro @rn_mv (And.intro @znQ (And.intro @znR (And.intro @zmM (And.intro @zjX (@rn_box)))))))))))))))))))))))))))))))))))))))))))))):=And.intro @rn_nil (And.intro @rn_seq (And.intro @zmL (And.intro @rn_reg (And.intro @rn_drw (And.intro @rn_crs (And.intro @rst_n (And.intro @rst_c (And.intro @rcr_n (And.intro @rcr_c (And.intro @rn_crg (And.intro @zgt (And.intro @zjS (And.intro @zgs (And.intro @zfE (And.intro @rn_ret (And.intro @zmV (And.intro @zmj (And.intro @zjB (And.intro @zmi (And.intro @zjA (And.intro @zmk (And.intro @xit_ap (And.intro @rn_ap (And.intro @apOk_n (And.intro @apOk_c (And.intro @zps (And.intro @zeY (And.intro @zdH (And.intro @zbV (And.intro @znT (And.intro @zpk (And.intro @endK_n (And.intro @endK_r (And.intro @outO_s (And.intro @znq (And.intro @endI_n (And.intro @endI_r (And.intro @outJ_s (And.intro @znr (And.intro @rn_mv (And.intro @znQ (And.intro @znR (And.intro @zmM (And.intro @zjX (@rn_box)))))))))))))))))))))))))))))))))))))))))))))
theorem sxB:type_of% (And.intro @kLit_s (And.intro @zm1 (And.intro @zjW (And.intro @zh4 (And.intro @kLd1_p (And.intro @kLd1_r (And.intro @zjR (And.intro @kLdn_s (And.intro @kLdv_p (And.intro @kLdv_r (And.intro @zjQ (And.intro @kSt2_b (And.intro @kSt_p (And.intro @zjO (And.intro @kNck_0 (And.intro @kNck_1 (And.intro @kNck_2 (And.intro @rn_nck (And.intro @kNot_0 (And.intro @rn_not (And.intro @zoc (And.intro @kAr_i8 (And.intro @zoe (And.intro @zod (And.intro @kAr_u8 (And.intro @zob (And.intro @zoa (And.intro @zn9 (And.intro @kNeg_0 (And.intro @rn_neg (And.intro @kCvi_0 (And.intro @rn_cvi (And.intro @kCvs_0 (And.intro @rn_cvs (And.intro @znV (And.intro @zmP (And.intro @zn5 (And.intro @zmT (And.intro @kFad_0 (And.intro @kFad_1 (And.intro @rn_fad (@zn6)))))))))))))))))))))))))))))))))))))))))):=And.intro @kLit_s (And.intro @zm1 (And.intro @zjW (And.intro @zh4 (And.intro @kLd1_p (And.intro @kLd1_r (And.intro @zjR (And.intro @kLdn_s (And.intro @kLdv_p (And.intro @kLdv_r (And.intro @zjQ (And.intro @kSt2_b (And.intro @kSt_p (And.intro @zjO (And.intro @kNck_0 (And.intro @kNck_1 (And.intro @kNck_2 (And.intro @rn_nck (And.intro @kNot_0 (And.intro @rn_not (And.intro @zoc (And.intro @kAr_i8 (And.intro @zoe (And.intro @zod (And.intro @kAr_u8 (And.intro @zob (And.intro @zoa (And.intro @zn9 (And.intro @kNeg_0 (And.intro @rn_neg (And.intro @kCvi_0 (And.intro @rn_cvi (And.intro @kCvs_0 (And.intro @rn_cvs (And.intro @znV (And.intro @zmP (And.intro @zn5 (And.intro @zmT (And.intro @kFad_0 (And.intro @kFad_1 (And.intro @rn_fad (@zn6)))))))))))))))))))))))))))))))))))))))))
theorem sxC:type_of% (And.intro @zmU (And.intro @kExt_0 (And.intro @rn_ext (And.intro @kLr2_o (And.intro @znZ (And.intro @znY (And.intro @znX (And.intro @zmQ (And.intro @zik (And.intro @zkn (And.intro @zgC (And.intro @zij (And.intro @kEqs_a (And.intro @rn_beq (And.intro @rn_eqs (And.intro @kIad_0 (And.intro @rn_iad (And.intro @zn4 (And.intro @zmS (And.intro @kIdx_0 (And.intro @rn_idx (And.intro @kMks_0 (And.intro @rn_mks (And.intro @rn_bin (And.intro @zkB (And.intro @zko (And.intro @zku (And.intro @zks (And.intro @zkr (And.intro @zkz (And.intro @zkt (And.intro @zkv (And.intro @zkw (And.intro @zkx (And.intro @zky (And.intro @zkA (And.intro @zkq (And.intro @zkp (And.intro @svi_i (@zhT)))))))))))))))))))))))))))))))))))))))):=And.intro @zmU (And.intro @kExt_0 (And.intro @rn_ext (And.intro @kLr2_o (And.intro @znZ (And.intro @znY (And.intro @znX (And.intro @zmQ (And.intro @zik (And.intro @zkn (And.intro @zgC (And.intro @zij (And.intro @kEqs_a (And.intro @rn_beq (And.intro @rn_eqs (And.intro @kIad_0 (And.intro @rn_iad (And.intro @zn4 (And.intro @zmS (And.intro @kIdx_0 (And.intro @rn_idx (And.intro @kMks_0 (And.intro @rn_mks (And.intro @rn_bin (And.intro @zkB (And.intro @zko (And.intro @zku (And.intro @zks (And.intro @zkr (And.intro @zkz (And.intro @zkt (And.intro @zkv (And.intro @zkw (And.intro @zkx (And.intro @zky (And.intro @zkA (And.intro @zkq (And.intro @zkp (And.intro @svi_i (@zhT)))))))))))))))))))))))))))))))))))))))
theorem sxD:type_of% (And.intro @zhS (And.intro @kSl2_s (And.intro @kSl_s (And.intro @zmK (And.intro @kAp_s (And.intro @kAp2_o (And.intro @kAp2_n (And.intro @kAp3_o (And.intro @kAs_o (And.intro @kAs_n (And.intro @kAs2_o (And.intro @rn_app (And.intro @zm2 (And.intro @kCb_o (And.intro @kCb_n (And.intro @zmX (And.intro @rn_mkf (And.intro @kG_tt (And.intro @kG_tf (And.intro @kG_ft (And.intro @kG_ff (And.intro @kG_u (And.intro @kG_v (And.intro @kGD_tt (And.intro @kGD_tf (And.intro @kGD_ft (And.intro @kGD_ff (And.intro @kGD_u (And.intro @kGD_v (And.intro @zjT (And.intro @zh3 (And.intro @kC_t (And.intro @kC_f (And.intro @zmY (And.intro @zm0 (And.intro @zjU (And.intro @zjV (And.intro @drn_mv (And.intro @zkV (@ziA)))))))))))))))))))))))))))))))))))))))):=And.intro @zhS (And.intro @kSl2_s (And.intro @kSl_s (And.intro @zmK (And.intro @kAp_s (And.intro @kAp2_o (And.intro @kAp2_n (And.intro @kAp3_o (And.intro @kAs_o (And.intro @kAs_n (And.intro @kAs2_o (And.intro @rn_app (And.intro @zm2 (And.intro @kCb_o (And.intro @kCb_n (And.intro @zmX (And.intro @rn_mkf (And.intro @kG_tt (And.intro @kG_tf (And.intro @kG_ft (And.intro @kG_ff (And.intro @kG_u (And.intro @kG_v (And.intro @kGD_tt (And.intro @kGD_tf (And.intro @kGD_ft (And.intro @kGD_ff (And.intro @kGD_u (And.intro @kGD_v (And.intro @zjT (And.intro @zh3 (And.intro @kC_t (And.intro @kC_f (And.intro @zmY (And.intro @zm0 (And.intro @zjU (And.intro @zjV (And.intro @drn_mv (And.intro @zkV (@ziA)))))))))))))))))))))))))))))))))))))))
theorem sxE:type_of% (And.intro @zk6 (And.intro @zgJ (And.intro @ziz (And.intro @ziy (And.intro @zoS (And.intro @zo5 (And.intro @zo6 (And.intro @zo1 (And.intro @zoQ (And.intro @zoR (And.intro @zk1 (And.intro @zo3 (And.intro @zo2 (And.intro @zk4 (And.intro @zkU (And.intro @zoZ (And.intro @zk3 (And.intro @zk2 (And.intro @zoY (And.intro @zoX (And.intro @zo0 (And.intro @zkY (And.intro @zkZ (And.intro @zoW (And.intro @ziB (And.intro @zo4 (And.intro @zix (And.intro @zo7 (And.intro @zk7 (@zoV)))))))))))))))))))))))))))))):=And.intro @zk6 (And.intro @zgJ (And.intro @ziz (And.intro @ziy (And.intro @zoS (And.intro @zo5 (And.intro @zo6 (And.intro @zo1 (And.intro @zoQ (And.intro @zoR (And.intro @zk1 (And.intro @zo3 (And.intro @zo2 (And.intro @zk4 (And.intro @zkU (And.intro @zoZ (And.intro @zk3 (And.intro @zk2 (And.intro @zoY (And.intro @zoX (And.intro @zo0 (And.intro @zkY (And.intro @zkZ (And.intro @zoW (And.intro @ziB (And.intro @zo4 (And.intro @zix (And.intro @zo7 (And.intro @zk7 (@zoV)))))))))))))))))))))))))))))
theorem sxF:type_of% (And.intro @kO_if (And.intro @pq_and (And.intro @pq_or (And.intro @pq_xor (And.intro @pq_shl (And.intro @pq_shr (And.intro @pq_mn (And.intro @pq_mx (And.intro @pq_rsl (And.intro @znf (And.intro @zng (And.intro @zj6 (And.intro @znh (And.intro @pq_asl (And.intro @kCb_b (And.intro @pq_lss (And.intro @pq_leq (And.intro @pq_gtr (And.intro @pq_geq (And.intro @rn_pu (@drn_pu))))))))))))))))))))):=And.intro @kO_if (And.intro @pq_and (And.intro @pq_or (And.intro @pq_xor (And.intro @pq_shl (And.intro @pq_shr (And.intro @pq_mn (And.intro @pq_mx (And.intro @pq_rsl (And.intro @znf (And.intro @zng (And.intro @zj6 (And.intro @znh (And.intro @pq_asl (And.intro @kCb_b (And.intro @pq_lss (And.intro @pq_leq (And.intro @pq_gtr (And.intro @pq_geq (And.intro @rn_pu (@drn_pu))))))))))))))))))))
theorem sxM:type_of% (And.intro @zmW (And.intro @kLd1_o (And.intro @zn1 (And.intro @kLdv_o (And.intro @zn0 (And.intro @kSt_o (And.intro @kSt3_o (And.intro @kNck_3 (And.intro @kFad_2 (And.intro @kIad_1 (And.intro @zn3 (And.intro @znP (And.intro @kTrn_0 (And.intro @kTrn_1 (And.intro @kTrn_2 (And.intro @rn_trn (And.intro @zoP (And.intro @zni (And.intro @znj (And.intro @pq_snn (And.intro @pq_snz (And.intro @pq_snr (And.intro @znW (And.intro @zn2 (And.intro @zmR (And.intro @zk0 (@zpr))))))))))))))))))))))))))):=And.intro @zmW (And.intro @kLd1_o (And.intro @zn1 (And.intro @kLdv_o (And.intro @zn0 (And.intro @kSt_o (And.intro @kSt3_o (And.intro @kNck_3 (And.intro @kFad_2 (And.intro @kIad_1 (And.intro @zn3 (And.intro @znP (And.intro @kTrn_0 (And.intro @kTrn_1 (And.intro @kTrn_2 (And.intro @rn_trn (And.intro @zoP (And.intro @zni (And.intro @znj (And.intro @pq_snn (And.intro @pq_snz (And.intro @pq_snr (And.intro @znW (And.intro @zn2 (And.intro @zmR (And.intro @zk0 (@zpr))))))))))))))))))))))))))
theorem sxN:type_of% (And.intro @apG_n (And.intro @apG_s (And.intro @apB_tt (And.intro @apB_ff (And.intro @apB_tf (And.intro @apB_ft (And.intro @rn_mkz (And.intro @kMkz_i (And.intro @zoU (And.intro @zmO (And.intro @zmN (And.intro @kMkm_i (And.intro @rn_lk (And.intro @kLk_0 (And.intro @kLk2_m (And.intro @rn_mup (And.intro @kMup_0 (And.intro @znU (And.intro @zkX (And.intro @zkW (And.intro @drn_lk (And.intro @zoT (And.intro @lkA_tt (And.intro @lkA_tf (And.intro @lkA_nt (And.intro @lkA_nf (And.intro @apS_o (And.intro @apS_p (And.intro @zlk (And.intro @zlj (And.intro @zli (And.intro @zlh (And.intro @pq_sl3 (And.intro @zne (And.intro @zmZ (And.intro @kCap_c (And.intro @zk5 (And.intro @rn_cra (And.intro @rsb_n (And.intro @rsb_c (And.intro @hsV_n (@hsV_c)))))))))))))))))))))))))))))))))))))))))):=And.intro @apG_n (And.intro @apG_s (And.intro @apB_tt (And.intro @apB_ff (And.intro @apB_tf (And.intro @apB_ft (And.intro @rn_mkz (And.intro @kMkz_i (And.intro @zoU (And.intro @zmO (And.intro @zmN (And.intro @kMkm_i (And.intro @rn_lk (And.intro @kLk_0 (And.intro @kLk2_m (And.intro @rn_mup (And.intro @kMup_0 (And.intro @znU (And.intro @zkX (And.intro @zkW (And.intro @drn_lk (And.intro @zoT (And.intro @lkA_tt (And.intro @lkA_tf (And.intro @lkA_nt (And.intro @lkA_nf (And.intro @apS_o (And.intro @apS_p (And.intro @zlk (And.intro @zlj (And.intro @zli (And.intro @zlh (And.intro @pq_sl3 (And.intro @zne (And.intro @zmZ (And.intro @kCap_c (And.intro @zk5 (And.intro @rn_cra (And.intro @rsb_n (And.intro @rsb_c (And.intro @hsV_n (@hsV_c)))))))))))))))))))))))))))))))))))))))))
theorem sxL:type_of% (And.intro @List.length_cons.{0} (And.intro @List.length_nil.{0} (And.intro @List.length_append.{0} (And.intro @List.length_replicate.{0} (And.intro @List.length_set.{0} (And.intro @List.cons_append.{0} (And.intro @List.nil_append.{0} (And.intro @List.append_nil.{0} (And.intro @List.getElem?_cons_zero.{0} (And.intro @List.getElem?_cons_succ.{0} (And.intro @List.getElem?_nil.{0} (And.intro @Option.getD_some.{0} (And.intro @Option.getD_none.{0} (And.intro @List.set_cons_zero.{0} (And.intro @List.set_cons_succ.{0} (And.intro @List.set_nil.{0} (And.intro @List.map_cons.{0,0} (And.intro @List.map_nil.{0,0} (And.intro @List.take_succ_cons.{0} (And.intro @List.take_zero.{0} (And.intro @List.drop_succ_cons.{0} (And.intro @List.drop_zero.{0} (And.intro @List.take_nil.{0} (And.intro @List.drop_nil.{0} (And.intro @List.take_length.{0} (And.intro @Int.toNat_natCast (And.intro @Int.toNat_natCast_add_one (And.intro @Bool.not_true (And.intro @Bool.not_false (And.intro @Bool.and_true (And.intro @Bool.true_and (And.intro @Bool.and_false (And.intro @Bool.false_and (And.intro @true_and (And.intro @and_true (And.intro @true_implies (And.intro @false_implies (And.intro @Option.bind_some.{0,0} (And.intro @Option.map_some.{0,0} (And.intro @Bool.false_eq_true (And.intro @Bool.true_eq_false (And.intro @decide_true (And.intro @decide_false (And.intro @not_true_eq_false (And.intro @not_false_eq_true (@beq_self_eq_true.{0})))))))))))))))))))))))))))))))))))))))))))))):=And.intro @List.length_cons.{0} (And.intro @List.length_nil.{0} (And.intro @List.length_append.{0} (And.intro @List.length_replicate.{0} (And.intro @List.length_set.{0} (And.intro @List.cons_append.{0} (And.intro @List.nil_append.{0} (And.intro @List.append_nil.{0} (And.intro @List.getElem?_cons_zero.{0} (And.intro @List.getElem?_cons_succ.{0} (And.intro @List.getElem?_nil.{0} (And.intro @Option.getD_some.{0} (And.intro @Option.getD_none.{0} (And.intro @List.set_cons_zero.{0} (And.intro @List.set_cons_succ.{0} (And.intro @List.set_nil.{0} (And.intro @List.map_cons.{0,0} (And.intro @List.map_nil.{0,0} (And.intro @List.take_succ_cons.{0} (And.intro @List.take_zero.{0} (And.intro @List.drop_succ_cons.{0} (And.intro @List.drop_zero.{0} (And.intro @List.take_nil.{0} (And.intro @List.drop_nil.{0} (And.intro @List.take_length.{0} (And.intro @Int.toNat_natCast (And.intro @Int.toNat_natCast_add_one (And.intro @Bool.not_true (And.intro @Bool.not_false (And.intro @Bool.and_true (And.intro @Bool.true_and (And.intro @Bool.and_false (And.intro @Bool.false_and (And.intro @true_and (And.intro @and_true (And.intro @true_implies (And.intro @false_implies (And.intro @Option.bind_some.{0,0} (And.intro @Option.map_some.{0,0} (And.intro @Bool.false_eq_true (And.intro @Bool.true_eq_false (And.intro @decide_true (And.intro @decide_false (And.intro @not_true_eq_false (And.intro @not_false_eq_true (@beq_self_eq_true.{0})))))))))))))))))))))))))))))))))))))))))))))
theorem sxZ:type_of% (And.intro @zjP (And.intro sxA (And.intro sxB (And.intro sxC (And.intro sxD (And.intro sxE (And.intro sxF (And.intro sxM (And.intro sxN (And.intro sxL (And.intro @forall_const.{1} (And.intro @implies_true.{1} (And.intro @implies_true.{0} (And.intro @if_true.{1} (And.intro @if_false.{1} (And.intro @ite_true.{1} (And.intro @ite_false.{1} (And.intro @exists_eq_left'.{1} (And.intro @exists_eq'.{1} (And.intro @ne_eq.{1} (And.intro @evs.eq_1 (And.intro @evs.eq_2 (And.intro @evp.eq_1 (And.intro @evp.eq_2 (And.intro @zan.eq_1 (And.intro @zan.eq_2 (And.intro @SV.ev.eq_1 (And.intro @SV.ev.eq_2 (And.intro @AV.flat.eq_1 (And.intro @AV.flat.eq_2 (And.intro @AV.one.eq_1 (And.intro @AV.one.eq_2 (And.intro @AV.one.eq_3 (And.intro @AV.one.eq_4 (And.intro @AV.one.eq_5 (And.intro @AV.cells.eq_1 (And.intro @AV.cells.eq_2 (And.intro @zd1.eq_1 (And.intro @zd1.eq_2 (And.intro @zm5.eq_1 (And.intro @zm5.eq_2 (And.intro @zm5.eq_3 (And.intro @zlt.eq_1 (And.intro @zlt.eq_2 (And.intro @pub.eq_1 (And.intro @pub.eq_2 (And.intro @pub.eq_3 (And.intro @pub.eq_4 (And.intro @pub.eq_5 (And.intro @zfe.eq_1 (And.intro @zfe.eq_2 (And.intro @AV.plain.eq_1 (And.intro @AV.plain.eq_2 (And.intro @AV.plain.eq_3 (And.intro @AV.plain.eq_4 (And.intro @AV.plain.eq_5 (And.intro @AV.plain.eq_6 (And.intro @AV.plain.eq_7 (And.intro @AV.plain.eq_8 (And.intro @AV.plain.eq_9 (And.intro @AV.plain.eq_10 (And.intro @AV.plain.eq_11 (And.intro @AV.plain.eq_12 (And.intro @zar.eq_1 (And.intro @zar.eq_2 (And.intro @zcV.eq_1 (And.intro @zcV.eq_2 (And.intro @zcV.eq_3 (And.intro @zcV.eq_4 (And.intro @za2.eq_1 (And.intro @zcQ.eq_1 (And.intro @zcQ.eq_2 (And.intro @eqA.eq_1 (And.intro @eqA.eq_2 (And.intro @eqA.eq_3 (And.intro @eqA.eq_4 (And.intro @eqA.eq_5 (And.intro @zkS.eq_1 (And.intro @zkS.eq_2 (And.intro @zkS.eq_3 (And.intro @List.replicate.eq_1.{0} (@List.replicate.eq_2.{0})))))))))))))))))))))))))))))))))))))))))))))))))))))))))))))))))))))))))))))))))):=And.intro @zjP (And.intro sxA (And.intro sxB (And.intro sxC (And.intro sxD (And.intro sxE (And.intro sxF (And.intro sxM (And.intro sxN (And.intro sxL (And.intro @forall_const.{1} (And.intro @implies_true.{1} (And.intro @implies_true.{0} (And.intro @if_true.{1} (And.intro @if_false.{1} (And.intro @ite_true.{1} (And.intro @ite_false.{1} (And.intro @exists_eq_left'.{1} (And.intro @exists_eq'.{1} (And.intro @ne_eq.{1} (And.intro @evs.eq_1 (And.intro @evs.eq_2 (And.intro @evp.eq_1 (And.intro @evp.eq_2 (And.intro @zan.eq_1 (And.intro @zan.eq_2 (And.intro @SV.ev.eq_1 (And.intro @SV.ev.eq_2 (And.intro @AV.flat.eq_1 (And.intro @AV.flat.eq_2 (And.intro @AV.one.eq_1 (And.intro @AV.one.eq_2 (And.intro @AV.one.eq_3 (And.intro @AV.one.eq_4 (And.intro @AV.one.eq_5 (And.intro @AV.cells.eq_1 (And.intro @AV.cells.eq_2 (And.intro @zd1.eq_1 (And.intro @zd1.eq_2 (And.intro @zm5.eq_1 (And.intro @zm5.eq_2 (And.intro @zm5.eq_3 (And.intro @zlt.eq_1 (And.intro @zlt.eq_2 (And.intro @pub.eq_1 (And.intro @pub.eq_2 (And.intro @pub.eq_3 (And.intro @pub.eq_4 (And.intro @pub.eq_5 (And.intro @zfe.eq_1 (And.intro @zfe.eq_2 (And.intro @AV.plain.eq_1 (And.intro @AV.plain.eq_2 (And.intro @AV.plain.eq_3 (And.intro @AV.plain.eq_4 (And.intro @AV.plain.eq_5 (And.intro @AV.plain.eq_6 (And.intro @AV.plain.eq_7 (And.intro @AV.plain.eq_8 (And.intro @AV.plain.eq_9 (And.intro @AV.plain.eq_10 (And.intro @AV.plain.eq_11 (And.intro @AV.plain.eq_12 (And.intro @zar.eq_1 (And.intro @zar.eq_2 (And.intro @zcV.eq_1 (And.intro @zcV.eq_2 (And.intro @zcV.eq_3 (And.intro @zcV.eq_4 (And.intro @za2.eq_1 (And.intro @zcQ.eq_1 (And.intro @zcQ.eq_2 (And.intro @eqA.eq_1 (And.intro @eqA.eq_2 (And.intro @eqA.eq_3 (And.intro @eqA.eq_4 (And.intro @eqA.eq_5 (And.intro @zkS.eq_1 (And.intro @zkS.eq_2 (And.intro @zkS.eq_3 (And.intro @List.replicate.eq_1.{0} (@List.replicate.eq_2.{0})))))))))))))))))))))))))))))))))))))))))))))))))))))))))))))))))))))))))))))))))
end Go.Proofs.YtomkbafdmbfmfaaGreatDoor.Sx
namespace Go.Proofs.YtomkbafdmbfmfaaGreatDoor
open Go.RowKit Sx
open Option renaming some->qh
class Shp (P:Program) [Tabs P]:Prop where
 sh:∀w:World,Tabs.T (P:=P) w->w.ShapedOpen P
class Pow (P:Program) [Tabs P]:Prop where
 pw : ∀ w : World, Tabs.T (P := P) w → Lib.TabIs P w "internal/strconv.uint64pow10" .u64 Lib.pow10Tab
theorem zfC {P:Program} {w w':World} (h:w.ShapedOpen P) (hk:∀k,k<w.heap.size->w'.heap[k]? = w.heap[k]?):w'.ShapedOpen P:=by
 have lt:∀{k:Nat} {o:Obj},w.heap[k]? = some o->k<w.heap.size:=fun {k o} e=>by
  rcases Nat.lt_or_ge k w.heap.size with h1|h1
  ·exact h1
  ·rw[Array.getElem?_eq_none h1] at e;cases e
 refine⟨fun g zero t hg hz=>?_,fun k hk1 hk2=>?_⟩
 ·obtain⟨cs,h1,h2,h3⟩:=h.1 g zero t hg hz;refine⟨cs,(hk g (lt h1)).trans h1,h2,fun hb=>Row.ok_of_shape (fun b x hx=>?_) (h3 hb)⟩;rcases Nat.lt_or_ge b w.heap.size with h4|h4
  ·simpa[World.shape?,hk b h4] using hx
  ·simp[World.shape?,Array.getElem?_eq_none h4] at hx
 ·obtain⟨o,o₀,h1,h2,h3⟩:=h.2 k hk1 hk2;exact⟨o,o₀,(hk k (lt h1)).trans h1,h2,h3⟩
mutual
/-- a value without memory, as it is -/
def val:AV->Option Value
 | .s l=>some (.string ⟨l.toArray⟩)
 | .i k n=>some (.int k n)
 | .b x=>some (.bool x)
 | .agg cs=>match vals cs with
  | some vs=>if vs.all (·.oneCell')=true then some (.agg vs.toArray) else none
  | none=>none
 | .tup cs=>(vals cs).map fun vs=>.tuple vs.toArray
 | _=>none
def vals:List AV->Option (List Value)
 | []=>some []
 | x::xs=>match val x,vals xs with
  | some v,some vs=>some (v::vs)
  | _,_=>none
end
mutual
theorem zey (G:Gh) (I:Imm):∀(x:AV) (v:Value),val x=some v->∀y,Den G I x y↔y=v
 | .s l,v,h,y=>by simp only[val,qh.injEq] at h;subst h;simp[Den]
 | .i k n,v,h,y=>by simp only[val,qh.injEq] at h;subst h;simp[Den]
 | .b x,v,h,y=>by simp only[val,qh.injEq] at h;subst h;simp[Den]
 | .agg cs,v,h,y=>by
  simp only[val] at h
  split at h
  ·rename_i vs h1
   split at h
   ·rename_i h2;injection h with h;subst h
    simp only[Den]
    constructor
    ·rintro⟨ys,rfl,k1,_⟩;rw[(zb7 G I cs vs h1 ys).1 k1]
    ·rintro rfl;exact⟨vs,rfl,(zb7 G I cs vs h1 vs).2 rfl,fun u hu=>(List.all_eq_true.1 h2) u hu⟩
   ·cases h
  ·cases h
 | .tup cs,v,h,y=>by
  simp only[val,Option.map_eq_some_iff] at h;obtain⟨vs,h1,rfl⟩:=h;simp only[Den]
  constructor
  ·rintro⟨ys,rfl,k1⟩;rw[(zb7 G I cs vs h1 ys).1 k1]
  ·rintro rfl;exact⟨vs,rfl,(zb7 G I cs vs h1 vs).2 rfl⟩
 | .p _ _,v,h,y=>by simp[val] at h
 | .row _ _,v,h,y=>by simp[val] at h
 | .prow _ _,v,h,y=>by simp[val] at h
 | .orow _ _,v,h,y=>by simp[val] at h
 | .porow _ _ _,v,h,y=>by simp[val] at h
 | .bsl _ _ _,v,h,y=>by simp[val] at h
 | .m _,v,h,y=>by simp[val] at h
 | .zn _,v,h,y=>by simp[val] at h
 | .nil,v,h,y=>by simp[val] at h
 | .fn _ _ _,v,h,y=>by simp[val] at h
 | .o _,v,h,y=>by simp[val] at h
 | .u,v,h,y=>by simp[val] at h
theorem zb7 (G:Gh) (I:Imm):∀(xs:List AV) (vs:List Value),vals xs=some vs->∀ys,zac G I xs ys↔ys=vs
 | [],vs,h,ys=>by simp only[vals,qh.injEq] at h;subst h;simp[zac]
 | x::xs,vs,h,ys=>by
  simp only[vals] at h
  split at h
  ·rename_i v vs' h1 h2;injection h with h;subst h
   simp only[zac]
   constructor
   ·rintro⟨y,ys',rfl,k1,k2⟩;rw[(zey G I x v h1 y).1 k1,(zb7 G I xs vs' h2 ys').1 k2]
   ·rintro rfl;exact⟨v,vs',rfl,(zey G I x v h1 v).2 rfl,(zb7 G I xs vs' h2 vs').2 rfl⟩
  ·cases h
end
section
variable {P:Program} [Tabs P] {f:FuncId} {args:List AV} {vs:List Value} {r:AV} {v:Value} {objs:List OB} {K:List OB->AV->Prop}
theorem conv (ha:vals args=some vs) (hr:val r=some v) (h:∀w,Calls P f vs.toArray w fun e w'=>e=.returned v/\Qb w w') (hk:K objs r):zaa P f args objs K :=
 zf3 r hk fun G I w ys hm hd=>by
  rw[(zb7 G I args vs ha ys).1 hd];exact⟨v,h w,(zey G I r v hr v).2 rfl⟩
theorem zjx (ha:vals args=some vs) (hr:val r=some v) (h:∀w,Calls P f vs.toArray w fun e w'=>e=.returned v/\w=w') (hk:K objs r):zaa P f args objs K :=
 conv ha hr (fun w=>(h w).mono (by rintro e w' ⟨rfl,rfl⟩;exact⟨rfl,Qb.refl _⟩)) hk
theorem convT (ha:vals args=some vs) (hr:val r=some v) (h:∀w,Tabs.T (P:=P) w->Calls P f vs.toArray w fun e w'=>e=.returned v/\Qb w w') (hk:K objs r):zaa P f args objs K :=
 zeP r hk fun G I w ys hT hm hd=>by
  rw[(zb7 G I args vs ha ys).1 hd];exact⟨v,h w hT,(zey G I r v hr v).2 rfl⟩
end
end Go.Proofs.YtomkbafdmbfmfaaGreatDoor
namespace Go.Proofs.YtomkbafdmbfmfaaGreatDoor
open Sx
theorem gn1 (l:List OB) (x:OB):(l++[x])[l.length]? = some x:=by simp
theorem sn1 (l:List OB) (x y:OB):(l++[x]).set l.length y=l++[y]:=by simp
end Go.Proofs.YtomkbafdmbfmfaaGreatDoor
namespace Go.Proofs.YtomkbafdmbfmfaaGreatDoor
open Go.RowKit
open Lib renaming hid->za, indexByte->jr
open List renaming length_drop->zv, take_of_length_le->jg
def sv (ls:List (List UInt8)):List Value:=ls.map fun l=>.string (S l)
theorem sv_get (ls:List (List UInt8)) (i:Nat) (h:i<ls.length):(sv ls)[i]? = some (.string (S ls[i])):=by simp[sv,h]
theorem sv_one (ls:List (List UInt8)):∀u∈sv ls,u.oneCell'=true:=by
 intro u hu;obtain⟨c,_,rfl⟩:=List.mem_map.1 hu
 rfl
def zgR (w:World) (base:Nat) (v:Value) (ls:List (List UInt8)):Prop:=w.ownsRow base 9 1 v ls.length (sv ls)
theorem zgR.nil (w:World) (base:Nat):zgR w base (.slice none 0 0) []:=World.ownsRow_nil w base _ _
theorem zgR.drew {w:World} {base:Nat} {v:Value} {l:List (List UInt8)} (h:zgR w base v l):zgR w.drew base v l:=h
theorem zgR.drewN {w:World} {base:Nat} {v:Value} {l:List (List UInt8)} (h:zgR w base v l) (n:Nat):zgR (w.drewN n) base v l:=h
theorem zgR.alloc {w:World} {base:Nat} {v:Value} {l:List (List UInt8)} (h:zgR w base v l) (o:Obj):zgR (w.alloc o) base v l:=World.ownsRow.alloc h o
theorem zgR.below {w w':World} {base:Nat} {v:Value} {l:List (List UInt8)} (h:zgR w base v l) (hb:Qb w w'):zgR w' base v l:=by
 refine World.ownsRow.kept (row:=none) h ⟨hb.os,hb.tape,hb.output,Below.size hb,fun k hk _=>Below.block hb k hk⟩ ?_;rcases h.2 with ⟨rfl,_⟩|⟨g,cap,cur,rfl,_⟩
 ·exact .inl rfl
 ·exact .inr (by simp[Value.ownBlock])
theorem zgR.form {w:World} {base:Nat} {v:Value} {l:List (List UInt8)} (h:zgR w base v l) (hl:0<l.length):∃g cap,v=.slice (some ⟨g,0,none⟩) l.length cap/\base<=g/\g<w.heap.size/\l.length<=cap:=by
 rcases h.2 with ⟨rfl,hn⟩|⟨g,cap,cur,rfl,hb,hg,hnc,_⟩
 ·omega
 ·refine⟨g,cap,rfl,hb,?_,hnc⟩;rcases Nat.lt_or_ge g w.heap.size with h1|h1
  ·exact h1
  ·rw[Array.getElem?_eq_none h1] at hg;cases hg
theorem zgR.cell {w:World} {B g n cap:Nat} {l:List (List UInt8)} (h:zgR w B (.slice (some ⟨g,0,none⟩) n cap) l) (j:Nat) (hj:j<l.length):w.cell? ⟨g,j,none⟩=some (.string (S l[j])):=by
 have h':=h;rcases h'.2 with ⟨e,_⟩|⟨g',cap',cur,e,_⟩
 ·simp at e
 ·simp only[Value.slice.injEq] at e;obtain⟨_,rfl,_⟩:=e;rw[World.ownsRow.cellAt (h:World.ownsRow _ _ _ _ _ _ _) j (by omega),sv_get l j hj]
theorem zgR.appended {w':World} {B:Nat} {v':Value} {l m:List (List UInt8)} {xs:List Value} {n:Nat} (h:w'.ownsRow B 9 1 v' n xs) (hx:xs=sv (l++m)) (hn:n=(l++m).length):zgR w' B v' (l++m):=by
 subst hx hn;exact h
def zaB (c:UInt8):List UInt8->List UInt8×List UInt8×Bool
 | []=>([],[],false)
 | x::t=>if x=c then ([],t,true) else (x::(zaB c t).1,(zaB c t).2.1,(zaB c t).2.2)
theorem zbR (c:UInt8):∀l:List UInt8,(jr l c=-1/\zaB c l=(l,[],false)/\c∉l)\/∃k:Nat,jr l c=k/\k<l.length/\zaB c l=(l.take k,l.drop (k+1),true)/\l[k]? = some c
 | []=>.inl ⟨rfl,rfl,by simp⟩
 | x::t=>by
  unfold jr zaB
  by_cases h:x=c
  ·subst h;exact .inr ⟨0,by simp,by simp,by simp,by simp⟩
  ·rw[if_neg (by simpa using h),if_neg h];rcases zbR c t with ⟨h1,h2,h3⟩|⟨k,h1,h2,h3,h4⟩
   ·refine .inl ⟨by rw[h1];rfl,by rw[h2],?_⟩;simp only[List.mem_cons,not_or];exact⟨fun e=>h e.symm,h3⟩
   ·refine .inr ⟨k+1,?_,by simpa using h2,?_,by simpa using h4⟩
    ·rw[h1,if_neg (by simp only[beq_iff_eq];omega)];omega
    ·rw[h3];simp
theorem zdK (c:UInt8) (l:List UInt8):(zaB c l).1.length<=l.length/\((zaB c l).2.2=true->(zaB c l).1.length+(zaB c l).2.1.length+1=l.length)/\((zaB c l).2.2=false->(zaB c l).1=l/\(zaB c l).2.1=[]):=by
 rcases zbR c l with ⟨h1,h2,h3⟩|⟨k,h1,h2,h3,h4⟩
 ·rw[h2];simp
 ·rw[h3];simp;omega
theorem zbo (c:UInt8) (l:List UInt8):(zaB c l).1.length<=l.length/\(zaB c l).2.1.length<=l.length:=by
 rcases zbR c l with ⟨h1,h2,h3⟩|⟨k,h1,h2,h3,h4⟩
 ·rw[h2];simp
 ·rw[h3];simp;omega
def zbj (c:UInt8):List UInt8->List (List UInt8)
 | []=>[[]]
 | x::t=>if x=c then []::zbj c t else match zbj c t with
  | p::ps=>(x::p)::ps
  | []=>[[x]]
theorem zcL (c:UInt8):∀l,∃p ps,zbj c l=p::ps
 | []=>⟨_,_,rfl⟩
 | x::t=>by
  unfold zbj
  by_cases h:x=c
  ·rw[if_pos h];exact⟨_,_,rfl⟩
  ·rw[if_neg h];obtain⟨p,ps,e⟩:=zcL c t;rw[e];exact⟨_,_,rfl⟩
theorem zly (c:UInt8) (l:List UInt8):0<(zbj c l).length:=by obtain⟨p,ps,e⟩:=zcL c l;rw[e];simp
theorem zcl (c x:UInt8) (t:List UInt8):zbj c (x::t)=if x=c then []::zbj c t else match zbj c t with
  | p::ps=>(x::p)::ps
  | []=>[[x]]:=rfl
theorem zcr (c x:UInt8) (t:List UInt8):zaB c (x::t)=if x=c then ([],t,true) else (x::(zaB c t).1,(zaB c t).2.1,(zaB c t).2.2):=rfl
theorem zcd (c:UInt8):∀l,zbj c l=if (zaB c l).2.2=true then (zaB c l).1::zbj c (zaB c l).2.1 else [l]
 | []=>rfl
 | x::t=>by
  have ih:=zcd c t;rw[zcl,zcr]
  by_cases h:x=c
  ·rw[if_pos h,if_pos h,if_pos rfl]
  ·rw[if_neg h,if_neg h,ih]
   by_cases h2:(zaB c t).2.2=true
   ·rw[if_pos h2,if_pos h2]
   ·rw[if_neg h2,if_neg h2]
def zhK (x:List UInt8×List UInt8×Bool):Value:=.tuple #[.string (S x.1),.string (S x.2.1),.bool x.2.2]
theorem lCut_any (s:ByteArray) (c:UInt8) (w:World) (hs:s.size<=maxLen) :
  Calls Tryz.prog 195 #[.string s,.string ⟨#[c]⟩] w fun e w'=>e=.returned (zhK (zaB c s.data.toList))/\Qb w w':=by
 unfold maxLen at hs;rcases zbR c s.data.toList with ⟨h1,h2,_⟩|⟨k,h1,h2,h3,_⟩
 ·have HI:=za h1;have HC:=za h2;clear h1 h2
  go_enter Tryz.func195,Tryz.ntmps195
  go_wp2_with fail
  refine(Tryz.stringslite_Index_one _ _ _).mono ?_;rintro e w' ⟨rfl,rfl⟩;rw[HI.out]
  go_wp2_with fail
  go_ret3
  exact⟨by rw[HC.out];rfl,Qb.refl _⟩
 ·rw[zae] at h2;have HI:=za h1;have HC:=za h3;clear h1 h3;have i0:(0:Int)<=(k:Int):=by omega
  have i1:(k:Int)<(s.size:Int):=by omega
  have q1:IntKind.i64.wrap ((k:Int)+1)=(k:Int)+1:=IntWalk.i64_in _ (by omega);have q2:(0:Int)<=(k:Int)+1:=by omega
  have q3:((k:Int)+1).toNat=k+1:=by omega
  have q4:(k:Int)+1<=(s.size:Int):=by omega
  go_enter Tryz.func195,Tryz.ntmps195
  go_wp2_with fail
  refine(Tryz.stringslite_Index_one _ _ _).mono ?_;rintro e w' ⟨rfl,rfl⟩;rw[HI.out]
  go_wp2_with fail
  go_quiet (fail)
  go_wp2_with fail
  go_ret3
  refine⟨?_,(Qb.refl _).drewN _⟩;rw[HC.out];refine congrArg Ending.returned (congrArg Value.tuple ?_);rw[show S (s.data.toList.take k)=s.extract 0 k from by rw[<-S_of (s.extract 0 k),Lib.extract_data];simp,show S (s.data.toList.drop (k+1))=s.extract (k+1) s.size from by
   rw[<-S_of (s.extract (k+1) s.size),Lib.extract_data];congr 2;rw[jg];rw[zv,zae];omega]
  try rfl
theorem zbr (s:ByteArray) (c:UInt8) (w:World) (hs:s.size<=maxLen) :
  Calls Tryz.prog 125 #[.string s,.string ⟨#[c]⟩] w fun e w'=>e=.returned (zhK (zaB c s.data.toList))/\Qb w w':=by
 go_enter Tryz.func125,Tryz.ntmps125
 go_wp2_with fail
 refine(lCut_any _ _ _ hs).mono ?_;rintro e w' ⟨rfl,hq⟩;unfold zhK
 go_wp2_with fail
 go_ret3
 exact⟨rfl,hq⟩
theorem zd5 (s:ByteArray) (k:Nat):s.extract 0 k=S (s.data.toList.take k):=by rw[<-S_of (s.extract 0 k),Lib.extract_data];simp
theorem zjt (s:ByteArray) (i j:Nat):s.extract i j=S ((s.data.toList.drop i).take (j - i)):=by rw[<-S_of (s.extract i j),Lib.extract_data]
theorem zaZ (s:ByteArray) (k:Nat):s.extract k s.size=S (s.data.toList.drop k):=by
 rw[zjt,jg (by rw[zv,zae];omega)]
end Go.Proofs.YtomkbafdmbfmfaaGreatDoor
namespace Go.Proofs.YtomkbafdmbfmfaaGreatDoor
open Lib renaming hasPrefix->zm, hid->za, indexByte->jr
structure UriP where
 scheme:List UInt8
 auth:List UInt8
 path:List UInt8
 query:List UInt8
 frag:List UInt8
 hs:Bool
 ha:Bool
 hq:Bool
 hf:Bool
def zgb:UriP:=⟨[],[],[],[],[],false,false,false,false⟩
def zaT (u:UriP):Array Value:=#[.string (S u.scheme),.string (S u.auth),.string (S u.path),.string (S u.query),.string (S u.frag),.bool u.hs,.bool u.ha,.bool u.hq,.bool u.hf]
def uriA (u:UriP):Value:=.agg (zaT u)
def zjG (r:Int×UriP):Value:=.tuple #[uriA r.2,.int .i64 r.1]
def zaF (l:List UInt8):List UInt8:=(zaB 47 l).1
def scB (c:UInt8):Bool:=zbx c||zaf c||zc4 c [43,45,46]
def zcX:List UInt8->Bool
 | []=>false
 | c::t=>zbx c&&t.all scB
def zeb (l:List UInt8):Bool:=zm l [47,47]
theorem zgk {l:List UInt8} (h:zeb l=true):Lib.trimPrefix l [47,47]=l.drop 2:=by unfold Lib.trimPrefix;rw[if_pos (show zm l [47,47]=true from h)];rfl
theorem zhQ {l:List UInt8} (h:zeb l=true):2<=l.length:=by
 have:=(List.isPrefixOf_iff_prefix.1 h).length_le;simpa using this
def zhE (l:List UInt8):List UInt8:=(zaB 63 (zaB 35 l).1).1
def za3 (l:List UInt8):List UInt8×List UInt8×Bool:=zaB 58 (zaF (zhE l))
def zde (l:List UInt8):List UInt8:=if (za3 l).2.2=true then (zhE l).drop ((za3 l).1.length+1) else zhE l
def zcc (r:List UInt8):List UInt8:=if zeb r=true then zaF (r.drop 2) else []
def zcZ (r:List UInt8):List UInt8:=if zeb r=true then (r.drop 2).drop (zcc r).length else r
def zai (l:List UInt8):Int×UriP :=
 if 16384<l.length then (5,zgb)
 else if ((za3 l).2.2&&!zcX (za3 l).1)=true then (6,zgb)
 else (0,{ scheme:=if (za3 l).2.2=true then (za3 l).1 else [],auth:=zcc (zde l),path:=zcZ (zde l),query:=(zaB 63 (zaB 35 l).1).2.1,frag:=(zaB 35 l).2.1,hs:=(za3 l).2.2,ha:=zeb (zde l),hq:=(zaB 63 (zaB 35 l).1).2.2,hf:=(zaB 35 l).2.2 })
theorem zbL (l:List UInt8):zaF l=l.take (zaF l).length/\(zaF l).length<=l.length:=by
 unfold zaF;rcases zbR 47 l with ⟨h1,h2,h3⟩|⟨k,h1,h2,h3,h4⟩
 ·rw[h2];simp
 ·rw[h3];simp;omega
open Go.RowKit
def Obk (w:World) (g:Nat) (t:TypeId) (cs:Array Value):Prop:=w.heap[g]? = some (.cells cs t (0,0))
theorem Obk.lt {w:World} {g:Nat} {t:TypeId} {cs:Array Value} (h:Obk w g t cs):g<w.heap.size:=by
 rcases Nat.lt_or_ge g w.heap.size with h1|h1
 ·exact h1
 ·unfold Obk at h;rw[Array.getElem?_eq_none h1] at h;cases h
theorem Obk.cell {w:World} {g:Nat} {t:TypeId} {cs:Array Value} (h:Obk w g t cs) (i:Nat):w.cell? ⟨g,i,none⟩=cs[i]?:=cell_of_row w g i cs t (0,0) h
theorem Obk.frozen {w:World} {g:Nat} {t:TypeId} {cs:Array Value} (h:Obk w g t cs) (i:Nat):w.frozen? ⟨g,i,none⟩=false:=by
 unfold Obk at h;simp[World.frozen?,h]
theorem Obk.new (w:World) (t:TypeId) (cs:Array Value):Obk (w.alloc (.cells cs t)) w.heap.size t cs:=heap_alloc_new w _
theorem Obk.qb {w w':World} {g:Nat} {t:TypeId} {cs:Array Value} (h:Obk w g t cs) (hq:Qb w w'):Obk w' g t cs:=(hq.block g h.lt).trans h
theorem Obk.alloc {w:World} {g:Nat} {t:TypeId} {cs:Array Value} (h:Obk w g t cs) (o:Obj):Obk (w.alloc o) g t cs:=(Below.heap_alloc w o g h.lt).trans h
theorem Obk.drew {w:World} {g:Nat} {t:TypeId} {cs:Array Value} (h:Obk w g t cs):Obk w.drew g t cs:=h
theorem Obk.drewN {w:World} {g:Nat} {t:TypeId} {cs:Array Value} (h:Obk w g t cs) (n:Nat):Obk (w.drewN n) g t cs:=h
theorem Obk.put {w:World} {g:Nat} {t:TypeId} {cs:Array Value} (h:Obk w g t cs) (i:Nat) (u:Value):Obk (w.setCell ⟨g,i,none⟩ u) g t (cs.setIfInBounds i u):=by
 unfold Obk at h ⊢;simp[World.setCell,Array.getElem?_modify,h]
theorem Obk.far {w:World} {g:Nat} {t:TypeId} {cs:Array Value} (h:Obk w g t cs) {p:Addr} (hp:g≠p.block) (u:Value):Obk (w.setCell p u) g t cs:=(Below.heap_setCell w p u g hp).trans h
theorem Obk.at_ (w:World) (t:TypeId) (cs:Array Value) (g:Nat) (h:w.heap.size=g):Obk (w.alloc (.cells cs t)) g t cs:=by subst h;exact Obk.new w t cs
theorem Obk.st {w:World} {g:Nat} {t:TypeId} {cs:Array Value} (h:Obk w g t cs) (b o:Nat) (u:Value) (hne:g≠b):Obk (w.setCell ⟨b,o,none⟩ u) g t cs:=h.far (p:=⟨b,o,none⟩) hne u
theorem Qb.st {a c:World} (h:Qb a c) (b o:Nat) (u:Value) (hb:a.heap.size<=b):Qb a (c.setCell ⟨b,o,none⟩ u):=h.set (p:=⟨b,o,none⟩) hb u
theorem Obk.other {w w':World} {g b:Nat} {t:TypeId} {cs:Array Value} (h:Obk w g t cs) (hg:w.grownBy w' (some b)) (hne:g≠b):Obk w' g t cs:=(hg.block g h.lt (fun e=>hne (Option.some.inj e))).trans h
theorem zoy (w:World) (g i:Nat) (u:Value):w.grownBy (w.setCell ⟨g,i,none⟩ u) (some g) :=
 ⟨rfl,rfl,rfl,by simp[World.setCell],fun k hk hne=>Below.heap_setCell w _ u k (by intro e;exact hne (by rw[e]))⟩
theorem Qb.turned {a b c:World} {g:Nat} (h:Qb a b) (hg:b.grownBy c (some g)) (hr:a.heap.size<=g):Qb a c:=h.grown hg (fun k hk=>by rw[<-Option.some.inj hk];exact hr)
theorem zca (s:ByteArray) (w:World) (hs:s.size<=maxLen) :
  Calls Tryz.prog 223 #[.string s] w fun e w'=>e=.returned (.string (S (zaF s.data.toList)))/\Qb w w':=by
 obtain⟨p,q,b,hcut⟩:∃p q b,zaB 47 s.data.toList=(p,q,b):=⟨_,_,_,rfl⟩;have HC:=za hcut;clear hcut
 go_enter Tryz.func223,Tryz.ntmps223
 go_wp2_with fail
 refine(zbr s 47 _ hs).mono ?_;rintro e w1 ⟨rfl,hq1⟩;rw[HC.out];unfold zhK
 go_wp2_with fail
 go_ret
 exact⟨zjY (by unfold zaF;rw[HC.out]),hq1⟩
theorem zg6 (s:ByteArray) (w:World) (hs:s.size<=maxLen) :
  Calls Tryz.prog 220 #[.string s] w fun e w'=>e=.returned (.int .i64 (jr (zaF s.data.toList) 58))/\Qb w w':=by
 go_enter Tryz.func220,Tryz.ntmps220
 go_wp2_with fail
 refine(zca s _ hs).mono ?_;rintro e w1 ⟨rfl,hq1⟩
 go_wp2_with fail
 refine(Tryz.strings_IndexByte _ _ _).mono ?_;rintro e w2 ⟨rfl,rfl⟩
 go_wp2_with fail
 go_ret
 exact⟨rfl,hq1⟩
def zi0 (l:List UInt8):Bool:=match l with | []=>true|c::t=>zbx c&&t.all scB
theorem zmG (l:List UInt8) (x:UInt8):zi0 (l++[x])=(zi0 l&&(if l=[] then zbx x else scB x)):=by
 rcases l with _|⟨c,t⟩
 ·simp[zi0]
 ·simp[zi0,Bool.and_assoc]
theorem schT_pre {l:List UInt8} {k:Nat} (h:zi0 (l.take k)=false):zi0 l=false:=by
 rcases l with _|⟨c,t⟩
 ·simp[zi0] at h
 ·rcases k with _|k
  ·simp[zi0] at h
  ·rw[List.take_succ_cons] at h;have h':(zbx c&&(t.take k).all scB)=false:=h;show (zbx c&&t.all scB)=false;rcases hc:zbx c with _|_
   ·rfl
   ·rw[hc,Bool.true_and] at h';rw[zbt scB t k h'];rfl
theorem zh0 {l:List UInt8} (h:l≠[]):zcX l=zi0 l:=by
 rcases l with _|⟨c,t⟩
 ·exact absurd rfl h
 ·rfl
theorem zom {l:List UInt8} {c:UInt8}:jr l c<0↔zc4 c l=false:=by
 unfold zc4;rcases zbR c l with ⟨h1,h2,h3⟩|⟨k,h1,h2,h3,h4⟩
 ·rw[h1];simp[h3]
 ·rw[h1];have:=List.mem_of_getElem? h4;simp[this]
theorem zeZ (s:ByteArray) (w:World) (hs:s.size<=maxLen) :
  Calls Tryz.prog 221 #[.string s] w fun e w'=>e=.returned (.bool (zcX s.data.toList))/\w=w':=by
 unfold maxLen at hs
 go_enter Tryz.func221,Tryz.ntmps221
 go_wp2_with fail
 go_loop [6] (fun i=>∃k:Nat,k<=s.size/\i=.int .i64 k/\Hid (zi0 (s.data.toList.take k)=true)) (fun i=>s.size - (intOf i).toNat)
 case atStart=>exact⟨0,Nat.zero_le _,rfl,za rfl⟩
 case round=>
  obtain⟨k,hk,rfl,HT⟩:=hrel
  by_cases hlt:k<s.size
  ·have hne:Hid (s.data.toList≠[]):=za (fun e=>by have:=zae s;rw[e] at this;simp at this;omega);have hstep:zi0 (s.data.toList.take (k+1))=(if s.data.toList.take k=[] then zbx s[k] else scB s[k]):=by
    rw[zee s k hlt,zmG,HT.out,Bool.true_and]
   have hbad:zi0 (s.data.toList.take (k+1))=false->Hid (zcX s.data.toList=false):=fun h=>za (by rw[zh0 hne.out,schT_pre h]);rcases ha:zbx s[k] with _|_
   ·by_cases hk0:k=0
    ·subst hk0;have HB:=hbad (by rw[hstep,List.take_zero,if_pos rfl,ha]);have H1:=za ha;clear ha hstep hbad
     go_wp2_with fail
     refine(za1 _ _).mono ?_;rintro e w' ⟨rfl,rfl⟩;rw[H1.out]
     go_wp2_with fail
     go_ret
     exact⟨zaq (by rw[HB.out]),rfl⟩
    ·have hkb:((k:Int)==0)=false:=by rw[beq_eq_false_iff_ne];omega
     have htk:s.data.toList.take k≠[]:=fun e=>by have:=congrArg List.length e;rw[List.length_take,zae,List.length_nil] at this;omega
     rw[if_neg htk] at hstep;rcases hd:zaf s[k] with _|_
     ·rcases hi:zc4 s[k] [43,45,46] with _|_
      ·have HB:=hbad (by rw[hstep];unfold scB;rw[ha,hd,hi];rfl);have hidx:jr [43,45,46] s[k]<0:=zom.2 hi;have H1:=za ha;have H2:=za hd;clear ha hd hi hstep hbad hk0 htk
       go_wp2_with fail
       refine(za1 _ _).mono ?_;rintro e w' ⟨rfl,rfl⟩;rw[H1.out]
       go_wp2_with fail
       refine(zaL _ _).mono ?_;rintro e w' ⟨rfl,rfl⟩;rw[H2.out]
       go_wp2_with fail
       refine(Tryz.strings_IndexByte _ _ _).mono ?_;rintro e w2 ⟨rfl,rfl⟩;rw[zak,zcv]
       go_wp2_with fail
       go_ret
       exact⟨zaq (by rw[HB.out]),rfl⟩
      ·have HB:Hid (zi0 (s.data.toList.take (k+1))=true):=za (by rw[hstep];unfold scB;rw[ha,hd,hi];rfl);have hidx:0<=jr [43,45,46] s[k]:=by
        by_cases h:jr [43,45,46] s[k]<0
        ·rw[zom.1 h] at hi;cases hi
        ·omega
       have H1:=za ha;have H2:=za hd;clear ha hd hi hstep hbad hk0 htk
       go_wp2_with fail
       refine(za1 _ _).mono ?_;rintro e w' ⟨rfl,rfl⟩;rw[H1.out]
       go_wp2_with fail
       refine(zaL _ _).mono ?_;rintro e w' ⟨rfl,rfl⟩;rw[H2.out]
       go_wp2_with fail
       refine(Tryz.strings_IndexByte _ _ _).mono ?_;rintro e w2 ⟨rfl,rfl⟩;rw[zak,zcv]
       go_wp2_with fail
       go_round
       case rel=>exact⟨k+1,by omega,by go_num,HB⟩
       case measure=>simp[intOf];omega
     ·have HB:Hid (zi0 (s.data.toList.take (k+1))=true):=za (by rw[hstep];unfold scB;rw[ha,hd];rfl);have H1:=za ha;have H2:=za hd;clear ha hd hstep hbad hk0 htk
      go_wp2_with fail
      refine(za1 _ _).mono ?_;rintro e w' ⟨rfl,rfl⟩;rw[H1.out]
      go_wp2_with fail
      refine(zaL _ _).mono ?_;rintro e w' ⟨rfl,rfl⟩;rw[H2.out]
      go_wp2_with fail
      go_round
      case rel=>exact⟨k+1,by omega,by go_num,HB⟩
      case measure=>simp[intOf];omega
   ·have HB:Hid (zi0 (s.data.toList.take (k+1))=true):=za (by rw[hstep];unfold scB;rw[ha];split<;>rfl)
    have H1:=za ha;clear ha hstep hbad
    go_wp2_with fail
    refine(za1 _ _).mono ?_;rintro e w' ⟨rfl,rfl⟩;rw[H1.out]
    go_wp2_with fail
    go_round
    case rel=>exact⟨k+1,by omega,by go_num,HB⟩
    case measure=>simp[intOf];omega
  ·have HE:=za (zcw s k hlt)
   by_cases h0:s.size=0
   ·obtain rfl:s=S []:=zdR h0;clear h0 hs hk hlt HE HT
    go_wp2_with fail
    go_ret
    exact⟨rfl,rfl⟩
   ·have hne:s.data.toList≠[]:=fun e=>by have:=zae s;rw[e] at this;simp at this;omega
    have he1:s.toList.isEmpty=false:=by rw[ByteArray.toList_eq];simpa using hne
    have HB:Hid (zcX s.data.toList=true):=za (by rw[zh0 hne,<-HE.out,HT.out]);clear hne h0
    go_wp2_with fail
    go_ret
    exact⟨zaq (by rw[HB.out]),rfl⟩
def CutPost (c:UInt8) (l:List UInt8) (g:Nat) (w:World) (e:Ending) (w':World):Prop :=
 e=.returned (.tuple #[.string (S (zaB c l).2.1),.bool (zaB c l).2.2])/\Obk w' g 9 #[.string (S (zaB c l).1)]/\w.grownBy w' (some g)
theorem ze7 (l:List UInt8) (c:UInt8) (g:Nat) (w:World) (hl:l.length<=9223372036854775806) (hk:Obk w g 9 #[.string (S l)]) :
  Calls Tryz.prog 218 #[.int .u8 c.toNat,.pointer (some ⟨g,0,none⟩)] w (CutPost c l g w):=by
 have hc0:w.cell? ⟨g,0,none⟩=some (.string (S l)):=hk.cell 0;have hf0:=hk.frozen 0;have hp:=hk.put 0;have hz:=zap l;rcases zbR c l with ⟨h1,h2,_⟩|⟨k,h1,h2,h3,_⟩
 ·have HI:=za h1;have HC:=za h2;have HK:=za hk;clear h1 h2 hk hp hz
  go_enter Tryz.func218,Tryz.ntmps218
  go_wp2_with fail
  refine(Tryz.strings_IndexByte _ _ _).mono ?_;rintro e w2 ⟨rfl,rfl⟩;rw[zak,zcv,HI.out]
  go_wp2_with fail
  go_ret2
  exact⟨by rw[HC.out];rfl,by rw[HC.out];exact HK.out,World.grownBy.refl _ _⟩
 ·have HI:=za h1;have HC:=za h3;have HP:=za hp;have i1:(k:Int)<(l.length:Int):=by omega
  clear h1 h3 hk hp hz
  go_enter Tryz.func218,Tryz.ntmps218
  go_wp2_with fail
  refine(Tryz.strings_IndexByte _ _ _).mono ?_;rintro e w2 ⟨rfl,rfl⟩;rw[zak,zcv,HI.out]
  go_wp2_with fail
  go_ret2
  have e1:(S l).extract (k+1) l.length=S (l.drop (k+1)):=by
   have:=zaZ (S l) (k+1);rw[zap,zak] at this;exact this
  have e2:(S l).extract 0 k=S (l.take k):=zd5 (S l) k;refine⟨?_,?_,?_⟩
  ·rw[HC.out];show Ending.returned (.tuple #[.string ((S l).extract (k+1) l.length),.bool true])=_;rw[e1]
  ·rw[HC.out];show Obk _ _ _ #[.string (S (l.take k))];rw[<-e2];exact HP.out _
  ·exact zoy _ _ _ _
def zfh (l set:List UInt8):Nat:=l.findIdx fun c=>zc4 c set
end Go.Proofs.YtomkbafdmbfmfaaGreatDoor
namespace Go.Proofs.YtomkbafdmbfmfaaGreatDoor
open Int renaming toNat_natCast->ql
open Lib renaming hid->za
open List renaming all_eq_true->qf, eq_nil_of_length_eq_zero->jb
open Nat renaming zero_le->zq
def dvN (c:UInt8):Nat:=if c.toNat<=57 then c.toNat - 48 else if c.toNat<=70 then c.toNat - 55 else c.toNat - 87
def zdC (base most:Nat):List UInt8->Nat->Option Nat
 | [],n=>some n
 | c::l,n=>if n*base+dvN c<=most then zdC base most l (n*base+dvN c) else none
def optE:Option Nat->Int×Nat
 | some n=>(0,n)
 | none=>(4,0)
def ziK (base most:Nat) (l:List UInt8):Int×Nat:=optE (zdC base most l 0)
def zb3 (p:UInt8->Bool) (l:List UInt8):Int:=if l=[] then 3 else if l.all p=true then 0 else 1
def zbe (p:UInt8->Bool) (base most:Nat) (l:List UInt8):Int×Nat:=if zb3 p l=0 then ziK base most l else (zb3 p l,0)
def zdg:List UInt8->Bool
 | 48::_::_=>true
 | _=>false
def zaH (most:Nat) (l:List UInt8):Int×Nat:=if zb3 zaf l=0 then (if zdg l=true then (6,0) else ziK 10 most l) else (zb3 zaf l,0)
def zib (r:Int×Nat):Value:=.tuple #[.int .u64 r.2,.int .i64 r.1]
theorem hexC {c:UInt8} (h:zau c=true):48<=c.toNat/\c.toNat<=57\/97<=c.toNat/\c.toNat<=102\/65<=c.toNat/\c.toNat<=70:=of_decide_eq_true h
theorem dvN_lt {c:UInt8} (h:zau c=true):dvN c<16:=by have:=hexC h;unfold dvN;(repeat' split)<;>omega
theorem ziw {c:UInt8} (h:zaf c=true):dvN c=c.toNat - 48/\48<=c.toNat/\c.toNat<=57:=by
 have h2:48<=c.toNat/\c.toNat<=57:=of_decide_eq_true h;exact⟨by unfold dvN;rw[if_pos h2.2],h2⟩
theorem zpa {c:UInt8} (h:zaf c=true):zau c=true:=by
 have h2:48<=c.toNat/\c.toNat<=57:=of_decide_eq_true h;exact decide_eq_true (.inl h2)
theorem zev {l:List UInt8} (h:l.all zaf=true):l.all zau=true:=by
 rw[qf] at h ⊢;exact fun c hc=>zpa (h c hc)
theorem zf1 {p:UInt8->Bool} {l:List UInt8} (h0:l≠[]) (h:l.all p=true):zb3 p l=0:=by unfold zb3;rw[if_neg h0,if_pos h]
theorem zgM {p:UInt8->Bool} {l:List UInt8} (h0:l≠[]) (h:l.all p=false):zb3 p l=1:=by unfold zb3;rw[if_neg h0,if_neg (by rw[h];exact Bool.false_ne_true)]
theorem zcf {p:UInt8->Bool} {l:List UInt8} (h:zb3 p l=0):l≠[]/\l.all p=true:=by
 unfold zb3 at h
 by_cases h0:l=[]
 ·rw[if_pos h0] at h;cases h
 ·rw[if_neg h0] at h
  by_cases h1:l.all p=true
  ·exact⟨h0,h1⟩
  ·rw[if_neg h1] at h;cases h
theorem zdw (p:UInt8->Bool) (l:List UInt8):zb3 p l=0\/zb3 p l=1\/zb3 p l=3:=by
 unfold zb3;repeat' split
 all_goals simp
theorem zmq (base most:Nat):∀(l:List UInt8) (n m:Nat),n<=most->zdC base most l n=some m->m<=most
 | [],n,m,hn,h=>by rw[zdC] at h;injection h with h;omega
 | c::l,n,m,hn,h=>by
  rw[zdC] at h
  split at h
  ·rename_i h1;exact zmq base most l _ m h1 h
  ·cases h
theorem zmr (base most:Nat) (l:List UInt8):(ziK base most l).2<=most:=by
 unfold ziK;rcases h:zdC base most l 0 with _|n
 ·exact zq _
 ·exact zmq base most l 0 n (zq _) h
theorem zff (p:UInt8->Bool) (base most:Nat) (l:List UInt8):(zbe p base most l).2<=most:=by
 unfold zbe;split
 ·exact zmr _ _ _
 ·exact zq _
theorem zfw (most:Nat) (l:List UInt8):(zaH most l).2<=most:=by
 unfold zaH;split
 ·split
  ·exact zq _
  ·exact zmr _ _ _
 ·exact zq _
theorem zfo (s:ByteArray):zdg s.data.toList=true↔∃h:1<s.size,s[0]=48:=by
 by_cases h0:0<s.size
 ·have e:=zaQ s 0 h0;rw[List.drop_zero] at e;rw[e]
  by_cases h1:1<s.size
  ·rw[zaQ s 1 h1]
   constructor
   ·intro h;refine⟨h1,?_⟩;unfold zdg at h
    split at h
    ·rename_i h2;injection h2
    ·cases h
   ·rintro⟨_,h⟩;rw[h];rfl
  ·constructor
   ·intro h;rw[List.drop_of_length_le (by rw[zae];omega)] at h;unfold zdg at h
    split at h
    ·rename_i h2;injection h2 with h2 h3;cases h3
    ·cases h
   ·rintro⟨h,_⟩;exact absurd h h1
 ·have:s.data.toList=[]:=jb (by rw[zae];omega);rw[this]
  constructor
  ·intro h;cases h
  ·rintro⟨h,_⟩;omega
open Go.RowKit
theorem nand_223:∀n:Fin 256,bits .and .u8 ((n.val:Nat):Int) 223=((n.val &&& 223:Nat):Int):=by decide +kernel
theorem nhex_223:∀n:Fin 256,(97<=n.val/\n.val<=102\/65<=n.val/\n.val<=70)->(n.val &&& 223)=(if n.val<=70 then n.val else n.val - 32):=by decide +kernel
theorem zce (c:UInt8) (h:zau c=true) (w:World) :
  Calls Tryz.prog 277 #[.int .u8 c.toNat] w fun e w'=>e=.returned (.int .u64 (dvN c:Int))/\w=w':=by
 rcases hd:zaf c with _|_
 ·have h3:=hexC h;have h2:¬(48<=c.toNat/\c.toNat<=57):=of_decide_eq_false hd;have h4:97<=c.toNat/\c.toNat<=102\/65<=c.toNat/\c.toNat<=70:=by omega
  obtain⟨x,hx,hx0,hx1,hx2⟩:∃x:Int,bits .and .u8 (c.toNat:Int) 223=x/\65<=x/\x<=70/\x - 65+10=dvN c:=by
   refine⟨_,(nand_223 ⟨c.toNat,c.toNat_lt⟩).trans (congrArg Nat.cast (nhex_223 ⟨c.toNat,c.toNat_lt⟩ h4)),?_,?_,?_⟩
   all_goals simp only[dvN]
   all_goals (repeat' split)
   all_goals omega
  have HX:=za hx2;have HD:=za hd;clear h h3 h2 h4 hd hx2
  go_enter Tryz.func277,Tryz.ntmps277
  go_wp2_with fail
  refine(zaL _ _).mono ?_;rintro e w' ⟨rfl,rfl⟩;rw[HD.out]
  go_wp2_with fail
  go_ret
  exact⟨zcm (by rw[<-HX.out]),rfl⟩
 ·have h2:=ziw hd;have HX:=za h2.1;have hx0:=h2.2.1;have hx1:=h2.2.2;have HD:=za hd;clear h hd h2
  go_enter Tryz.func277,Tryz.ntmps277
  go_wp2_with fail
  refine(zaL _ _).mono ?_;rintro e w' ⟨rfl,rfl⟩;rw[HD.out]
  go_wp2_with fail
  go_ret
  exact⟨zcm (by rw[HX.out];omega),rfl⟩
theorem zaN (s:ByteArray) (w:World) (hs:s.size<=maxLen) :
  Calls Tryz.prog 241 #[.string s,.func (.func 242) #[] #[]] w fun e w'=>e=.returned (.int .i64 (zb3 zaf s.data.toList))/\w=w':=by
 unfold maxLen at hs
 by_cases h0:s.size=0
 ·obtain rfl:s=S []:=zdR h0;clear h0 hs
  go_enter Tryz.func241,Tryz.ntmps241
  go_wp2_with fail
  go_ret
  exact⟨rfl,rfl⟩
 ·have hne:s.data.toList≠[]:=fun e=>h0 (by rw[<-zae,e];rfl);have HE:=za hne;have he1:s.toList.isEmpty=false:=by rw[ByteArray.toList_eq];simpa using hne
  have hpos:0<s.size:=by omega
  clear h0 hne
  go_enter Tryz.func241,Tryz.ntmps241
  go_wp2_with fail
  go_loop [10] (fun i=>∃k:Nat,k<=s.size/\i=.int .i64 k/\Hid ((s.data.toList.take k).all zaf=true)) (fun i=>s.size - (intOf i).toNat)
  case atStart=>exact⟨0,zq _,rfl,za rfl⟩
  case round=>
   obtain⟨k,hk,rfl,HA⟩:=hrel
   by_cases hlt:k<s.size
   ·rcases hp:zaf s[k] with _|_
    ·have HB:Hid (s.data.toList.all zaf=false):=za (zbt _ _ (k+1) (by rw[zdb _ _ _ hlt,hp,Bool.and_false]));have HP:=za hp;clear hp
     go_wp2_with fail
     refine(zaL _ _).mono ?_;rintro e w' ⟨rfl,rfl⟩;rw[HP.out]
     go_wp2_with fail
     go_ret
     exact⟨zcm (by rw[zgM HE.out HB.out]),rfl⟩
    ·have HB:Hid ((s.data.toList.take (k+1)).all zaf=true):=za (by rw[zdb _ _ _ hlt,hp,HA.out];rfl);have HP:=za hp;clear hp
     go_wp2_with fail
     refine(zaL _ _).mono ?_;rintro e w' ⟨rfl,rfl⟩;rw[HP.out]
     go_wp2_with fail
     go_round
     case rel=>exact⟨k+1,by omega,by go_num,HB⟩
     case measure=>simp[intOf];omega
   ·have HB:Hid (s.data.toList.all zaf=true):=za (by rw[<-zcw s k hlt];exact HA.out)
    go_wp2_with fail
    go_ret
    exact⟨zcm (by rw[zf1 HE.out HB.out]),rfl⟩
theorem zdv (s:ByteArray) (w:World) (hs:s.size<=maxLen) :
  Calls Tryz.prog 241 #[.string s,.func (.func 252) #[] #[]] w fun e w'=>e=.returned (.int .i64 (zb3 zau s.data.toList))/\w=w':=by
 unfold maxLen at hs
 by_cases h0:s.size=0
 ·obtain rfl:s=S []:=zdR h0;clear h0 hs
  go_enter Tryz.func241,Tryz.ntmps241
  go_wp2_with fail
  go_ret
  exact⟨rfl,rfl⟩
 ·have hne:s.data.toList≠[]:=fun e=>h0 (by rw[<-zae,e];rfl);have HE:=za hne;have he1:s.toList.isEmpty=false:=by rw[ByteArray.toList_eq];simpa using hne
  have hpos:0<s.size:=by omega
  clear h0 hne
  go_enter Tryz.func241,Tryz.ntmps241
  go_wp2_with fail
  go_loop [10] (fun i=>∃k:Nat,k<=s.size/\i=.int .i64 k/\Hid ((s.data.toList.take k).all zau=true)) (fun i=>s.size - (intOf i).toNat)
  case atStart=>exact⟨0,zq _,rfl,za rfl⟩
  case round=>
   obtain⟨k,hk,rfl,HA⟩:=hrel
   by_cases hlt:k<s.size
   ·rcases hp:zau s[k] with _|_
    ·have HB:Hid (s.data.toList.all zau=false):=za (zbt _ _ (k+1) (by rw[zdb _ _ _ hlt,hp,Bool.and_false]));have HP:=za hp;clear hp
     go_wp2_with fail
     refine(zew _ _).mono ?_;rintro e w' ⟨rfl,rfl⟩;rw[HP.out]
     go_wp2_with fail
     go_ret
     exact⟨zcm (by rw[zgM HE.out HB.out]),rfl⟩
    ·have HB:Hid ((s.data.toList.take (k+1)).all zau=true):=za (by rw[zdb _ _ _ hlt,hp,HA.out];rfl);have HP:=za hp;clear hp
     go_wp2_with fail
     refine(zew _ _).mono ?_;rintro e w' ⟨rfl,rfl⟩;rw[HP.out]
     go_wp2_with fail
     go_round
     case rel=>exact⟨k+1,by omega,by go_num,HB⟩
     case measure=>simp[intOf];omega
   ·have HB:Hid (s.data.toList.all zau=true):=za (by rw[<-zcw s k hlt];exact HA.out)
    go_wp2_with fail
    go_ret
    exact⟨zcm (by rw[zf1 HE.out HB.out]),rfl⟩
theorem all_at {p:UInt8->Bool} {s:ByteArray} (h:s.data.toList.all p=true) (k:Nat) (hk:k<s.size):p s[k]=true:=by
 rw[qf] at h;exact h _ (by rw[<-zoA s k hk,List.getD_eq_getElem?_getD,List.getElem?_eq_getElem (by rw[zae];exact hk)];exact List.getElem_mem _)
theorem zcU (s:ByteArray) (most:Int) (w:World) (hs:s.size<=maxLen) (h0:0<=most) (h1:most<=18446744073709551615) (hh:s.data.toList.all zau=true) :
  Calls Tryz.prog 243 #[.string s,.int .u64 10,.int .u64 most] w fun e w'=>e=.returned (zib (ziK 10 most.toNat s.data.toList))/\w=w':=by
 unfold maxLen at hs;obtain⟨M,rfl⟩:=Int.eq_ofNat_of_zero_le h0;rw[ql];have HH:=za hh;clear hh h0
 go_enter Tryz.func243,Tryz.ntmps243
 go_wp2_with fail
 go_loop [8,13] (fun n i=>∃k m:Nat,k<=s.size/\m<=M/\i=.int .i64 k/\n=.int .u64 m/\Hid (zdC 10 M s.data.toList 0=zdC 10 M (s.data.toList.drop k) m)) (fun _ i=>s.size - (intOf i).toNat)
 case atStart=>exact⟨0,0,zq _,zq _,rfl,rfl,za rfl⟩
 case round=>
  obtain⟨k,m,hk,hm,rfl,rfl,HV⟩:=hrel
  by_cases hlt:k<s.size
  ·have hx:=all_at HH.out k hlt;have hd16:=dvN_lt hx;have HX:=za hx;have HC:Hid (zdC 10 M (s.data.toList.drop k) m=if m*10+dvN s[k]<=M then zdC 10 M (s.data.toList.drop (k+1)) (m*10+dvN s[k]) else none):=za (by rw[zaQ s k hlt];rfl);clear hx;generalize hdv:dvN s[k]=d at *;have HD:=za hdv;clear hdv
   by_cases hdm:d<=M
   ·by_cases hok:m*10+d<=M
    ·have hq1:(m:Int)<=((M:Int) - d) / 10:=by omega
     have HN:Hid (zdC 10 M s.data.toList 0=zdC 10 M (s.data.toList.drop (k+1)) (m*10+d)):=za (by rw[HV.out,HC.out,if_pos hok])
     go_wp2_with fail
     refine(zce _ HX.out _).mono ?_;rintro e w' ⟨rfl,rfl⟩;rw[HD.out]
     go_wp2_with fail
     go_round
     case rel=>exact⟨k+1,m*10+d,by omega,hok,by go_num,by go_num,HN⟩
     case measure=>simp[intOf];omega
    ·have hq1:((M:Int) - d) / 10<m:=by omega
     have HN:Hid (zdC 10 M s.data.toList 0=none):=za (by rw[HV.out,HC.out,if_neg hok]);clear hok
     go_wp2_with fail
     refine(zce _ HX.out _).mono ?_;rintro e w' ⟨rfl,rfl⟩;rw[HD.out]
     go_wp2_with fail
     go_ret2
     exact⟨by unfold ziK;rw[HN.out];rfl,rfl⟩
   ·have hdm1:(M:Int)<d:=by omega
    have HN:Hid (zdC 10 M s.data.toList 0=none):=za (by rw[HV.out,HC.out,if_neg (by omega)]);clear hdm
    go_wp2_with fail
    refine(zce _ HX.out _).mono ?_;rintro e w' ⟨rfl,rfl⟩;rw[HD.out]
    go_wp2_with fail
    go_ret2
    exact⟨by unfold ziK;rw[HN.out];rfl,rfl⟩
  ·have HN:Hid (zdC 10 M s.data.toList 0=some m):=za (by rw[HV.out,List.drop_of_length_le (by rw[zae];omega)];rfl)
   go_wp2_with fail
   go_ret2
   exact⟨by unfold ziK;rw[HN.out];rfl,rfl⟩
theorem ziS (s:ByteArray) (most:Int) (w:World) (hs:s.size<=maxLen) (h0:0<=most) (h1:most<=18446744073709551615) (hh:s.data.toList.all zau=true) :
  Calls Tryz.prog 243 #[.string s,.int .u64 16,.int .u64 most] w fun e w'=>e=.returned (zib (ziK 16 most.toNat s.data.toList))/\w=w':=by
 unfold maxLen at hs;obtain⟨M,rfl⟩:=Int.eq_ofNat_of_zero_le h0;rw[ql];have HH:=za hh;clear hh h0
 go_enter Tryz.func243,Tryz.ntmps243
 go_wp2_with fail
 go_loop [8,13] (fun n i=>∃k m:Nat,k<=s.size/\m<=M/\i=.int .i64 k/\n=.int .u64 m/\Hid (zdC 16 M s.data.toList 0=zdC 16 M (s.data.toList.drop k) m)) (fun _ i=>s.size - (intOf i).toNat)
 case atStart=>exact⟨0,0,zq _,zq _,rfl,rfl,za rfl⟩
 case round=>
  obtain⟨k,m,hk,hm,rfl,rfl,HV⟩:=hrel
  by_cases hlt:k<s.size
  ·have hx:=all_at HH.out k hlt;have hd16:=dvN_lt hx;have HX:=za hx;have HC:Hid (zdC 16 M (s.data.toList.drop k) m=if m*16+dvN s[k]<=M then zdC 16 M (s.data.toList.drop (k+1)) (m*16+dvN s[k]) else none):=za (by rw[zaQ s k hlt];rfl);clear hx;generalize hdv:dvN s[k]=d at *;have HD:=za hdv;clear hdv
   by_cases hdm:d<=M
   ·by_cases hok:m*16+d<=M
    ·have hq1:(m:Int)<=((M:Int) - d) / 16:=by omega
     have HN:Hid (zdC 16 M s.data.toList 0=zdC 16 M (s.data.toList.drop (k+1)) (m*16+d)):=za (by rw[HV.out,HC.out,if_pos hok])
     go_wp2_with fail
     refine(zce _ HX.out _).mono ?_;rintro e w' ⟨rfl,rfl⟩;rw[HD.out]
     go_wp2_with fail
     go_round
     case rel=>exact⟨k+1,m*16+d,by omega,hok,by go_num,by go_num,HN⟩
     case measure=>simp[intOf];omega
    ·have hq1:((M:Int) - d) / 16<m:=by omega
     have HN:Hid (zdC 16 M s.data.toList 0=none):=za (by rw[HV.out,HC.out,if_neg hok]);clear hok
     go_wp2_with fail
     refine(zce _ HX.out _).mono ?_;rintro e w' ⟨rfl,rfl⟩;rw[HD.out]
     go_wp2_with fail
     go_ret2
     exact⟨by unfold ziK;rw[HN.out];rfl,rfl⟩
   ·have hdm1:(M:Int)<d:=by omega
    have HN:Hid (zdC 16 M s.data.toList 0=none):=za (by rw[HV.out,HC.out,if_neg (by omega)]);clear hdm
    go_wp2_with fail
    refine(zce _ HX.out _).mono ?_;rintro e w' ⟨rfl,rfl⟩;rw[HD.out]
    go_wp2_with fail
    go_ret2
    exact⟨by unfold ziK;rw[HN.out];rfl,rfl⟩
  ·have HN:Hid (zdC 16 M s.data.toList 0=some m):=za (by rw[HV.out,List.drop_of_length_le (by rw[zae];omega)];rfl)
   go_wp2_with fail
   go_ret2
   exact⟨by unfold ziK;rw[HN.out];rfl,rfl⟩
theorem zlN (s:ByteArray) (most:Int) (w:World) (hs:s.size<=maxLen) (h0:0<=most) (h1:most<=18446744073709551615) :
  Calls Tryz.prog 181 #[.string s,.int .u64 most] w fun e w'=>e=.returned (zib (zbe zaf 10 most.toNat s.data.toList))/\w=w':=by
 rcases zdw zaf s.data.toList with hc|hc|hc
 ·have HN:Hid (zbe zaf 10 most.toNat s.data.toList=ziK 10 most.toNat s.data.toList):=za (by unfold zbe;rw[if_pos hc]);have HA:Hid (s.data.toList.all zau=true):=za (zev (zcf hc).2);have HC:=za hc;clear hc;rw[HN.out]
  go_enter Tryz.func181,Tryz.ntmps181
  go_wp2_with fail
  refine(zaN s _ hs).mono ?_;rintro e w' ⟨rfl,rfl⟩;rw[HC.out]
  go_wp2_with fail
  refine(zcU s most _ hs h0 h1 HA.out).mono ?_;rintro e w' ⟨rfl,rfl⟩;unfold zib
  go_wp2_with fail
  go_ret2
  exact⟨rfl,rfl⟩
 ·have HN:Hid (zbe zaf 10 most.toNat s.data.toList=(1,0)):=za (by unfold zbe;rw[hc,if_neg (by decide)]);have HC:=za hc;clear hc;rw[HN.out]
  go_enter Tryz.func181,Tryz.ntmps181
  go_wp2_with fail
  refine(zaN s _ hs).mono ?_;rintro e w' ⟨rfl,rfl⟩;rw[HC.out]
  go_wp2_with fail
  go_ret2
  exact⟨rfl,rfl⟩
 ·have HN:Hid (zbe zaf 10 most.toNat s.data.toList=(3,0)):=za (by unfold zbe;rw[hc,if_neg (by decide)]);have HC:=za hc;clear hc;rw[HN.out]
  go_enter Tryz.func181,Tryz.ntmps181
  go_wp2_with fail
  refine(zaN s _ hs).mono ?_;rintro e w' ⟨rfl,rfl⟩;rw[HC.out]
  go_wp2_with fail
  go_ret2
  exact⟨rfl,rfl⟩
theorem nHex_any (s:ByteArray) (most:Int) (w:World) (hs:s.size<=maxLen) (h0:0<=most) (h1:most<=18446744073709551615) :
  Calls Tryz.prog 254 #[.string s,.int .u64 most] w fun e w'=>e=.returned (zib (zbe zau 16 most.toNat s.data.toList))/\w=w':=by
 rcases zdw zau s.data.toList with hc|hc|hc
 ·have HN:Hid (zbe zau 16 most.toNat s.data.toList=ziK 16 most.toNat s.data.toList):=za (by unfold zbe;rw[if_pos hc]);have HA:Hid (s.data.toList.all zau=true):=za ((zcf hc).2);have HC:=za hc;clear hc;rw[HN.out]
  go_enter Tryz.func254,Tryz.ntmps254
  go_wp2_with fail
  refine(zdv s _ hs).mono ?_;rintro e w' ⟨rfl,rfl⟩;rw[HC.out]
  go_wp2_with fail
  refine(ziS s most _ hs h0 h1 HA.out).mono ?_;rintro e w' ⟨rfl,rfl⟩;unfold zib
  go_wp2_with fail
  go_ret2
  exact⟨rfl,rfl⟩
 ·have HN:Hid (zbe zau 16 most.toNat s.data.toList=(1,0)):=za (by unfold zbe;rw[hc,if_neg (by decide)]);have HC:=za hc;clear hc;rw[HN.out]
  go_enter Tryz.func254,Tryz.ntmps254
  go_wp2_with fail
  refine(zdv s _ hs).mono ?_;rintro e w' ⟨rfl,rfl⟩;rw[HC.out]
  go_wp2_with fail
  go_ret2
  exact⟨rfl,rfl⟩
 ·have HN:Hid (zbe zau 16 most.toNat s.data.toList=(3,0)):=za (by unfold zbe;rw[hc,if_neg (by decide)]);have HC:=za hc;clear hc;rw[HN.out]
  go_enter Tryz.func254,Tryz.ntmps254
  go_wp2_with fail
  refine(zdv s _ hs).mono ?_;rintro e w' ⟨rfl,rfl⟩;rw[HC.out]
  go_wp2_with fail
  go_ret2
  exact⟨rfl,rfl⟩
theorem zbw (s:ByteArray) (most:Int) (w:World) (hs:s.size<=maxLen) (h0:0<=most) (h1:most<=18446744073709551615) :
  Calls Tryz.prog 198 #[.string s,.int .u64 most] w fun e w'=>e=.returned (zib (zaH most.toNat s.data.toList))/\w=w':=by
 rcases zdw zaf s.data.toList with hc|hc|hc
 ·have HA:Hid (s.data.toList.all zau=true):=za (zev (zcf hc).2);have hpos:0<s.size:=by
   have:=(zcf hc).1;have h2:s.data.toList.length≠0:=fun e=>this (jb e);rw[zae] at h2;omega
  rcases hz:zdg s.data.toList with _|_
  ·have HN:Hid (zaH most.toNat s.data.toList=ziK 10 most.toNat s.data.toList):=za (by unfold zaH;rw[if_pos hc,if_neg (by rw[hz];exact Bool.false_ne_true)]);have HC:=za hc;rw[HN.out];have hor:s.size<=1\/((s[0].toNat:Int)==48)=false:=by
    by_cases h:s.size<=1
    ·exact .inl h
    ·refine .inr (beq_eq_false_iff_ne.2 fun e=>?_);have:s[0]=48:=UInt8.toNat_inj.1 (by show s[0].toNat=48;omega);have:=(zfo s).2 ⟨by omega,this⟩;rw[hz] at this;cases this
   clear hc hz;unfold maxLen at hs;rcases hor with hor|hor
   ·go_enter Tryz.func198,Tryz.ntmps198
    go_wp2_with fail
    refine(zaN s _ hs).mono ?_;rintro e w' ⟨rfl,rfl⟩;rw[HC.out]
    go_wp2_with fail
    refine(zcU s most _ hs h0 h1 HA.out).mono ?_;rintro e w' ⟨rfl,rfl⟩;unfold zib
    go_wp2_with fail
    go_ret2
    exact⟨rfl,rfl⟩
   ·by_cases h1s:s.size<=1
    ·clear hor
     go_enter Tryz.func198,Tryz.ntmps198
     go_wp2_with fail
     refine(zaN s _ hs).mono ?_;rintro e w' ⟨rfl,rfl⟩;rw[HC.out]
     go_wp2_with fail
     refine(zcU s most _ hs h0 h1 HA.out).mono ?_;rintro e w' ⟨rfl,rfl⟩;unfold zib
     go_wp2_with fail
     go_ret2
     exact⟨rfl,rfl⟩
    ·have h2s:1<s.size:=by omega
     clear h1s
     go_enter Tryz.func198,Tryz.ntmps198
     go_wp2_with fail
     refine(zaN s _ hs).mono ?_;rintro e w' ⟨rfl,rfl⟩;rw[HC.out]
     go_wp2_with fail
     refine(zcU s most _ hs h0 h1 HA.out).mono ?_;rintro e w' ⟨rfl,rfl⟩;unfold zib
     go_wp2_with fail
     go_ret2
     exact⟨rfl,rfl⟩
  ·obtain⟨h2s,h48⟩:=(zfo s).1 hz;have HN:Hid (zaH most.toNat s.data.toList=(6,0)):=za (by unfold zaH;rw[if_pos hc,if_pos hz]);have hb:((s[0].toNat:Int)==48)=true:=by rw[h48];rfl
   have HC:=za hc;rw[HN.out];clear hc hz h48
   go_enter Tryz.func198,Tryz.ntmps198
   go_wp2_with fail
   refine(zaN s _ hs).mono ?_;rintro e w' ⟨rfl,rfl⟩;rw[HC.out]
   go_wp2_with fail
   go_ret2
   exact⟨rfl,rfl⟩
 ·have HN:Hid (zaH most.toNat s.data.toList=(1,0)):=za (by unfold zaH;rw[hc,if_neg (by decide)]);have HC:=za hc;clear hc;rw[HN.out]
  go_enter Tryz.func198,Tryz.ntmps198
  go_wp2_with fail
  refine(zaN s _ hs).mono ?_;rintro e w' ⟨rfl,rfl⟩;rw[HC.out]
  go_wp2_with fail
  go_ret2
  exact⟨rfl,rfl⟩
 ·have HN:Hid (zaH most.toNat s.data.toList=(3,0)):=za (by unfold zaH;rw[hc,if_neg (by decide)]);have HC:=za hc;clear hc;rw[HN.out]
  go_enter Tryz.func198,Tryz.ntmps198
  go_wp2_with fail
  refine(zaN s _ hs).mono ?_;rintro e w' ⟨rfl,rfl⟩;rw[HC.out]
  go_wp2_with fail
  go_ret2
  exact⟨rfl,rfl⟩
end Go.Proofs.YtomkbafdmbfmfaaGreatDoor
namespace Go.Proofs.YtomkbafdmbfmfaaGreatDoor
open Lib renaming decDigits->qq
open Nat renaming le_refl->zd
theorem zdu {m:Nat} (h:m<10):qq m=[UInt8.ofNat (48+m)]:=Lib.decDigits_one h
theorem zet {m:Nat} (h:¬m<10):qq m=qq (m / 10)++[UInt8.ofNat (48+m % 10)]:=by
 rw[qq,dif_neg h]
theorem zfr (b M:Nat):∀(l1 l2:List UInt8) (a:Nat),zdC b M (l1++l2) a=match zdC b M l1 a with|some m=>zdC b M l2 m|none=>none
 | [],l2,a=>rfl
 | c::l,l2,a=>by
  rw[List.cons_append,zdC,zdC]
  split
  ·exact zfr b M l l2 _
  ·rfl
theorem zpb {d:Nat} (h:d<10):(UInt8.ofNat (48+d)).toNat=48+d:=by rw[UInt8.toNat_ofNat'];omega
theorem zk9 {d:Nat} (h:d<10):dvN (UInt8.ofNat (48+d))=d/\zaf (UInt8.ofNat (48+d))=true:=by
 have e:=zpb h;have h2:zaf (UInt8.ofNat (48+d))=true:=decide_eq_true (by rw[e];omega);exact⟨by rw[(ziw h2).1,e];omega,h2⟩
theorem valU_dec (M:Nat):∀(k n:Nat),n<=k->n<=M->zdC 10 M (qq n) 0=some n:=by
 intro k
 induction k with
 | zero=>
  intro n hn hM;obtain rfl:n=0:=by omega
  rw[zdu (by decide)]
  rfl
 | succ k ih=>
  intro n hn hM
  by_cases h10:n<10
  ·rw[zdu h10,zdC,(zk9 h10).1,if_pos (by omega),zdC]
   congr 1;omega
  ·rw[zet h10,zfr,ih (n / 10) (by omega) (by omega)];simp only;rw[zdC,(zk9 (show n % 10<10 by omega)).1,if_pos (by omega),zdC]
   congr 1;omega
theorem zpf:∀(k n:Nat),n<=k->(qq n).all zaf=true/\qq n≠[]:=by
 intro k
 induction k with
 | zero=>
  intro n hn;obtain rfl:n=0:=by omega
  rw[zdu (by decide)];exact⟨by decide,by simp⟩
 | succ k ih=>
  intro n hn
  by_cases h10:n<10
  ·rw[zdu h10];exact⟨by rw[List.all_cons,(zk9 h10).2];rfl,by simp⟩
  ·rw[zet h10];exact⟨by rw[List.all_append,(ih (n / 10) (by omega)).1,List.all_cons,(zk9 (show n % 10<10 by omega)).2];rfl,by simp⟩
theorem dec_head:∀(k n:Nat),n<=k->1<=n->∃c t,qq n=c::t/\c≠48:=by
 intro k
 induction k with
 | zero=>intro n hn h;omega
 | succ k ih=>
  intro n hn h
  by_cases h10:n<10
  ·refine⟨_,_,zdu h10,fun e=>?_⟩;have:=congrArg UInt8.toNat e;rw[zpb h10] at this;have h48:(48:UInt8).toNat=48:=rfl;omega
  ·obtain⟨c,t,h1,h2⟩:=ih (n / 10) (by omega) (by omega);exact⟨c,t++[UInt8.ofNat (48+n % 10)],by rw[zet h10,h1];rfl,h2⟩
theorem zlo {c:UInt8} {t:List UInt8} (h:c≠48):zdg (c::t)=false:=by
 unfold zdg
 split
 ·rename_i h2;injection h2 with h2;exact absurd h2 h
 ·rfl
theorem zjw (n:Nat):zdg (qq n)=false:=by
 by_cases h:n=0
 ·subst h;rw[zdu (by decide)];rfl
 ·obtain⟨c,t,h1,h2⟩:=dec_head n n (zd _) (by omega);rw[h1];exact zlo h2
theorem zlv (n M:Nat) (h:n<=M):zaH M (qq n)=(0,n):=by
 have ha:=zpf n n (zd _);unfold zaH;rw[zf1 ha.2 ha.1,if_pos rfl,if_neg (by rw[zjw];exact Bool.false_ne_true)];unfold ziK;rw[valU_dec M n n (zd _) h]
 rfl
open Go.RowKit Go.Sort
def Pw (w : World) : Prop := Lib.TabIs Tryz.prog w "internal/strconv.uint64pow10" .u64 Lib.pow10Tab
theorem Pw.keep {w w':World} (h:Pw w) (hq:Qb w w'):Pw w':=Lib.tabBelow_of_tabIs h w' hq
theorem Pw.drew {w:World} (h:Pw w):Pw w.drew:=h
theorem Pw.alloc {w:World} (h:Pw w) (o:Obj):Pw (w.alloc o):=Lib.tabIs_alloc h o
theorem qb_grow (w:World) (k:Nat) (os:Array Obj):Qb w (grow (w.drewN k) os):=Lib.below_grow w.heap.size w (zd _) k os
end Go.Proofs.YtomkbafdmbfmfaaGreatDoor
namespace Go.Proofs.YtomkbafdmbfmfaaGreatDoor
open Go.RowKit
open Lib renaming decDigits->qq, hid->za
theorem str_cons (x:Nat) (t:List UInt8):(strOfNums [48+(x:Int)]++S t:ByteArray)=S (UInt8.ofNat (48+x)::t):=by
 rw[<-S_of (strOfNums [48+(x:Int)]++S t),ByteArray.data_append,Array.toList_append,strOfNums_data];have:(48+(x:Int)).toNat=48+x:=by omega
 simp[this]
set_option maxHeartbeats 1000000 in
theorem zh5 (u:Nat) (hu64:u<18446744073709551616) (w:World) :
  Calls Tryz.prog 194 #[.int .u64 u] w fun e w'=>e=.returned (.string (S (qq u)))/\Qb w w':=by
 go_enter Tryz.func194,Tryz.ntmps194
 go_wp2_with fail
 go_loopw [0,3] (fun n s wr=>∃(m:Nat) (t:List UInt8),m<=u/\n=.int .u64 m/\s=.string (S t)/\Hid (qq u=qq m++t)/\Qb w wr) (fun n _ _=>(intOf n).toNat)
 case atStart=>exact⟨u,[],Nat.le_refl _,rfl,rfl,za (by simp),Qb.refl w⟩
 case round=>
  obtain⟨m,t,hm,rfl,rfl,HD,hq⟩:=hrel;have hst:=conv_new wr [48+(m:Int) % 10] 1 rfl;simp only[List.map_cons,List.map_nil] at hst;have HC:Hid ((strOfNums [48+(m:Int) % 10]++S t:ByteArray)=S (UInt8.ofNat (48+m % 10)::t)):=za (str_cons (m % 10) t);have hsz:(S t).size<=30:=by
   have h1:=congrArg List.length HD.out;rw[List.length_append,Lib.decDigits_length] at h1;have h2:=Lib.nDigits_le20 u hu64;rw[zap];omega
  have hsx:(strOfNums [48+(m:Int) % 10]).size<=1:=by rw[<-zae,strOfNums_data];simp
  by_cases h10:m<10
  ·have HN:Hid (qq u=UInt8.ofNat (48+m % 10)::t):=za (by rw[HD.out,zdu h10,Nat.mod_eq_of_lt h10];rfl);have hz:((m:Int) / 10==0)=true:=by rw[beq_iff_eq];omega
   clear HD
   go_wp2_with fail
   go_ret
   exact⟨zi6 (by rw[HN.out,HC.out]),hq.alloc _⟩
  ·have HN:Hid (qq u=qq (m / 10)++(UInt8.ofNat (48+m % 10)::t)):=za (by rw[HD.out,zet h10,List.append_assoc];rfl);have hz:((m:Int) / 10==0)=false:=by rw[beq_eq_false_iff_ne];omega
   clear HD
   go_wp2_with fail
   go_roundw
   case rel=>exact⟨m / 10,_,by omega,by go_num,congrArg Value.string HC.out,HN,hq.alloc _⟩
   case measure=>simp[intOf];omega
end Go.Proofs.YtomkbafdmbfmfaaGreatDoor
namespace Go.Proofs.YtomkbafdmbfmfaaGreatDoor.Sx
open Go.RowKit
open Option renaming some -> Sa, none -> Sb
def c_law26_FetchHops:SCode :=.seq (.reg [⟨Sa 6,.mv (.c (.b false)),Sb⟩]) (.seq (.seq (.reg [⟨Sa 14,.call 15 [],Sb⟩,⟨Sa 15,.not (.t 14),Sb⟩]) (.cond (.t 15) (.seq (.reg [⟨Sa 6,.mv (.c (.b false)),Sb⟩]) (.ret)) (.skip))) (.seq (.reg [⟨Sa 16,.mv (.t 0),Sb⟩,⟨Sa 17,.bin .rem (.t 16) (.c (.i .u8 9)),Sb⟩,⟨Sa 18,.cvi .i64 (.t 17),Sb⟩,⟨Sa 7,.mv (.t 18),Sb⟩]) (.seq (.reg [⟨Sa 8,.mv (.c .nil),Sb⟩]) (.seq (.reg [⟨Sa 9,.alloc 35 [.s [],.i .i64 0,.s [],.s [],.s [],.b false,.b false],Sb⟩]) (.seq (.seq (.reg [⟨Sa 10,.mv (.c (.i .i64 0)),Sb⟩]) (.blk 0 (.loop (.seq (.seq (.reg [⟨Sa 19,.mv (.t 10),Sb⟩,⟨Sa 20,.mv (.t 7),Sb⟩,⟨Sa 21,.bin .leq (.t 19) (.t 20),Sb⟩]) (.cond (.t 21) (.skip) (.exit 0))) (.seq (.blk 1 (.seq (.reg [⟨Sa 24,.mv (.t 10),Sb⟩,⟨Sa 25,.bin .add (.c (.i .i64 97)) (.t 24),Sb⟩,⟨Sa 26,.cvi .u8 (.t 25),Sb⟩,⟨Sa 27,.bslice 1 [.i .u8 0] [(0,(1,.t 26))],Sb⟩,⟨Sa 28,.cvbs (.t 27),Sb⟩,⟨Sa 29,.bin .add (.c (.s [47])) (.t 28),Sb⟩,⟨Sa 30,.build [.s [],.i .i64 0,.s [],.s [],.s [],.b false,.b false] [(0,(1,.c (.s [104,46,101,120,97,109,112,108,101]))),(2,(1,.t 29))],Sb⟩,⟨Sa 11,.alloc 35 [.s [],.i .i64 0,.s [],.s [],.s [],.b false,.b false],Sb⟩,⟨Sb,.store 7 (.t 11) (.t 30),Sb⟩]) (.seq (.seq (.reg [⟨Sa 31,.mv (.t 10),Sb⟩,⟨Sa 32,.mv (.t 1),Sb⟩,⟨Sa 33,.lenr (.t 32),Sb⟩,⟨Sa 34,.bin .lss (.t 31) (.t 33),Sb⟩]) (.cond (.t 34) (.reg [⟨Sa 35,.mv (.t 1),Sb⟩,⟨Sa 36,.mv (.t 10),Sb⟩,⟨Sa 37,.iad 1 (.t 35) (.t 36),Sb⟩,⟨Sa 38,.load1 (.t 37),Sb⟩,⟨Sa 39,.bin .rem (.t 38) (.c (.i .u8 3)),Sb⟩,⟨Sa 40,.bin .add (.c (.i .u8 97)) (.t 39),Sb⟩,⟨Sa 41,.bslice 2 [.i .u8 0,.i .u8 0] [(0,(1,.c (.i .u8 104))),(1,(1,.t 40))],Sb⟩,⟨Sa 42,.cvbs (.t 41),Sb⟩,⟨Sa 43,.bin .add (.t 42) (.c (.s [46,101,120,97,109,112,108,101])),Sb⟩,⟨Sa 44,.fad 0 (.t 11),Sb⟩,⟨Sb,.store 1 (.t 44) (.t 43),Sb⟩]) (.skip))) (.seq (.seq (.reg [⟨Sa 45,.mv (.t 10),Sb⟩,⟨Sa 46,.bin .eql (.t 45) (.c (.i .i64 0)),Sb⟩]) (.cond (.t 46) (.reg [⟨Sa 47,.loadn 7 (.t 11),Sb⟩,⟨Sb,.store 7 (.t 9) (.t 47),Sb⟩]) (.drw [⟨Sa 48,.mv (.t 8),Sb⟩,⟨Sa 49,.mv (.t 10),Sb⟩,⟨Sa 50,.bin .sub (.t 49) (.c (.i .i64 1)),Sb⟩,⟨Sa 51,.bslice 5 [.i .i64 0,.i .i64 0,.i .i64 0,.i .i64 0,.i .i64 0] [(0,(1,.c (.i .i64 301))),(1,(1,.c (.i .i64 302))),(2,(1,.c (.i .i64 303))),(3,(1,.c (.i .i64 307))),(4,(1,.c (.i .i64 308)))],Sb⟩,⟨Sa 52,.mv (.t 2),Sb⟩,⟨Sa 53,.bin .rem (.t 52) (.c (.i .u8 5)),Sb⟩,⟨Sa 54,.iad 1 (.t 51) (.t 53),Sb⟩,⟨Sa 55,.load1 (.t 54),Sb⟩,⟨Sa 56,.loadn 7 (.t 11),Sb⟩,⟨Sa 57,.call 29 [.t 56],Sb⟩,⟨Sa 58,.build [.s [],.s []] [(0,(1,.c (.s [108,111,99,97,116,105,111,110]))),(1,(1,.t 57))],Sb⟩,⟨Sa 59,.bslice 1 [.s [],.s []] [(0,(2,.t 58))],Sb⟩,⟨Sa 60,.call 28 [.t 55,.c (.s []),.c (.s []),.t 59,.c (.b false)],Sb⟩,⟨Sa 61,.iad 7 (.t 48) (.t 50),Sb⟩,⟨Sa 62,.fad 3 (.t 61),Sb⟩,⟨Sb,.store 1 (.t 62) (.t 60),Sb⟩] 15 []))) (.drw [⟨Sa 63,.mv (.t 8),Sb⟩,⟨Sa 64,.fad 0 (.t 11),Sb⟩,⟨Sa 65,.load1 (.t 64),Sb⟩,⟨Sa 66,.fad 2 (.t 11),Sb⟩,⟨Sa 67,.load1 (.t 66),Sb⟩,⟨Sa 68,.call 28 [.c (.i .i64 200),.c (.s []),.c (.s [101,110,100]),.c .nil,.c (.b false)],Sb⟩,⟨Sa 69,.build [.s [],.i .i64 0,.s [],.s [],.i .i64 0,.i .u64 0,.i .u64 0] [(0,(1,.t 65)),(2,(1,.t 67)),(3,(1,.t 68))],Sb⟩,⟨Sa 70,.bslice 1 [.s [],.i .i64 0,.s [],.s [],.i .i64 0,.i .u64 0,.i .u64 0] [(0,(7,.t 69))],Sb⟩,⟨Sa 71,.app 33 7 80 (.t 63) (.t 70),Sb⟩,⟨Sa 8,.mv (.t 71),Sb⟩] 8 []))))) (.reg [⟨Sa 22,.mv (.t 10),Sb⟩,⟨Sa 23,.bin .add (.t 22) (.c (.i .i64 1)),Sb⟩,⟨Sa 10,.mv (.t 23),Sb⟩])))))) (.seq (.reg [⟨Sa 73,.mv (.t 8),Sb⟩,⟨Sa 74,.loadn 7 (.t 9),Sb⟩,⟨Sa 75,.call 17 [.t 73,.c (.i .u64 0),.t 74],Sb⟩,⟨Sa 72,.mv (.t 75),Sb⟩,⟨Sa 76,.ext (.t 72) 0,Sb⟩,⟨Sa 77,.ext (.t 72) 1,Sb⟩,⟨Sa 12,.alloc 51 [.s [],.i .i64 0,.s [],.s [],.s [],.b false,.b false,.i .i64 0,.i .i64 0,.nil,.s [],.nil],Sb⟩,⟨Sb,.store 12 (.t 12) (.t 76),Sb⟩,⟨Sa 13,.mv (.t 77),Sb⟩]) (.seq (.seq (.reg [⟨Sa 78,.mv (.t 7),Sb⟩,⟨Sa 79,.bin .gtr (.t 78) (.c (.i .i64 5)),Sb⟩]) (.cond (.t 79) (.seq (.reg [⟨Sa 80,.mv (.t 13),Sb⟩,⟨Sa 81,.bin .eql (.t 80) (.c (.i .i64 250)),Sb⟩,⟨Sa 82,.mv (.t 81),Sb⟩,⟨Sa 83,.fad 11 (.t 12),some (82,true)⟩,⟨Sa 84,.load1 (.t 83),some (82,true)⟩,⟨Sa 85,.lenr (.t 84),some (82,true)⟩,⟨Sa 86,.bin .eql (.t 85) (.c (.i .i64 6)),some (82,true)⟩,⟨Sa 87,.pick (.t 82) (.t 86) (.c (.b false)),Sb⟩,⟨Sa 88,.mv (.t 87),Sb⟩,⟨Sa 89,.fad 10 (.t 12),some (88,true)⟩,⟨Sa 90,.load1 (.t 89),some (88,true)⟩,⟨Sa 91,.bin .eql (.t 90) (.c (.s [])),some (88,true)⟩,⟨Sa 92,.pick (.t 88) (.t 91) (.c (.b false)),Sb⟩,⟨Sa 6,.mv (.t 92),Sb⟩]) (.ret)) (.skip))) (.seq (.reg [⟨Sa 93,.mv (.t 13),Sb⟩,⟨Sa 94,.bin .eql (.t 93) (.c (.i .i64 0)),Sb⟩,⟨Sa 95,.mv (.t 94),Sb⟩,⟨Sa 96,.fad 11 (.t 12),some (95,true)⟩,⟨Sa 97,.load1 (.t 96),some (95,true)⟩,⟨Sa 98,.lenr (.t 97),some (95,true)⟩,⟨Sa 99,.mv (.t 7),some (95,true)⟩,⟨Sa 100,.bin .add (.t 99) (.c (.i .i64 1)),some (95,true)⟩,⟨Sa 101,.bin .eql (.t 98) (.t 100),some (95,true)⟩,⟨Sa 102,.pick (.t 95) (.t 101) (.c (.b false)),Sb⟩,⟨Sa 103,.mv (.t 102),Sb⟩,⟨Sa 104,.fad 10 (.t 12),some (103,true)⟩,⟨Sa 105,.load1 (.t 104),some (103,true)⟩,⟨Sa 106,.bin .eql (.t 105) (.c (.s [101,110,100])),some (103,true)⟩,⟨Sa 107,.pick (.t 103) (.t 106) (.c (.b false)),Sb⟩,⟨Sa 6,.mv (.t 107),Sb⟩]) (.ret)))))))))
theorem is_law26_FetchHops:FnIs Tryz.prog 8 108 [.tmp 6] c_law26_FetchHops:=⟨⟨_,_,Tryz.func8,rfl,rfl,by kernel_rfl,by kernel_rfl⟩⟩
def c_world_Ask:SCode :=.seq (.reg [⟨Sa 3,.box 27 (.t 0),Sb⟩,⟨Sa 4,.box 35 (.t 1),Sb⟩,⟨Sa 6,.mv (.c (.s [])),Sb⟩,⟨Sa 7,.mv (.c (.i .i64 0)),Sb⟩]) (.seq (.seq (.reg [⟨Sa 13,.loadn 7 (.t 4),Sb⟩,⟨Sa 14,.call 41 [.t 13],Sb⟩,⟨Sa 15,.not (.t 14),Sb⟩]) (.cond (.t 15) (.seq (.reg [⟨Sa 6,.mv (.c (.s [])),Sb⟩,⟨Sa 7,.mv (.c (.i .i64 8)),Sb⟩]) (.ret)) (.skip))) (.seq (.reg [⟨Sa 16,.mkf 42 [] [.t 3],Sb⟩,⟨Sa 8,.mv (.t 16),Sb⟩]) (.seq (.drw [⟨Sa 17,.loadn 7 (.t 4),Sb⟩,⟨Sa 18,.pcall 43 [.t 17],Sb⟩,⟨Sa 19,.loadn 7 (.t 4),Sb⟩,⟨Sa 20,.pcall 44 [.t 19],Sb⟩,⟨Sa 21,.mv (.t 2),Sb⟩,⟨Sa 22,.build [.s [],.i .i64 0,.s [],.i .u64 0] [(0,(2,.t 18)),(2,(1,.t 20)),(3,(1,.t 21))],Sb⟩,⟨Sa 9,.alloc 101 [.s [],.i .i64 0,.s [],.i .u64 0],Sb⟩,⟨Sb,.store 4 (.t 9) (.t 22),Sb⟩] 8 [(4,(9,none)),(4,(9,none))]) (.seq (.reg [⟨Sa 24,.mv (.t 8),Sb⟩,⟨Sa 25,.loadn 4 (.t 9),Sb⟩,⟨Sa 26,.mkf 45 [.t 25] [],Sb⟩,⟨Sa 27,.callv (.t 24) [.t 26],Sb⟩,⟨Sa 23,.mv (.t 27),Sb⟩,⟨Sa 28,.ext (.t 23) 0,Sb⟩,⟨Sa 29,.ext (.t 23) 1,Sb⟩,⟨Sa 10,.alloc 33 [.s [],.i .i64 0,.s [],.s [],.i .i64 0,.i .u64 0,.i .u64 0],Sb⟩,⟨Sb,.store 7 (.t 10) (.t 28),Sb⟩,⟨Sa 11,.mv (.t 29),Sb⟩]) (.seq (.seq (.reg [⟨Sa 30,.mv (.t 11),Sb⟩,⟨Sa 31,.not (.t 30),Sb⟩]) (.cond (.t 31) (.seq (.reg [⟨Sa 6,.mv (.c (.s [])),Sb⟩,⟨Sa 7,.mv (.c (.i .i64 241)),Sb⟩]) (.ret)) (.skip))) (.seq (.seq (.reg [⟨Sa 32,.fad 4 (.t 10),Sb⟩,⟨Sa 33,.load1 (.t 32),Sb⟩,⟨Sa 34,.call 46 [.t 33],Sb⟩,⟨Sa 12,.mv (.t 34),Sb⟩]) (.seq (.reg [⟨Sa 35,.mv (.t 12),Sb⟩,⟨Sa 36,.bin .neq (.t 35) (.c (.i .i64 0)),Sb⟩]) (.cond (.t 36) (.seq (.reg [⟨Sa 37,.mv (.t 12),Sb⟩,⟨Sa 6,.mv (.c (.s [])),Sb⟩,⟨Sa 7,.mv (.t 37),Sb⟩]) (.ret)) (.skip)))) (.seq (.reg [⟨Sa 38,.fad 3 (.t 10),Sb⟩,⟨Sa 39,.load1 (.t 38),Sb⟩,⟨Sa 6,.mv (.t 39),Sb⟩,⟨Sa 7,.mv (.c (.i .i64 0)),Sb⟩]) (.ret))))))))
theorem is_world_Ask:FnIs Tryz.prog 13 40 [.tmp 6,.tmp 7] c_world_Ask:=⟨⟨_,_,Tryz.func13,rfl,rfl,by kernel_rfl,by kernel_rfl⟩⟩
def c_law26_sane:SCode :=.seq (.reg [⟨Sa 0,.mv (.c (.b false)),Sb⟩]) (.seq (.reg [⟨Sa 7,.build [.s [],.i .i64 0,.s [],.s [],.s [],.b false,.b false] [(0,(1,.c (.s [97,46,101,120,97,109,112,108,101]))),(2,(1,.c (.s [47])))],Sb⟩,⟨Sa 1,.alloc 35 [.s [],.i .i64 0,.s [],.s [],.s [],.b false,.b false],Sb⟩,⟨Sb,.store 7 (.t 1) (.t 7),Sb⟩]) (.seq (.reg [⟨Sa 8,.build [.s [],.s []] [(0,(1,.c (.s [108,111,99,97,116,105,111,110]))),(1,(1,.c (.s [47])))],Sb⟩,⟨Sa 9,.bslice 1 [.s [],.s []] [(0,(2,.t 8))],Sb⟩,⟨Sa 10,.call 28 [.c (.i .i64 302),.c (.s []),.c (.s []),.t 9,.c (.b false)],Sb⟩,⟨Sa 11,.build [.s [],.i .i64 0,.s [],.s [],.i .i64 0,.i .u64 0,.i .u64 0] [(0,(1,.c (.s [97,46,101,120,97,109,112,108,101]))),(2,(1,.c (.s [47]))),(3,(1,.t 10))],Sb⟩,⟨Sa 12,.call 28 [.c (.i .i64 200),.c (.s []),.c (.s [97,98,99]),.c .nil,.c (.b true)],Sb⟩,⟨Sa 13,.build [.s [],.i .i64 0,.s [],.s [],.i .i64 0,.i .u64 0,.i .u64 0] [(0,(1,.c (.s [97,46,101,120,97,109,112,108,101]))),(2,(1,.c (.s [47,120]))),(3,(1,.t 12))],Sb⟩,⟨Sa 14,.bslo 33 7 2 [.s [],.i .i64 0,.s [],.s [],.i .i64 0,.i .u64 0,.i .u64 0,.s [],.i .i64 0,.s [],.s [],.i .i64 0,.i .u64 0,.i .u64 0] [(0,(7,.t 11)),(7,(7,.t 13))],Sb⟩,⟨Sa 2,.mv (.t 14),Sb⟩]) (.seq (.reg [⟨Sa 16,.mv (.t 2),Sb⟩,⟨Sa 17,.loadn 7 (.t 1),Sb⟩,⟨Sa 18,.call 17 [.t 16,.c (.i .u64 0),.t 17],Sb⟩,⟨Sa 15,.mv (.t 18),Sb⟩,⟨Sa 19,.ext (.t 15) 0,Sb⟩,⟨Sa 20,.ext (.t 15) 1,Sb⟩,⟨Sa 3,.alloc 51 [.s [],.i .i64 0,.s [],.s [],.s [],.b false,.b false,.i .i64 0,.i .i64 0,.nil,.s [],.nil],Sb⟩,⟨Sb,.store 12 (.t 3) (.t 19),Sb⟩,⟨Sa 4,.mv (.t 20),Sb⟩]) (.seq (.reg [⟨Sa 21,.fad 2 (.t 1),Sb⟩,⟨Sb,.store 1 (.t 21) (.c (.s [47,120])),Sb⟩]) (.seq (.reg [⟨Sa 23,.mv (.t 2),Sb⟩,⟨Sa 24,.loadn 7 (.t 1),Sb⟩,⟨Sa 25,.call 17 [.t 23,.c (.i .u64 0),.t 24],Sb⟩,⟨Sa 22,.mv (.t 25),Sb⟩,⟨Sa 26,.ext (.t 22) 0,Sb⟩,⟨Sa 27,.ext (.t 22) 1,Sb⟩,⟨Sa 5,.alloc 51 [.s [],.i .i64 0,.s [],.s [],.s [],.b false,.b false,.i .i64 0,.i .i64 0,.nil,.s [],.nil],Sb⟩,⟨Sb,.store 12 (.t 5) (.t 26),Sb⟩,⟨Sa 6,.mv (.t 27),Sb⟩]) (.seq (.reg [⟨Sa 28,.mv (.t 4),Sb⟩,⟨Sa 29,.bin .eql (.t 28) (.c (.i .i64 251)),Sb⟩,⟨Sa 30,.mv (.t 29),Sb⟩,⟨Sa 31,.fad 11 (.t 3),some (30,true)⟩,⟨Sa 32,.load1 (.t 31),some (30,true)⟩,⟨Sa 33,.lenr (.t 32),some (30,true)⟩,⟨Sa 34,.bin .eql (.t 33) (.c (.i .i64 1)),some (30,true)⟩,⟨Sa 35,.pick (.t 30) (.t 34) (.c (.b false)),Sb⟩,⟨Sa 36,.mv (.t 35),Sb⟩,⟨Sa 37,.mv (.t 6),some (36,true)⟩,⟨Sa 38,.bin .eql (.t 37) (.c (.i .i64 0)),some (36,true)⟩,⟨Sa 39,.pick (.t 36) (.t 38) (.c (.b false)),Sb⟩,⟨Sa 40,.mv (.t 39),Sb⟩,⟨Sa 41,.fad 10 (.t 5),some (40,true)⟩,⟨Sa 42,.load1 (.t 41),some (40,true)⟩,⟨Sa 43,.bin .eql (.t 42) (.c (.s [97,98,99])),some (40,true)⟩,⟨Sa 44,.pick (.t 40) (.t 43) (.c (.b false)),Sb⟩,⟨Sa 45,.mv (.t 44),Sb⟩,⟨Sa 46,.fad 11 (.t 5),some (45,true)⟩,⟨Sa 47,.load1 (.t 46),some (45,true)⟩,⟨Sa 48,.lenr (.t 47),some (45,true)⟩,⟨Sa 49,.bin .eql (.t 48) (.c (.i .i64 1)),some (45,true)⟩,⟨Sa 50,.pick (.t 45) (.t 49) (.c (.b false)),Sb⟩,⟨Sa 0,.mv (.t 50),Sb⟩]) (.ret)))))))
theorem is_law26_sane:FnIs Tryz.prog 15 51 [.tmp 0] c_law26_sane:=⟨⟨_,_,Tryz.func15,rfl,rfl,by kernel_rfl,by kernel_rfl⟩⟩
def c_fetch_Run:SCode :=.seq (.reg [⟨Sa 5,.box 35 (.t 2),Sb⟩,⟨Sa 6,.alloc 51 [.s [],.i .i64 0,.s [],.s [],.s [],.b false,.b false,.i .i64 0,.i .i64 0,.nil,.s [],.nil],Sb⟩,⟨Sa 7,.mv (.c (.i .i64 0)),Sb⟩]) (.seq (.reg [⟨Sa 9,.loadn 7 (.t 5),Sb⟩,⟨Sa 10,.call 20 [.t 9],Sb⟩,⟨Sa 8,.alloc 58 [.s [],.i .i64 0,.s [],.s [],.s [],.b false,.b false,.i .i64 0,.b false,.i .i64 0,.s [],.i .i64 0,.s [],.s [],.s [],.b false,.b false,.i .i64 0,.i .i64 0,.nil,.s [],.nil,.nil],Sb⟩,⟨Sb,.store 23 (.t 8) (.t 10),Sb⟩]) (.seq (.blk 0 (.loop (.seq (.seq (.reg [⟨Sa 11,.fad 8 (.t 8),Sb⟩,⟨Sa 12,.load1 (.t 11),Sb⟩,⟨Sa 13,.not (.t 12),Sb⟩]) (.cond (.t 13) (.skip) (.exit 0))) (.blk 1 (.reg [⟨Sa 14,.mv (.t 0),Sb⟩,⟨Sa 15,.mv (.t 1),Sb⟩,⟨Sa 16,.loadn 23 (.t 8),Sb⟩,⟨Sa 17,.call 21 [.t 14,.t 15,.t 16],Sb⟩,⟨Sb,.store 23 (.t 8) (.t 17),Sb⟩]))))) (.seq (.drw [⟨Sa 18,.fad 10 (.t 8),Sb⟩,⟨Sa 19,.loadn 12 (.t 18),Sb⟩,⟨Sa 20,.fad 9 (.t 8),Sb⟩,⟨Sa 21,.load1 (.t 20),Sb⟩,⟨Sb,.store 12 (.t 6) (.t 19),Sb⟩,⟨Sa 7,.mv (.t 21),Sb⟩] 6 [(20,(6,none))]) (.ret))))
theorem is_fetch_Run:FnIs Tryz.prog 17 22 [.celln 6 12,.tmp 7] c_fetch_Run:=⟨⟨_,_,Tryz.func17,rfl,rfl,by kernel_rfl,by kernel_rfl⟩⟩
def c_fetch_Start:SCode :=.seq (.reg [⟨Sa 1,.box 35 (.t 0),Sb⟩,⟨Sa 2,.alloc 58 [.s [],.i .i64 0,.s [],.s [],.s [],.b false,.b false,.i .i64 0,.b false,.i .i64 0,.s [],.i .i64 0,.s [],.s [],.s [],.b false,.b false,.i .i64 0,.i .i64 0,.nil,.s [],.nil,.nil],Sb⟩]) (.seq (.seq (.reg [⟨Sa 3,.loadn 7 (.t 1),Sb⟩,⟨Sa 4,.call 41 [.t 3],Sb⟩,⟨Sa 5,.not (.t 4),Sb⟩]) (.cond (.t 5) (.seq (.reg [⟨Sa 6,.build [.s [],.i .i64 0,.s [],.s [],.s [],.b false,.b false,.i .i64 0,.b false,.i .i64 0,.s [],.i .i64 0,.s [],.s [],.s [],.b false,.b false,.i .i64 0,.i .i64 0,.nil,.s [],.nil,.nil] [(8,(1,.c (.b true))),(9,(1,.c (.i .i64 8)))],Sb⟩,⟨Sb,.store 23 (.t 2) (.t 6),Sb⟩]) (.ret)) (.skip))) (.seq (.reg [⟨Sa 7,.fad 4 (.t 1),Sb⟩,⟨Sb,.store 1 (.t 7) (.c (.s [])),Sb⟩,⟨Sa 8,.fad 6 (.t 1),Sb⟩,⟨Sb,.store 1 (.t 8) (.c (.b false)),Sb⟩]) (.seq (.reg [⟨Sa 9,.loadn 7 (.t 1),Sb⟩,⟨Sa 10,.loadn 7 (.t 1),Sb⟩,⟨Sa 11,.bslice 1 [.s [],.i .i64 0,.s [],.s [],.s [],.b false,.b false] [(0,(7,.t 10))],Sb⟩,⟨Sa 12,.build [.s [],.i .i64 0,.s [],.s [],.s [],.b false,.b false,.i .i64 0,.b false,.i .i64 0,.s [],.i .i64 0,.s [],.s [],.s [],.b false,.b false,.i .i64 0,.i .i64 0,.nil,.s [],.nil,.nil] [(0,(7,.t 9)),(22,(1,.t 11))],Sb⟩,⟨Sb,.store 23 (.t 2) (.t 12),Sb⟩]) (.ret))))
theorem is_fetch_Start:FnIs Tryz.prog 20 13 [.celln 2 23] c_fetch_Start:=⟨⟨_,_,Tryz.func20,rfl,rfl,by kernel_rfl,by kernel_rfl⟩⟩
def c_fetch_Step:SCode :=.seq (.reg [⟨Sa 5,.box 58 (.t 2),Sb⟩,⟨Sa 6,.alloc 58 [.s [],.i .i64 0,.s [],.s [],.s [],.b false,.b false,.i .i64 0,.b false,.i .i64 0,.s [],.i .i64 0,.s [],.s [],.s [],.b false,.b false,.i .i64 0,.i .i64 0,.nil,.s [],.nil,.nil],Sb⟩]) (.seq (.reg [⟨Sa 12,.loadn 23 (.t 5),Sb⟩,⟨Sa 13,.call 53 [.t 12],Sb⟩,⟨Sb,.store 23 (.t 5) (.t 13),Sb⟩]) (.seq (.seq (.reg [⟨Sa 14,.fad 8 (.t 5),Sb⟩,⟨Sa 15,.load1 (.t 14),Sb⟩]) (.cond (.t 15) (.seq (.reg [⟨Sa 16,.loadn 23 (.t 5),Sb⟩,⟨Sb,.store 23 (.t 6) (.t 16),Sb⟩]) (.ret)) (.skip))) (.seq (.reg [⟨Sa 17,.fad 10 (.t 5),Sb⟩,⟨Sa 18,.fad 11 (.t 17),Sb⟩,⟨Sa 19,.load1 (.t 18),Sb⟩,⟨Sa 20,.build [.s [],.i .i64 0,.s [],.s [],.s [],.b false,.b false,.i .i64 0,.i .i64 0,.nil,.s [],.nil] [(11,(1,.t 19))],Sb⟩,⟨Sa 21,.fad 10 (.t 5),Sb⟩,⟨Sb,.store 12 (.t 21) (.t 20),Sb⟩]) (.seq (.reg [⟨Sa 23,.mv (.t 0),Sb⟩,⟨Sa 24,.fad 0 (.t 5),Sb⟩,⟨Sa 25,.loadn 7 (.t 24),Sb⟩,⟨Sa 26,.mv (.t 1),Sb⟩,⟨Sa 27,.call 13 [.t 23,.t 25,.t 26],Sb⟩,⟨Sa 22,.mv (.t 27),Sb⟩,⟨Sa 28,.ext (.t 22) 0,Sb⟩,⟨Sa 29,.ext (.t 22) 1,Sb⟩,⟨Sa 7,.mv (.t 28),Sb⟩,⟨Sa 8,.mv (.t 29),Sb⟩]) (.seq (.seq (.reg [⟨Sa 30,.mv (.t 8),Sb⟩,⟨Sa 31,.bin .neq (.t 30) (.c (.i .i64 0)),Sb⟩]) (.cond (.t 31) (.seq (.reg [⟨Sa 32,.loadn 23 (.t 5),Sb⟩,⟨Sa 33,.mv (.t 8),Sb⟩,⟨Sa 34,.call 54 [.t 32,.c (.i .i64 0),.t 33],Sb⟩,⟨Sb,.store 23 (.t 6) (.t 34),Sb⟩]) (.ret)) (.skip))) (.seq (.reg [⟨Sa 36,.mv (.t 7),Sb⟩,⟨Sa 37,.call 55 [.t 36],Sb⟩,⟨Sa 35,.mv (.t 37),Sb⟩,⟨Sa 38,.ext (.t 35) 0,Sb⟩,⟨Sa 39,.ext (.t 35) 1,Sb⟩,⟨Sa 40,.ext (.t 35) 2,Sb⟩,⟨Sa 9,.alloc 48 [.i .i64 0,.i .i64 0,.nil],Sb⟩,⟨Sb,.store 3 (.t 9) (.t 38),Sb⟩,⟨Sa 10,.mv (.t 39),Sb⟩,⟨Sa 8,.mv (.t 40),Sb⟩]) (.seq (.seq (.reg [⟨Sa 41,.mv (.t 8),Sb⟩,⟨Sa 42,.bin .neq (.t 41) (.c (.i .i64 0)),Sb⟩]) (.cond (.t 42) (.seq (.reg [⟨Sa 43,.loadn 23 (.t 5),Sb⟩,⟨Sa 44,.mv (.t 8),Sb⟩,⟨Sa 45,.call 54 [.t 43,.c (.i .i64 0),.t 44],Sb⟩,⟨Sb,.store 23 (.t 6) (.t 45),Sb⟩]) (.ret)) (.skip))) (.seq (.seq (.reg [⟨Sa 46,.fad 1 (.t 9),Sb⟩,⟨Sa 47,.load1 (.t 46),Sb⟩,⟨Sa 48,.call 56 [.t 47],Sb⟩]) (.cond (.t 48) (.seq (.reg [⟨Sa 49,.loadn 23 (.t 5),Sb⟩,⟨Sa 50,.loadn 3 (.t 9),Sb⟩,⟨Sa 51,.call 57 [.t 49,.t 50],Sb⟩,⟨Sb,.store 23 (.t 6) (.t 51),Sb⟩]) (.ret)) (.skip))) (.seq (.drw [⟨Sa 53,.loadn 3 (.t 9),Sb⟩,⟨Sa 54,.mv (.t 7),Sb⟩,⟨Sa 55,.mv (.t 10),Sb⟩,⟨Sa 56,.slcs (.t 54) (some (.t 55)) none,Sb⟩,⟨Sa 57,.call 58 [.t 53,.t 56,.c (.i .i64 1048576)],Sb⟩,⟨Sa 52,.mv (.t 57),Sb⟩,⟨Sa 58,.ext (.t 52) 0,Sb⟩,⟨Sa 59,.ext (.t 52) 1,Sb⟩,⟨Sa 11,.mv (.t 58),Sb⟩,⟨Sa 8,.mv (.t 59),Sb⟩] 10 []) (.seq (.seq (.reg [⟨Sa 60,.mv (.t 8),Sb⟩,⟨Sa 61,.bin .neq (.t 60) (.c (.i .i64 0)),Sb⟩]) (.cond (.t 61) (.seq (.reg [⟨Sa 62,.loadn 23 (.t 5),Sb⟩,⟨Sa 63,.fad 1 (.t 9),Sb⟩,⟨Sa 64,.load1 (.t 63),Sb⟩,⟨Sa 65,.mv (.t 8),Sb⟩,⟨Sa 66,.call 54 [.t 62,.t 64,.t 65],Sb⟩,⟨Sb,.store 23 (.t 6) (.t 66),Sb⟩]) (.ret)) (.skip))) (.seq (.reg [⟨Sa 67,.loadn 23 (.t 5),Sb⟩,⟨Sa 68,.fad 1 (.t 9),Sb⟩,⟨Sa 69,.load1 (.t 68),Sb⟩,⟨Sa 70,.call 59 [.t 67,.t 69,.c (.i .i64 0)],Sb⟩,⟨Sb,.store 23 (.t 5) (.t 70),Sb⟩]) (.seq (.reg [⟨Sa 71,.fad 8 (.t 5),Sb⟩,⟨Sb,.store 1 (.t 71) (.c (.b true)),Sb⟩]) (.seq (.drw [⟨Sa 72,.fad 0 (.t 5),Sb⟩,⟨Sa 73,.loadn 7 (.t 72),Sb⟩,⟨Sa 74,.loadn 3 (.t 9),Sb⟩,⟨Sa 75,.mv (.t 11),Sb⟩,⟨Sa 76,.fad 10 (.t 5),Sb⟩,⟨Sa 77,.fad 0 (.t 76),Sb⟩,⟨Sb,.store 7 (.t 77) (.t 73),Sb⟩,⟨Sa 78,.fad 10 (.t 5),Sb⟩,⟨Sa 79,.fad 7 (.t 78),Sb⟩,⟨Sb,.store 3 (.t 79) (.t 74),Sb⟩,⟨Sa 80,.fad 10 (.t 5),Sb⟩,⟨Sa 81,.fad 10 (.t 80),Sb⟩,⟨Sb,.store 1 (.t 81) (.t 75),Sb⟩] 13 [(9,(77,none))]) (.seq (.reg [⟨Sa 82,.loadn 23 (.t 5),Sb⟩,⟨Sb,.store 23 (.t 6) (.t 82),Sb⟩]) (.ret)))))))))))))))
theorem is_fetch_Step:FnIs Tryz.prog 21 83 [.celln 6 23] c_fetch_Step:=⟨⟨_,_,Tryz.func21,rfl,rfl,by kernel_rfl,by kernel_rfl⟩⟩
def c_made_Raw:SCode :=.seq (.reg [⟨Sa 10,.mv (.c (.s [])),Sb⟩]) (.seq (.reg [⟨Sa 12,.mv (.t 0),Sb⟩,⟨Sa 13,.build [.i .i64 0,.i .i64 0,.nil] [(0,(1,.c (.i .i64 1))),(1,(1,.t 12))],Sb⟩,⟨Sa 11,.alloc 48 [.i .i64 0,.i .i64 0,.nil],Sb⟩,⟨Sb,.store 3 (.t 11) (.t 13),Sb⟩]) (.seq (.seq (.reg [⟨Sa 14,.mv (.t 1),Sb⟩,⟨Sa 15,.bin .neq (.t 14) (.c (.s [])),Sb⟩]) (.cond (.t 15) (.reg [⟨Sa 16,.fad 2 (.t 11),Sb⟩,⟨Sa 17,.load1 (.t 16),Sb⟩,⟨Sa 18,.mv (.t 1),Sb⟩,⟨Sa 19,.build [.s [],.s []] [(0,(1,.c (.s [99,111,110,116,101,110,116,45,116,121,112,101]))),(1,(1,.t 18))],Sb⟩,⟨Sa 20,.bslice 1 [.s [],.s []] [(0,(2,.t 19))],Sb⟩,⟨Sa 21,.app 74 2 32 (.t 17) (.t 20),Sb⟩,⟨Sa 22,.fad 2 (.t 11),Sb⟩,⟨Sb,.store 1 (.t 22) (.t 21),Sb⟩]) (.skip))) (.seq (.reg [⟨Sa 23,.fad 2 (.t 11),Sb⟩,⟨Sa 24,.load1 (.t 23),Sb⟩,⟨Sa 25,.mv (.t 3),Sb⟩,⟨Sa 26,.app 74 2 32 (.t 24) (.t 25),Sb⟩,⟨Sa 27,.fad 2 (.t 11),Sb⟩,⟨Sb,.store 1 (.t 27) (.t 26),Sb⟩]) (.seq (.seq (.reg [⟨Sa 28,.mv (.t 4),Sb⟩]) (.cond (.t 28) (.seq (.reg [⟨Sa 29,.fad 2 (.t 11),Sb⟩,⟨Sa 30,.load1 (.t 29),Sb⟩,⟨Sa 31,.build [.s [],.s []] [(0,(1,.c (.s [116,114,97,110,115,102,101,114,45,101,110,99,111,100,105,110,103]))),(1,(1,.c (.s [99,104,117,110,107,101,100])))],Sb⟩,⟨Sa 32,.bslice 1 [.s [],.s []] [(0,(2,.t 31))],Sb⟩,⟨Sa 33,.app 74 2 32 (.t 30) (.t 32),Sb⟩,⟨Sa 34,.fad 2 (.t 11),Sb⟩,⟨Sb,.store 1 (.t 34) (.t 33),Sb⟩]) (.seq (.reg [⟨Sa 35,.loadn 3 (.t 11),Sb⟩,⟨Sa 36,.call 61 [.t 35],Sb⟩,⟨Sa 37,.mv (.t 2),Sb⟩,⟨Sa 38,.call 62 [.t 37,.c (.i .i64 50)],Sb⟩,⟨Sa 39,.bin .add (.t 36) (.t 38),Sb⟩,⟨Sa 10,.mv (.t 39),Sb⟩]) (.ret))) (.skip))) (.seq (.drw [⟨Sa 40,.fad 2 (.t 11),Sb⟩,⟨Sa 41,.load1 (.t 40),Sb⟩,⟨Sa 42,.mv (.t 2),Sb⟩,⟨Sa 43,.lens (.t 42),Sb⟩,⟨Sa 44,.call 63 [.t 43],Sb⟩,⟨Sa 45,.build [.s [],.s []] [(0,(1,.c (.s [99,111,110,116,101,110,116,45,108,101,110,103,116,104]))),(1,(1,.t 44))],Sb⟩,⟨Sa 46,.bslice 1 [.s [],.s []] [(0,(2,.t 45))],Sb⟩,⟨Sa 47,.app 74 2 32 (.t 41) (.t 46),Sb⟩,⟨Sa 48,.fad 2 (.t 11),Sb⟩,⟨Sb,.store 1 (.t 48) (.t 47),Sb⟩] 7 []) (.seq (.reg [⟨Sa 49,.loadn 3 (.t 11),Sb⟩,⟨Sa 50,.call 61 [.t 49],Sb⟩,⟨Sa 51,.mv (.t 2),Sb⟩,⟨Sa 52,.bin .add (.t 50) (.t 51),Sb⟩,⟨Sa 10,.mv (.t 52),Sb⟩]) (.ret)))))))
theorem is_made_Raw:FnIs Tryz.prog 28 53 [.tmp 10] c_made_Raw:=⟨⟨_,_,Tryz.func28,rfl,rfl,by kernel_rfl,by kernel_rfl⟩⟩
def c_ref07_Format:SCode :=.seq (.reg [⟨Sa 1,.box 35 (.t 0),Sb⟩,⟨Sa 2,.mv (.c (.s [])),Sb⟩]) (.seq (.drw [⟨Sa 4,.loadn 7 (.t 1),Sb⟩,⟨Sa 5,.call 60 [.t 4],Sb⟩,⟨Sa 6,.call 64 [.t 5],Sb⟩,⟨Sa 7,.bin .add (.c (.s [104,116,116,112,115,58,47,47])) (.t 6),Sb⟩,⟨Sa 8,.loadn 7 (.t 1),Sb⟩,⟨Sa 9,.call 65 [.t 8],Sb⟩,⟨Sa 10,.bin .add (.t 7) (.t 9),Sb⟩,⟨Sa 3,.mv (.t 10),Sb⟩] 8 []) (.seq (.seq (.reg [⟨Sa 11,.fad 6 (.t 1),Sb⟩,⟨Sa 12,.load1 (.t 11),Sb⟩]) (.cond (.t 12) (.reg [⟨Sa 13,.mv (.t 3),Sb⟩,⟨Sa 14,.fad 4 (.t 1),Sb⟩,⟨Sa 15,.load1 (.t 14),Sb⟩,⟨Sa 16,.bin .add (.c (.s [35])) (.t 15),Sb⟩,⟨Sa 17,.bin .add (.t 13) (.t 16),Sb⟩,⟨Sa 3,.mv (.t 17),Sb⟩]) (.skip))) (.seq (.reg [⟨Sa 18,.mv (.t 3),Sb⟩,⟨Sa 2,.mv (.t 18),Sb⟩]) (.ret))))
theorem is_ref07_Format:FnIs Tryz.prog 29 19 [.tmp 2] c_ref07_Format:=⟨⟨_,_,Tryz.func29,rfl,rfl,by kernel_rfl,by kernel_rfl⟩⟩
def c_weburl_Valid:SCode :=.seq (.reg [⟨Sa 1,.box 35 (.t 0),Sb⟩,⟨Sa 2,.mv (.c (.b false)),Sb⟩]) (.seq (.reg [⟨Sa 6,.loadn 7 (.t 1),Sb⟩,⟨Sa 7,.call 103 [.t 6],Sb⟩,⟨Sa 8,.call 102 [.t 7],Sb⟩,⟨Sa 5,.mv (.t 8),Sb⟩,⟨Sa 9,.ext (.t 5) 0,Sb⟩,⟨Sa 10,.ext (.t 5) 1,Sb⟩,⟨Sa 3,.alloc 35 [.s [],.i .i64 0,.s [],.s [],.s [],.b false,.b false],Sb⟩,⟨Sb,.store 7 (.t 3) (.t 9),Sb⟩,⟨Sa 4,.mv (.t 10),Sb⟩]) (.seq (.reg [⟨Sa 11,.mv (.t 4),Sb⟩,⟨Sa 12,.bin .eql (.t 11) (.c (.i .i64 0)),Sb⟩,⟨Sa 13,.mv (.t 12),Sb⟩,⟨Sa 14,.loadn 7 (.t 3),some (13,true)⟩,⟨Sa 15,.loadn 7 (.t 1),some (13,true)⟩,⟨Sa 16,.eqs false (.str [(0,(none,.ts)),(1,(none,.ti)),(2,(none,.ts)),(3,(none,.ts)),(4,(none,.ts)),(5,(none,.tb)),(6,(none,.tb))]) (.t 14) (.t 15),some (13,true)⟩,⟨Sa 17,.pick (.t 13) (.t 16) (.c (.b false)),Sb⟩,⟨Sa 2,.mv (.t 17),Sb⟩]) (.ret)))
theorem is_weburl_Valid:FnIs Tryz.prog 41 18 [.tmp 2] c_weburl_Valid:=⟨⟨_,_,Tryz.func41,rfl,rfl,by kernel_rfl,by kernel_rfl⟩⟩
def c_world_Ask_1:SCode :=.seq (.reg [⟨Sa 3,.alloc 33 [.s [],.i .i64 0,.s [],.s [],.i .i64 0,.i .u64 0,.i .u64 0],Sb⟩,⟨Sa 4,.mv (.c (.b false)),Sb⟩]) (.seq (.seq (.reg [⟨Sa 7,.load1 (.t 1),Sb⟩,⟨Sa 8,.lenr (.t 7),Sb⟩,⟨Sa 9,.mv (.c (.i .i64 0)),Sb⟩]) (.blk 0 (.loop (.seq (.reg [⟨Sa 10,.bin .lss (.t 9) (.t 8),Sb⟩]) (.seq (.cond (.t 10) (.skip) (.exit 0)) (.seq (.blk 1 (.seq (.reg [⟨Sa 11,.iad 7 (.t 7) (.t 9),Sb⟩,⟨Sa 12,.loadn 7 (.t 11),Sb⟩,⟨Sa 6,.alloc 33 [.s [],.i .i64 0,.s [],.s [],.i .i64 0,.i .u64 0,.i .u64 0],Sb⟩,⟨Sb,.store 7 (.t 6) (.t 12),Sb⟩]) (.seq (.reg [⟨Sa 13,.mv (.t 0),Sb⟩,⟨Sa 14,.loadn 7 (.t 6),Sb⟩,⟨Sa 15,.callv (.t 13) [.t 14],Sb⟩]) (.cond (.t 15) (.seq (.reg [⟨Sa 16,.loadn 7 (.t 6),Sb⟩,⟨Sb,.store 7 (.t 3) (.t 16),Sb⟩,⟨Sa 4,.mv (.c (.b true)),Sb⟩]) (.ret)) (.skip))))) (.reg [⟨Sa 17,.bin .add (.t 9) (.c (.i .i64 1)),Sb⟩,⟨Sa 9,.mv (.t 17),Sb⟩]))))))) (.seq (.reg [⟨Sa 18,.build [.s [],.i .i64 0,.s [],.s [],.i .i64 0,.i .u64 0,.i .u64 0] [],Sb⟩,⟨Sb,.store 7 (.t 3) (.t 18),Sb⟩,⟨Sa 4,.mv (.c (.b false)),Sb⟩]) (.ret)))
theorem is_world_Ask_1:FnIs Tryz.prog 42 19 [.celln 3 7,.tmp 4] c_world_Ask_1:=⟨⟨_,_,Tryz.func42,rfl,rfl,by kernel_rfl,by kernel_rfl⟩⟩
def c_weburl_Origin:SCode :=.seq (.reg [⟨Sa 1,.box 35 (.t 0),Sb⟩,⟨Sa 2,.alloc 24 [.s [],.i .i64 0],Sb⟩]) (.seq (.reg [⟨Sa 3,.fad 0 (.t 1),Sb⟩,⟨Sa 4,.load1 (.t 3),Sb⟩,⟨Sa 5,.fad 1 (.t 1),Sb⟩,⟨Sa 6,.load1 (.t 5),Sb⟩,⟨Sa 7,.build [.s [],.i .i64 0] [(0,(1,.t 4)),(1,(1,.t 6))],Sb⟩,⟨Sb,.store 2 (.t 2) (.t 7),Sb⟩]) (.ret))
theorem is_weburl_Origin:FnIs Tryz.prog 43 8 [.celln 2 2] c_weburl_Origin:=⟨⟨_,_,Tryz.func43,rfl,rfl,by kernel_rfl,by kernel_rfl⟩⟩
def c_weburl_Target:SCode :=.seq (.reg [⟨Sa 1,.box 35 (.t 0),Sb⟩,⟨Sa 2,.mv (.c (.s [])),Sb⟩]) (.seq (.seq (.reg [⟨Sa 3,.fad 5 (.t 1),Sb⟩,⟨Sa 4,.load1 (.t 3),Sb⟩,⟨Sa 5,.not (.t 4),Sb⟩]) (.cond (.t 5) (.seq (.reg [⟨Sa 6,.fad 2 (.t 1),Sb⟩,⟨Sa 7,.load1 (.t 6),Sb⟩,⟨Sa 2,.mv (.t 7),Sb⟩]) (.ret)) (.skip))) (.seq (.reg [⟨Sa 8,.fad 2 (.t 1),Sb⟩,⟨Sa 9,.load1 (.t 8),Sb⟩,⟨Sa 10,.bin .add (.t 9) (.c (.s [63])),Sb⟩,⟨Sa 11,.fad 3 (.t 1),Sb⟩,⟨Sa 12,.load1 (.t 11),Sb⟩,⟨Sa 13,.bin .add (.t 10) (.t 12),Sb⟩,⟨Sa 2,.mv (.t 13),Sb⟩]) (.ret)))
theorem is_weburl_Target:FnIs Tryz.prog 44 14 [.tmp 2] c_weburl_Target:=⟨⟨_,_,Tryz.func44,rfl,rfl,by kernel_rfl,by kernel_rfl⟩⟩
def c_world_question_isFitting:SCode :=.seq (.reg [⟨Sa 2,.box 101 (.t 0),Sb⟩,⟨Sa 3,.box 33 (.t 1),Sb⟩,⟨Sa 4,.mv (.c (.b false)),Sb⟩]) (.seq (.reg [⟨Sa 6,.fad 0 (.t 3),Sb⟩,⟨Sa 7,.load1 (.t 6),Sb⟩,⟨Sa 8,.fad 0 (.t 2),Sb⟩,⟨Sa 9,.fad 0 (.t 8),Sb⟩,⟨Sa 10,.load1 (.t 9),Sb⟩,⟨Sa 11,.bin .eql (.t 7) (.t 10),Sb⟩,⟨Sa 12,.mv (.t 11),Sb⟩,⟨Sa 13,.fad 1 (.t 3),some (12,true)⟩,⟨Sa 14,.load1 (.t 13),some (12,true)⟩,⟨Sa 15,.fad 0 (.t 2),some (12,true)⟩,⟨Sa 16,.fad 1 (.t 15),some (12,true)⟩,⟨Sa 17,.load1 (.t 16),some (12,true)⟩,⟨Sa 18,.bin .eql (.t 14) (.t 17),some (12,true)⟩,⟨Sa 19,.pick (.t 12) (.t 18) (.c (.b false)),Sb⟩,⟨Sa 20,.mv (.t 19),Sb⟩,⟨Sa 21,.fad 2 (.t 3),some (20,true)⟩,⟨Sa 22,.load1 (.t 21),some (20,true)⟩,⟨Sa 23,.fad 2 (.t 2),some (20,true)⟩,⟨Sa 24,.load1 (.t 23),some (20,true)⟩,⟨Sa 25,.bin .eql (.t 22) (.t 24),some (20,true)⟩,⟨Sa 26,.pick (.t 20) (.t 25) (.c (.b false)),Sb⟩,⟨Sa 5,.mv (.t 26),Sb⟩]) (.seq (.reg [⟨Sa 27,.mv (.t 5),Sb⟩,⟨Sa 28,.mv (.t 27),Sb⟩,⟨Sa 29,.fad 5 (.t 3),some (28,true)⟩,⟨Sa 30,.load1 (.t 29),some (28,true)⟩,⟨Sa 31,.fad 3 (.t 2),some (28,true)⟩,⟨Sa 32,.load1 (.t 31),some (28,true)⟩,⟨Sa 33,.bin .leq (.t 30) (.t 32),some (28,true)⟩,⟨Sa 34,.pick (.t 28) (.t 33) (.c (.b false)),Sb⟩,⟨Sa 35,.mv (.t 34),Sb⟩,⟨Sa 36,.fad 6 (.t 3),some (35,true)⟩,⟨Sa 37,.load1 (.t 36),some (35,true)⟩,⟨Sa 38,.bin .eql (.t 37) (.c (.i .u64 0)),some (35,true)⟩,⟨Sa 39,.mv (.t 38),some (35,true)⟩,⟨Sa 40,.fad 6 (.t 3),some (39,false)⟩,⟨Sa 41,.load1 (.t 40),some (39,false)⟩,⟨Sa 42,.fad 3 (.t 2),some (39,false)⟩,⟨Sa 43,.load1 (.t 42),some (39,false)⟩,⟨Sa 44,.bin .gtr (.t 41) (.t 43),some (39,false)⟩,⟨Sa 45,.pick (.t 39) (.c (.b true)) (.t 44),some (35,true)⟩,⟨Sa 46,.pick (.t 35) (.t 45) (.c (.b false)),Sb⟩,⟨Sa 4,.mv (.t 46),Sb⟩]) (.ret)))
theorem is_world_question_isFitting:FnIs Tryz.prog 45 47 [.tmp 4] c_world_question_isFitting:=⟨⟨_,_,Tryz.func45,rfl,rfl,by kernel_rfl,by kernel_rfl⟩⟩
def c_world_failure:SCode :=.seq (.reg [⟨Sa 2,.mv (.c (.i .i64 0)),Sb⟩]) (.seq (.seq (.reg [⟨Sa 3,.mv (.t 0),Sb⟩]) (.blk 0 (.seq (.reg [⟨Sa 5,.bin .eql (.t 3) (.c (.i .i64 1)),Sb⟩,⟨Sa 4,.mv (.t 5),Sb⟩]) (.cond (.t 4) (.seq (.reg [⟨Sa 2,.mv (.c (.i .i64 240)),Sb⟩]) (.ret)) (.seq (.reg [⟨Sa 7,.bin .eql (.t 3) (.c (.i .i64 2)),Sb⟩,⟨Sa 6,.mv (.t 7),Sb⟩]) (.cond (.t 6) (.seq (.reg [⟨Sa 2,.mv (.c (.i .i64 241)),Sb⟩]) (.ret)) (.seq (.reg [⟨Sa 9,.bin .eql (.t 3) (.c (.i .i64 3)),Sb⟩,⟨Sa 8,.mv (.t 9),Sb⟩]) (.cond (.t 8) (.seq (.reg [⟨Sa 2,.mv (.c (.i .i64 242)),Sb⟩]) (.ret)) (.seq (.reg [⟨Sa 11,.bin .eql (.t 3) (.c (.i .i64 4)),Sb⟩,⟨Sa 10,.mv (.t 11),Sb⟩]) (.cond (.t 10) (.seq (.reg [⟨Sa 2,.mv (.c (.i .i64 243)),Sb⟩]) (.ret)) (.skip))))))))))) (.seq (.reg [⟨Sa 2,.mv (.c (.i .i64 0)),Sb⟩]) (.ret)))
theorem is_world_failure:FnIs Tryz.prog 46 12 [.tmp 2] c_world_failure:=⟨⟨_,_,Tryz.func46,rfl,rfl,by kernel_rfl,by kernel_rfl⟩⟩
def c_fetch_clone:SCode :=.seq (.reg [⟨Sa 1,.box 58 (.t 0),Sb⟩,⟨Sa 2,.alloc 58 [.s [],.i .i64 0,.s [],.s [],.s [],.b false,.b false,.i .i64 0,.b false,.i .i64 0,.s [],.i .i64 0,.s [],.s [],.s [],.b false,.b false,.i .i64 0,.i .i64 0,.nil,.s [],.nil,.nil],Sb⟩]) (.seq (.reg [⟨Sa 3,.fad 22 (.t 1),Sb⟩,⟨Sa 4,.load1 (.t 3),Sb⟩,⟨Sa 5,.call 110 [.t 4],Sb⟩,⟨Sa 6,.fad 22 (.t 1),Sb⟩,⟨Sb,.store 1 (.t 6) (.t 5),Sb⟩]) (.seq (.reg [⟨Sa 7,.fad 10 (.t 1),Sb⟩,⟨Sa 8,.fad 7 (.t 7),Sb⟩,⟨Sa 9,.fad 2 (.t 8),Sb⟩,⟨Sa 10,.load1 (.t 9),Sb⟩,⟨Sa 11,.call 111 [.t 10],Sb⟩,⟨Sa 12,.fad 10 (.t 1),Sb⟩,⟨Sa 13,.fad 7 (.t 12),Sb⟩,⟨Sa 14,.fad 2 (.t 13),Sb⟩,⟨Sb,.store 1 (.t 14) (.t 11),Sb⟩]) (.seq (.reg [⟨Sa 15,.fad 10 (.t 1),Sb⟩,⟨Sa 16,.fad 11 (.t 15),Sb⟩,⟨Sa 17,.load1 (.t 16),Sb⟩,⟨Sa 18,.call 112 [.t 17],Sb⟩,⟨Sa 19,.fad 10 (.t 1),Sb⟩,⟨Sa 20,.fad 11 (.t 19),Sb⟩,⟨Sb,.store 1 (.t 20) (.t 18),Sb⟩]) (.seq (.reg [⟨Sa 21,.loadn 23 (.t 1),Sb⟩,⟨Sb,.store 23 (.t 2) (.t 21),Sb⟩]) (.ret)))))
theorem is_fetch_clone:FnIs Tryz.prog 53 22 [.celln 2 23] c_fetch_clone:=⟨⟨_,_,Tryz.func53,rfl,rfl,by kernel_rfl,by kernel_rfl⟩⟩
def c_fetch_fail:SCode :=.seq (.reg [⟨Sa 3,.box 58 (.t 0),Sb⟩,⟨Sa 6,.alloc 58 [.s [],.i .i64 0,.s [],.s [],.s [],.b false,.b false,.i .i64 0,.b false,.i .i64 0,.s [],.i .i64 0,.s [],.s [],.s [],.b false,.b false,.i .i64 0,.i .i64 0,.nil,.s [],.nil,.nil],Sb⟩]) (.seq (.reg [⟨Sa 7,.loadn 23 (.t 3),Sb⟩,⟨Sa 8,.mv (.t 1),Sb⟩,⟨Sa 9,.mv (.t 2),Sb⟩,⟨Sa 10,.call 59 [.t 7,.t 8,.t 9],Sb⟩,⟨Sb,.store 23 (.t 3) (.t 10),Sb⟩]) (.seq (.reg [⟨Sa 11,.mv (.t 2),Sb⟩,⟨Sa 12,.fad 8 (.t 3),Sb⟩,⟨Sb,.store 1 (.t 12) (.c (.b true)),Sb⟩,⟨Sa 13,.fad 9 (.t 3),Sb⟩,⟨Sb,.store 1 (.t 13) (.t 11),Sb⟩]) (.seq (.reg [⟨Sa 14,.loadn 23 (.t 3),Sb⟩,⟨Sb,.store 23 (.t 6) (.t 14),Sb⟩]) (.ret))))
theorem is_fetch_fail:FnIs Tryz.prog 54 15 [.celln 6 23] c_fetch_fail:=⟨⟨_,_,Tryz.func54,rfl,rfl,by kernel_rfl,by kernel_rfl⟩⟩
def c_head_Parse:SCode :=.seq (.reg [⟨Sa 2,.alloc 48 [.i .i64 0,.i .i64 0,.nil],Sb⟩,⟨Sa 3,.mv (.c (.i .i64 0)),Sb⟩,⟨Sa 4,.mv (.c (.i .i64 0)),Sb⟩]) (.seq (.reg [⟨Sa 13,.mv (.t 0),Sb⟩,⟨Sa 14,.mv (.t 0),Sb⟩,⟨Sa 15,.lens (.t 14),Sb⟩,⟨Sa 16,.pu .mn [.t 15,.c (.i .i64 16384)],Sb⟩,⟨Sa 17,.slcs (.t 13) none (some (.t 16)),Sb⟩,⟨Sa 18,.call 113 [.t 17,.c (.s [13,10,13,10])],Sb⟩,⟨Sa 5,.mv (.t 18),Sb⟩]) (.seq (.seq (.reg [⟨Sa 19,.mv (.t 5),Sb⟩,⟨Sa 20,.bin .lss (.t 19) (.c (.i .i64 0)),Sb⟩]) (.cond (.t 20) (.seq (.seq (.reg [⟨Sa 21,.mv (.t 0),Sb⟩,⟨Sa 22,.lens (.t 21),Sb⟩,⟨Sa 23,.bin .gtr (.t 22) (.c (.i .i64 16384)),Sb⟩]) (.cond (.t 23) (.seq (.reg [⟨Sa 24,.build [.i .i64 0,.i .i64 0,.nil] [],Sb⟩,⟨Sb,.store 3 (.t 2) (.t 24),Sb⟩,⟨Sa 3,.mv (.c (.i .i64 0)),Sb⟩,⟨Sa 4,.mv (.c (.i .i64 142)),Sb⟩]) (.ret)) (.skip))) (.seq (.reg [⟨Sa 25,.build [.i .i64 0,.i .i64 0,.nil] [],Sb⟩,⟨Sb,.store 3 (.t 2) (.t 25),Sb⟩,⟨Sa 3,.mv (.c (.i .i64 0)),Sb⟩,⟨Sa 4,.mv (.c (.i .i64 191)),Sb⟩]) (.ret))) (.skip))) (.seq (.reg [⟨Sa 26,.mv (.t 0),Sb⟩,⟨Sa 27,.mv (.t 5),Sb⟩,⟨Sa 28,.slcs (.t 26) none (some (.t 27)),Sb⟩,⟨Sa 29,.call 114 [.t 28,.c (.s [13,10])],Sb⟩,⟨Sa 6,.mv (.t 29),Sb⟩]) (.seq (.reg [⟨Sa 31,.mv (.t 6),Sb⟩,⟨Sa 32,.iad 1 (.t 31) (.c (.i .i64 0)),Sb⟩,⟨Sa 33,.load1 (.t 32),Sb⟩,⟨Sa 34,.call 115 [.t 33],Sb⟩,⟨Sa 30,.mv (.t 34),Sb⟩,⟨Sa 35,.ext (.t 30) 0,Sb⟩,⟨Sa 36,.ext (.t 30) 1,Sb⟩,⟨Sa 7,.alloc 48 [.i .i64 0,.i .i64 0,.nil],Sb⟩,⟨Sb,.store 3 (.t 7) (.t 35),Sb⟩,⟨Sa 8,.mv (.t 36),Sb⟩]) (.seq (.seq (.reg [⟨Sa 37,.mv (.t 8),Sb⟩,⟨Sa 38,.not (.t 37),Sb⟩]) (.cond (.t 38) (.seq (.reg [⟨Sa 39,.build [.i .i64 0,.i .i64 0,.nil] [],Sb⟩,⟨Sb,.store 3 (.t 2) (.t 39),Sb⟩,⟨Sa 3,.mv (.c (.i .i64 0)),Sb⟩,⟨Sa 4,.mv (.c (.i .i64 180)),Sb⟩]) (.ret)) (.skip))) (.seq (.seq (.reg [⟨Sa 40,.mv (.t 6),Sb⟩,⟨Sa 41,.pu (.rsl 1) [.t 40,.c (.i .i64 1)],Sb⟩,⟨Sa 42,.lenr (.t 41),Sb⟩,⟨Sa 43,.mv (.c (.i .i64 0)),Sb⟩]) (.blk 0 (.loop (.seq (.reg [⟨Sa 44,.bin .lss (.t 43) (.t 42),Sb⟩]) (.seq (.cond (.t 44) (.skip) (.exit 0)) (.seq (.blk 1 (.seq (.reg [⟨Sa 45,.iad 1 (.t 41) (.t 43),Sb⟩,⟨Sa 46,.load1 (.t 45),Sb⟩,⟨Sa 10,.mv (.t 46),Sb⟩]) (.seq (.seq (.reg [⟨Sa 47,.fad 2 (.t 7),Sb⟩,⟨Sa 48,.load1 (.t 47),Sb⟩,⟨Sa 49,.lenr (.t 48),Sb⟩,⟨Sa 50,.bin .geq (.t 49) (.c (.i .i64 64)),Sb⟩]) (.cond (.t 50) (.seq (.reg [⟨Sa 51,.build [.i .i64 0,.i .i64 0,.nil] [],Sb⟩,⟨Sb,.store 3 (.t 2) (.t 51),Sb⟩,⟨Sa 3,.mv (.c (.i .i64 0)),Sb⟩,⟨Sa 4,.mv (.c (.i .i64 161)),Sb⟩]) (.ret)) (.skip))) (.seq (.reg [⟨Sa 53,.mv (.t 10),Sb⟩,⟨Sa 54,.call 116 [.t 53],Sb⟩,⟨Sa 52,.mv (.t 54),Sb⟩,⟨Sa 55,.ext (.t 52) 0,Sb⟩,⟨Sa 56,.ext (.t 52) 1,Sb⟩,⟨Sa 11,.alloc 74 [.s [],.s []],Sb⟩,⟨Sb,.store 2 (.t 11) (.t 55),Sb⟩,⟨Sa 12,.mv (.t 56),Sb⟩]) (.seq (.seq (.reg [⟨Sa 57,.mv (.t 12),Sb⟩,⟨Sa 58,.not (.t 57),Sb⟩]) (.cond (.t 58) (.seq (.reg [⟨Sa 59,.build [.i .i64 0,.i .i64 0,.nil] [],Sb⟩,⟨Sb,.store 3 (.t 2) (.t 59),Sb⟩,⟨Sa 3,.mv (.c (.i .i64 0)),Sb⟩,⟨Sa 4,.mv (.c (.i .i64 180)),Sb⟩]) (.ret)) (.skip))) (.reg [⟨Sa 60,.fad 2 (.t 7),Sb⟩,⟨Sa 61,.load1 (.t 60),Sb⟩,⟨Sa 62,.loadn 2 (.t 11),Sb⟩,⟨Sa 63,.bslice 1 [.s [],.s []] [(0,(2,.t 62))],Sb⟩,⟨Sa 64,.app 74 2 32 (.t 61) (.t 63),Sb⟩,⟨Sa 65,.fad 2 (.t 7),Sb⟩,⟨Sb,.store 1 (.t 65) (.t 64),Sb⟩])))))) (.reg [⟨Sa 66,.bin .add (.t 43) (.c (.i .i64 1)),Sb⟩,⟨Sa 43,.mv (.t 66),Sb⟩]))))))) (.seq (.reg [⟨Sa 67,.loadn 3 (.t 7),Sb⟩,⟨Sa 68,.mv (.t 5),Sb⟩,⟨Sa 69,.bin .add (.t 68) (.c (.i .i64 4)),Sb⟩,⟨Sb,.store 3 (.t 2) (.t 67),Sb⟩,⟨Sa 3,.mv (.t 69),Sb⟩,⟨Sa 4,.mv (.c (.i .i64 0)),Sb⟩]) (.ret))))))))
theorem is_head_Parse:FnIs Tryz.prog 55 70 [.celln 2 3,.tmp 3,.tmp 4] c_head_Parse:=⟨⟨_,_,Tryz.func55,rfl,rfl,by kernel_rfl,by kernel_rfl⟩⟩
def c_redirect_IsRedirect:SCode :=.seq (.reg [⟨Sa 2,.mv (.c (.b false)),Sb⟩]) (.seq (.seq (.reg [⟨Sa 3,.mv (.t 0),Sb⟩]) (.blk 0 (.seq (.seq (.reg [⟨Sa 5,.bin .eql (.t 3) (.c (.i .i64 301)),Sb⟩,⟨Sa 4,.mv (.t 5),Sb⟩]) (.cond (.t 4) (.skip) (.seq (.reg [⟨Sa 6,.bin .eql (.t 3) (.c (.i .i64 302)),Sb⟩,⟨Sa 4,.mv (.t 6),Sb⟩]) (.cond (.t 4) (.skip) (.seq (.reg [⟨Sa 7,.bin .eql (.t 3) (.c (.i .i64 303)),Sb⟩,⟨Sa 4,.mv (.t 7),Sb⟩]) (.cond (.t 4) (.skip) (.seq (.reg [⟨Sa 8,.bin .eql (.t 3) (.c (.i .i64 307)),Sb⟩,⟨Sa 4,.mv (.t 8),Sb⟩]) (.cond (.t 4) (.skip) (.reg [⟨Sa 9,.bin .eql (.t 3) (.c (.i .i64 308)),Sb⟩,⟨Sa 4,.mv (.t 9),Sb⟩]))))))))) (.cond (.t 4) (.seq (.reg [⟨Sa 2,.mv (.c (.b true)),Sb⟩]) (.ret)) (.skip))))) (.seq (.reg [⟨Sa 2,.mv (.c (.b false)),Sb⟩]) (.ret)))
theorem is_redirect_IsRedirect:FnIs Tryz.prog 56 10 [.tmp 2] c_redirect_IsRedirect:=⟨⟨_,_,Tryz.func56,rfl,rfl,by kernel_rfl,by kernel_rfl⟩⟩
def c_fetch_follow:SCode :=.seq (.reg [⟨Sa 2,.box 58 (.t 0),Sb⟩,⟨Sa 3,.box 48 (.t 1),Sb⟩,⟨Sa 4,.alloc 58 [.s [],.i .i64 0,.s [],.s [],.s [],.b false,.b false,.i .i64 0,.b false,.i .i64 0,.s [],.i .i64 0,.s [],.s [],.s [],.b false,.b false,.i .i64 0,.i .i64 0,.nil,.s [],.nil,.nil],Sb⟩]) (.seq (.reg [⟨Sa 7,.loadn 23 (.t 2),Sb⟩,⟨Sa 8,.fad 1 (.t 3),Sb⟩,⟨Sa 9,.load1 (.t 8),Sb⟩,⟨Sa 10,.call 59 [.t 7,.t 9,.c (.i .i64 0)],Sb⟩,⟨Sb,.store 23 (.t 2) (.t 10),Sb⟩]) (.seq (.reg [⟨Sa 12,.fad 0 (.t 2),Sb⟩,⟨Sa 13,.loadn 7 (.t 12),Sb⟩,⟨Sa 14,.loadn 3 (.t 3),Sb⟩,⟨Sa 15,.fad 22 (.t 2),Sb⟩,⟨Sa 16,.load1 (.t 15),Sb⟩,⟨Sa 17,.fad 7 (.t 2),Sb⟩,⟨Sa 18,.load1 (.t 17),Sb⟩,⟨Sa 19,.call 117 [.t 13,.t 14,.t 16,.t 18],Sb⟩,⟨Sa 11,.mv (.t 19),Sb⟩,⟨Sa 20,.ext (.t 11) 0,Sb⟩,⟨Sa 21,.ext (.t 11) 1,Sb⟩,⟨Sa 5,.alloc 35 [.s [],.i .i64 0,.s [],.s [],.s [],.b false,.b false],Sb⟩,⟨Sb,.store 7 (.t 5) (.t 20),Sb⟩,⟨Sa 6,.mv (.t 21),Sb⟩]) (.seq (.seq (.reg [⟨Sa 22,.mv (.t 6),Sb⟩,⟨Sa 23,.bin .neq (.t 22) (.c (.i .i64 0)),Sb⟩]) (.cond (.t 23) (.seq (.reg [⟨Sa 24,.mv (.t 6),Sb⟩,⟨Sa 25,.fad 8 (.t 2),Sb⟩,⟨Sb,.store 1 (.t 25) (.c (.b true)),Sb⟩,⟨Sa 26,.fad 9 (.t 2),Sb⟩,⟨Sb,.store 1 (.t 26) (.t 24),Sb⟩]) (.seq (.reg [⟨Sa 27,.loadn 23 (.t 2),Sb⟩,⟨Sb,.store 23 (.t 4) (.t 27),Sb⟩]) (.ret))) (.skip))) (.seq (.drw [⟨Sa 28,.loadn 7 (.t 5),Sb⟩,⟨Sa 29,.fad 22 (.t 2),Sb⟩,⟨Sa 30,.load1 (.t 29),Sb⟩,⟨Sa 31,.loadn 7 (.t 5),Sb⟩,⟨Sa 32,.bslice 1 [.s [],.i .i64 0,.s [],.s [],.s [],.b false,.b false] [(0,(7,.t 31))],Sb⟩,⟨Sa 33,.app 35 7 80 (.t 30) (.t 32),Sb⟩,⟨Sa 34,.fad 7 (.t 2),Sb⟩,⟨Sa 35,.load1 (.t 34),Sb⟩,⟨Sa 36,.bin .add (.t 35) (.c (.i .i64 1)),Sb⟩,⟨Sa 37,.fad 0 (.t 2),Sb⟩,⟨Sb,.store 7 (.t 37) (.t 28),Sb⟩,⟨Sa 38,.fad 22 (.t 2),Sb⟩,⟨Sb,.store 1 (.t 38) (.t 33),Sb⟩,⟨Sa 39,.fad 7 (.t 2),Sb⟩,⟨Sb,.store 1 (.t 39) (.t 36),Sb⟩] 15 [(5,(33,none)),(34,(33,none))]) (.seq (.reg [⟨Sa 40,.loadn 23 (.t 2),Sb⟩,⟨Sb,.store 23 (.t 4) (.t 40),Sb⟩]) (.ret))))))
theorem is_fetch_follow:FnIs Tryz.prog 57 41 [.celln 4 23] c_fetch_follow:=⟨⟨_,_,Tryz.func57,rfl,rfl,by kernel_rfl,by kernel_rfl⟩⟩
def c_body_Read:SCode :=.seq (.reg [⟨Sa 3,.box 48 (.t 0),Sb⟩,⟨Sa 6,.mv (.c (.s [])),Sb⟩,⟨Sa 7,.mv (.c (.i .i64 0)),Sb⟩]) (.seq (.seq (.reg [⟨Sa 12,.mv (.t 2),Sb⟩,⟨Sa 13,.bin .lss (.t 12) (.c (.i .i64 0)),Sb⟩]) (.cond (.t 13) (.seq (.reg [⟨Sa 6,.mv (.c (.s [])),Sb⟩,⟨Sa 7,.mv (.c (.i .i64 4)),Sb⟩]) (.ret)) (.skip))) (.seq (.seq (.reg [⟨Sa 14,.fad 1 (.t 3),Sb⟩,⟨Sa 15,.load1 (.t 14),Sb⟩,⟨Sa 16,.call 118 [.t 15],Sb⟩]) (.cond (.t 16) (.seq (.reg [⟨Sa 6,.mv (.c (.s [])),Sb⟩,⟨Sa 7,.mv (.c (.i .i64 0)),Sb⟩]) (.ret)) (.skip))) (.seq (.reg [⟨Sa 18,.loadn 3 (.t 3),Sb⟩,⟨Sa 19,.call 119 [.t 18,.c (.s [116,114,97,110,115,102,101,114,45,101,110,99,111,100,105,110,103])],Sb⟩,⟨Sa 17,.mv (.t 19),Sb⟩,⟨Sa 20,.ext (.t 17) 0,Sb⟩,⟨Sa 21,.ext (.t 17) 1,Sb⟩,⟨Sa 8,.mv (.t 20),Sb⟩,⟨Sa 9,.mv (.t 21),Sb⟩]) (.seq (.reg [⟨Sa 23,.loadn 3 (.t 3),Sb⟩,⟨Sa 24,.call 119 [.t 23,.c (.s [99,111,110,116,101,110,116,45,108,101,110,103,116,104])],Sb⟩,⟨Sa 22,.mv (.t 24),Sb⟩,⟨Sa 25,.ext (.t 22) 0,Sb⟩,⟨Sa 26,.ext (.t 22) 1,Sb⟩,⟨Sa 10,.mv (.t 25),Sb⟩,⟨Sa 11,.mv (.t 26),Sb⟩]) (.seq (.blk 0 (.seq (.reg [⟨Sa 28,.mv (.t 9),Sb⟩,⟨Sa 29,.mv (.t 28),Sb⟩,⟨Sa 30,.mv (.t 11),some (29,true)⟩,⟨Sa 31,.mv (.t 30),some (29,true)⟩,⟨Sa 32,.mv (.t 8),some (31,false)⟩,⟨Sa 33,.call 120 [.t 32],some (31,false)⟩,⟨Sa 34,.bin .neq (.t 33) (.c (.s [99,104,117,110,107,101,100])),some (31,false)⟩,⟨Sa 35,.pick (.t 31) (.c (.b true)) (.t 34),some (29,true)⟩,⟨Sa 36,.pick (.t 29) (.t 35) (.c (.b false)),Sb⟩,⟨Sa 27,.mv (.t 36),Sb⟩]) (.cond (.t 27) (.seq (.reg [⟨Sa 6,.mv (.c (.s [])),Sb⟩,⟨Sa 7,.mv (.c (.i .i64 190)),Sb⟩]) (.ret)) (.seq (.reg [⟨Sa 38,.mv (.t 9),Sb⟩,⟨Sa 37,.mv (.t 38),Sb⟩]) (.cond (.t 37) (.seq (.reg [⟨Sa 39,.mv (.t 1),Sb⟩,⟨Sa 40,.mv (.t 2),Sb⟩,⟨Sa 41,.call 121 [.t 39,.t 40],Sb⟩,⟨Sa 42,.ext (.t 41) 0,Sb⟩,⟨Sa 43,.ext (.t 41) 1,Sb⟩,⟨Sa 6,.mv (.t 42),Sb⟩,⟨Sa 7,.mv (.t 43),Sb⟩]) (.ret)) (.seq (.reg [⟨Sa 45,.mv (.t 11),Sb⟩,⟨Sa 44,.mv (.t 45),Sb⟩]) (.cond (.t 44) (.seq (.reg [⟨Sa 46,.mv (.t 10),Sb⟩,⟨Sa 47,.mv (.t 1),Sb⟩,⟨Sa 48,.mv (.t 2),Sb⟩,⟨Sa 49,.call 122 [.t 46,.t 47,.t 48],Sb⟩,⟨Sa 50,.ext (.t 49) 0,Sb⟩,⟨Sa 51,.ext (.t 49) 1,Sb⟩,⟨Sa 6,.mv (.t 50),Sb⟩,⟨Sa 7,.mv (.t 51),Sb⟩]) (.ret)) (.seq (.reg [⟨Sa 53,.mv (.t 1),Sb⟩,⟨Sa 54,.lens (.t 53),Sb⟩,⟨Sa 55,.mv (.t 2),Sb⟩,⟨Sa 56,.bin .gtr (.t 54) (.t 55),Sb⟩,⟨Sa 52,.mv (.t 56),Sb⟩]) (.cond (.t 52) (.seq (.reg [⟨Sa 6,.mv (.c (.s [])),Sb⟩,⟨Sa 7,.mv (.c (.i .i64 142)),Sb⟩]) (.ret)) (.skip)))))))))) (.seq (.reg [⟨Sa 57,.mv (.t 1),Sb⟩,⟨Sa 6,.mv (.t 57),Sb⟩,⟨Sa 7,.mv (.c (.i .i64 0)),Sb⟩]) (.ret)))))))
theorem is_body_Read:FnIs Tryz.prog 58 58 [.tmp 6,.tmp 7] c_body_Read:=⟨⟨_,_,Tryz.func58,rfl,rfl,by kernel_rfl,by kernel_rfl⟩⟩
def c_fetch_note:SCode :=.seq (.reg [⟨Sa 3,.box 58 (.t 0),Sb⟩,⟨Sa 6,.alloc 58 [.s [],.i .i64 0,.s [],.s [],.s [],.b false,.b false,.i .i64 0,.b false,.i .i64 0,.s [],.i .i64 0,.s [],.s [],.s [],.b false,.b false,.i .i64 0,.i .i64 0,.nil,.s [],.nil,.nil],Sb⟩]) (.seq (.reg [⟨Sa 7,.fad 10 (.t 3),Sb⟩,⟨Sa 8,.fad 11 (.t 7),Sb⟩,⟨Sa 9,.load1 (.t 8),Sb⟩,⟨Sa 10,.fad 0 (.t 3),Sb⟩,⟨Sa 11,.loadn 7 (.t 10),Sb⟩,⟨Sa 12,.mv (.t 1),Sb⟩,⟨Sa 13,.mv (.t 2),Sb⟩,⟨Sa 14,.build [.s [],.i .i64 0,.s [],.s [],.s [],.b false,.b false,.i .i64 0,.i .i64 0] [(0,(7,.t 11)),(7,(1,.t 12)),(8,(1,.t 13))],Sb⟩,⟨Sa 15,.bslice 1 [.s [],.i .i64 0,.s [],.s [],.s [],.b false,.b false,.i .i64 0,.i .i64 0] [(0,(9,.t 14))],Sb⟩,⟨Sa 16,.app 62 9 96 (.t 9) (.t 15),Sb⟩,⟨Sa 17,.fad 10 (.t 3),Sb⟩,⟨Sa 18,.fad 11 (.t 17),Sb⟩,⟨Sb,.store 1 (.t 18) (.t 16),Sb⟩]) (.seq (.reg [⟨Sa 19,.loadn 23 (.t 3),Sb⟩,⟨Sb,.store 23 (.t 6) (.t 19),Sb⟩]) (.ret)))
theorem is_fetch_note:FnIs Tryz.prog 59 20 [.celln 6 23] c_fetch_note:=⟨⟨_,_,Tryz.func59,rfl,rfl,by kernel_rfl,by kernel_rfl⟩⟩
def c_ref07_Origin:SCode :=.seq (.reg [⟨Sa 1,.box 35 (.t 0),Sb⟩,⟨Sa 2,.alloc 24 [.s [],.i .i64 0],Sb⟩]) (.seq (.reg [⟨Sa 3,.fad 0 (.t 1),Sb⟩,⟨Sa 4,.load1 (.t 3),Sb⟩,⟨Sa 5,.fad 1 (.t 1),Sb⟩,⟨Sa 6,.load1 (.t 5),Sb⟩,⟨Sa 7,.build [.s [],.i .i64 0] [(0,(1,.t 4)),(1,(1,.t 6))],Sb⟩,⟨Sb,.store 2 (.t 2) (.t 7),Sb⟩]) (.ret))
theorem is_ref07_Origin:FnIs Tryz.prog 60 8 [.celln 2 2] c_ref07_Origin:=⟨⟨_,_,Tryz.func60,rfl,rfl,by kernel_rfl,by kernel_rfl⟩⟩
def c_ref18_Format:SCode :=.seq (.reg [⟨Sa 1,.box 48 (.t 0),Sb⟩,⟨Sa 2,.mv (.c (.s [])),Sb⟩]) (.seq (.reg [⟨Sa 3,.mv (.c (.s [49])),Sb⟩]) (.seq (.seq (.reg [⟨Sa 7,.fad 0 (.t 1),Sb⟩,⟨Sa 8,.load1 (.t 7),Sb⟩,⟨Sa 9,.bin .eql (.t 8) (.c (.i .i64 0)),Sb⟩]) (.cond (.t 9) (.reg [⟨Sa 3,.mv (.c (.s [48])),Sb⟩]) (.skip))) (.seq (.reg [⟨Sa 10,.mv (.t 3),Sb⟩,⟨Sa 11,.bin .add (.c (.s [72,84,84,80,47,49,46])) (.t 10),Sb⟩,⟨Sa 12,.bin .add (.t 11) (.c (.s [32])),Sb⟩,⟨Sa 13,.fad 1 (.t 1),Sb⟩,⟨Sa 14,.load1 (.t 13),Sb⟩,⟨Sa 15,.call 123 [.t 14],Sb⟩,⟨Sa 16,.bin .add (.t 12) (.t 15),Sb⟩,⟨Sa 17,.bin .add (.t 16) (.c (.s [32,45,13,10])),Sb⟩,⟨Sa 4,.mv (.t 17),Sb⟩]) (.seq (.seq (.reg [⟨Sa 18,.fad 2 (.t 1),Sb⟩,⟨Sa 19,.load1 (.t 18),Sb⟩,⟨Sa 20,.lenr (.t 19),Sb⟩,⟨Sa 21,.mv (.c (.i .i64 0)),Sb⟩]) (.blk 0 (.loop (.seq (.reg [⟨Sa 22,.bin .lss (.t 21) (.t 20),Sb⟩]) (.seq (.cond (.t 22) (.skip) (.exit 0)) (.seq (.blk 1 (.seq (.reg [⟨Sa 23,.iad 2 (.t 19) (.t 21),Sb⟩,⟨Sa 24,.loadn 2 (.t 23),Sb⟩,⟨Sa 6,.alloc 74 [.s [],.s []],Sb⟩,⟨Sb,.store 2 (.t 6) (.t 24),Sb⟩]) (.reg [⟨Sa 25,.mv (.t 4),Sb⟩,⟨Sa 26,.fad 0 (.t 6),Sb⟩,⟨Sa 27,.load1 (.t 26),Sb⟩,⟨Sa 28,.bin .add (.t 27) (.c (.s [58,32])),Sb⟩,⟨Sa 29,.fad 1 (.t 6),Sb⟩,⟨Sa 30,.load1 (.t 29),Sb⟩,⟨Sa 31,.bin .add (.t 28) (.t 30),Sb⟩,⟨Sa 32,.bin .add (.t 31) (.c (.s [13,10])),Sb⟩,⟨Sa 33,.bin .add (.t 25) (.t 32),Sb⟩,⟨Sa 4,.mv (.t 33),Sb⟩]))) (.reg [⟨Sa 34,.bin .add (.t 21) (.c (.i .i64 1)),Sb⟩,⟨Sa 21,.mv (.t 34),Sb⟩]))))))) (.seq (.reg [⟨Sa 35,.mv (.t 4),Sb⟩,⟨Sa 36,.bin .add (.t 35) (.c (.s [13,10])),Sb⟩,⟨Sa 2,.mv (.t 36),Sb⟩]) (.ret))))))
theorem is_ref18_Format:FnIs Tryz.prog 61 37 [.tmp 2] c_ref18_Format:=⟨⟨_,_,Tryz.func61,rfl,rfl,by kernel_rfl,by kernel_rfl⟩⟩
def c_ref19_Encode:SCode :=.seq (.reg [⟨Sa 4,.mv (.c (.s [])),Sb⟩]) (.seq (.reg [⟨Sa 5,.mv (.c (.s [])),Sb⟩]) (.seq (.blk 0 (.loop (.seq (.seq (.reg [⟨Sa 7,.mv (.t 0),Sb⟩,⟨Sa 8,.bin .neq (.t 7) (.c (.s [])),Sb⟩]) (.cond (.t 8) (.skip) (.exit 0))) (.blk 1 (.seq (.reg [⟨Sa 9,.mv (.t 1),Sb⟩,⟨Sa 10,.pu .mx [.c (.i .i64 1),.t 9],Sb⟩,⟨Sa 11,.mv (.t 0),Sb⟩,⟨Sa 12,.lens (.t 11),Sb⟩,⟨Sa 13,.pu .mn [.t 10,.t 12],Sb⟩,⟨Sa 6,.mv (.t 13),Sb⟩]) (.drw [⟨Sa 14,.mv (.t 5),Sb⟩,⟨Sa 15,.mv (.t 6),Sb⟩,⟨Sa 16,.call 124 [.t 15],Sb⟩,⟨Sa 17,.bin .add (.t 14) (.t 16),Sb⟩,⟨Sa 18,.bin .add (.t 17) (.c (.s [13,10])),Sb⟩,⟨Sa 19,.mv (.t 0),Sb⟩,⟨Sa 20,.mv (.t 6),Sb⟩,⟨Sa 21,.slcs (.t 19) none (some (.t 20)),Sb⟩,⟨Sa 22,.bin .add (.t 18) (.t 21),Sb⟩,⟨Sa 23,.bin .add (.t 22) (.c (.s [13,10])),Sb⟩,⟨Sa 24,.mv (.t 0),Sb⟩,⟨Sa 25,.mv (.t 6),Sb⟩,⟨Sa 26,.slcs (.t 24) (some (.t 25)) none,Sb⟩,⟨Sa 5,.mv (.t 23),Sb⟩,⟨Sa 0,.mv (.t 26),Sb⟩] 15 [])))))) (.seq (.reg [⟨Sa 27,.mv (.t 5),Sb⟩,⟨Sa 28,.bin .add (.t 27) (.c (.s [48,13,10,13,10])),Sb⟩,⟨Sa 4,.mv (.t 28),Sb⟩]) (.ret))))
theorem is_ref19_Encode:FnIs Tryz.prog 62 29 [.tmp 4] c_ref19_Encode:=⟨⟨_,_,Tryz.func62,rfl,rfl,by kernel_rfl,by kernel_rfl⟩⟩
def c_made_decimal:SCode :=.seq (.reg [⟨Sa 2,.mv (.c (.s [])),Sb⟩]) (.seq (.reg [⟨Sa 3,.mv (.c (.s [])),Sb⟩]) (.blk 0 (.loop (.blk 1 (.seq (.reg [⟨Sa 4,.mv (.t 0),Sb⟩,⟨Sa 5,.bin .rem (.t 4) (.c (.i .i64 10)),Sb⟩,⟨Sa 6,.bin .add (.c (.i .i64 48)) (.t 5),Sb⟩,⟨Sa 7,.cvi .u8 (.t 6),Sb⟩,⟨Sa 8,.bslice 1 [.i .u8 0] [(0,(1,.t 7))],Sb⟩,⟨Sa 9,.cvbs (.t 8),Sb⟩,⟨Sa 10,.mv (.t 3),Sb⟩,⟨Sa 11,.bin .add (.t 9) (.t 10),Sb⟩,⟨Sa 3,.mv (.t 11),Sb⟩]) (.seq (.reg [⟨Sa 12,.mv (.t 0),Sb⟩,⟨Sa 13,.bin .quo (.t 12) (.c (.i .i64 10)),Sb⟩,⟨Sa 0,.mv (.t 13),Sb⟩]) (.seq (.reg [⟨Sa 14,.mv (.t 0),Sb⟩,⟨Sa 15,.bin .eql (.t 14) (.c (.i .i64 0)),Sb⟩]) (.cond (.t 15) (.seq (.reg [⟨Sa 16,.mv (.t 3),Sb⟩,⟨Sa 2,.mv (.t 16),Sb⟩]) (.ret)) (.skip)))))))))
theorem is_made_decimal:FnIs Tryz.prog 63 17 [.tmp 2] c_made_decimal:=⟨⟨_,_,Tryz.func63,rfl,rfl,by kernel_rfl,by kernel_rfl⟩⟩
def c_ref05_Format:SCode :=.seq (.reg [⟨Sa 1,.box 24 (.t 0),Sb⟩,⟨Sa 2,.mv (.c (.s [])),Sb⟩]) (.seq (.seq (.reg [⟨Sa 3,.fad 1 (.t 1),Sb⟩,⟨Sa 4,.load1 (.t 3),Sb⟩,⟨Sa 5,.bin .eql (.t 4) (.c (.i .i64 0)),Sb⟩]) (.cond (.t 5) (.seq (.reg [⟨Sa 6,.fad 0 (.t 1),Sb⟩,⟨Sa 7,.load1 (.t 6),Sb⟩,⟨Sa 2,.mv (.t 7),Sb⟩]) (.ret)) (.skip))) (.seq (.drw [⟨Sa 8,.fad 0 (.t 1),Sb⟩,⟨Sa 9,.load1 (.t 8),Sb⟩,⟨Sa 10,.bin .add (.t 9) (.c (.s [58])),Sb⟩,⟨Sa 11,.fad 1 (.t 1),Sb⟩,⟨Sa 12,.load1 (.t 11),Sb⟩,⟨Sa 13,.call 123 [.t 12],Sb⟩,⟨Sa 14,.bin .add (.t 10) (.t 13),Sb⟩,⟨Sa 2,.mv (.t 14),Sb⟩] 8 []) (.ret)))
theorem is_ref05_Format:FnIs Tryz.prog 64 15 [.tmp 2] c_ref05_Format:=⟨⟨_,_,Tryz.func64,rfl,rfl,by kernel_rfl,by kernel_rfl⟩⟩
def c_ref07_Target:SCode :=.seq (.reg [⟨Sa 1,.box 35 (.t 0),Sb⟩,⟨Sa 2,.mv (.c (.s [])),Sb⟩]) (.seq (.seq (.reg [⟨Sa 3,.fad 5 (.t 1),Sb⟩,⟨Sa 4,.load1 (.t 3),Sb⟩]) (.cond (.t 4) (.seq (.reg [⟨Sa 5,.fad 2 (.t 1),Sb⟩,⟨Sa 6,.load1 (.t 5),Sb⟩,⟨Sa 7,.bin .add (.t 6) (.c (.s [63])),Sb⟩,⟨Sa 8,.fad 3 (.t 1),Sb⟩,⟨Sa 9,.load1 (.t 8),Sb⟩,⟨Sa 10,.bin .add (.t 7) (.t 9),Sb⟩,⟨Sa 2,.mv (.t 10),Sb⟩]) (.ret)) (.skip))) (.seq (.reg [⟨Sa 11,.fad 2 (.t 1),Sb⟩,⟨Sa 12,.load1 (.t 11),Sb⟩,⟨Sa 2,.mv (.t 12),Sb⟩]) (.ret)))
theorem is_ref07_Target:FnIs Tryz.prog 65 13 [.tmp 2] c_ref07_Target:=⟨⟨_,_,Tryz.func65,rfl,rfl,by kernel_rfl,by kernel_rfl⟩⟩
def c_host_Format:SCode :=.seq (.reg [⟨Sa 1,.box 24 (.t 0),Sb⟩,⟨Sa 2,.mv (.c (.s [])),Sb⟩]) (.seq (.seq (.reg [⟨Sa 3,.fad 1 (.t 1),Sb⟩,⟨Sa 4,.load1 (.t 3),Sb⟩,⟨Sa 5,.bin .eql (.t 4) (.c (.i .i64 0)),Sb⟩]) (.cond (.t 5) (.seq (.reg [⟨Sa 6,.fad 0 (.t 1),Sb⟩,⟨Sa 7,.load1 (.t 6),Sb⟩,⟨Sa 2,.mv (.t 7),Sb⟩]) (.ret)) (.skip))) (.seq (.drw [⟨Sa 8,.fad 0 (.t 1),Sb⟩,⟨Sa 9,.load1 (.t 8),Sb⟩,⟨Sa 10,.bin .add (.t 9) (.c (.s [58])),Sb⟩,⟨Sa 11,.fad 1 (.t 1),Sb⟩,⟨Sa 12,.load1 (.t 11),Sb⟩,⟨Sa 13,.call 128 [.t 12],Sb⟩,⟨Sa 14,.bin .add (.t 10) (.t 13),Sb⟩,⟨Sa 2,.mv (.t 14),Sb⟩] 8 []) (.ret)))
theorem is_host_Format:FnIs Tryz.prog 67 15 [.tmp 2] c_host_Format:=⟨⟨_,_,Tryz.func67,rfl,rfl,by kernel_rfl,by kernel_rfl⟩⟩
def c_weburl_Parse:SCode :=.seq (.reg [⟨Sa 2,.alloc 35 [.s [],.i .i64 0,.s [],.s [],.s [],.b false,.b false],Sb⟩,⟨Sa 3,.mv (.c (.i .i64 0)),Sb⟩]) (.seq (.seq (.reg [⟨Sa 8,.mv (.t 0),Sb⟩,⟨Sa 9,.lens (.t 8),Sb⟩,⟨Sa 10,.bin .gtr (.t 9) (.c (.i .i64 4096)),Sb⟩]) (.cond (.t 10) (.seq (.reg [⟨Sa 11,.build [.s [],.i .i64 0,.s [],.s [],.s [],.b false,.b false] [],Sb⟩,⟨Sb,.store 7 (.t 2) (.t 11),Sb⟩,⟨Sa 3,.mv (.c (.i .i64 5)),Sb⟩]) (.ret)) (.skip))) (.seq (.reg [⟨Sa 13,.mv (.t 0),Sb⟩,⟨Sa 14,.call 167 [.t 13],Sb⟩,⟨Sa 12,.mv (.t 14),Sb⟩,⟨Sa 15,.ext (.t 12) 0,Sb⟩,⟨Sa 16,.ext (.t 12) 1,Sb⟩,⟨Sa 4,.alloc 88 [.s [],.s [],.s [],.s [],.s [],.b false,.b false,.b false,.b false],Sb⟩,⟨Sb,.store 9 (.t 4) (.t 15),Sb⟩,⟨Sa 5,.mv (.t 16),Sb⟩]) (.seq (.seq (.reg [⟨Sa 17,.mv (.t 5),Sb⟩,⟨Sa 18,.bin .neq (.t 17) (.c (.i .i64 0)),Sb⟩]) (.cond (.t 18) (.seq (.reg [⟨Sa 19,.build [.s [],.i .i64 0,.s [],.s [],.s [],.b false,.b false] [],Sb⟩,⟨Sa 20,.mv (.t 5),Sb⟩,⟨Sb,.store 7 (.t 2) (.t 19),Sb⟩,⟨Sa 3,.mv (.t 20),Sb⟩]) (.ret)) (.skip))) (.seq (.reg [⟨Sa 22,.loadn 9 (.t 4),Sb⟩,⟨Sa 23,.call 168 [.t 22],Sb⟩,⟨Sa 21,.mv (.t 23),Sb⟩,⟨Sa 24,.ext (.t 21) 0,Sb⟩,⟨Sa 25,.ext (.t 21) 1,Sb⟩,⟨Sa 6,.alloc 24 [.s [],.i .i64 0],Sb⟩,⟨Sb,.store 2 (.t 6) (.t 24),Sb⟩,⟨Sa 5,.mv (.t 25),Sb⟩]) (.seq (.seq (.reg [⟨Sa 26,.mv (.t 5),Sb⟩,⟨Sa 27,.bin .neq (.t 26) (.c (.i .i64 0)),Sb⟩]) (.cond (.t 27) (.seq (.reg [⟨Sa 28,.build [.s [],.i .i64 0,.s [],.s [],.s [],.b false,.b false] [],Sb⟩,⟨Sa 29,.mv (.t 5),Sb⟩,⟨Sb,.store 7 (.t 2) (.t 28),Sb⟩,⟨Sa 3,.mv (.t 29),Sb⟩]) (.ret)) (.skip))) (.seq (.reg [⟨Sa 31,.loadn 9 (.t 4),Sb⟩,⟨Sa 32,.call 169 [.t 31],Sb⟩,⟨Sa 30,.mv (.t 32),Sb⟩,⟨Sa 33,.ext (.t 30) 0,Sb⟩,⟨Sa 34,.ext (.t 30) 1,Sb⟩,⟨Sa 7,.alloc 35 [.s [],.i .i64 0,.s [],.s [],.s [],.b false,.b false],Sb⟩,⟨Sb,.store 7 (.t 7) (.t 33),Sb⟩,⟨Sa 5,.mv (.t 34),Sb⟩]) (.seq (.seq (.reg [⟨Sa 35,.mv (.t 5),Sb⟩,⟨Sa 36,.bin .neq (.t 35) (.c (.i .i64 0)),Sb⟩]) (.cond (.t 36) (.seq (.reg [⟨Sa 37,.build [.s [],.i .i64 0,.s [],.s [],.s [],.b false,.b false] [],Sb⟩,⟨Sa 38,.mv (.t 5),Sb⟩,⟨Sb,.store 7 (.t 2) (.t 37),Sb⟩,⟨Sa 3,.mv (.t 38),Sb⟩]) (.ret)) (.skip))) (.seq (.drw [⟨Sa 39,.fad 0 (.t 6),Sb⟩,⟨Sa 40,.load1 (.t 39),Sb⟩,⟨Sa 41,.fad 1 (.t 6),Sb⟩,⟨Sa 42,.load1 (.t 41),Sb⟩,⟨Sa 43,.fad 0 (.t 7),Sb⟩,⟨Sb,.store 1 (.t 43) (.t 40),Sb⟩,⟨Sa 44,.fad 1 (.t 7),Sb⟩,⟨Sb,.store 1 (.t 44) (.t 42),Sb⟩] 8 [(41,(43,none))]) (.seq (.seq (.reg [⟨Sa 45,.loadn 7 (.t 7),Sb⟩,⟨Sa 46,.call 103 [.t 45],Sb⟩,⟨Sa 47,.lens (.t 46),Sb⟩,⟨Sa 48,.bin .gtr (.t 47) (.c (.i .i64 4096)),Sb⟩]) (.cond (.t 48) (.seq (.reg [⟨Sa 49,.build [.s [],.i .i64 0,.s [],.s [],.s [],.b false,.b false] [],Sb⟩,⟨Sb,.store 7 (.t 2) (.t 49),Sb⟩,⟨Sa 3,.mv (.c (.i .i64 5)),Sb⟩]) (.ret)) (.skip))) (.seq (.reg [⟨Sa 50,.loadn 7 (.t 7),Sb⟩,⟨Sb,.store 7 (.t 2) (.t 50),Sb⟩,⟨Sa 3,.mv (.c (.i .i64 0)),Sb⟩]) (.ret)))))))))))
theorem is_weburl_Parse:FnIs Tryz.prog 102 51 [.celln 2 7,.tmp 3] c_weburl_Parse:=⟨⟨_,_,Tryz.func102,rfl,rfl,by kernel_rfl,by kernel_rfl⟩⟩
def c_weburl_Format:SCode :=.seq (.reg [⟨Sa 1,.box 35 (.t 0),Sb⟩,⟨Sa 2,.mv (.c (.s [])),Sb⟩]) (.seq (.drw [⟨Sa 4,.loadn 7 (.t 1),Sb⟩,⟨Sa 5,.call 43 [.t 4],Sb⟩,⟨Sa 6,.call 67 [.t 5],Sb⟩,⟨Sa 7,.bin .add (.c (.s [104,116,116,112,115,58,47,47])) (.t 6),Sb⟩,⟨Sa 8,.loadn 7 (.t 1),Sb⟩,⟨Sa 9,.call 44 [.t 8],Sb⟩,⟨Sa 10,.bin .add (.t 7) (.t 9),Sb⟩,⟨Sa 3,.mv (.t 10),Sb⟩] 8 []) (.seq (.seq (.reg [⟨Sa 11,.fad 6 (.t 1),Sb⟩,⟨Sa 12,.load1 (.t 11),Sb⟩]) (.cond (.t 12) (.reg [⟨Sa 13,.mv (.t 3),Sb⟩,⟨Sa 14,.fad 4 (.t 1),Sb⟩,⟨Sa 15,.load1 (.t 14),Sb⟩,⟨Sa 16,.bin .add (.c (.s [35])) (.t 15),Sb⟩,⟨Sa 17,.bin .add (.t 13) (.t 16),Sb⟩,⟨Sa 3,.mv (.t 17),Sb⟩]) (.skip))) (.seq (.reg [⟨Sa 18,.mv (.t 3),Sb⟩,⟨Sa 2,.mv (.t 18),Sb⟩]) (.ret))))
theorem is_weburl_Format:FnIs Tryz.prog 103 19 [.tmp 2] c_weburl_Format:=⟨⟨_,_,Tryz.func103,rfl,rfl,by kernel_rfl,by kernel_rfl⟩⟩
def c_slices_Clone__api_URL_api_URL:SCode :=.seq (.reg [⟨Sa 2,.mv (.c .nil),Sb⟩]) (.seq (.seq (.reg [⟨Sa 3,.mv (.t 0),Sb⟩,⟨Sa 4,.pu (.snil false) [.t 3,.c .nil],Sb⟩]) (.cond (.t 4) (.seq (.reg [⟨Sa 2,.mv (.c .nil),Sb⟩]) (.ret)) (.skip))) (.seq (.reg [⟨Sa 5,.mks 35 7 1 (.c (.i .i64 0)) (.c (.i .i64 0)),Sb⟩,⟨Sa 6,.mv (.t 0),Sb⟩,⟨Sa 7,.app 35 7 80 (.t 5) (.t 6),Sb⟩,⟨Sa 2,.mv (.t 7),Sb⟩]) (.ret)))
theorem is_slices_Clone__api_URL_api_URL:FnIs Tryz.prog 110 8 [.tmp 2] c_slices_Clone__api_URL_api_URL:=⟨⟨_,_,Tryz.func110,rfl,rfl,by kernel_rfl,by kernel_rfl⟩⟩
def c_slices_Clone__api_Field_api_Field:SCode :=.seq (.reg [⟨Sa 2,.mv (.c .nil),Sb⟩]) (.seq (.seq (.reg [⟨Sa 3,.mv (.t 0),Sb⟩,⟨Sa 4,.pu (.snil false) [.t 3,.c .nil],Sb⟩]) (.cond (.t 4) (.seq (.reg [⟨Sa 2,.mv (.c .nil),Sb⟩]) (.ret)) (.skip))) (.seq (.reg [⟨Sa 5,.mks 74 2 1 (.c (.i .i64 0)) (.c (.i .i64 0)),Sb⟩,⟨Sa 6,.mv (.t 0),Sb⟩,⟨Sa 7,.app 74 2 32 (.t 5) (.t 6),Sb⟩,⟨Sa 2,.mv (.t 7),Sb⟩]) (.ret)))
theorem is_slices_Clone__api_Field_api_Field:FnIs Tryz.prog 111 8 [.tmp 2] c_slices_Clone__api_Field_api_Field:=⟨⟨_,_,Tryz.func111,rfl,rfl,by kernel_rfl,by kernel_rfl⟩⟩
def c_slices_Clone__api_Exchange_api_Exchange:SCode :=.seq (.reg [⟨Sa 2,.mv (.c .nil),Sb⟩]) (.seq (.seq (.reg [⟨Sa 3,.mv (.t 0),Sb⟩,⟨Sa 4,.pu (.snil false) [.t 3,.c .nil],Sb⟩]) (.cond (.t 4) (.seq (.reg [⟨Sa 2,.mv (.c .nil),Sb⟩]) (.ret)) (.skip))) (.seq (.reg [⟨Sa 5,.mks 62 9 1 (.c (.i .i64 0)) (.c (.i .i64 0)),Sb⟩,⟨Sa 6,.mv (.t 0),Sb⟩,⟨Sa 7,.app 62 9 96 (.t 5) (.t 6),Sb⟩,⟨Sa 2,.mv (.t 7),Sb⟩]) (.ret)))
theorem is_slices_Clone__api_Exchange_api_Exchange:FnIs Tryz.prog 112 8 [.tmp 2] c_slices_Clone__api_Exchange_api_Exchange:=⟨⟨_,_,Tryz.func112,rfl,rfl,by kernel_rfl,by kernel_rfl⟩⟩
def c_head_statusLine:SCode :=.seq (.reg [⟨Sa 2,.alloc 48 [.i .i64 0,.i .i64 0,.nil],Sb⟩,⟨Sa 3,.mv (.c (.b false)),Sb⟩]) (.seq (.reg [⟨Sa 15,.mv (.t 0),Sb⟩,⟨Sa 16,.call 125 [.t 15,.c (.s [32])],Sb⟩,⟨Sa 14,.mv (.t 16),Sb⟩,⟨Sa 17,.ext (.t 14) 0,Sb⟩,⟨Sa 18,.ext (.t 14) 1,Sb⟩,⟨Sa 19,.ext (.t 14) 2,Sb⟩,⟨Sa 4,.mv (.t 17),Sb⟩,⟨Sa 5,.mv (.t 18),Sb⟩,⟨Sa 6,.mv (.t 19),Sb⟩]) (.seq (.reg [⟨Sa 21,.mv (.t 5),Sb⟩,⟨Sa 22,.call 125 [.t 21,.c (.s [32])],Sb⟩,⟨Sa 20,.mv (.t 22),Sb⟩,⟨Sa 23,.ext (.t 20) 0,Sb⟩,⟨Sa 24,.ext (.t 20) 1,Sb⟩,⟨Sa 25,.ext (.t 20) 2,Sb⟩,⟨Sa 7,.mv (.t 23),Sb⟩,⟨Sa 8,.mv (.t 24),Sb⟩,⟨Sa 9,.mv (.t 25),Sb⟩]) (.seq (.reg [⟨Sa 27,.mv (.t 7),Sb⟩,⟨Sa 28,.call 181 [.t 27,.c (.i .u64 599)],Sb⟩,⟨Sa 26,.mv (.t 28),Sb⟩,⟨Sa 29,.ext (.t 26) 0,Sb⟩,⟨Sa 30,.ext (.t 26) 1,Sb⟩,⟨Sa 10,.mv (.t 29),Sb⟩,⟨Sa 11,.mv (.t 30),Sb⟩]) (.seq (.reg [⟨Sa 31,.mv (.t 11),Sb⟩,⟨Sa 32,.bin .eql (.t 31) (.c (.i .i64 0)),Sb⟩,⟨Sa 33,.mv (.t 32),Sb⟩,⟨Sa 34,.mv (.t 7),some (33,true)⟩,⟨Sa 35,.lens (.t 34),some (33,true)⟩,⟨Sa 36,.bin .eql (.t 35) (.c (.i .i64 3)),some (33,true)⟩,⟨Sa 37,.pick (.t 33) (.t 36) (.c (.b false)),Sb⟩,⟨Sa 38,.mv (.t 37),Sb⟩,⟨Sa 39,.mv (.t 10),some (38,true)⟩,⟨Sa 40,.bin .geq (.t 39) (.c (.i .u64 100)),some (38,true)⟩,⟨Sa 41,.pick (.t 38) (.t 40) (.c (.b false)),Sb⟩,⟨Sa 12,.mv (.t 41),Sb⟩]) (.seq (.seq (.reg [⟨Sa 42,.mv (.t 12),Sb⟩,⟨Sa 43,.not (.t 42),Sb⟩,⟨Sa 44,.mv (.t 43),Sb⟩,⟨Sa 45,.mv (.t 9),some (44,false)⟩,⟨Sa 46,.not (.t 45),some (44,false)⟩,⟨Sa 47,.pick (.t 44) (.c (.b true)) (.t 46),Sb⟩,⟨Sa 48,.mv (.t 47),Sb⟩,⟨Sa 49,.mv (.t 8),some (48,false)⟩,⟨Sa 50,.call 182 [.t 49],some (48,false)⟩,⟨Sa 51,.not (.t 50),some (48,false)⟩,⟨Sa 52,.pick (.t 48) (.c (.b true)) (.t 51),Sb⟩]) (.cond (.t 52) (.seq (.reg [⟨Sa 53,.build [.i .i64 0,.i .i64 0,.nil] [],Sb⟩,⟨Sb,.store 3 (.t 2) (.t 53),Sb⟩,⟨Sa 3,.mv (.c (.b false)),Sb⟩]) (.ret)) (.skip))) (.seq (.reg [⟨Sa 54,.mv (.t 10),Sb⟩,⟨Sa 55,.cvi .i64 (.t 54),Sb⟩,⟨Sa 56,.build [.i .i64 0,.i .i64 0,.nil] [(1,(1,.t 55))],Sb⟩,⟨Sa 13,.alloc 48 [.i .i64 0,.i .i64 0,.nil],Sb⟩,⟨Sb,.store 3 (.t 13) (.t 56),Sb⟩]) (.seq (.seq (.reg [⟨Sa 57,.mv (.t 4),Sb⟩]) (.blk 0 (.seq (.reg [⟨Sa 59,.bin .eql (.t 57) (.c (.s [72,84,84,80,47,49,46,48])),Sb⟩,⟨Sa 58,.mv (.t 59),Sb⟩]) (.cond (.t 58) (.seq (.reg [⟨Sa 60,.loadn 3 (.t 13),Sb⟩,⟨Sb,.store 3 (.t 2) (.t 60),Sb⟩,⟨Sa 3,.mv (.c (.b true)),Sb⟩]) (.ret)) (.seq (.reg [⟨Sa 62,.bin .eql (.t 57) (.c (.s [72,84,84,80,47,49,46,49])),Sb⟩,⟨Sa 61,.mv (.t 62),Sb⟩]) (.cond (.t 61) (.seq (.reg [⟨Sa 63,.fad 0 (.t 13),Sb⟩,⟨Sb,.store 1 (.t 63) (.c (.i .i64 1)),Sb⟩]) (.seq (.reg [⟨Sa 64,.loadn 3 (.t 13),Sb⟩,⟨Sb,.store 3 (.t 2) (.t 64),Sb⟩,⟨Sa 3,.mv (.c (.b true)),Sb⟩]) (.ret))) (.skip))))))) (.seq (.reg [⟨Sa 65,.build [.i .i64 0,.i .i64 0,.nil] [],Sb⟩,⟨Sb,.store 3 (.t 2) (.t 65),Sb⟩,⟨Sa 3,.mv (.c (.b false)),Sb⟩]) (.ret)))))))))
theorem is_head_statusLine:FnIs Tryz.prog 115 66 [.celln 2 3,.tmp 3] c_head_statusLine:=⟨⟨_,_,Tryz.func115,rfl,rfl,by kernel_rfl,by kernel_rfl⟩⟩
end Go.Proofs.YtomkbafdmbfmfaaGreatDoor.Sx
