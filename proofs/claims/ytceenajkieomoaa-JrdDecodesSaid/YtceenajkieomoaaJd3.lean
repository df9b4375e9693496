/- The texts that the proofs of these statements reach, in their order, as few files. -/
import Derived.Lib.LaidTab
import Derived.Lib.ItoaNum
import Derived.ChangeAgain
import Derived.Lib.Walk
import Derived.Lib.ItoaWalk
import Derived.Lib.ItoaMem
import Derived.Lib.AppendIntMem
import Derived.BigCall
import Derived.BigGuard
import Derived.Lib.ItoaLen
import Derived.Test.YtceenajkieomoaaProg
import Derived.Laws.BitsAllLaws
import Derived.Laws.BitsLemmas
import Derived.Lib.IndexAny
import Derived.Shelf.Strings.IndexAnyAll
import Derived.Test.YtceenajkieomoaaJd2
set_option linter.unusedVariables false
set_option linter.unusedSimpArgs false
set_option maxRecDepth 100000
namespace Go.Proofs.Ytceenajkieomoaa.Sx
open Go.RowKit
inductive IT where
 | code (c:SCode)
 | ops (l:List SO)
 | dops (l:List SO)
 | ap (l:List (Nat × Nat × Option (Nat × Bool)))
 | blk (id:Nat)
def zeK (P:Program) [Tabs P] (C:Cx) (F:zaG):List IT → zaG
 | [] => F
 | .code c :: k => zd5 (fun o t => wpC P C c (zeK P C F k) o t) (zeK P C F k)
 | .ops l :: k => zd5 (fun o t => wpR P l o t fun o t => zeK P C F k .normal o t) (zeK P C F k)
 | .dops l :: k => zd5 (fun o t => wpD P l o t fun o t => zeK P C F k .normal o t) (zeK P C F k)
 | .ap l :: k => zd5 (fun o t => zeO l t ∧ zeK P C F k .normal o t) (zeK P C F k)
 | .blk id :: k => blkK id (zeK P C F k)
def run (P:Program) [Tabs P] (C:Cx) (k:List IT) (objs:List OB) (tm:List AV) (F:zaG):Prop:=zeK P C F k .normal objs tm
def xit (P:Program) [Tabs P] (C:Cx) (id:Nat) (k:List IT) (objs:List OB) (tm:List AV) (F:zaG):Prop:=zeK P C F k (.exit id) objs tm
def loopF (P:Program) [Tabs P] (C:Cx) (J:Nat → List OB → List AV → Prop) (n:Nat) (k:List IT) (F:zaG):zaG:=zd5 (fun o t => ∃ m,m < n ∧ J m o t) (zeK P C F k)
def evs (tm:List AV):List SV → List AV
 | [] => []
 | x :: xs => x.ev tm :: evs tm xs
theorem zd0 (tm:List AV):∀ l:List SV,evs tm l=l.map fun x => x.ev tm
 | [] => rfl
 | x :: l => by rw [evs,zd0 tm l]; rfl
def evp (tm:List AV):List (Nat × Nat × SV) → List (Nat × Nat × AV)
 | [] => []
 | (o,s,x) :: xs => (o,s,x.ev tm) :: evp tm xs
theorem ziD (tm:List AV):∀ l:List (Nat × Nat × SV),evp tm l=l.map fun p => (p.1,p.2.1,p.2.2.ev tm)
 | [] => rfl
 | (o,s,x) :: l => by rw [evp,ziD tm l]; rfl
def bxs:Option OB → Option (List AV)
 | some (.box _ cs) => some cs
 | _ => none
theorem zmr (T:TypeId) (cs:List AV):bxs (some (.box T cs))=some cs:=Eq.trans rfl rfl
section
variable {P:Program} [Tabs P] {C:Cx} {F:zaG} {k:List IT} {r:List SO} {objs:List OB} {tm:List AV} {d:Option Nat}
theorem rn_nil:run P C [] objs tm F=F .normal objs tm:=Eq.trans rfl rfl
theorem rn_seq (x y:SCode):run P C (.code (.seq x y) :: k) objs tm F=run P C (.code x :: .code y :: k) objs tm F:=Eq.trans rfl rfl
theorem zj8:run P C (.code .skip :: k) objs tm F=run P C k objs tm F:=Eq.trans rfl rfl
theorem rn_reg (l:List SO):run P C (.code (.reg l) :: k) objs tm F=run P C (.ops l :: k) objs tm F:=Eq.trans rfl rfl
theorem rn_ap (l:List (Nat × Nat × Option (Nat × Bool))):run P C (.ap l :: k) objs tm F=(zeO l tm ∧ run P C k objs tm F):=Eq.trans rfl rfl
theorem apOk_n:zeO [] tm=True:=Eq.trans rfl rfl
theorem apOk_c (s s':Nat) (g:Option (Nat × Bool)) (l:List (Nat × Nat × Option (Nat × Bool))):zeO ((s,s',g) :: l) tm=((if s' < 1000000 then apG g tm (zdg tm[s]? tm[s']?) else apS tm[s]? tm[s' - 1000000]?) ∧ zeO l tm):=Eq.trans rfl rfl
theorem apG_n (p:Prop):apG none tm p=p:=Eq.trans rfl rfl
theorem apG_s (g:Nat) (b:Bool) (p:Prop):apG (some (g,b)) tm p=apB tm[g]? b p:=Eq.trans rfl rfl
theorem apB_tt (p:Prop):apB (some (.b true)) true p=p:=Eq.trans rfl rfl
theorem apB_ff (p:Prop):apB (some (.b false)) false p=p:=Eq.trans rfl rfl
theorem apB_tf (p:Prop):apB (some (.b true)) false p=True:=Eq.trans rfl rfl
theorem apB_ft (p:Prop):apB (some (.b false)) true p=True:=Eq.trans rfl rfl
theorem apS_o (b g j b' g' j':Nat):apS (some (.porow b g j)) (some (.porow b' g' j'))=(¬ b=b'):=Eq.trans rfl rfl
theorem apS_p (b g j b' o':Nat):apS (some (.porow b g j)) (some (.p b' o'))=(¬ b=b'):=Eq.trans rfl rfl
theorem zi4 (b o b' g':Nat):zdg (some (.p b o)) (some (.orow b' g'))=(¬ b=b'):=Eq.trans rfl rfl
theorem zi3 (b o b' g' j':Nat):zdg (some (.p b o)) (some (.porow b' g' j'))=(¬ b=b'):=Eq.trans rfl rfl
theorem zi2 (xs:List AV) (j b' g':Nat):zdg (some (.prow xs j)) (some (.orow b' g'))=True:=Eq.trans rfl rfl
theorem zi1 (xs:List AV) (j b' g' j':Nat):zdg (some (.prow xs j)) (some (.porow b' g' j'))=True:=Eq.trans rfl rfl
theorem zmz (b o b' o':Nat):zdg (some (.p b o)) (some (.p b' o'))=(¬ b=b'):=Eq.trans rfl rfl
theorem zmy (xs:List AV) (j b' o':Nat):zdg (some (.prow xs j)) (some (.p b' o'))=True:=Eq.trans rfl rfl
theorem rn_drw (l:List SO) (n:Nat) (ap:List (Nat × Nat × Option (Nat × Bool))):run P C (.code (.drw l n ap) :: k) objs tm F=run P C (.dops (l.take n) :: .ap ap :: .ops (l.drop n) :: k) objs tm F:=Eq.trans rfl rfl
theorem rn_crg (pre:List SO) (cl:SO) (post:List SO):run P C (.code (.crg pre cl post) :: k) objs tm F=run P C [.ops pre] objs tm (fun _ _ t1 => run P C [.ops [cl]] objs t1 (fun _ o2 t2 => run P C [.ops pre] o2 tm (fun _ _ t => t=t1) ∧ run P C (.ops post :: k) o2 t2 F)):=Eq.trans rfl rfl
def rcr (P:Program) [Tabs P] (C:Cx):List (List SO × List AV × List AV) → List OB → Prop
 | [],_ => True
 | e :: r,o => run P C [.ops e.1] o e.2.1 (fun _ _ x => x=e.2.2) ∧ rcr P C r o
def rst (P:Program) [Tabs P] (C:Cx) (st:List (List SO × SO)) (hist:List (List SO × List AV × List AV)) (last:List SO) (k:List IT) (objs:List OB) (tm:List AV) (F:zaG):Prop:=wpT P st hist last objs tm fun o t => run P C k o t F
theorem rcr_n (o:List OB):rcr P C [] o=True:=Eq.trans rfl rfl
theorem rcr_c (L:List SO) (b u:List AV) (h:List (List SO × List AV × List AV)) (o:List OB):rcr P C ((L,b,u) :: h) o=(run P C [.ops L] o b (fun _ _ x => x=u) ∧ rcr P C h o):=Eq.trans rfl rfl
theorem zhZ:∀ (h:List (List SO × List AV × List AV)) (o:List OB),zbg P h o=rcr P C h o
 | [],o => rfl
 | e :: h,o => by
  unfold zbg rcr
  rw [zhZ h o]
  rfl
theorem rn_crs (st:List (List SO × SO)) (last:List SO):run P C (.code (.crs st last) :: k) objs tm F=rst P C st [] last k objs tm F:=Eq.trans rfl rfl
theorem rst_n (h:List (List SO × List AV × List AV)) (last:List SO):rst P C [] h last k objs tm F=run P C (.ops last :: k) objs tm F:=Eq.trans rfl rfl
theorem rst_c (L:List SO) (c:SO) (st:List (List SO × SO)) (h:List (List SO × List AV × List AV)) (last:List SO):rst P C ((L,c) :: st) h last k objs tm F=run P C [.ops L] objs tm (fun _ _ u => run P C [.ops [c]] objs u (fun _ o' t' => rcr P C ((L,tm,u) :: h) o' ∧ rst P C st ((L,tm,u) :: h) last k o' t' F)):=by
 rw [show rst P C ((L,c) :: st) h last k objs tm F=wpR P L objs tm (fun _ u => wpR P [c] objs u fun o' t' => zbg P ((L,tm,u) :: h) o' ∧ wpT P st ((L,tm,u) :: h) last o' t' fun o t => run P C k o t F) from rfl]
 simp only [zhZ (C:=C)]
 rfl
def rsb (P:Program) [Tabs P] (C:Cx) (d:Nat) (T:TypeId) (z:List AV) (sr:SO) (st:List (List SO × SO)) (hist:List (List SO × List AV × List AV)) (last:List SO) (k:List IT) (objs:List OB) (tm:List AV) (F:zaG):Prop:=wpB P d T z st hist last objs tm fun o t => wpR P [sr] o t fun o t => run P C k o t F
theorem hsV_n (d:Nat) (p:AV):hsV d p []=[]:=Eq.trans rfl rfl
theorem hsV_c (d:Nat) (p:AV) (L:List SO) (b u:List AV) (h:List (List SO × List AV × List AV)):hsV d p ((L,b,u) :: h)=(L,b.set d p,u.set d p) :: hsV d p h:=Eq.trans rfl rfl
theorem rn_cra (d:Nat) (T:TypeId) (z:List AV) (st:List (List SO × SO)) (last:List SO) (sr:SO):run P C (.code (.cra d T z st last sr) :: k) objs tm F=(tm.length ≤ 1000003 ∧ rsb P C d T z sr st [] last k objs tm F):=Eq.trans rfl rfl
theorem rsb_n (d:Nat) (T:TypeId) (z:List AV) (sr:SO) (h:List (List SO × List AV × List AV)) (last:List SO):rsb P C d T z sr [] h last k objs tm F=run P C [.ops last] objs tm (fun _ _ u => rcr P C (hsV d (.p objs.length 0) ((last,tm,u) :: h)) (objs ++ [.box T z]) ∧ run P C (.ops [sr] :: k) (objs ++ [.box T z]) (u.set d (.p objs.length 0)) F):=by
 rw [show rsb P C d T z sr [] h last k objs tm F=wpR P last objs tm (fun _ u => zbg P (hsV d (.p objs.length 0) ((last,tm,u) :: h)) (objs ++ [.box T z]) ∧ wpR P [sr] (objs ++ [.box T z]) (u.set d (.p objs.length 0)) fun o t => run P C k o t F) from rfl]
 simp only [zhZ (C:=C)]
 rfl
theorem rsb_c (d:Nat) (T:TypeId) (z:List AV) (sr:SO) (L:List SO) (c:SO) (st:List (List SO × SO)) (h:List (List SO × List AV × List AV)) (last:List SO):rsb P C d T z sr ((L,c) :: st) h last k objs tm F=run P C [.ops L] objs tm (fun _ _ u => (rcr P C (hsV d (.p objs.length 0) ((L,tm,u) :: h)) (objs ++ [.box T z]) ∧ run P C [.ops [c]] (objs ++ [.box T z]) (u.set d (.p objs.length 0)) (fun _ o' t' => rcr P C (hsV d (.p objs.length 0) ((L,tm,u) :: h)) o' ∧ rst P C st (hsV d (.p objs.length 0) ((L,tm,u) :: h)) last (.ops [sr] :: k) o' t' F)) ∧ run P C [.ops [c]] objs u (fun _ o' t' => rcr P C ((L,tm,u) :: h) o' ∧ rsb P C d T z sr st ((L,tm,u) :: h) last k o' t' F)):=by
 rw [show rsb P C d T z sr ((L,c) :: st) h last k objs tm F=wpR P L objs tm (fun _ u => (zbg P (hsV d (.p objs.length 0) ((L,tm,u) :: h)) (objs ++ [.box T z]) ∧ wpR P [c] (objs ++ [.box T z]) (u.set d (.p objs.length 0)) (fun o' t' => zbg P (hsV d (.p objs.length 0) ((L,tm,u) :: h)) o' ∧ wpT P st (hsV d (.p objs.length 0) ((L,tm,u) :: h)) last o' t' fun o t => wpR P [sr] o t fun o t => run P C k o t F)) ∧ wpR P [c] objs u (fun o' t' => zbg P ((L,tm,u) :: h) o' ∧ wpB P d T z st ((L,tm,u) :: h) last o' t' fun o t => wpR P [sr] o t fun o t => run P C k o t F)) from rfl]
 simp only [zhZ (C:=C)]
 rfl
theorem zaH (id:Nat) (c:SCode):run P C (.code (.blk id c) :: k) objs tm F=run P C (.code c :: .blk id :: k) objs tm F:=Eq.trans rfl rfl
theorem zhT (id:Nat):run P C (.blk id :: k) objs tm F=run P C k objs tm F:=Eq.trans rfl rfl
theorem ze0:run P C (.ops [] :: k) objs tm F=run P C k objs tm F:=Eq.trans rfl rfl
theorem zev:run P C (.dops [] :: k) objs tm F=run P C k objs tm F:=Eq.trans rfl rfl
theorem zb7:∀ (k:List IT),zeK P C F k .ret objs tm=F .ret objs tm
 | [] => rfl
 | .code c :: k => zb7 k
 | .ops l :: k => zb7 k
 | .dops l :: k => zb7 k
 | .ap l :: k => zb7 k
 | .blk id :: k => zb7 k
theorem rn_ret:run P C (.code .ret :: k) objs tm F=F .ret objs tm:=zb7 k
theorem zkj:run P C (.code .dead :: k) objs tm F=False:=Eq.trans rfl rfl
theorem zki (id:Nat):run P C (.code (.exit id) :: k) objs tm F=xit P C id k objs tm F:=Eq.trans rfl rfl
theorem zjK (id:Nat):xit P C id [] objs tm F=F (.exit id) objs tm:=Eq.trans rfl rfl
theorem zhH (id:Nat) (c:SCode):xit P C id (.code c :: k) objs tm F=xit P C id k objs tm F:=Eq.trans rfl rfl
theorem zjJ (id:Nat) (l:List SO):xit P C id (.ops l :: k) objs tm F=xit P C id k objs tm F:=Eq.trans rfl rfl
theorem zhG (id:Nat) (l:List SO):xit P C id (.dops l :: k) objs tm F=xit P C id k objs tm F:=Eq.trans rfl rfl
theorem xit_ap (id:Nat) (l:List (Nat × Nat × Option (Nat × Bool))):xit P C id (.ap l :: k) objs tm F=xit P C id k objs tm F:=Eq.trans rfl rfl
theorem zjL (id id':Nat):xit P C id (.blk id' :: k) objs tm F=if id=id' then run P C k objs tm F else xit P C id k objs tm F:=Eq.trans rfl rfl
theorem zdX (J:Nat → List OB → List AV → Prop) (n:Nat):loopF P C J n k F .normal objs tm=∃ m,m < n ∧ J m objs tm:=Eq.trans rfl rfl
theorem zfa (J:Nat → List OB → List AV → Prop) (n id:Nat):loopF P C J n k F (.exit id) objs tm=xit P C id k objs tm F:=Eq.trans rfl rfl
theorem zgB (J:Nat → List OB → List AV → Prop) (n:Nat):loopF P C J n k F .ret objs tm=F .ret objs tm:=zb7 k
theorem zaC [On P C] {c:SCode} (J:Nat → List OB → List AV → Prop) (n:Nat) (h0:J n objs tm) (round:∀ n objs tm,J n objs tm → run P C [.code c] objs tm (loopF P C J n k F)):run P C (.code (.loop c) :: k) objs tm F :=
 wps_loop J n h0 round
def kO (P:Program) [Tabs P] (C:Cx) (v:Option AV) (d:Option Nat) (r:List SO) (k:List IT) (objs:List OB) (tm:List AV) (F:zaG):Prop :=
 match v with
 | some v => run P C (.ops r :: k) objs (zap tm d v) F
 | none => False
theorem za3 (op:SOp):run P C (.ops (⟨d,op,none⟩ :: r) :: k) objs tm F=wpS P op objs tm fun o v => run P C (.ops r :: k) o (zap tm d v) F:=Eq.trans rfl rfl
theorem zlg (v:AV):kO P C (some v) d r k objs tm F=run P C (.ops r :: k) objs (zap tm d v) F:=Eq.trans rfl rfl
theorem rn_mv (x:SV):run P C (.ops (⟨d,.mv x,none⟩ :: r) :: k) objs tm F=run P C (.ops r :: k) objs (zap tm d (x.ev tm)) F:=Eq.trans rfl rfl
def kPick (P:Program) [Tabs P] (C:Cx) (c x y:AV) (d:Option Nat) (r:List SO) (k:List IT) (objs:List OB) (tm:List AV) (F:zaG):Prop :=
 match c with
 | .b t => (t=true → run P C (.ops r :: k) objs (zap tm d x) F) ∧ (t=false → run P C (.ops r :: k) objs (zap tm d y) F)
 | _ => False
theorem zld (x y:AV):kPick P C (.b true) x y d r k objs tm F=run P C (.ops r :: k) objs (zap tm d x) F:=propext ⟨fun h => h.1 rfl,fun h => ⟨fun _ => h,fun e => absurd e.symm Bool.false_ne_true⟩⟩
theorem zle (x y:AV):kPick P C (.b false) x y d r k objs tm F=run P C (.ops r :: k) objs (zap tm d y) F:=propext ⟨fun h => h.2 rfl,fun h => ⟨fun e => absurd e Bool.false_ne_true,fun _ => h⟩⟩
theorem zj9 (c x y:SV):run P C (.ops (⟨d,.pick c x y,none⟩ :: r) :: k) objs tm F=kPick P C (c.ev tm) (x.ev tm) (y.ev tm) d r k objs tm F:=Eq.trans rfl rfl
theorem zhY (T:Nat) (z:List AV):run P C (.ops (⟨d,.alloc T z,none⟩ :: r) :: k) objs tm F=run P C (.ops r :: k) (objs ++ [.box T z]) (zap tm d (.p objs.length 0)) F:=Eq.trans rfl rfl
theorem rn_box (T:Nat) (x:SV):run P C (.ops (⟨d,.box T x,none⟩ :: r) :: k) objs tm F=((x.ev tm).flat=true ∧ run P C (.ops r :: k) (objs ++ [.box T (x.ev tm).cells]) (zap tm d (.p objs.length 0)) F):=Eq.trans rfl rfl
theorem zhX (z:List AV) (ps:List (Nat × Nat × SV)):run P C (.ops (⟨d,.build z ps,none⟩ :: r) :: k) objs tm F=kO P C ((zcp z (evp tm ps)).map .agg) d r k objs tm F:=by
 rw [ziD]
 rw [za3]
 simp only [wpS]
 cases zcp z (ps.map fun p => (p.1,p.2.1,p.2.2.ev tm)) <;> rfl
theorem zgq (n:Nat) (z:List AV) (ps:List (Nat × Nat × SV)):run P C (.ops (⟨d,.bslice n z ps,none⟩ :: r) :: k) objs tm F=kO P C ((zcp z (evp tm ps)).map (.row n)) d r k objs tm F:=by
 rw [ziD]
 rw [za3]
 simp only [wpS]
 cases zcp z (ps.map fun p => (p.1,p.2.1,p.2.2.ev tm)) <;> rfl
def kLit (P:Program) [Tabs P] (C:Cx) (c:Option (List AV)) (E sz n:Nat) (d:Option Nat) (r:List SO) (k:List IT) (objs:List OB) (tm:List AV) (F:zaG):Prop :=
 match c with
 | some cs => cs.length=n * sz ∧ run P C (.ops r :: k) (objs ++ [.orow E sz 0 n cs]) (zap tm d (.orow objs.length 0)) F
 | none => False
theorem kLit_s (cs:List AV) (E sz n:Nat):kLit P C (some cs) E sz n d r k objs tm F=(cs.length=n * sz ∧ run P C (.ops r :: k) (objs ++ [.orow E sz 0 n cs]) (zap tm d (.orow objs.length 0)) F):=Eq.trans rfl rfl
theorem zkn (E sz n:Nat) (z:List AV) (ps:List (Nat × Nat × SV)):run P C (.ops (⟨d,.bslo E sz n z ps,none⟩ :: r) :: k) objs tm F=kLit P C (zcp z (evp tm ps)) E sz n d r k objs tm F:=by
 rw [ziD]
 rw [za3]
 simp only [wpS]
 cases zcp z (ps.map fun p => (p.1,p.2.1,p.2.2.ev tm)) <;> rfl
def kLd1o (P:Program) [Tabs P] (C:Cx) (c:Option OB) (gen j:Nat) (d:Option Nat) (r:List SO) (k:List IT) (objs:List OB) (tm:List AV) (F:zaG):Prop :=
 match c with
 | some (.orow _ _ gen' _ xs) => gen'=gen ∧ kO P C xs[j]? d r k objs tm F
 | _ => False
def kLd1 (P:Program) [Tabs P] (C:Cx) (v:AV) (d:Option Nat) (r:List SO) (k:List IT) (objs:List OB) (tm:List AV) (F:zaG):Prop :=
 match v with
 | .p b off => kO P C ((bxs objs[b]?).bind fun cs => cs[off]?) d r k objs tm F
 | .prow xs j => kO P C xs[j]? d r k objs tm F
 | .porow b gen j => kLd1o P C objs[b]? gen j d r k objs tm F
 | _ => False
theorem zlo (E sz gen' n gen j:Nat) (xs:List AV):kLd1o P C (some (.orow E sz gen' n xs)) gen j d r k objs tm F=(gen'=gen ∧ kO P C xs[j]? d r k objs tm F):=Eq.trans rfl rfl
theorem kLd1_o (b gen j:Nat):kLd1 P C (.porow b gen j) d r k objs tm F=kLd1o P C objs[b]? gen j d r k objs tm F:=Eq.trans rfl rfl
theorem kLd1_p (b off:Nat):kLd1 P C (.p b off) d r k objs tm F=kO P C ((bxs objs[b]?).bind fun cs => cs[off]?) d r k objs tm F:=Eq.trans rfl rfl
theorem kLd1_r (xs:List AV) (j:Nat):kLd1 P C (.prow xs j) d r k objs tm F=kO P C xs[j]? d r k objs tm F:=Eq.trans rfl rfl
theorem zhS (x:SV):run P C (.ops (⟨d,.load1 x,none⟩ :: r) :: k) objs tm F=kLd1 P C (x.ev tm) d r k objs tm F:=by
 rw [za3]
 simp only [wpS,kLd1]
 cases x.ev tm <;> try rfl
 case p b off =>
  dsimp only
  generalize objs[b]? = q
  cases q with
  | none => rfl
  | some ob =>
   cases ob <;> try rfl
   all_goals (dsimp only [bxs,Option.bind]; split <;> rfl)
 case prow xs j =>
  dsimp only
  cases hx:xs[j]? with
  | none => simp [kO]
  | some v => simp [kO]
 case porow b gen j =>
  dsimp only
  generalize objs[b]? = q
  cases q with
  | none => rfl
  | some ob =>
   cases ob <;> try rfl
   rename_i xs
   dsimp only [kLd1o]
   cases hx:xs[j]? with
   | none => simp [kO]
   | some v => simp [kO]
def kLdn (P:Program) [Tabs P] (C:Cx) (c:Option (List AV)) (off sz:Nat) (d:Option Nat) (r:List SO) (k:List IT) (objs:List OB) (tm:List AV) (F:zaG):Prop :=
 match c with
 | some cs => off + sz ≤ cs.length ∧ run P C (.ops r :: k) objs (zap tm d (.agg ((cs.drop off).take sz))) F
 | none => False
def kLdno (P:Program) [Tabs P] (C:Cx) (c:Option OB) (gen j sz:Nat) (d:Option Nat) (r:List SO) (k:List IT) (objs:List OB) (tm:List AV) (F:zaG):Prop :=
 match c with
 | some (.orow _ _ gen' _ xs) => (gen'=gen ∧ j + sz ≤ xs.length) ∧ run P C (.ops r :: k) objs (zap tm d (.agg ((xs.drop j).take sz))) F
 | _ => False
def kLdv (P:Program) [Tabs P] (C:Cx) (v:AV) (sz:Nat) (d:Option Nat) (r:List SO) (k:List IT) (objs:List OB) (tm:List AV) (F:zaG):Prop :=
 match v with
 | .p b off => kLdn P C (bxs objs[b]?) off sz d r k objs tm F
 | .prow xs j => kLdn P C (some xs) j sz d r k objs tm F
 | .porow b gen j => kLdno P C objs[b]? gen j sz d r k objs tm F
 | _ => False
theorem zln (E s gen' n gen j sz:Nat) (xs:List AV):kLdno P C (some (.orow E s gen' n xs)) gen j sz d r k objs tm F=((gen'=gen ∧ j + sz ≤ xs.length) ∧ run P C (.ops r :: k) objs (zap tm d (.agg ((xs.drop j).take sz))) F):=Eq.trans rfl rfl
theorem kLdv_o (b gen j sz:Nat):kLdv P C (.porow b gen j) sz d r k objs tm F=kLdno P C objs[b]? gen j sz d r k objs tm F:=Eq.trans rfl rfl
theorem kLdn_s (cs:List AV) (off sz:Nat):kLdn P C (some cs) off sz d r k objs tm F=(off + sz ≤ cs.length ∧ run P C (.ops r :: k) objs (zap tm d (.agg ((cs.drop off).take sz))) F):=Eq.trans rfl rfl
theorem kLdv_p (b off sz:Nat):kLdv P C (.p b off) sz d r k objs tm F=kLdn P C (bxs objs[b]?) off sz d r k objs tm F:=Eq.trans rfl rfl
theorem kLdv_r (xs:List AV) (j sz:Nat):kLdv P C (.prow xs j) sz d r k objs tm F=kLdn P C (some xs) j sz d r k objs tm F:=Eq.trans rfl rfl
theorem zhR (sz:Nat) (x:SV):run P C (.ops (⟨d,.loadn sz x,none⟩ :: r) :: k) objs tm F=kLdv P C (x.ev tm) sz d r k objs tm F:=by
 rw [za3]
 simp only [wpS,kLdv]
 cases x.ev tm <;> try rfl
 try (case p b off =>
  dsimp only
  generalize objs[b]? = q
  cases q with
  | none => rfl
  | some ob => cases ob <;> rfl)
 try (case porow b gen j =>
  dsimp only
  generalize objs[b]? = q
  cases q with
  | none => rfl
  | some ob => cases ob <;> rfl)
def kSt2 (P:Program) [Tabs P] (C:Cx) (c:Option OB) (b off sz:Nat) (v:AV) (d:Option Nat) (r:List SO) (k:List IT) (objs:List OB) (tm:List AV) (F:zaG):Prop :=
 match c with
 | some (.box T cs) => (v.flat=true ∧ v.cells.length=sz ∧ off + sz ≤ cs.length) ∧ run P C (.ops r :: k) (objs.set b (.box T (zaS cs off v.cells))) (zap tm d .u) F
 | _ => False
def kSt3 (P:Program) [Tabs P] (C:Cx) (c:Option OB) (b gen j sz:Nat) (v:AV) (d:Option Nat) (r:List SO) (k:List IT) (objs:List OB) (tm:List AV) (F:zaG):Prop :=
 match c with
 | some (.orow E s gen' n xs) => (gen'=gen ∧ v.flat=true ∧ v.cells.length=sz ∧ j + sz ≤ xs.length) ∧ run P C (.ops r :: k) (objs.set b (.orow E s gen' n (zaS xs j v.cells))) (zap tm d .u) F
 | _ => False
def kSt (P:Program) [Tabs P] (C:Cx) (p v:AV) (sz:Nat) (d:Option Nat) (r:List SO) (k:List IT) (objs:List OB) (tm:List AV) (F:zaG):Prop :=
 match p with
 | .p b off => kSt2 P C objs[b]? b off sz v d r k objs tm F
 | .porow b gen j => kSt3 P C objs[b]? b gen j sz v d r k objs tm F
 | _ => False
theorem kSt3_o (E s gen' n:Nat) (xs:List AV) (b gen j sz:Nat) (v:AV):kSt3 P C (some (.orow E s gen' n xs)) b gen j sz v d r k objs tm F=((gen'=gen ∧ v.flat=true ∧ v.cells.length=sz ∧ j + sz ≤ xs.length) ∧ run P C (.ops r :: k) (objs.set b (.orow E s gen' n (zaS xs j v.cells))) (zap tm d .u) F):=Eq.trans rfl rfl
theorem kSt_o (b gen j sz:Nat) (v:AV):kSt P C (.porow b gen j) v sz d r k objs tm F=kSt3 P C objs[b]? b gen j sz v d r k objs tm F:=Eq.trans rfl rfl
theorem kSt2_b (T:TypeId) (cs:List AV) (b off sz:Nat) (v:AV):kSt2 P C (some (.box T cs)) b off sz v d r k objs tm F=((v.flat=true ∧ v.cells.length=sz ∧ off + sz ≤ cs.length) ∧ run P C (.ops r :: k) (objs.set b (.box T (zaS cs off v.cells))) (zap tm d .u) F):=Eq.trans rfl rfl
theorem kSt_p (b off sz:Nat) (v:AV):kSt P C (.p b off) v sz d r k objs tm F=kSt2 P C objs[b]? b off sz v d r k objs tm F:=Eq.trans rfl rfl
theorem zhP (sz:Nat) (x y:SV):run P C (.ops (⟨d,.store sz x y,none⟩ :: r) :: k) objs tm F=kSt P C (x.ev tm) (y.ev tm) sz d r k objs tm F:=by
 rw [za3]
 simp only [wpS,kSt]
 cases x.ev tm <;> try rfl
 try (case p b off =>
  dsimp only
  generalize objs[b]? = q
  cases q with
  | none => rfl
  | some ob => cases ob <;> rfl)
 try (case porow b gen j =>
  dsimp only
  generalize objs[b]? = q
  cases q with
  | none => rfl
  | some ob => cases ob <;> rfl)
def kNck (P:Program) [Tabs P] (C:Cx) (v:AV)  (d:Option Nat) (r:List SO) (k:List IT) (objs:List OB) (tm:List AV) (F:zaG):Prop :=
 match v with
 | .p b o => run P C (.ops r :: k) objs (zap tm d (.p b o)) F
 | .prow xs j => run P C (.ops r :: k) objs (zap tm d (.prow xs j)) F
 | .fn f fs cs => run P C (.ops r :: k) objs (zap tm d (.fn f fs cs)) F
 | .porow b gen j => run P C (.ops r :: k) objs (zap tm d (.porow b gen j)) F
 | _ => False
theorem kNck_0 (b o:Nat) :kNck P C (.p b o)  d r k objs tm F=(run P C (.ops r :: k) objs (zap tm d (.p b o)) F):=Eq.trans rfl rfl
theorem kNck_1 (xs:List AV) (j:Nat) :kNck P C (.prow xs j)  d r k objs tm F=(run P C (.ops r :: k) objs (zap tm d (.prow xs j)) F):=Eq.trans rfl rfl
theorem kNck_2 (f:Nat) (fs cs:List AV) :kNck P C (.fn f fs cs)  d r k objs tm F=(run P C (.ops r :: k) objs (zap tm d (.fn f fs cs)) F):=Eq.trans rfl rfl
theorem kNck_3 (b gen j:Nat) :kNck P C (.porow b gen j)  d r k objs tm F=(run P C (.ops r :: k) objs (zap tm d (.porow b gen j)) F):=Eq.trans rfl rfl
theorem rn_nck (x:SV):run P C (.ops (⟨d,.nck x,none⟩ :: r) :: k) objs tm F=kNck P C (x.ev tm)  d r k objs tm F:=by
 rw [za3]
 simp only [wpS,kNck]
 cases (x.ev tm) <;> rfl
def kNot (P:Program) [Tabs P] (C:Cx) (v:AV)  (d:Option Nat) (r:List SO) (k:List IT) (objs:List OB) (tm:List AV) (F:zaG):Prop :=
 match v with
 | .b t => run P C (.ops r :: k) objs (zap tm d (.b (!t))) F
 | _ => False
theorem kNot_0 (t:Bool) :kNot P C (.b t)  d r k objs tm F=(run P C (.ops r :: k) objs (zap tm d (.b (!t))) F):=Eq.trans rfl rfl
theorem rn_not (x:SV):run P C (.ops (⟨d,.not x,none⟩ :: r) :: k) objs tm F=kNot P C (x.ev tm)  d r k objs tm F:=by
 rw [za3]
 simp only [wpS,kNot]
 cases (x.ev tm) <;> rfl
def kAr (P:Program) [Tabs P] (C:Cx) (q:IntKind) (z:Int) (d:Option Nat) (r:List SO) (k:List IT) (objs:List OB) (tm:List AV) (F:zaG):Prop:=arK q z fun z => run P C (.ops r :: k) objs (zap tm d (.i q z)) F
theorem zly (z:Int):kAr P C .i64 z d r k objs tm F=((-9223372036854775808 ≤ z ∧ z ≤ 9223372036854775807) ∧ run P C (.ops r :: k) objs (zap tm d (.i .i64 z)) F):=Eq.trans rfl rfl
theorem kAr_i8 (z:Int):kAr P C .i8 z d r k objs tm F=run P C (.ops r :: k) objs (zap tm d (.i .i8 (IntKind.wrap .i8 z))) F:=Eq.trans rfl rfl
theorem zlA (z:Int):kAr P C .i16 z d r k objs tm F=run P C (.ops r :: k) objs (zap tm d (.i .i16 (IntKind.wrap .i16 z))) F:=Eq.trans rfl rfl
theorem zlz (z:Int):kAr P C .i32 z d r k objs tm F=run P C (.ops r :: k) objs (zap tm d (.i .i32 (IntKind.wrap .i32 z))) F:=Eq.trans rfl rfl
theorem kAr_u8 (z:Int):kAr P C .u8 z d r k objs tm F=run P C (.ops r :: k) objs (zap tm d (.i .u8 (IntKind.wrap .u8 z))) F:=Eq.trans rfl rfl
theorem zlx (z:Int):kAr P C .u16 z d r k objs tm F=run P C (.ops r :: k) objs (zap tm d (.i .u16 (IntKind.wrap .u16 z))) F:=Eq.trans rfl rfl
theorem zlw (z:Int):kAr P C .u32 z d r k objs tm F=run P C (.ops r :: k) objs (zap tm d (.i .u32 (IntKind.wrap .u32 z))) F:=Eq.trans rfl rfl
theorem zlv (z:Int):kAr P C .u64 z d r k objs tm F=run P C (.ops r :: k) objs (zap tm d (.i .u64 (IntKind.wrap .u64 z))) F:=Eq.trans rfl rfl
def kNeg (P:Program) [Tabs P] (C:Cx) (v:AV)  (d:Option Nat) (r:List SO) (k:List IT) (objs:List OB) (tm:List AV) (F:zaG):Prop :=
 match v with
 | .i q n => kAr P C q (0 - n) d r k objs tm F
 | _ => False
theorem kNeg_0 (q:IntKind) (n:Int) :kNeg P C (.i q n)  d r k objs tm F=(kAr P C q (0 - n) d r k objs tm F):=Eq.trans rfl rfl
theorem rn_neg (x:SV):run P C (.ops (⟨d,.neg x,none⟩ :: r) :: k) objs tm F=kNeg P C (x.ev tm)  d r k objs tm F:=by
 rw [za3]
 simp only [wpS,kNeg,kAr]
 cases x.ev tm <;> rfl
def kCvi (P:Program) [Tabs P] (C:Cx) (v:AV) (q:IntKind) (d:Option Nat) (r:List SO) (k:List IT) (objs:List OB) (tm:List AV) (F:zaG):Prop :=
 match v with
 | .i kk n => run P C (.ops r :: k) objs (zap tm d (.i q (q.wrap n))) F
 | _ => False
theorem kCvi_0 (kk:IntKind) (n:Int) (q:IntKind):kCvi P C (.i kk n) q d r k objs tm F=(run P C (.ops r :: k) objs (zap tm d (.i q (q.wrap n))) F):=Eq.trans rfl rfl
theorem rn_cvi (q:IntKind) (x:SV):run P C (.ops (⟨d,.cvi q x,none⟩ :: r) :: k) objs tm F=kCvi P C (x.ev tm) q d r k objs tm F:=by
 rw [za3]
 simp only [wpS,kCvi]
 cases (x.ev tm) <;> rfl
def kCvs (P:Program) [Tabs P] (C:Cx) (v:AV)  (d:Option Nat) (r:List SO) (k:List IT) (objs:List OB) (tm:List AV) (F:zaG):Prop :=
 match v with
 | .s l => run P C (.ops r :: k) objs (zap tm d (.s l)) F
 | _ => False
theorem kCvs_0 (l:List UInt8) :kCvs P C (.s l)  d r k objs tm F=(run P C (.ops r :: k) objs (zap tm d (.s l)) F):=Eq.trans rfl rfl
theorem rn_cvs (x:SV):run P C (.ops (⟨d,.cvs x,none⟩ :: r) :: k) objs tm F=kCvs P C (x.ev tm)  d r k objs tm F:=by
 rw [za3]
 simp only [wpS,kCvs]
 cases (x.ev tm) <;> rfl
def kLens (P:Program) [Tabs P] (C:Cx) (v:AV)  (d:Option Nat) (r:List SO) (k:List IT) (objs:List OB) (tm:List AV) (F:zaG):Prop :=
 match v with
 | .s l => run P C (.ops r :: k) objs (zap tm d (.i .i64 l.length)) F
 | _ => False
theorem zli (l:List UInt8) :kLens P C (.s l)  d r k objs tm F=(run P C (.ops r :: k) objs (zap tm d (.i .i64 l.length)) F):=Eq.trans rfl rfl
theorem zkc (x:SV):run P C (.ops (⟨d,.lens x,none⟩ :: r) :: k) objs tm F=kLens P C (x.ev tm)  d r k objs tm F:=by
 rw [za3]
 simp only [wpS,kLens]
 cases (x.ev tm) <;> rfl
def kFldn (P:Program) [Tabs P] (C:Cx) (v:AV) (off sz:Nat) (d:Option Nat) (r:List SO) (k:List IT) (objs:List OB) (tm:List AV) (F:zaG):Prop :=
 match v with
 | .agg cs => run P C (.ops r :: k) objs (zap tm d (.agg ((cs.drop off).take sz))) F
 | _ => False
theorem zls (cs:List AV) (off sz:Nat):kFldn P C (.agg cs) off sz d r k objs tm F=(run P C (.ops r :: k) objs (zap tm d (.agg ((cs.drop off).take sz))) F):=Eq.trans rfl rfl
theorem zkg (off sz:Nat) (x:SV):run P C (.ops (⟨d,.fldn off sz x,none⟩ :: r) :: k) objs tm F=kFldn P C (x.ev tm) off sz d r k objs tm F:=by
 rw [za3]
 simp only [wpS,kFldn]
 cases (x.ev tm) <;> rfl
def kFad (P:Program) [Tabs P] (C:Cx) (v:AV) (off:Nat) (d:Option Nat) (r:List SO) (k:List IT) (objs:List OB) (tm:List AV) (F:zaG):Prop :=
 match v with
 | .p b o => run P C (.ops r :: k) objs (zap tm d (.p b (o + off))) F
 | .prow xs j => run P C (.ops r :: k) objs (zap tm d (.prow xs (j + off))) F
 | .porow b gen j => run P C (.ops r :: k) objs (zap tm d (.porow b gen (j + off))) F
 | _ => False
theorem kFad_0 (b o:Nat) (off:Nat):kFad P C (.p b o) off d r k objs tm F=(run P C (.ops r :: k) objs (zap tm d (.p b (o + off))) F):=Eq.trans rfl rfl
theorem kFad_1 (xs:List AV) (j:Nat) (off:Nat):kFad P C (.prow xs j) off d r k objs tm F=(run P C (.ops r :: k) objs (zap tm d (.prow xs (j + off))) F):=Eq.trans rfl rfl
theorem kFad_2 (b gen j:Nat) (off:Nat):kFad P C (.porow b gen j) off d r k objs tm F=(run P C (.ops r :: k) objs (zap tm d (.porow b gen (j + off))) F):=Eq.trans rfl rfl
theorem rn_fad (off:Nat) (x:SV):run P C (.ops (⟨d,.fad off x,none⟩ :: r) :: k) objs tm F=kFad P C (x.ev tm) off d r k objs tm F:=by
 rw [za3]
 simp only [wpS,kFad]
 cases (x.ev tm) <;> rfl
def kFld1 (P:Program) [Tabs P] (C:Cx) (v:AV) (off:Nat) (d:Option Nat) (r:List SO) (k:List IT) (objs:List OB) (tm:List AV) (F:zaG):Prop :=
 match v with
 | .agg cs => kO P C cs[off]? d r k objs tm F
 | _ => False
theorem zlt (cs:List AV) (off:Nat):kFld1 P C (.agg cs) off d r k objs tm F=(kO P C cs[off]? d r k objs tm F):=Eq.trans rfl rfl
theorem zkh (off:Nat) (x:SV):run P C (.ops (⟨d,.fld1 off x,none⟩ :: r) :: k) objs tm F=kFld1 P C (x.ev tm) off d r k objs tm F:=by
 rw [za3]
 simp only [wpS,kFld1]
 cases x.ev tm <;> try rfl
 try (case agg cs => dsimp only; cases cs[off]? <;> rfl)
def kExt (P:Program) [Tabs P] (C:Cx) (v:AV) (j:Nat) (d:Option Nat) (r:List SO) (k:List IT) (objs:List OB) (tm:List AV) (F:zaG):Prop :=
 match v with
 | .tup cs => kO P C cs[j]? d r k objs tm F
 | _ => False
theorem kExt_0 (cs:List AV) (j:Nat):kExt P C (.tup cs) j d r k objs tm F=(kO P C cs[j]? d r k objs tm F):=Eq.trans rfl rfl
theorem rn_ext (x:SV) (j:Nat):run P C (.ops (⟨d,.ext x j,none⟩ :: r) :: k) objs tm F=kExt P C (x.ev tm) j d r k objs tm F:=by
 rw [za3]
 simp only [wpS,kExt]
 cases x.ev tm <;> try rfl
 try (case tup cs => dsimp only; cases cs[j]? <;> rfl)
def kLr2 (P:Program) [Tabs P] (C:Cx) (c:Option OB) (gen:Nat) (d:Option Nat) (r:List SO) (k:List IT) (objs:List OB) (tm:List AV) (F:zaG):Prop :=
 match c with
 | some (.orow _ _ gen' n _) => gen'=gen ∧ run P C (.ops r :: k) objs (zap tm d (.i .i64 n)) F
 | _ => False
theorem kLr2_o (E sz gen' n gen:Nat) (xs:List AV):kLr2 P C (some (.orow E sz gen' n xs)) gen d r k objs tm F=(gen'=gen ∧ run P C (.ops r :: k) objs (zap tm d (.i .i64 n)) F):=Eq.trans rfl rfl
def zjs (P:Program) [Tabs P] (C:Cx) (v:AV)  (d:Option Nat) (r:List SO) (k:List IT) (objs:List OB) (tm:List AV) (F:zaG):Prop :=
 match v with
 | .row n xs => run P C (.ops r :: k) objs (zap tm d (.i .i64 n)) F
 | .nil => run P C (.ops r :: k) objs (zap tm d (.i .i64 0)) F
 | .orow b gen => kLr2 P C objs[b]? gen d r k objs tm F
 | .zn z => run P C (.ops r :: k) objs (zap tm d (.i .i64 0)) F
 | _ => False
theorem zlm (n:Nat) (xs:List AV) :zjs P C (.row n xs)  d r k objs tm F=(run P C (.ops r :: k) objs (zap tm d (.i .i64 n)) F):=Eq.trans rfl rfl
theorem zll  :zjs P C (.nil)  d r k objs tm F=(run P C (.ops r :: k) objs (zap tm d (.i .i64 0)) F):=Eq.trans rfl rfl
theorem zlk (b gen:Nat) :zjs P C (.orow b gen)  d r k objs tm F=(kLr2 P C objs[b]? gen d r k objs tm F):=Eq.trans rfl rfl
theorem zlj (z:Bool) :zjs P C (.zn z)  d r k objs tm F=(run P C (.ops r :: k) objs (zap tm d (.i .i64 0)) F):=Eq.trans rfl rfl
theorem zkd (x:SV):run P C (.ops (⟨d,.lenr x,none⟩ :: r) :: k) objs tm F=zjs P C (x.ev tm)  d r k objs tm F:=by
 rw [za3]
 simp only [wpS,zjs]
 cases x.ev tm <;> try rfl
 try (case orow b gen =>
  dsimp only
  generalize objs[b]? = q
  cases q with
  | none => rfl
  | some ob => cases ob <;> rfl)
def kBeq (P:Program) [Tabs P] (C:Cx) (ne:Bool) (x y:AV) (d:Option Nat) (r:List SO) (k:List IT) (objs:List OB) (tm:List AV) (F:zaG):Prop :=
 match x,y with
 | .b l,.b m => run P C (.ops r :: k) objs (zap tm d (.b (if ne then !(l == m) else (l == m)))) F
 | _,_ => False
def kEq (P:Program) [Tabs P] (C:Cx) (ne:Bool) (x:Option Bool) (d:Option Nat) (r:List SO) (k:List IT) (objs:List OB) (tm:List AV) (F:zaG):Prop :=
 match x with
 | some q => run P C (.ops r :: k) objs (zap tm d (.b (if ne then !q else q))) F
 | none => False
def kEqs (P:Program) [Tabs P] (C:Cx) (ne:Bool) (e:ET) (x y:AV) (d:Option Nat) (r:List SO) (k:List IT) (objs:List OB) (tm:List AV) (F:zaG):Prop :=
 match x,y with
 | .agg xs,.agg ys => kEq P C ne (eqA e (.agg xs) (.agg ys)) d r k objs tm F
 | _,_ => False
theorem zgE (l m:Bool):kBeq P C true (.b l) (.b m) d r k objs tm F=run P C (.ops r :: k) objs (zap tm d (.b (!(l == m)))) F:=Eq.trans rfl rfl
theorem zii (q:Bool):kEq P C true (some q) d r k objs tm F=run P C (.ops r :: k) objs (zap tm d (.b (!q))) F:=Eq.trans rfl rfl
theorem zfb (l m:Bool):kBeq P C false (.b l) (.b m) d r k objs tm F=run P C (.ops r :: k) objs (zap tm d (.b (l == m))) F:=Eq.trans rfl rfl
theorem zgD (q:Bool):kEq P C false (some q) d r k objs tm F=run P C (.ops r :: k) objs (zap tm d (.b q)) F:=Eq.trans rfl rfl
theorem kEqs_a (ne:Bool) (e:ET) (xs ys:List AV):kEqs P C ne e (.agg xs) (.agg ys) d r k objs tm F=kEq P C ne (eqA e (.agg xs) (.agg ys)) d r k objs tm F:=Eq.trans rfl rfl
theorem rn_beq (ne:Bool) (x y:SV):run P C (.ops (⟨d,.beq ne x y,none⟩ :: r) :: k) objs tm F=kBeq P C ne (x.ev tm) (y.ev tm) d r k objs tm F:=by
 rw [za3]
 simp only [wpS,kBeq]
 cases x.ev tm <;> try rfl
 try (cases y.ev tm <;> rfl)
theorem rn_eqs (ne:Bool) (e:ET) (x y:SV):run P C (.ops (⟨d,.eqs ne e x y,none⟩ :: r) :: k) objs tm F=kEqs P C ne e (x.ev tm) (y.ev tm) d r k objs tm F:=by
 rw [za3]
 simp only [wpS,kEqs]
 cases x.ev tm <;> try rfl
 try (cases y.ev tm <;> try rfl)
 try (simp only [kEq]; cases eqA e _ _ <;> rfl)
def kIado (P:Program) [Tabs P] (C:Cx) (c:Option OB) (b gen:Nat) (i:Int) (sz:Nat) (d:Option Nat) (r:List SO) (k:List IT) (objs:List OB) (tm:List AV) (F:zaG):Prop :=
 match c with
 | some (.orow _ s gen' n _) => (gen'=gen ∧ s=sz ∧ 0 ≤ i ∧ i < n) ∧ run P C (.ops r :: k) objs (zap tm d (.porow b gen (i.toNat * sz))) F
 | _ => False
theorem zlq (E s gen' n:Nat) (xs:List AV) (b gen:Nat) (i:Int) (sz:Nat):kIado P C (some (.orow E s gen' n xs)) b gen i sz d r k objs tm F=((gen'=gen ∧ s=sz ∧ 0 ≤ i ∧ i < n) ∧ run P C (.ops r :: k) objs (zap tm d (.porow b gen (i.toNat * sz))) F):=Eq.trans rfl rfl
def kIad (P:Program) [Tabs P] (C:Cx) (x y:AV) (sz:Nat) (d:Option Nat) (r:List SO) (k:List IT) (objs:List OB) (tm:List AV) (F:zaG):Prop :=
 match x,y with
 | .row n xs,.i kk i => (0 ≤ i ∧ i < n ∧ n * sz ≤ xs.length) ∧ run P C (.ops r :: k) objs (zap tm d (.prow xs (i.toNat * sz))) F
 | .orow b gen,.i kk i => kIado P C objs[b]? b gen i sz d r k objs tm F
 | _,_ => False
theorem kIad_0 (n:Nat) (xs:List AV) (kk:IntKind) (i:Int) (sz:Nat):kIad P C (.row n xs) (.i kk i) sz d r k objs tm F=((0 ≤ i ∧ i < n ∧ n * sz ≤ xs.length) ∧ run P C (.ops r :: k) objs (zap tm d (.prow xs (i.toNat * sz))) F):=Eq.trans rfl rfl
theorem kIad_1 (b gen:Nat) (kk:IntKind) (i:Int) (sz:Nat):kIad P C (.orow b gen) (.i kk i) sz d r k objs tm F=(kIado P C objs[b]? b gen i sz d r k objs tm F):=Eq.trans rfl rfl
theorem rn_iad (sz:Nat) (x y:SV):run P C (.ops (⟨d,.iad sz x y,none⟩ :: r) :: k) objs tm F=kIad P C (x.ev tm) (y.ev tm) sz d r k objs tm F:=by
 rw [za3]
 simp only [wpS,kIad]
 cases x.ev tm <;> try rfl
 all_goals try (cases y.ev tm <;> try rfl)
 all_goals (
  dsimp only
  rename_i b gen _ _
  generalize objs[b]? = q
  cases q with
  | none => rfl
  | some ob => cases ob <;> rfl)
def kIadr (P:Program) [Tabs P] (C:Cx) (x y:AV) (sz:Nat) (d:Option Nat) (r:List SO) (k:List IT) (objs:List OB) (tm:List AV) (F:zaG):Prop :=
 match x,y with
 | .row n xs,.i kk i => (0 ≤ i ∧ i < n ∧ n * sz ≤ xs.length) ∧ run P C (.ops r :: k) objs (zap tm d (.prow xs (i.toNat * sz))) F
 | _,_ => False
theorem zlp (n:Nat) (xs:List AV) (kk:IntKind) (i:Int) (sz:Nat):kIadr P C (.row n xs) (.i kk i) sz d r k objs tm F=((0 ≤ i ∧ i < n ∧ n * sz ≤ xs.length) ∧ run P C (.ops r :: k) objs (zap tm d (.prow xs (i.toNat * sz))) F):=Eq.trans rfl rfl
theorem zke (sz:Nat) (x y:SV):run P C (.ops (⟨d,.iadr sz x y,none⟩ :: r) :: k) objs tm F=kIadr P C (x.ev tm) (y.ev tm) sz d r k objs tm F:=by
 rw [za3]
 simp only [wpS,kIadr]
 cases x.ev tm <;> try rfl
 try (cases y.ev tm <;> rfl)
def kIada (P:Program) [Tabs P] (C:Cx) (x y:AV) (sz len:Nat) (d:Option Nat) (r:List SO) (k:List IT) (objs:List OB) (tm:List AV) (F:zaG):Prop :=
 match x,y with
 | .p b off,.i kk i => (0 ≤ i ∧ i < len) ∧ run P C (.ops r :: k) objs (zap tm d (.p b (off + i.toNat * sz))) F
 | _,_ => False
theorem zlr (b off:Nat) (kk:IntKind) (i:Int) (sz len:Nat):kIada P C (.p b off) (.i kk i) sz len d r k objs tm F=((0 ≤ i ∧ i < len) ∧ run P C (.ops r :: k) objs (zap tm d (.p b (off + i.toNat * sz))) F):=Eq.trans rfl rfl
theorem zkf (sz len:Nat) (x y:SV):run P C (.ops (⟨d,.iada sz len x y,none⟩ :: r) :: k) objs tm F=kIada P C (x.ev tm) (y.ev tm) sz len d r k objs tm F:=by
 rw [za3]
 simp only [wpS,kIada]
 cases x.ev tm <;> try rfl
 try (cases y.ev tm <;> rfl)
def kIdx (P:Program) [Tabs P] (C:Cx) (x y:AV)  (d:Option Nat) (r:List SO) (k:List IT) (objs:List OB) (tm:List AV) (F:zaG):Prop :=
 match x,y with
 | .s l,.i kk i => (0 ≤ i ∧ i < l.length) ∧ run P C (.ops r :: k) objs (zap tm d (.i .u8 ((l.getD i.toNat 0).toNat:Int))) F
 | _,_ => False
theorem kIdx_0 (l:List UInt8) (kk:IntKind) (i:Int) :kIdx P C (.s l) (.i kk i)  d r k objs tm F=((0 ≤ i ∧ i < l.length) ∧ run P C (.ops r :: k) objs (zap tm d (.i .u8 ((l.getD i.toNat 0).toNat:Int))) F):=Eq.trans rfl rfl
theorem rn_idx (x y:SV):run P C (.ops (⟨d,.idx x y,none⟩ :: r) :: k) objs tm F=kIdx P C (x.ev tm) (y.ev tm)  d r k objs tm F:=by
 rw [za3]
 simp only [wpS,kIdx]
 cases x.ev tm <;> try rfl
 try (cases y.ev tm <;> rfl)
def kTrno (P:Program) [Tabs P] (C:Cx) (c:Option OB) (b gen:Nat) (i:Int) (sz:Nat) (d:Option Nat) (r:List SO) (k:List IT) (objs:List OB) (tm:List AV) (F:zaG):Prop :=
 match c with
 | some (.orow E s gen' n xs) => (gen'=gen ∧ s=sz ∧ 0 ≤ i ∧ i ≤ n) ∧ run P C (.ops r :: k) (objs.set b (.orow E s (gen + 1) i.toNat (xs.take (i.toNat * s)))) (zap tm d (.orow b (gen + 1))) F
 | _ => False
theorem zlc (E s gen' n:Nat) (xs:List AV) (b gen:Nat) (i:Int) (sz:Nat):kTrno P C (some (.orow E s gen' n xs)) b gen i sz d r k objs tm F=((gen'=gen ∧ s=sz ∧ 0 ≤ i ∧ i ≤ n) ∧ run P C (.ops r :: k) (objs.set b (.orow E s (gen + 1) i.toNat (xs.take (i.toNat * s)))) (zap tm d (.orow b (gen + 1))) F):=Eq.trans rfl rfl
def kTrn (P:Program) [Tabs P] (C:Cx) (x y:AV) (sz:Nat) (d:Option Nat) (r:List SO) (k:List IT) (objs:List OB) (tm:List AV) (F:zaG):Prop :=
 match x,y with
 | .row n xs,.i kk i => (0 ≤ i ∧ i ≤ n) ∧ run P C (.ops r :: k) objs (zap tm d (.row i.toNat (xs.take (i.toNat * sz)))) F
 | .nil,.i kk i => i=0 ∧ run P C (.ops r :: k) objs (zap tm d .nil) F
 | .orow b gen,.i kk i => kTrno P C objs[b]? b gen i sz d r k objs tm F
 | _,_ => False
theorem kTrn_0 (n:Nat) (xs:List AV) (kk:IntKind) (i:Int) (sz:Nat):kTrn P C (.row n xs) (.i kk i) sz d r k objs tm F=((0 ≤ i ∧ i ≤ n) ∧ run P C (.ops r :: k) objs (zap tm d (.row i.toNat (xs.take (i.toNat * sz)))) F):=Eq.trans rfl rfl
theorem kTrn_1 (kk:IntKind) (i:Int) (sz:Nat):kTrn P C (.nil) (.i kk i) sz d r k objs tm F=(i=0 ∧ run P C (.ops r :: k) objs (zap tm d .nil) F):=Eq.trans rfl rfl
theorem kTrn_2 (b gen:Nat) (kk:IntKind) (i:Int) (sz:Nat):kTrn P C (.orow b gen) (.i kk i) sz d r k objs tm F=(kTrno P C objs[b]? b gen i sz d r k objs tm F):=Eq.trans rfl rfl
theorem rn_trn (sz:Nat) (x y:SV):run P C (.ops (⟨d,.trn sz x y,none⟩ :: r) :: k) objs tm F=kTrn P C (x.ev tm) (y.ev tm) sz d r k objs tm F:=by
 rw [za3]
 simp only [wpS,kTrn]
 cases x.ev tm <;> try rfl
 all_goals try (cases y.ev tm <;> try rfl)
 all_goals (
  dsimp only
  rename_i b gen _ _
  generalize objs[b]? = q
  cases q with
  | none => rfl
  | some ob => cases ob <;> rfl)
def kMks (P:Program) [Tabs P] (C:Cx) (x y:AV) (E sz by':Nat) (d:Option Nat) (r:List SO) (k:List IT) (objs:List OB) (tm:List AV) (F:zaG):Prop :=
 match x,y with
 | .i k1 l,.i k2 c => (l=0 ∧ 0 ≤ c ∧ (by':Int) * c ≤ 281474976710656 ∧ c ≤ 140737488351232 + 4096) ∧ run P C (.ops r :: k) (objs ++ [.orow E sz 0 0 []]) (zap tm d (.orow objs.length 0)) F
 | _,_ => False
theorem kMks_0 (k1:IntKind) (l:Int) (k2:IntKind) (c:Int) (E sz by':Nat):kMks P C (.i k1 l) (.i k2 c) E sz by' d r k objs tm F=((l=0 ∧ 0 ≤ c ∧ (by':Int) * c ≤ 281474976710656 ∧ c ≤ 140737488351232 + 4096) ∧ run P C (.ops r :: k) (objs ++ [.orow E sz 0 0 []]) (zap tm d (.orow objs.length 0)) F):=Eq.trans rfl rfl
theorem rn_mks (E sz by':Nat) (x y:SV):run P C (.ops (⟨d,.mks E sz by' x y,none⟩ :: r) :: k) objs tm F=kMks P C (x.ev tm) (y.ev tm) E sz by' d r k objs tm F:=by
 rw [za3]
 simp only [wpS,kMks,show (140737488351232 + 4096:Int)=140737488355328 from rfl]
 cases x.ev tm <;> try rfl
 try (cases y.ev tm <;> rfl)
def kMkz (P:Program) [Tabs P] (C:Cx) (x:AV) (E by':Nat) (kd:IntKind) (z:Int) (d:Option Nat) (r:List SO) (k:List IT) (objs:List OB) (tm:List AV) (F:zaG):Prop :=
 match x with
 | .i _ l => (0 ≤ l ∧ (by':Int) * l ≤ 281474976710656 ∧ l ≤ 140737488355328) ∧ run P C (.ops r :: k) (objs ++ [.orow E 1 0 l.toNat (List.replicate l.toNat (.i kd z))]) (zap tm d (.orow objs.length 0)) F
 | _ => False
theorem kMkz_i (q:IntKind) (l:Int) (E by':Nat) (kd:IntKind) (z:Int):kMkz P C (.i q l) E by' kd z d r k objs tm F=((0 ≤ l ∧ (by':Int) * l ≤ 281474976710656 ∧ l ≤ 140737488355328) ∧ run P C (.ops r :: k) (objs ++ [.orow E 1 0 l.toNat (List.replicate l.toNat (.i kd z))]) (zap tm d (.orow objs.length 0)) F):=Eq.trans rfl rfl
theorem rn_mkz (E by':Nat) (kd:IntKind) (z:Int) (x:SV):run P C (.ops (⟨d,.mkz E by' kd z x,none⟩ :: r) :: k) objs tm F=kMkz P C (x.ev tm) E by' kd z d r k objs tm F:=by
 rw [za3]
 simp only [wpS,kMkz]
 cases x.ev tm <;> rfl
def kCap (P:Program) [Tabs P] (C:Cx) (v:AV) (s:Option (Nat × List AV)) (sz by':Nat) (d:Option Nat) (r:List SO) (k:List IT) (objs:List OB) (tm:List AV) (F:zaG):Prop :=
 match v,s with
 | .crow n xs,some (m,ys) => ((xs.length=n * sz ∧ ys.length=m * sz) ∧ 0 < m ∧ (n + m) * by' ≤ 140737488355328 ∧ n + m ≤ 140737488355328) ∧ run P C (.ops r :: k) objs (zap tm d (.row (n + m) (xs ++ ys))) F
 | _,_ => False
theorem kCap_c (n m:Nat) (xs ys:List AV) (sz by':Nat):kCap P C (.crow n xs) (some (m,ys)) sz by' d r k objs tm F=(((xs.length=n * sz ∧ ys.length=m * sz) ∧ 0 < m ∧ (n + m) * by' ≤ 140737488355328 ∧ n + m ≤ 140737488355328) ∧ run P C (.ops r :: k) objs (zap tm d (.row (n + m) (xs ++ ys))) F):=Eq.trans rfl rfl
theorem zkl (sz by':Nat) (x y:SV):run P C (.ops (⟨d,.capp sz by' x y,none⟩ :: r) :: k) objs tm F=kCap P C (x.ev tm) (zcu [] (y.ev tm)) sz by' d r k objs tm F:=by
 rw [za3]
 simp only [wpS,kCap]
 cases x.ev tm <;> rfl
def zhk (P:Program) [Tabs P] (C:Cx) (op:BinOp) (x y:AV) (d:Option Nat) (r:List SO) (k:List IT) (objs:List OB) (tm:List AV) (F:zaG):Prop:=binK op x y fun v => run P C (.ops r :: k) objs (zap tm d v) F
theorem rn_bin (q:BinOp) (x y:SV):run P C (.ops (⟨d,.bin q x y,none⟩ :: r) :: k) objs tm F=zhk P C q (x.ev tm) (y.ev tm) d r k objs tm F:=Eq.trans rfl rfl
theorem zix (q:IntKind) (m n:Int):zhk P C .add (.i q m) (.i q n) d r k objs tm F=kAr P C q (m + n) d r k objs tm F:=propext ⟨fun h => h.2,fun h => ⟨rfl,h⟩⟩
theorem zij (q:IntKind) (m n:Int):zhk P C .sub (.i q m) (.i q n) d r k objs tm F=kAr P C q (m - n) d r k objs tm F:=propext ⟨fun h => h.2,fun h => ⟨rfl,h⟩⟩
theorem ziq (q:IntKind) (m n:Int):zhk P C .mul (.i q m) (.i q n) d r k objs tm F=kAr P C q (m * n) d r k objs tm F:=propext ⟨fun h => h.2,fun h => ⟨rfl,h⟩⟩
theorem zin (q:IntKind) (m n:Int):zhk P C .quo (.i q m) (.i q n) d r k objs tm F=(n ≠ 0 ∧ kAr P C q (m.tdiv n) d r k objs tm F):=propext ⟨fun h => h.2,fun h => ⟨rfl,h⟩⟩
theorem zim (q:IntKind) (m n:Int):zhk P C .rem (.i q m) (.i q n) d r k objs tm F=(n ≠ 0 ∧ run P C (.ops r :: k) objs (zap tm d (.i q (m.tmod n))) F):=propext ⟨fun h => h.2,fun h => ⟨rfl,h⟩⟩
theorem ziv (q:IntKind) (m n:Int):zhk P C .eql (.i q m) (.i q n) d r k objs tm F=run P C (.ops r :: k) objs (zap tm d (.b (decide (m=n)))) F:=propext ⟨fun h => h.2,fun h => ⟨rfl,h⟩⟩
theorem zio (q:IntKind) (m n:Int):zhk P C .neq (.i q m) (.i q n) d r k objs tm F=run P C (.ops r :: k) objs (zap tm d (.b (decide (¬ m=n)))) F:=propext ⟨fun h => h.2,fun h => ⟨rfl,h⟩⟩
theorem zir (q:IntKind) (m n:Int):zhk P C .lss (.i q m) (.i q n) d r k objs tm F=run P C (.ops r :: k) objs (zap tm d (.b (decide (m < n)))) F:=propext ⟨fun h => h.2,fun h => ⟨rfl,h⟩⟩
theorem zis (q:IntKind) (m n:Int):zhk P C .leq (.i q m) (.i q n) d r k objs tm F=run P C (.ops r :: k) objs (zap tm d (.b (decide (m ≤ n)))) F:=propext ⟨fun h => h.2,fun h => ⟨rfl,h⟩⟩
theorem zit (q:IntKind) (m n:Int):zhk P C .gtr (.i q m) (.i q n) d r k objs tm F=run P C (.ops r :: k) objs (zap tm d (.b (decide (n < m)))) F:=propext ⟨fun h => h.2,fun h => ⟨rfl,h⟩⟩
theorem ziu (q:IntKind) (m n:Int):zhk P C .geq (.i q m) (.i q n) d r k objs tm F=run P C (.ops r :: k) objs (zap tm d (.b (decide (n ≤ m)))) F:=propext ⟨fun h => h.2,fun h => ⟨rfl,h⟩⟩
theorem ziw (l m:List UInt8):zhk P C .add (.s l) (.s m) d r k objs tm F=(l.length + m.length ≤ 9223372036854775807 ∧ run P C (.ops r :: k) objs (zap tm d (.s (l ++ m))) F):=Eq.trans rfl rfl
theorem zil (l m:List UInt8):zhk P C .eql (.s l) (.s m) d r k objs tm F=run P C (.ops r :: k) objs (zap tm d (.b (decide (l=m)))) F:=Eq.trans rfl rfl
theorem zik (l m:List UInt8):zhk P C .neq (.s l) (.s m) d r k objs tm F=run P C (.ops r :: k) objs (zap tm d (.b (decide (¬ l=m)))) F:=Eq.trans rfl rfl
def kSl2 (P:Program) [Tabs P] (C:Cx) (l:List UInt8) (i j:Option Int) (d:Option Nat) (r:List SO) (k:List IT) (objs:List OB) (tm:List AV) (F:zaG):Prop :=
 match i,j with
 | some i,some j => (0 ≤ i ∧ i ≤ j ∧ j ≤ l.length) ∧ run P C (.ops r :: k) objs (zap tm d (.s ((l.take j.toNat).drop i.toNat))) F
 | _,_ => False
def kSl (P:Program) [Tabs P] (C:Cx) (v:AV) (lo hi:Option SV) (d:Option Nat) (r:List SO) (k:List IT) (objs:List OB) (tm:List AV) (F:zaG):Prop :=
 match v with
 | .s l => kSl2 P C l (zgZ tm 0 lo) (zgZ tm l.length hi) d r k objs tm F
 | _ => False
def svi:AV → Option Int
 | .i _ n => some n
 | _ => none
theorem svi_i (q:IntKind) (n:Int):svi (.i q n)=some n:=Eq.trans rfl rfl
theorem zgg (z:Int):zgZ tm z none=some z:=Eq.trans rfl rfl
theorem zgf (z:Int) (x:SV):zgZ tm z (some x)=svi (x.ev tm):=by
 simp only [zgZ]; cases x.ev tm <;> rfl
theorem kSl2_s (l:List UInt8) (i j:Int):kSl2 P C l (some i) (some j) d r k objs tm F=((0 ≤ i ∧ i ≤ j ∧ j ≤ l.length) ∧ run P C (.ops r :: k) objs (zap tm d (.s ((l.take j.toNat).drop i.toNat))) F):=Eq.trans rfl rfl
theorem kSl_s (l:List UInt8) (lo hi:Option SV):kSl P C (.s l) lo hi d r k objs tm F=kSl2 P C l (zgZ tm 0 lo) (zgZ tm l.length hi) d r k objs tm F:=Eq.trans rfl rfl
theorem zj7 (x:SV) (lo hi:Option SV):run P C (.ops (⟨d,.slcs x lo hi,none⟩ :: r) :: k) objs tm F=kSl P C (x.ev tm) lo hi d r k objs tm F:=by
 rw [za3]
 simp only [wpS,kSl]
 cases x.ev tm <;> try rfl
 try (case s l => dsimp only [kSl2]; cases zgZ tm 0 lo <;> cases zgZ tm l.length hi <;> rfl)
def kAp3 (P:Program) [Tabs P] (C:Cx) (c:Option OB) (b gen E sz by' m:Nat) (ys:List AV) (d:Option Nat) (r:List SO) (k:List IT) (objs:List OB) (tm:List AV) (F:zaG):Prop :=
 match c with
 | some (.orow E' sz' gen' n xs) => ((E'=E ∧ sz'=sz ∧ gen'=gen) ∧ ys.length=m * sz ∧ (n + m) * by' ≤ 140737488355328 ∧ n + m ≤ 140737488355328) ∧ run P C (.ops r :: k) (objs.set b (.orow E sz (gen + 1) (n + m) (xs ++ ys))) (zap tm d (.orow b (gen + 1))) F
 | _ => False
def kAp2 (P:Program) [Tabs P] (C:Cx) (v:AV) (E sz by' m:Nat) (ys:List AV) (d:Option Nat) (r:List SO) (k:List IT) (objs:List OB) (tm:List AV) (F:zaG):Prop :=
 match v with
 | .orow b gen => kAp3 P C objs[b]? b gen E sz by' m ys d r k objs tm F
 | .nil => (ys.length=m * sz ∧ m * by' ≤ 140737488355328 ∧ m ≤ 140737488355328) ∧ run P C (.ops r :: k) (objs ++ [.orow E sz 0 m ys]) (zap tm d (.orow objs.length 0)) F
 | _ => False
def kAp (P:Program) [Tabs P] (C:Cx) (v:AV) (s:Option (Nat × List AV)) (E sz by':Nat) (d:Option Nat) (r:List SO) (k:List IT) (objs:List OB) (tm:List AV) (F:zaG):Prop :=
 match s with
 | some (m,ys) => kAp2 P C v E sz by' m ys d r k objs tm F
 | none => False
def kAs2 (P:Program) [Tabs P] (C:Cx) (c:Option OB) (b gen E:Nat) (l:List UInt8) (d:Option Nat) (r:List SO) (k:List IT) (objs:List OB) (tm:List AV) (F:zaG):Prop :=
 match c with
 | some (.orow E' sz' gen' n xs) => ((E'=E ∧ sz'=1 ∧ gen'=gen) ∧ n + l.length ≤ 140737488355328) ∧ run P C (.ops r :: k) (objs.set b (.orow E 1 (gen + 1) (n + l.length) (xs ++ byA l))) (zap tm d (.orow b (gen + 1))) F
 | _ => False
def kAs (P:Program) [Tabs P] (C:Cx) (v y:AV) (E:Nat) (d:Option Nat) (r:List SO) (k:List IT) (objs:List OB) (tm:List AV) (F:zaG):Prop :=
 match y with
 | .s l => match v with
  | .orow b gen => kAs2 P C objs[b]? b gen E l d r k objs tm F
  | .nil => l.length ≤ 140737488355328 ∧ run P C (.ops r :: k) (objs ++ [.orow E 1 0 l.length (byA l)]) (zap tm d (.orow objs.length 0)) F
  | _ => False
 | _ => False
theorem kAp_s (v:AV) (m:Nat) (ys:List AV) (E sz by':Nat):kAp P C v (some (m,ys)) E sz by' d r k objs tm F=kAp2 P C v E sz by' m ys d r k objs tm F:=Eq.trans rfl rfl
theorem kAp2_o (b gen E sz by' m:Nat) (ys:List AV):kAp2 P C (.orow b gen) E sz by' m ys d r k objs tm F=kAp3 P C objs[b]? b gen E sz by' m ys d r k objs tm F:=Eq.trans rfl rfl
theorem kAp2_n (E sz by' m:Nat) (ys:List AV):kAp2 P C .nil E sz by' m ys d r k objs tm F=((ys.length=m * sz ∧ m * by' ≤ 140737488355328 ∧ m ≤ 140737488355328) ∧ run P C (.ops r :: k) (objs ++ [.orow E sz 0 m ys]) (zap tm d (.orow objs.length 0)) F):=Eq.trans rfl rfl
theorem kAp3_o (b gen E sz by' m n:Nat) (ys xs:List AV):kAp3 P C (some (.orow E sz gen n xs)) b gen E sz by' m ys d r k objs tm F=((ys.length=m * sz ∧ (n + m) * by' ≤ 140737488355328 ∧ n + m ≤ 140737488355328) ∧ run P C (.ops r :: k) (objs.set b (.orow E sz (gen + 1) (n + m) (xs ++ ys))) (zap tm d (.orow b (gen + 1))) F):=propext ⟨fun h => ⟨h.1.2,h.2⟩,fun h => ⟨⟨⟨rfl,rfl,rfl⟩,h.1⟩,h.2⟩⟩
theorem kAs_o (b gen E:Nat) (l:List UInt8):kAs P C (.orow b gen) (.s l) E d r k objs tm F=kAs2 P C objs[b]? b gen E l d r k objs tm F:=Eq.trans rfl rfl
theorem kAs_n (E:Nat) (l:List UInt8):kAs P C .nil (.s l) E d r k objs tm F=(l.length ≤ 140737488355328 ∧ run P C (.ops r :: k) (objs ++ [.orow E 1 0 l.length (byA l)]) (zap tm d (.orow objs.length 0)) F):=Eq.trans rfl rfl
theorem kAs2_o (b gen E n:Nat) (l:List UInt8) (xs:List AV):kAs2 P C (some (.orow E 1 gen n xs)) b gen E l d r k objs tm F=(n + l.length ≤ 140737488355328 ∧ run P C (.ops r :: k) (objs.set b (.orow E 1 (gen + 1) (n + l.length) (xs ++ byA l))) (zap tm d (.orow b (gen + 1))) F):=propext ⟨fun h => ⟨h.1.2,h.2⟩,fun h => ⟨⟨⟨rfl,rfl,rfl⟩,h.1⟩,h.2⟩⟩
theorem rn_app (E sz by':Nat) (x y:SV):run P C (.ops (⟨d,.app E sz by' x y,none⟩ :: r) :: k) objs tm F=kAp P C (x.ev tm) (zcu objs (y.ev tm)) E sz by' d r k objs tm F:=by
 rw [za3]
 simp only [wpS,kAp]
 cases hs:zcu objs (y.ev tm) with
 | none => rfl
 | some p =>
  obtain ⟨m,ys⟩:=p
  simp only [kAp2]
  cases x.ev tm <;> try rfl
  try (case orow b gen =>
   dsimp only [kAp3]
   generalize objs[b]? = q
   cases q with
   | none => rfl
   | some ob => cases ob <;> rfl)
theorem zko (E:Nat) (x y:SV):run P C (.ops (⟨d,.apps E x y,none⟩ :: r) :: k) objs tm F=kAs P C (x.ev tm) (y.ev tm) E d r k objs tm F:=by
 rw [za3]
 simp only [wpS,kAs]
 cases y.ev tm <;> try rfl
 try (case s l =>
  cases x.ev tm <;> try rfl
  try (case orow b gen =>
   dsimp only [kAs2]
   generalize objs[b]? = q
   cases q with
   | none => rfl
   | some ob => cases ob <;> rfl))
def kCb2 (P:Program) [Tabs P] (C:Cx) (c:Option OB) (gen:Nat) (d:Option Nat) (r:List SO) (k:List IT) (objs:List OB) (tm:List AV) (F:zaG):Prop :=
 match c with
 | some (.orow _ sz gen' _ xs) => (gen'=gen ∧ sz=1) ∧ ∃ l,xs=byA l ∧ run P C (.ops r :: k) objs (zap tm d (.s l)) F
 | _ => False
def kCb3 (P:Program) [Tabs P] (C:Cx) (c:Option OB) (off n:Nat) (d:Option Nat) (r:List SO) (k:List IT) (objs:List OB) (tm:List AV) (F:zaG):Prop :=
 match c with
 | some (.box _ cs) => ∃ l,((cs.drop off).take n=byA l ∧ l.length=n) ∧ run P C (.ops r :: k) objs (zap tm d (.s l)) F
 | _ => False
def kCb (P:Program) [Tabs P] (C:Cx) (v:AV) (d:Option Nat) (r:List SO) (k:List IT) (objs:List OB) (tm:List AV) (F:zaG):Prop :=
 match v with
 | .orow b gen => kCb2 P C objs[b]? gen d r k objs tm F
 | .row n xs => ∃ l,(xs=byA l ∧ n=l.length) ∧ run P C (.ops r :: k) objs (zap tm d (.s l)) F
 | .nil => run P C (.ops r :: k) objs (zap tm d (.s [])) F
 | .bsl b off n => kCb3 P C objs[b]? off n d r k objs tm F
 | _ => False
theorem kCb_o (b gen:Nat):kCb P C (.orow b gen) d r k objs tm F=kCb2 P C objs[b]? gen d r k objs tm F:=Eq.trans rfl rfl
theorem kCb_n :kCb P C .nil d r k objs tm F=run P C (.ops r :: k) objs (zap tm d (.s [])) F:=Eq.trans rfl rfl
theorem kCb_b (b off n:Nat):kCb P C (.bsl b off n) d r k objs tm F=kCb3 P C objs[b]? off n d r k objs tm F:=Eq.trans rfl rfl
theorem zkk (x:SV):run P C (.ops (⟨d,.cvbs x,none⟩ :: r) :: k) objs tm F=kCb P C (x.ev tm) d r k objs tm F:=by
 rw [za3]
 simp only [wpS,kCb]
 cases x.ev tm <;> try rfl
 try (case orow b gen =>
  dsimp only
  generalize objs[b]? = q
  cases q with
  | none => rfl
  | some ob => cases ob <;> rfl)
 try (case bsl b off n =>
  dsimp only
  generalize objs[b]? = q
  cases q with
  | none => rfl
  | some ob => cases ob <;> rfl)
theorem rn_mkf (f:Nat) (fs cs:List SV):run P C (.ops (⟨d,.mkf f fs cs,none⟩ :: r) :: k) objs tm F=run P C (.ops r :: k) objs (zap tm d (.fn f (evs tm fs) (evs tm cs))) F:=by rw [zd0,zd0]; rfl
theorem kO_if (c:Prop) [Decidable c] (v:AV):kO P C (if c then some v else none) d r k objs tm F=(c ∧ run P C (.ops r :: k) objs (zap tm d v) F):=by
 by_cases h:c
 ·simp [h,kO]
 ·simp [h,kO]
theorem pq_and (q:IntKind) (a b:Int):pq (.bits .and) [.i q a,.i q b]=some (.i q (q.wrap (BitVec.ofInt q.bits a &&& BitVec.ofInt q.bits b).toNat)):=by simp [pq,zjB]
theorem pq_or (q:IntKind) (a b:Int):pq (.bits .or) [.i q a,.i q b]=some (.i q (q.wrap (BitVec.ofInt q.bits a ||| BitVec.ofInt q.bits b).toNat)):=by simp [pq,zjB]
theorem pq_xor (q:IntKind) (a b:Int):pq (.bits .xor) [.i q a,.i q b]=some (.i q (q.wrap (BitVec.ofInt q.bits a ^^^ BitVec.ofInt q.bits b).toNat)):=by simp [pq,zjB]
theorem pq_shl (q q':IntKind) (a b:Int):pq .shl [.i q a,.i q' b]=if 0 ≤ b then some (.i q (q.wrap (a * 2 ^ (min b.toNat q.bits)))) else none:=Eq.trans rfl rfl
theorem pq_shr (q q':IntKind) (a b:Int):pq .shr [.i q a,.i q' b]=if 0 ≤ b then some (.i q (a.fdiv (2 ^ (min b.toNat q.bits)))) else none:=Eq.trans rfl rfl
theorem pq_mn (q:IntKind) (a b:Int):pq .mn [.i q a,.i q b]=some (.i q (if b < a then b else a)):=by simp [pq]
theorem pq_mx (q:IntKind) (a b:Int):pq .mx [.i q a,.i q b]=some (.i q (if a < b then b else a)):=by simp [pq]
theorem pq_rsl (sz n:Nat) (xs:List AV) (q:IntKind) (a:Int):pq (.rsl sz) [.row n xs,.i q a]=if 0 ≤ a ∧ a ≤ n then some (.row (n - a.toNat) ((xs.take (n * sz)).drop (a.toNat * sz))) else none:=Eq.trans rfl rfl
theorem zkH (sz:Nat) (q:IntKind) (a:Int):pq (.rsl sz) [.nil,.i q a]=if a=0 then some .nil else none:=Eq.trans rfl rfl
theorem zkI (sz n:Nat) (xs:List AV) (q:IntKind) (a:Int):pq (.rslh sz) [.row n xs,.i q a]=if 0 ≤ a ∧ a ≤ n then some (.row a.toNat (xs.take (a.toNat * sz))) else none:=Eq.trans rfl rfl
theorem zh3 (sz:Nat) (q:IntKind) (a:Int):pq (.rslh sz) [.nil,.i q a]=if a=0 then some .nil else none:=Eq.trans rfl rfl
theorem zkJ (sz n:Nat) (xs:List AV) (q q':IntKind) (a b:Int):pq (.rslb sz) [.row n xs,.i q a,.i q' b]=if 0 ≤ a ∧ a ≤ b ∧ b ≤ n then some (.row (b.toNat - a.toNat) ((xs.take (b.toNat * sz)).drop (a.toNat * sz))) else none:=Eq.trans rfl rfl
theorem pq_asl (sz len b off:Nat) (q:IntKind) (a:Int):pq (.asl sz len) [.p b off,.i q a]=if 0 ≤ a ∧ a < len then some (.bsl b (off + a.toNat * sz) (len - a.toNat)) else none:=Eq.trans rfl rfl
theorem zkK (sz len b off:Nat) (q:IntKind) (a:Int):pq (.aslh sz len) [.p b off,.i q a]=if 0 ≤ a ∧ a ≤ len ∧ 0 < len then some (.bsl b off a.toNat) else none:=Eq.trans rfl rfl
theorem zkL (sz len b off:Nat) (q q':IntKind) (a c:Int):pq (.aslb sz len) [.p b off,.i q a,.i q' c]=if 0 ≤ a ∧ a ≤ c ∧ c ≤ len ∧ a < len then some (.bsl b (off + a.toNat * sz) (c.toNat - a.toNat)) else none:=Eq.trans rfl rfl
theorem pq_snn (ne:Bool):pq (.snil ne) [.nil,.nil]=some (.b (!ne)):=Eq.trans rfl rfl
theorem pq_snz (ne b:Bool):pq (.snil ne) [.zn b,.nil]=some (.b (if ne then !b else b)):=Eq.trans rfl rfl
theorem pq_snr (ne:Bool) (n:Nat) (x:AV) (xs:List AV):pq (.snil ne) [.row n (x :: xs),.nil]=some (.b ne):=Eq.trans rfl rfl
theorem pq_sl3 (n:Nat) (xs:List AV) (q q':IntKind):pq .sl3 [.row n xs,.i q n,.i q' n]=some (.crow n xs):=by simp [pq]
theorem zkG (q q':IntKind):pq .sl3 [.nil,.i q 0,.i q' 0]=some (.crow 0 []):=by simp [pq]
theorem pq_lss (l m:List UInt8):pq (.scmp .lss) [.s l,.s m]=some (.b (zfs l m)):=Eq.trans rfl rfl
theorem pq_leq (l m:List UInt8):pq (.scmp .leq) [.s l,.s m]=some (.b (zfs l m || l == m)):=Eq.trans rfl rfl
theorem pq_gtr (l m:List UInt8):pq (.scmp .gtr) [.s l,.s m]=some (.b (!zfs l m && !(l == m))):=Eq.trans rfl rfl
theorem pq_geq (l m:List UInt8):pq (.scmp .geq) [.s l,.s m]=some (.b (!zfs l m)):=Eq.trans rfl rfl
theorem rn_pu (q:PQ) (xs:List SV):run P C (.ops (⟨d,.pu q xs,none⟩ :: r) :: k) objs tm F=kO P C (pq q (evs tm xs)) d r k objs tm F:=by
 rw [zd0]
 rw [za3]
 simp only [wpS]
 cases pq q (xs.map fun x => x.ev tm) <;> rfl
def kLk2 (P:Program) [Tabs P] (C:Cx) (c:Option OB) (z:AV) (ok:Bool) (l:List UInt8) (d:Option Nat) (r:List SO) (k:List IT) (objs:List OB) (tm:List AV) (F:zaG):Prop :=
 match c with
 | some (.mp es) => run P C (.ops r :: k) objs (zap tm d (lkA z ok (zjH l es))) F
 | _ => False
def kMup2 (P:Program) [Tabs P] (C:Cx) (c:Option OB) (b:Nat) (l:List UInt8) (v:AV) (d:Option Nat) (r:List SO) (k:List IT) (objs:List OB) (tm:List AV) (F:zaG):Prop :=
 match c with
 | some (.mp es) => v.one=true ∧ run P C (.ops r :: k) (objs.set b (.mp (zid l v es))) (zap tm d .u) F
 | _ => False
theorem kLk2_m (es:List (List UInt8 × AV)) (z:AV) (ok:Bool) (l:List UInt8):kLk2 P C (some (.mp es)) z ok l d r k objs tm F=run P C (.ops r :: k) objs (zap tm d (lkA z ok (zjH l es))) F:=Eq.trans rfl rfl
theorem zlh (es:List (List UInt8 × AV)) (b:Nat) (l:List UInt8) (v:AV):kMup2 P C (some (.mp es)) b l v d r k objs tm F=(v.one=true ∧ run P C (.ops r :: k) (objs.set b (.mp (zid l v es))) (zap tm d .u) F):=Eq.trans rfl rfl
def kLk (P:Program) [Tabs P] (C:Cx) (x y:AV) (z:AV) (ok:Bool) (d:Option Nat) (r:List SO) (k:List IT) (objs:List OB) (tm:List AV) (F:zaG):Prop :=
 match x,y with
 | .m b,.s l => kLk2 P C objs[b]? z ok l d r k objs tm F
 | _,_ => False
theorem kLk_0 (b:Nat) (l:List UInt8) (z:AV) (ok:Bool):kLk P C (.m b) (.s l) z ok d r k objs tm F=(kLk2 P C objs[b]? z ok l d r k objs tm F):=Eq.trans rfl rfl
theorem rn_lk (z:AV) (ok:Bool) (x y:SV):run P C (.ops (⟨d,.lk z ok x y,none⟩ :: r) :: k) objs tm F=kLk P C (x.ev tm) (y.ev tm) z ok d r k objs tm F:=by
 rw [za3]
 simp only [wpS,kLk]
 cases x.ev tm <;> try rfl
 all_goals try (cases y.ev tm <;> try rfl)
 all_goals (
  dsimp only
  rename_i b l
  generalize objs[b]? = q
  cases q with
  | none => rfl
  | some ob => cases ob <;> rfl)
def kMup (P:Program) [Tabs P] (C:Cx) (x y:AV) (v:AV) (d:Option Nat) (r:List SO) (k:List IT) (objs:List OB) (tm:List AV) (F:zaG):Prop :=
 match x,y with
 | .m b,.s l => kMup2 P C objs[b]? b l v d r k objs tm F
 | _,_ => False
theorem kMup_0 (b:Nat) (l:List UInt8) (v:AV):kMup P C (.m b) (.s l) v d r k objs tm F=(kMup2 P C objs[b]? b l v d r k objs tm F):=Eq.trans rfl rfl
theorem rn_mup (x y v:SV):run P C (.ops (⟨d,.mup x y v,none⟩ :: r) :: k) objs tm F=kMup P C (x.ev tm) (y.ev tm) (v.ev tm) d r k objs tm F:=by
 rw [za3]
 simp only [wpS,kMup]
 cases x.ev tm <;> try rfl
 all_goals try (cases y.ev tm <;> try rfl)
 all_goals (
  dsimp only
  rename_i b l
  generalize objs[b]? = q
  cases q with
  | none => rfl
  | some ob => cases ob <;> rfl)
theorem lkA_tt (z v:AV):lkA z true (some v)=.tup [v,.b true]:=Eq.trans rfl rfl
theorem lkA_tf (z v:AV):lkA z false (some v)=v:=Eq.trans rfl rfl
theorem lkA_nt (z:AV):lkA z true none=.tup [z,.b false]:=Eq.trans rfl rfl
theorem lkA_nf (z:AV):lkA z false none=z:=Eq.trans rfl rfl
theorem zkb :run P C (.ops (⟨d,.mkm0,none⟩ :: r) :: k) objs tm F=run P C (.ops r :: k) (objs ++ [.mp []]) (zap tm d (.m objs.length)) F:=by
 rw [za3]
 rfl
def kMkm (P:Program) [Tabs P] (C:Cx) (x:AV) (d:Option Nat) (r:List SO) (k:List IT) (objs:List OB) (tm:List AV) (F:zaG):Prop :=
 match x with
 | .i _ _ => run P C (.ops r :: k) (objs ++ [.mp []]) (zap tm d (.m objs.length)) F
 | _ => False
theorem kMkm_i (q:IntKind) (n:Int):kMkm P C (.i q n) d r k objs tm F=run P C (.ops r :: k) (objs ++ [.mp []]) (zap tm d (.m objs.length)) F:=Eq.trans rfl rfl
theorem zka (x:SV):run P C (.ops (⟨d,.mkm1 x,none⟩ :: r) :: k) objs tm F=kMkm P C (x.ev tm) d r k objs tm F:=by
 rw [za3]
 simp only [wpS,kMkm]
 cases x.ev tm <;> rfl
def kG (P:Program) [Tabs P] (C:Cx) (v:AV) (op:SOp) (t:Nat) (w:Bool) (d:Option Nat) (r:List SO) (k:List IT) (objs:List OB) (tm:List AV) (F:zaG):Prop :=
 match v with
 | .b x => (x=w → run P C (.ops (⟨d,op,none⟩ :: r) :: k) objs (tm.set t (.b w)) F) ∧ (x=!w → run P C (.ops r :: k) objs (zap (tm.set t (.b (!w))) d (.o undef)) F)
 | .o (.tuple _) => run P C (.ops r :: k) objs (zap tm d (.o undef)) F
 | _ => False
def kGD (P:Program) [Tabs P] (C:Cx) (v:AV) (op:SOp) (t:Nat) (w:Bool) (d:Option Nat) (r:List SO) (k:List IT) (objs:List OB) (tm:List AV) (F:zaG):Prop :=
 match v with
 | .b x => (x=w → run P C (.dops (⟨d,op,none⟩ :: r) :: k) objs (tm.set t (.b w)) F) ∧ (x=!w → run P C (.dops r :: k) objs (zap (tm.set t (.b (!w))) d (.o undef)) F)
 | .o (.tuple _) => run P C (.dops r :: k) objs (zap tm d (.o undef)) F
 | _ => False
theorem kG_tt (op:SOp) (t:Nat):kG P C (.b true) op t true d r k objs tm F=run P C (.ops (⟨d,op,none⟩ :: r) :: k) objs (tm.set t (.b true)) F:=propext ⟨fun h => h.1 rfl,fun h => ⟨fun _ => h,fun e => absurd e (by decide)⟩⟩
theorem kG_tf (op:SOp) (t:Nat):kG P C (.b true) op t false d r k objs tm F=run P C (.ops r :: k) objs (zap (tm.set t (.b true)) d (.o undef)) F:=propext ⟨fun h => h.2 rfl,fun h => ⟨fun e => absurd e (by decide),fun _ => h⟩⟩
theorem kG_ft (op:SOp) (t:Nat):kG P C (.b false) op t true d r k objs tm F=run P C (.ops r :: k) objs (zap (tm.set t (.b false)) d (.o undef)) F:=propext ⟨fun h => h.2 rfl,fun h => ⟨fun e => absurd e (by decide),fun _ => h⟩⟩
theorem kG_ff (op:SOp) (t:Nat):kG P C (.b false) op t false d r k objs tm F=run P C (.ops (⟨d,op,none⟩ :: r) :: k) objs (tm.set t (.b false)) F:=propext ⟨fun h => h.1 rfl,fun h => ⟨fun _ => h,fun e => absurd e (by decide)⟩⟩
theorem kG_u (op:SOp) (t:Nat) (w:Bool):kG P C (.o undef) op t w d r k objs tm F=run P C (.ops r :: k) objs (zap tm d (.o undef)) F:=Eq.trans rfl rfl
theorem kG_v (op:SOp) (t:Nat) (w:Bool) (vs:Array Value):kG P C (.o (.tuple vs)) op t w d r k objs tm F=run P C (.ops r :: k) objs (zap tm d (.o undef)) F:=Eq.trans rfl rfl
theorem kGD_tt (op:SOp) (t:Nat):kGD P C (.b true) op t true d r k objs tm F=run P C (.dops (⟨d,op,none⟩ :: r) :: k) objs (tm.set t (.b true)) F:=propext ⟨fun h => h.1 rfl,fun h => ⟨fun _ => h,fun e => absurd e (by decide)⟩⟩
theorem kGD_tf (op:SOp) (t:Nat):kGD P C (.b true) op t false d r k objs tm F=run P C (.dops r :: k) objs (zap (tm.set t (.b true)) d (.o undef)) F:=propext ⟨fun h => h.2 rfl,fun h => ⟨fun e => absurd e (by decide),fun _ => h⟩⟩
theorem kGD_ft (op:SOp) (t:Nat):kGD P C (.b false) op t true d r k objs tm F=run P C (.dops r :: k) objs (zap (tm.set t (.b false)) d (.o undef)) F:=propext ⟨fun h => h.2 rfl,fun h => ⟨fun e => absurd e (by decide),fun _ => h⟩⟩
theorem kGD_ff (op:SOp) (t:Nat):kGD P C (.b false) op t false d r k objs tm F=run P C (.dops (⟨d,op,none⟩ :: r) :: k) objs (tm.set t (.b false)) F:=propext ⟨fun h => h.1 rfl,fun h => ⟨fun _ => h,fun e => absurd e (by decide)⟩⟩
theorem kGD_u (op:SOp) (t:Nat) (w:Bool):kGD P C (.o undef) op t w d r k objs tm F=run P C (.dops r :: k) objs (zap tm d (.o undef)) F:=Eq.trans rfl rfl
theorem kGD_v (op:SOp) (t:Nat) (w:Bool) (vs:Array Value):kGD P C (.o (.tuple vs)) op t w d r k objs tm F=run P C (.dops r :: k) objs (zap tm d (.o undef)) F:=Eq.trans rfl rfl
theorem zhU (op:SOp) (t:Nat) (w:Bool):run P C (.ops (⟨d,op,some (t,w)⟩ :: r) :: k) objs tm F=kG P C ((tm[t]?).getD .u) op t w d r k objs tm F:=by
 show wpR P _ _ _ _=_
 simp only [wpR,kG]
 cases (tm[t]?).getD .u <;> try rfl
 try (case o v => cases v <;> rfl)
theorem zgp (op:SOp) (t:Nat) (w:Bool):run P C (.dops (⟨d,op,some (t,w)⟩ :: r) :: k) objs tm F=kGD P C ((tm[t]?).getD .u) op t w d r k objs tm F:=by
 show wpD P _ _ _ _=_
 simp only [wpD,kGD]
 cases (tm[t]?).getD .u <;> try rfl
 try (case o v => cases v <;> rfl)
def kC (P:Program) [Tabs P] (C:Cx) (v:AV) (x y:SCode) (k:List IT) (objs:List OB) (tm:List AV) (F:zaG):Prop :=
 match v with
 | .b t => (t=true → run P C (.code x :: k) objs tm F) ∧ (t=false → run P C (.code y :: k) objs tm F)
 | _ => False
theorem kC_t (x y:SCode):kC P C (.b true) x y k objs tm F=run P C (.code x :: k) objs tm F:=propext ⟨fun h => h.1 rfl,fun h => ⟨fun _ => h,fun e => absurd e (by decide)⟩⟩
theorem kC_f (x y:SCode):kC P C (.b false) x y k objs tm F=run P C (.code y :: k) objs tm F:=propext ⟨fun h => h.2 rfl,fun h => ⟨fun e => absurd e (by decide),fun _ => h⟩⟩
theorem zfB (c:SV) (x y:SCode):run P C (.code (.cond c x y) :: k) objs tm F=kC P C (c.ev tm) x y k objs tm F:=by
 show wpC P C _ _ _ _=_
 simp only [wpC,kC]
 cases c.ev tm <;> rfl
def kCall (P:Program) [Tabs P] (C:Cx) (f:Nat) (args:List AV) (d:Option Nat) (r:List SO) (k:List IT) (objs:List OB) (tm:List AV) (F:zaG):Prop:=zah P f args objs fun o v => run P C (.ops r :: k) o (zap tm d v) F
theorem zkm (f:Nat) (args:List SV):run P C (.ops (⟨d,.call f args,none⟩ :: r) :: k) objs tm F=kCall P C f (evs tm args) d r k objs tm F:=by
 show wpR P _ _ _ _=_
 simp only [wpR,wpS,kCall,zd0]; rfl
theorem zak {f:Nat} {args:List AV} (h:zah P f args objs fun o v => run P C (.ops r :: k) o (zap tm d v) F):kCall P C f args d r k objs tm F:=h
def zlu (P:Program) [Tabs P] (C:Cx) (f:Nat) (args:List AV) (d:Option Nat) (r:List SO) (k:List IT) (objs:List OB) (tm:List AV) (F:zaG):Prop:=∃ v,(zah P f args objs fun o x => o=objs ∧ x=v) ∧ run P C (.dops r :: k) objs (zap tm d v) F
theorem zhV (f:Nat) (args:List SV):run P C (.dops (⟨d,.call f args,none⟩ :: r) :: k) objs tm F=zlu P C f (evs tm args) d r k objs tm F:=by
 show wpD P _ _ _ _=_
 simp only [wpD,wpS,zlu,zd0,SOp.isCall,if_true]; rfl
def zlf (P:Program) [Tabs P] (C:Cx) (f:Nat) (args:List AV) (d:Option Nat) (r:List SO) (k:List IT) (objs:List OB) (tm:List AV) (F:zaG):Prop:=∃ v,(zan args=true ∧ zah P f args [] fun _ x => x.plain=true ∧ objs=objs ∧ x=v) ∧ run P C (.dops r :: k) objs (zap tm d v) F
theorem zhQ (f:Nat) (args:List SV):run P C (.dops (⟨d,.pcall f args,none⟩ :: r) :: k) objs tm F=zlf P C f (evs tm args) d r k objs tm F:=by
 show wpD P (⟨d,.pcall f args,none⟩ :: r) objs tm _=_
 simp only [wpD,wpS,zlf,zd0,SOp.isCall,if_true]; rfl
theorem kpcall {f:Nat} {args:List AV} {v:AV} (h:zah P f args [] fun _ x => x=v) (hp:zan args=true) (hv:v.plain=true) (hr:run P C (.dops r :: k) objs (zap tm d v) F):zlf P C f args d r k objs tm F :=
 ⟨v,⟨hp,h.mono fun _ x e => by subst e; exact ⟨hv,rfl,rfl⟩⟩,hr⟩
theorem zih {f:Nat} {args:List AV} {v:AV} (h:zah P f args objs fun o x => o=objs ∧ x=v) (hr:run P C (.dops r :: k) objs (zap tm d v) F):zlu P C f args d r k objs tm F:=⟨v,h,hr⟩
def IsFn (P : Program) (f : Nat) : Prop := ∃ fn, P.funcs[f]? = some fn ∧ fn.body.isSome = true ∧ fn.name ≠ "runtime.NumGoroutine"
def kCallv (P:Program) [Tabs P] (C:Cx) (x:AV) (args:List AV) (d:Option Nat) (r:List SO) (k:List IT) (objs:List OB) (tm:List AV) (F:zaG):Prop :=
 match x with
 | .fn f fs cs => IsFn P f ∧ zah P f (fs ++ args ++ cs) objs fun o v => run P C (.ops r :: k) o (zap tm d v) F
 | _ => False
theorem zhW (x:SV) (args:List SV):run P C (.ops (⟨d,.callv x args,none⟩ :: r) :: k) objs tm F=kCallv P C (x.ev tm) (evs tm args) d r k objs tm F:=by
 show wpR P _ _ _ _=_
 simp only [wpR,wpS,kCallv,zd0]
 cases x.ev tm <;> rfl
theorem drn_mv (x:SV):run P C (.dops (⟨d,.mv x,none⟩ :: r) :: k) objs tm F=run P C (.ops [⟨d,.mv x,none⟩] :: .dops r :: k) objs tm F:=Eq.trans rfl rfl
theorem ziH (c x y:SV):run P C (.dops (⟨d,.pick c x y,none⟩ :: r) :: k) objs tm F=run P C (.ops [⟨d,.pick c x y,none⟩] :: .dops r :: k) objs tm F:=Eq.trans rfl rfl
theorem zgN (z:List AV) (ps:List (Nat × Nat × SV)):run P C (.dops (⟨d,.build z ps,none⟩ :: r) :: k) objs tm F=run P C (.ops [⟨d,.build z ps,none⟩] :: .dops r :: k) objs tm F:=Eq.trans rfl rfl
theorem zfc (n:Nat) (z:List AV) (ps:List (Nat × Nat × SV)):run P C (.dops (⟨d,.bslice n z ps,none⟩ :: r) :: k) objs tm F=run P C (.ops [⟨d,.bslice n z ps,none⟩] :: .dops r :: k) objs tm F:=Eq.trans rfl rfl
theorem zgM (x:SV):run P C (.dops (⟨d,.load1 x,none⟩ :: r) :: k) objs tm F=run P C (.ops [⟨d,.load1 x,none⟩] :: .dops r :: k) objs tm F:=Eq.trans rfl rfl
theorem zgL (sz:Nat) (x:SV):run P C (.dops (⟨d,.loadn sz x,none⟩ :: r) :: k) objs tm F=run P C (.ops [⟨d,.loadn sz x,none⟩] :: .dops r :: k) objs tm F:=Eq.trans rfl rfl
theorem zlZ (x:SV):run P C (.dops (⟨d,.nck x,none⟩ :: r) :: k) objs tm F=run P C (.ops [⟨d,.nck x,none⟩] :: .dops r :: k) objs tm F:=Eq.trans rfl rfl
theorem zmc (q:BinOp) (x y:SV):run P C (.dops (⟨d,.bin q x y,none⟩ :: r) :: k) objs tm F=run P C (.ops [⟨d,.bin q x y,none⟩] :: .dops r :: k) objs tm F:=Eq.trans rfl rfl
theorem zmd (ne:Bool) (x y:SV):run P C (.dops (⟨d,.beq ne x y,none⟩ :: r) :: k) objs tm F=run P C (.ops [⟨d,.beq ne x y,none⟩] :: .dops r :: k) objs tm F:=Eq.trans rfl rfl
theorem zl8 (ne:Bool) (e:ET) (x y:SV):run P C (.dops (⟨d,.eqs ne e x y,none⟩ :: r) :: k) objs tm F=run P C (.ops [⟨d,.eqs ne e x y,none⟩] :: .dops r :: k) objs tm F:=Eq.trans rfl rfl
theorem zlX (x:SV):run P C (.dops (⟨d,.not x,none⟩ :: r) :: k) objs tm F=run P C (.ops [⟨d,.not x,none⟩] :: .dops r :: k) objs tm F:=Eq.trans rfl rfl
theorem zlY (x:SV):run P C (.dops (⟨d,.neg x,none⟩ :: r) :: k) objs tm F=run P C (.ops [⟨d,.neg x,none⟩] :: .dops r :: k) objs tm F:=Eq.trans rfl rfl
theorem ziN (sz len:Nat) (x y:SV):run P C (.dops (⟨d,.iada sz len x y,none⟩ :: r) :: k) objs tm F=run P C (.ops [⟨d,.iada sz len x y,none⟩] :: .dops r :: k) objs tm F:=Eq.trans rfl rfl
theorem zma (q:IntKind) (x:SV):run P C (.dops (⟨d,.cvi q x,none⟩ :: r) :: k) objs tm F=run P C (.ops [⟨d,.cvi q x,none⟩] :: .dops r :: k) objs tm F:=Eq.trans rfl rfl
theorem zl9 (x:SV):run P C (.dops (⟨d,.cvs x,none⟩ :: r) :: k) objs tm F=run P C (.ops [⟨d,.cvs x,none⟩] :: .dops r :: k) objs tm F:=Eq.trans rfl rfl
theorem ziQ (x:SV):run P C (.dops (⟨d,.cvbs x,none⟩ :: r) :: k) objs tm F=run P C (.ops [⟨d,.cvbs x,none⟩] :: .dops r :: k) objs tm F:=Eq.trans rfl rfl
theorem ziG (x:SV) (lo hi:Option SV):run P C (.dops (⟨d,.slcs x lo hi,none⟩ :: r) :: k) objs tm F=run P C (.ops [⟨d,.slcs x lo hi,none⟩] :: .dops r :: k) objs tm F:=Eq.trans rfl rfl
theorem zl6 (off:Nat) (x:SV):run P C (.dops (⟨d,.fad off x,none⟩ :: r) :: k) objs tm F=run P C (.ops [⟨d,.fad off x,none⟩] :: .dops r :: k) objs tm F:=Eq.trans rfl rfl
theorem ziP (off:Nat) (x:SV):run P C (.dops (⟨d,.fld1 off x,none⟩ :: r) :: k) objs tm F=run P C (.ops [⟨d,.fld1 off x,none⟩] :: .dops r :: k) objs tm F:=Eq.trans rfl rfl
theorem ziO (off sz:Nat) (x:SV):run P C (.dops (⟨d,.fldn off sz x,none⟩ :: r) :: k) objs tm F=run P C (.ops [⟨d,.fldn off sz x,none⟩] :: .dops r :: k) objs tm F:=Eq.trans rfl rfl
theorem zl5 (sz:Nat) (x y:SV):run P C (.dops (⟨d,.iad sz x y,none⟩ :: r) :: k) objs tm F=run P C (.ops [⟨d,.iad sz x y,none⟩] :: .dops r :: k) objs tm F:=Eq.trans rfl rfl
theorem zl4 (x y:SV):run P C (.dops (⟨d,.idx x y,none⟩ :: r) :: k) objs tm F=run P C (.ops [⟨d,.idx x y,none⟩] :: .dops r :: k) objs tm F:=Eq.trans rfl rfl
theorem zl7 (x:SV) (j:Nat):run P C (.dops (⟨d,.ext x j,none⟩ :: r) :: k) objs tm F=run P C (.ops [⟨d,.ext x j,none⟩] :: .dops r :: k) objs tm F:=Eq.trans rfl rfl
theorem ziK (x:SV):run P C (.dops (⟨d,.lens x,none⟩ :: r) :: k) objs tm F=run P C (.ops [⟨d,.lens x,none⟩] :: .dops r :: k) objs tm F:=Eq.trans rfl rfl
theorem ziL (x:SV):run P C (.dops (⟨d,.lenr x,none⟩ :: r) :: k) objs tm F=run P C (.ops [⟨d,.lenr x,none⟩] :: .dops r :: k) objs tm F:=Eq.trans rfl rfl
theorem zl3 (f:Nat) (fs cs:List SV):run P C (.dops (⟨d,.mkf f fs cs,none⟩ :: r) :: k) objs tm F=run P C (.ops [⟨d,.mkf f fs cs,none⟩] :: .dops r :: k) objs tm F:=Eq.trans rfl rfl
theorem ziS (E sz n:Nat) (z:List AV) (ps:List (Nat × Nat × SV)):run P C (.dops (⟨d,.bslo E sz n z ps,none⟩ :: r) :: k) objs tm F=run P C (.ops [⟨d,.bslo E sz n z ps,none⟩] :: .dops r :: k) objs tm F:=Eq.trans rfl rfl
theorem zgO (T:Nat) (z:List AV):run P C (.dops (⟨d,.alloc T z,none⟩ :: r) :: k) objs tm F=run P C (.ops [⟨d,.alloc T z,none⟩] :: .dops r :: k) objs tm F:=Eq.trans rfl rfl
theorem zmb (T:Nat) (x:SV):run P C (.dops (⟨d,.box T x,none⟩ :: r) :: k) objs tm F=run P C (.ops [⟨d,.box T x,none⟩] :: .dops r :: k) objs tm F:=Eq.trans rfl rfl
theorem zgK (sz:Nat) (x y:SV):run P C (.dops (⟨d,.store sz x y,none⟩ :: r) :: k) objs tm F=run P C (.ops [⟨d,.store sz x y,none⟩] :: .dops r :: k) objs tm F:=Eq.trans rfl rfl
theorem zme (E sz by':Nat) (x y:SV):run P C (.dops (⟨d,.app E sz by' x y,none⟩ :: r) :: k) objs tm F=run P C (.ops [⟨d,.app E sz by' x y,none⟩] :: .dops r :: k) objs tm F:=Eq.trans rfl rfl
theorem ziT (E:Nat) (x y:SV):run P C (.dops (⟨d,.apps E x y,none⟩ :: r) :: k) objs tm F=run P C (.ops [⟨d,.apps E x y,none⟩] :: .dops r :: k) objs tm F:=Eq.trans rfl rfl
theorem zl2 (E sz by':Nat) (x y:SV):run P C (.dops (⟨d,.mks E sz by' x y,none⟩ :: r) :: k) objs tm F=run P C (.ops [⟨d,.mks E sz by' x y,none⟩] :: .dops r :: k) objs tm F:=Eq.trans rfl rfl
theorem zl1 (E by':Nat) (kd:IntKind) (z:Int) (x:SV):run P C (.dops (⟨d,.mkz E by' kd z x,none⟩ :: r) :: k) objs tm F=run P C (.ops [⟨d,.mkz E by' kd z x,none⟩] :: .dops r :: k) objs tm F:=Eq.trans rfl rfl
theorem ziR (sz by':Nat) (x y:SV):run P C (.dops (⟨d,.capp sz by' x y,none⟩ :: r) :: k) objs tm F=run P C (.ops [⟨d,.capp sz by' x y,none⟩] :: .dops r :: k) objs tm F:=Eq.trans rfl rfl
theorem drn_pu (q:PQ) (xs:List SV):run P C (.dops (⟨d,.pu q xs,none⟩ :: r) :: k) objs tm F=run P C (.ops [⟨d,.pu q xs,none⟩] :: .dops r :: k) objs tm F:=Eq.trans rfl rfl
theorem zlW (sz:Nat) (x y:SV):run P C (.dops (⟨d,.trn sz x y,none⟩ :: r) :: k) objs tm F=run P C (.ops [⟨d,.trn sz x y,none⟩] :: .dops r :: k) objs tm F:=Eq.trans rfl rfl
theorem ziM (sz:Nat) (x y:SV):run P C (.dops (⟨d,.iadr sz x y,none⟩ :: r) :: k) objs tm F=run P C (.ops [⟨d,.iadr sz x y,none⟩] :: .dops r :: k) objs tm F:=Eq.trans rfl rfl
theorem ziJ :run P C (.dops (⟨d,.mkm0,none⟩ :: r) :: k) objs tm F=run P C (.ops [⟨d,.mkm0,none⟩] :: .dops r :: k) objs tm F:=Eq.trans rfl rfl
theorem ziI (x:SV):run P C (.dops (⟨d,.mkm1 x,none⟩ :: r) :: k) objs tm F=run P C (.ops [⟨d,.mkm1 x,none⟩] :: .dops r :: k) objs tm F:=Eq.trans rfl rfl
theorem drn_lk (z:AV) (ok:Bool) (x y:SV):run P C (.dops (⟨d,.lk z ok x y,none⟩ :: r) :: k) objs tm F=run P C (.ops [⟨d,.lk z ok x y,none⟩] :: .dops r :: k) objs tm F:=Eq.trans rfl rfl
theorem zl0 (x y v:SV):run P C (.dops (⟨d,.mup x y v,none⟩ :: r) :: k) objs tm F=run P C (.ops [⟨d,.mup x y v,none⟩] :: .dops r :: k) objs tm F:=Eq.trans rfl rfl
theorem zbm {f:FuncId} {n:Nat} {ss:List SRes} {sc:SCode} (hf:FnIs P f n ss sc) {args:List AV} {objs:List OB} {K:List OB → AV → Prop} (hp:zan args=true)
  (h:∀ (C:Cx) [On P C],run P C [.code sc] [] (args ++ List.replicate (n - args.length) (.o undef)) (endK ss fun r => K objs r)):zah P f args objs K :=
 fn_ok hf hp h
theorem zbb {f:FuncId} {n:Nat} {ss:List SRes} {sc:SCode} (hf:FnIs P f n ss sc) {args:List AV} {objs:List OB} {K:List OB → AV → Prop}
  (h:∀ (C:Cx) [On P C],run P C [.code sc] objs (args ++ List.replicate (n - args.length) (.o undef)) (endI ss K)):zah P f args objs K :=
 fn_in hf h
theorem endI_n (ss:List SRes) (K:List OB → AV → Prop):endI ss K .normal objs tm=outI ss K objs tm:=Eq.trans rfl rfl
theorem endI_r (ss:List SRes) (K:List OB → AV → Prop):endI ss K .ret objs tm=outI ss K objs tm:=Eq.trans rfl rfl
def outJ (K:List OB → AV → Prop) (objs:List OB):Option (List AV) → Prop
 | some xs => K objs (zjc xs)
 | none => False
theorem outJ_s (K:List OB → AV → Prop) (xs:List AV):outJ K objs (some xs)=K objs (zjc xs):=Eq.trans rfl rfl
theorem zkP (ss:List SRes) (K:List OB → AV → Prop):outI ss K objs tm=outJ K objs (zc7 objs tm ss):=by
 unfold outI
 cases zc7 objs tm ss <;> rfl
theorem endK_n (ss:List SRes) (K:AV → Prop):endK ss K .normal objs tm=outK ss K objs tm:=Eq.trans rfl rfl
theorem endK_r (ss:List SRes) (K:AV → Prop):endK ss K .ret objs tm=outK ss K objs tm:=Eq.trans rfl rfl
def outO (K:AV → Prop):Option AV → Prop
 | some r => K r
 | none => False
theorem outO_s (K:AV → Prop) (r:AV):outO K (some r)=K r:=Eq.trans rfl rfl
theorem zkO (ss:List SRes) (K:AV → Prop):outK ss K objs tm=outO K ((zc7 objs tm ss).bind fun xs => pub objs 5 (zjc xs)):=by
 unfold outK
 cases (zc7 objs tm ss).bind (fun xs => pub objs 5 (zjc xs)) <;> rfl
end
end Go.Proofs.Ytceenajkieomoaa.Sx
namespace Go.Proofs.Ytceenajkieomoaa.Sx
open Go.RowKit
theorem sxA:type_of% (And.intro @rn_nil (And.intro @rn_seq (And.intro @zj8 (And.intro @rn_reg (And.intro @rn_drw (And.intro @rn_crs (And.intro @rst_n (And.intro @rst_c (And.intro @rcr_n (And.intro @rcr_c (And.intro @rn_crg (And.intro @zaH (And.intro @zhT (And.intro @ze0 (And.intro @zev (And.intro @rn_ret (And.intro @zki (And.intro @zjK (And.intro @zhH (And.intro @zjJ (And.intro @zhG (And.intro @zjL (And.intro @xit_ap (And.intro @rn_ap (And.intro @apOk_n (And.intro @apOk_c (And.intro @zmz (And.intro @zdX (And.intro @zfa (And.intro @zgB (And.intro @zlg (And.intro @zmr (And.intro @endK_n (And.intro @endK_r (And.intro @outO_s (And.intro @zkO (And.intro @endI_n (And.intro @endI_r (And.intro @outJ_s (And.intro @zkP (And.intro @rn_mv (And.intro @zld (And.intro @zle (And.intro @zj9 (And.intro @zhY (@rn_box)))))))))))))))))))))))))))))))))))))))))))))):=And.intro @rn_nil (And.intro @rn_seq (And.intro @zj8 (And.intro @rn_reg (And.intro @rn_drw (And.intro @rn_crs (And.intro @rst_n (And.intro @rst_c (And.intro @rcr_n (And.intro @rcr_c (And.intro @rn_crg (And.intro @zaH (And.intro @zhT (And.intro @ze0 (And.intro @zev (And.intro @rn_ret (And.intro @zki (And.intro @zjK (And.intro @zhH (And.intro @zjJ (And.intro @zhG (And.intro @zjL (And.intro @xit_ap (And.intro @rn_ap (And.intro @apOk_n (And.intro @apOk_c (And.intro @zmz (And.intro @zdX (And.intro @zfa (And.intro @zgB (And.intro @zlg (And.intro @zmr (And.intro @endK_n (And.intro @endK_r (And.intro @outO_s (And.intro @zkO (And.intro @endI_n (And.intro @endI_r (And.intro @outJ_s (And.intro @zkP (And.intro @rn_mv (And.intro @zld (And.intro @zle (And.intro @zj9 (And.intro @zhY (@rn_box)))))))))))))))))))))))))))))))))))))))))))))
theorem sxB:type_of% (And.intro @kLit_s (And.intro @zkn (And.intro @zhX (And.intro @zgq (And.intro @kLd1_p (And.intro @kLd1_r (And.intro @zhS (And.intro @kLdn_s (And.intro @kLdv_p (And.intro @kLdv_r (And.intro @zhR (And.intro @kSt2_b (And.intro @kSt_p (And.intro @zhP (And.intro @kNck_0 (And.intro @kNck_1 (And.intro @kNck_2 (And.intro @rn_nck (And.intro @kNot_0 (And.intro @rn_not (And.intro @zly (And.intro @kAr_i8 (And.intro @zlA (And.intro @zlz (And.intro @kAr_u8 (And.intro @zlx (And.intro @zlw (And.intro @zlv (And.intro @kNeg_0 (And.intro @rn_neg (And.intro @kCvi_0 (And.intro @rn_cvi (And.intro @kCvs_0 (And.intro @rn_cvs (And.intro @zli (And.intro @zkc (And.intro @zls (And.intro @zkg (And.intro @kFad_0 (And.intro @kFad_1 (And.intro @rn_fad (@zlt)))))))))))))))))))))))))))))))))))))))))):=And.intro @kLit_s (And.intro @zkn (And.intro @zhX (And.intro @zgq (And.intro @kLd1_p (And.intro @kLd1_r (And.intro @zhS (And.intro @kLdn_s (And.intro @kLdv_p (And.intro @kLdv_r (And.intro @zhR (And.intro @kSt2_b (And.intro @kSt_p (And.intro @zhP (And.intro @kNck_0 (And.intro @kNck_1 (And.intro @kNck_2 (And.intro @rn_nck (And.intro @kNot_0 (And.intro @rn_not (And.intro @zly (And.intro @kAr_i8 (And.intro @zlA (And.intro @zlz (And.intro @kAr_u8 (And.intro @zlx (And.intro @zlw (And.intro @zlv (And.intro @kNeg_0 (And.intro @rn_neg (And.intro @kCvi_0 (And.intro @rn_cvi (And.intro @kCvs_0 (And.intro @rn_cvs (And.intro @zli (And.intro @zkc (And.intro @zls (And.intro @zkg (And.intro @kFad_0 (And.intro @kFad_1 (And.intro @rn_fad (@zlt)))))))))))))))))))))))))))))))))))))))))
theorem sxC:type_of% (And.intro @zkh (And.intro @kExt_0 (And.intro @rn_ext (And.intro @kLr2_o (And.intro @zlm (And.intro @zll (And.intro @zlk (And.intro @zkd (And.intro @zgE (And.intro @zii (And.intro @zfb (And.intro @zgD (And.intro @kEqs_a (And.intro @rn_beq (And.intro @rn_eqs (And.intro @kIad_0 (And.intro @rn_iad (And.intro @zlr (And.intro @zkf (And.intro @kIdx_0 (And.intro @rn_idx (And.intro @kMks_0 (And.intro @rn_mks (And.intro @rn_bin (And.intro @zix (And.intro @zij (And.intro @ziq (And.intro @zin (And.intro @zim (And.intro @ziv (And.intro @zio (And.intro @zir (And.intro @zis (And.intro @zit (And.intro @ziu (And.intro @ziw (And.intro @zil (And.intro @zik (And.intro @svi_i (@zgg)))))))))))))))))))))))))))))))))))))))):=And.intro @zkh (And.intro @kExt_0 (And.intro @rn_ext (And.intro @kLr2_o (And.intro @zlm (And.intro @zll (And.intro @zlk (And.intro @zkd (And.intro @zgE (And.intro @zii (And.intro @zfb (And.intro @zgD (And.intro @kEqs_a (And.intro @rn_beq (And.intro @rn_eqs (And.intro @kIad_0 (And.intro @rn_iad (And.intro @zlr (And.intro @zkf (And.intro @kIdx_0 (And.intro @rn_idx (And.intro @kMks_0 (And.intro @rn_mks (And.intro @rn_bin (And.intro @zix (And.intro @zij (And.intro @ziq (And.intro @zin (And.intro @zim (And.intro @ziv (And.intro @zio (And.intro @zir (And.intro @zis (And.intro @zit (And.intro @ziu (And.intro @ziw (And.intro @zil (And.intro @zik (And.intro @svi_i (@zgg)))))))))))))))))))))))))))))))))))))))
theorem sxD:type_of% (And.intro @zgf (And.intro @kSl2_s (And.intro @kSl_s (And.intro @zj7 (And.intro @kAp_s (And.intro @kAp2_o (And.intro @kAp2_n (And.intro @kAp3_o (And.intro @kAs_o (And.intro @kAs_n (And.intro @kAs2_o (And.intro @rn_app (And.intro @zko (And.intro @kCb_o (And.intro @kCb_n (And.intro @zkk (And.intro @rn_mkf (And.intro @kG_tt (And.intro @kG_tf (And.intro @kG_ft (And.intro @kG_ff (And.intro @kG_u (And.intro @kG_v (And.intro @kGD_tt (And.intro @kGD_tf (And.intro @kGD_ft (And.intro @kGD_ff (And.intro @kGD_u (And.intro @kGD_v (And.intro @zhU (And.intro @zgp (And.intro @kC_t (And.intro @kC_f (And.intro @zfB (And.intro @zkm (And.intro @zhV (And.intro @zhW (And.intro @drn_mv (And.intro @ziH (@zgN)))))))))))))))))))))))))))))))))))))))):=And.intro @zgf (And.intro @kSl2_s (And.intro @kSl_s (And.intro @zj7 (And.intro @kAp_s (And.intro @kAp2_o (And.intro @kAp2_n (And.intro @kAp3_o (And.intro @kAs_o (And.intro @kAs_n (And.intro @kAs2_o (And.intro @rn_app (And.intro @zko (And.intro @kCb_o (And.intro @kCb_n (And.intro @zkk (And.intro @rn_mkf (And.intro @kG_tt (And.intro @kG_tf (And.intro @kG_ft (And.intro @kG_ff (And.intro @kG_u (And.intro @kG_v (And.intro @kGD_tt (And.intro @kGD_tf (And.intro @kGD_ft (And.intro @kGD_ff (And.intro @kGD_u (And.intro @kGD_v (And.intro @zhU (And.intro @zgp (And.intro @kC_t (And.intro @kC_f (And.intro @zfB (And.intro @zkm (And.intro @zhV (And.intro @zhW (And.intro @drn_mv (And.intro @ziH (@zgN)))))))))))))))))))))))))))))))))))))))
theorem sxE:type_of% (And.intro @ziS (And.intro @zfc (And.intro @zgM (And.intro @zgL (And.intro @zlZ (And.intro @zmc (And.intro @zmd (And.intro @zl8 (And.intro @zlX (And.intro @zlY (And.intro @ziN (And.intro @zma (And.intro @zl9 (And.intro @ziQ (And.intro @ziG (And.intro @zl6 (And.intro @ziP (And.intro @ziO (And.intro @zl5 (And.intro @zl4 (And.intro @zl7 (And.intro @ziK (And.intro @ziL (And.intro @zl3 (And.intro @zgO (And.intro @zmb (And.intro @zgK (And.intro @zme (And.intro @ziT (@zl2)))))))))))))))))))))))))))))):=And.intro @ziS (And.intro @zfc (And.intro @zgM (And.intro @zgL (And.intro @zlZ (And.intro @zmc (And.intro @zmd (And.intro @zl8 (And.intro @zlX (And.intro @zlY (And.intro @ziN (And.intro @zma (And.intro @zl9 (And.intro @ziQ (And.intro @ziG (And.intro @zl6 (And.intro @ziP (And.intro @ziO (And.intro @zl5 (And.intro @zl4 (And.intro @zl7 (And.intro @ziK (And.intro @ziL (And.intro @zl3 (And.intro @zgO (And.intro @zmb (And.intro @zgK (And.intro @zme (And.intro @ziT (@zl2)))))))))))))))))))))))))))))
theorem sxF:type_of% (And.intro @kO_if (And.intro @pq_and (And.intro @pq_or (And.intro @pq_xor (And.intro @pq_shl (And.intro @pq_shr (And.intro @pq_mn (And.intro @pq_mx (And.intro @pq_rsl (And.intro @zkH (And.intro @zkI (And.intro @zh3 (And.intro @zkJ (And.intro @pq_asl (And.intro @kCb_b (And.intro @pq_lss (And.intro @pq_leq (And.intro @pq_gtr (And.intro @pq_geq (And.intro @rn_pu (@drn_pu))))))))))))))))))))):=And.intro @kO_if (And.intro @pq_and (And.intro @pq_or (And.intro @pq_xor (And.intro @pq_shl (And.intro @pq_shr (And.intro @pq_mn (And.intro @pq_mx (And.intro @pq_rsl (And.intro @zkH (And.intro @zkI (And.intro @zh3 (And.intro @zkJ (And.intro @pq_asl (And.intro @kCb_b (And.intro @pq_lss (And.intro @pq_leq (And.intro @pq_gtr (And.intro @pq_geq (And.intro @rn_pu (@drn_pu))))))))))))))))))))
theorem sxM:type_of% (And.intro @zkj (And.intro @kLd1_o (And.intro @zlo (And.intro @kLdv_o (And.intro @zln (And.intro @kSt_o (And.intro @kSt3_o (And.intro @kNck_3 (And.intro @kFad_2 (And.intro @kIad_1 (And.intro @zlq (And.intro @zlc (And.intro @kTrn_0 (And.intro @kTrn_1 (And.intro @kTrn_2 (And.intro @rn_trn (And.intro @zlW (And.intro @zkK (And.intro @zkL (And.intro @pq_snn (And.intro @pq_snz (And.intro @pq_snr (And.intro @zlj (And.intro @zlp (And.intro @zke (And.intro @ziM (@zmy))))))))))))))))))))))))))):=And.intro @zkj (And.intro @kLd1_o (And.intro @zlo (And.intro @kLdv_o (And.intro @zln (And.intro @kSt_o (And.intro @kSt3_o (And.intro @kNck_3 (And.intro @kFad_2 (And.intro @kIad_1 (And.intro @zlq (And.intro @zlc (And.intro @kTrn_0 (And.intro @kTrn_1 (And.intro @kTrn_2 (And.intro @rn_trn (And.intro @zlW (And.intro @zkK (And.intro @zkL (And.intro @pq_snn (And.intro @pq_snz (And.intro @pq_snr (And.intro @zlj (And.intro @zlp (And.intro @zke (And.intro @ziM (@zmy))))))))))))))))))))))))))
theorem sxN:type_of% (And.intro @apG_n (And.intro @apG_s (And.intro @apB_tt (And.intro @apB_ff (And.intro @apB_tf (And.intro @apB_ft (And.intro @rn_mkz (And.intro @kMkz_i (And.intro @zl1 (And.intro @zkb (And.intro @zka (And.intro @kMkm_i (And.intro @rn_lk (And.intro @kLk_0 (And.intro @kLk2_m (And.intro @rn_mup (And.intro @kMup_0 (And.intro @zlh (And.intro @ziJ (And.intro @ziI (And.intro @drn_lk (And.intro @zl0 (And.intro @lkA_tt (And.intro @lkA_tf (And.intro @lkA_nt (And.intro @lkA_nf (And.intro @apS_o (And.intro @apS_p (And.intro @zi4 (And.intro @zi3 (And.intro @zi2 (And.intro @zi1 (And.intro @pq_sl3 (And.intro @zkG (And.intro @zkl (And.intro @kCap_c (And.intro @ziR (And.intro @rn_cra (And.intro @rsb_n (And.intro @rsb_c (And.intro @hsV_n (@hsV_c)))))))))))))))))))))))))))))))))))))))))):=And.intro @apG_n (And.intro @apG_s (And.intro @apB_tt (And.intro @apB_ff (And.intro @apB_tf (And.intro @apB_ft (And.intro @rn_mkz (And.intro @kMkz_i (And.intro @zl1 (And.intro @zkb (And.intro @zka (And.intro @kMkm_i (And.intro @rn_lk (And.intro @kLk_0 (And.intro @kLk2_m (And.intro @rn_mup (And.intro @kMup_0 (And.intro @zlh (And.intro @ziJ (And.intro @ziI (And.intro @drn_lk (And.intro @zl0 (And.intro @lkA_tt (And.intro @lkA_tf (And.intro @lkA_nt (And.intro @lkA_nf (And.intro @apS_o (And.intro @apS_p (And.intro @zi4 (And.intro @zi3 (And.intro @zi2 (And.intro @zi1 (And.intro @pq_sl3 (And.intro @zkG (And.intro @zkl (And.intro @kCap_c (And.intro @ziR (And.intro @rn_cra (And.intro @rsb_n (And.intro @rsb_c (And.intro @hsV_n (@hsV_c)))))))))))))))))))))))))))))))))))))))))
theorem sxL:type_of% (And.intro @List.length_cons.{0} (And.intro @List.length_nil.{0} (And.intro @List.length_append.{0} (And.intro @List.length_replicate.{0} (And.intro @List.length_set.{0} (And.intro @List.cons_append.{0} (And.intro @List.nil_append.{0} (And.intro @List.append_nil.{0} (And.intro @List.getElem?_cons_zero.{0} (And.intro @List.getElem?_cons_succ.{0} (And.intro @List.getElem?_nil.{0} (And.intro @Option.getD_some.{0} (And.intro @Option.getD_none.{0} (And.intro @List.set_cons_zero.{0} (And.intro @List.set_cons_succ.{0} (And.intro @List.set_nil.{0} (And.intro @List.map_cons.{0,0} (And.intro @List.map_nil.{0,0} (And.intro @List.take_succ_cons.{0} (And.intro @List.take_zero.{0} (And.intro @List.drop_succ_cons.{0} (And.intro @List.drop_zero.{0} (And.intro @List.take_nil.{0} (And.intro @List.drop_nil.{0} (And.intro @List.take_length.{0} (And.intro @Int.toNat_natCast (And.intro @Int.toNat_natCast_add_one (And.intro @Bool.not_true (And.intro @Bool.not_false (And.intro @Bool.and_true (And.intro @Bool.true_and (And.intro @Bool.and_false (And.intro @Bool.false_and (And.intro @true_and (And.intro @and_true (And.intro @true_implies (And.intro @false_implies (And.intro @Option.bind_some.{0,0} (And.intro @Option.map_some.{0,0} (And.intro @Bool.false_eq_true (And.intro @Bool.true_eq_false (And.intro @decide_true (And.intro @decide_false (And.intro @not_true_eq_false (And.intro @not_false_eq_true (@beq_self_eq_true.{0})))))))))))))))))))))))))))))))))))))))))))))):=And.intro @List.length_cons.{0} (And.intro @List.length_nil.{0} (And.intro @List.length_append.{0} (And.intro @List.length_replicate.{0} (And.intro @List.length_set.{0} (And.intro @List.cons_append.{0} (And.intro @List.nil_append.{0} (And.intro @List.append_nil.{0} (And.intro @List.getElem?_cons_zero.{0} (And.intro @List.getElem?_cons_succ.{0} (And.intro @List.getElem?_nil.{0} (And.intro @Option.getD_some.{0} (And.intro @Option.getD_none.{0} (And.intro @List.set_cons_zero.{0} (And.intro @List.set_cons_succ.{0} (And.intro @List.set_nil.{0} (And.intro @List.map_cons.{0,0} (And.intro @List.map_nil.{0,0} (And.intro @List.take_succ_cons.{0} (And.intro @List.take_zero.{0} (And.intro @List.drop_succ_cons.{0} (And.intro @List.drop_zero.{0} (And.intro @List.take_nil.{0} (And.intro @List.drop_nil.{0} (And.intro @List.take_length.{0} (And.intro @Int.toNat_natCast (And.intro @Int.toNat_natCast_add_one (And.intro @Bool.not_true (And.intro @Bool.not_false (And.intro @Bool.and_true (And.intro @Bool.true_and (And.intro @Bool.and_false (And.intro @Bool.false_and (And.intro @true_and (And.intro @and_true (And.intro @true_implies (And.intro @false_implies (And.intro @Option.bind_some.{0,0} (And.intro @Option.map_some.{0,0} (And.intro @Bool.false_eq_true (And.intro @Bool.true_eq_false (And.intro @decide_true (And.intro @decide_false (And.intro @not_true_eq_false (And.intro @not_false_eq_true (@beq_self_eq_true.{0})))))))))))))))))))))))))))))))))))))))))))))
theorem sxZ:type_of% (And.intro @zhQ (And.intro sxA (And.intro sxB (And.intro sxC (And.intro sxD (And.intro sxE (And.intro sxF (And.intro sxM (And.intro sxN (And.intro sxL (And.intro @forall_const.{1} (And.intro @implies_true.{1} (And.intro @implies_true.{0} (And.intro @if_true.{1} (And.intro @if_false.{1} (And.intro @ite_true.{1} (And.intro @ite_false.{1} (And.intro @exists_eq_left'.{1} (And.intro @exists_eq'.{1} (And.intro @ne_eq.{1} (And.intro @evs.eq_1 (And.intro @evs.eq_2 (And.intro @evp.eq_1 (And.intro @evp.eq_2 (And.intro @zap.eq_1 (And.intro @zap.eq_2 (And.intro @SV.ev.eq_1 (And.intro @SV.ev.eq_2 (And.intro @AV.flat.eq_1 (And.intro @AV.flat.eq_2 (And.intro @AV.one.eq_1 (And.intro @AV.one.eq_2 (And.intro @AV.one.eq_3 (And.intro @AV.one.eq_4 (And.intro @AV.one.eq_5 (And.intro @AV.cells.eq_1 (And.intro @AV.cells.eq_2 (And.intro @zc7.eq_1 (And.intro @zc7.eq_2 (And.intro @zku.eq_1 (And.intro @zku.eq_2 (And.intro @zku.eq_3 (And.intro @zjc.eq_1 (And.intro @zjc.eq_2 (And.intro @pub.eq_1 (And.intro @pub.eq_2 (And.intro @pub.eq_3 (And.intro @pub.eq_4 (And.intro @pub.eq_5 (And.intro @zc8.eq_1 (And.intro @zc8.eq_2 (And.intro @AV.plain.eq_1 (And.intro @AV.plain.eq_2 (And.intro @AV.plain.eq_3 (And.intro @AV.plain.eq_4 (And.intro @AV.plain.eq_5 (And.intro @AV.plain.eq_6 (And.intro @AV.plain.eq_7 (And.intro @AV.plain.eq_8 (And.intro @AV.plain.eq_9 (And.intro @AV.plain.eq_10 (And.intro @AV.plain.eq_11 (And.intro @AV.plain.eq_12 (And.intro @zan.eq_1 (And.intro @zan.eq_2 (And.intro @zcu.eq_1 (And.intro @zcu.eq_2 (And.intro @zcu.eq_3 (And.intro @zcu.eq_4 (And.intro @zaS.eq_1 (And.intro @zcp.eq_1 (And.intro @zcp.eq_2 (And.intro @eqA.eq_1 (And.intro @eqA.eq_2 (And.intro @eqA.eq_3 (And.intro @eqA.eq_4 (And.intro @eqA.eq_5 (And.intro @ziF.eq_1 (And.intro @ziF.eq_2 (And.intro @ziF.eq_3 (And.intro @List.replicate.eq_1.{0} (@List.replicate.eq_2.{0})))))))))))))))))))))))))))))))))))))))))))))))))))))))))))))))))))))))))))))))))):=And.intro @zhQ (And.intro sxA (And.intro sxB (And.intro sxC (And.intro sxD (And.intro sxE (And.intro sxF (And.intro sxM (And.intro sxN (And.intro sxL (And.intro @forall_const.{1} (And.intro @implies_true.{1} (And.intro @implies_true.{0} (And.intro @if_true.{1} (And.intro @if_false.{1} (And.intro @ite_true.{1} (And.intro @ite_false.{1} (And.intro @exists_eq_left'.{1} (And.intro @exists_eq'.{1} (And.intro @ne_eq.{1} (And.intro @evs.eq_1 (And.intro @evs.eq_2 (And.intro @evp.eq_1 (And.intro @evp.eq_2 (And.intro @zap.eq_1 (And.intro @zap.eq_2 (And.intro @SV.ev.eq_1 (And.intro @SV.ev.eq_2 (And.intro @AV.flat.eq_1 (And.intro @AV.flat.eq_2 (And.intro @AV.one.eq_1 (And.intro @AV.one.eq_2 (And.intro @AV.one.eq_3 (And.intro @AV.one.eq_4 (And.intro @AV.one.eq_5 (And.intro @AV.cells.eq_1 (And.intro @AV.cells.eq_2 (And.intro @zc7.eq_1 (And.intro @zc7.eq_2 (And.intro @zku.eq_1 (And.intro @zku.eq_2 (And.intro @zku.eq_3 (And.intro @zjc.eq_1 (And.intro @zjc.eq_2 (And.intro @pub.eq_1 (And.intro @pub.eq_2 (And.intro @pub.eq_3 (And.intro @pub.eq_4 (And.intro @pub.eq_5 (And.intro @zc8.eq_1 (And.intro @zc8.eq_2 (And.intro @AV.plain.eq_1 (And.intro @AV.plain.eq_2 (And.intro @AV.plain.eq_3 (And.intro @AV.plain.eq_4 (And.intro @AV.plain.eq_5 (And.intro @AV.plain.eq_6 (And.intro @AV.plain.eq_7 (And.intro @AV.plain.eq_8 (And.intro @AV.plain.eq_9 (And.intro @AV.plain.eq_10 (And.intro @AV.plain.eq_11 (And.intro @AV.plain.eq_12 (And.intro @zan.eq_1 (And.intro @zan.eq_2 (And.intro @zcu.eq_1 (And.intro @zcu.eq_2 (And.intro @zcu.eq_3 (And.intro @zcu.eq_4 (And.intro @zaS.eq_1 (And.intro @zcp.eq_1 (And.intro @zcp.eq_2 (And.intro @eqA.eq_1 (And.intro @eqA.eq_2 (And.intro @eqA.eq_3 (And.intro @eqA.eq_4 (And.intro @eqA.eq_5 (And.intro @ziF.eq_1 (And.intro @ziF.eq_2 (And.intro @ziF.eq_3 (And.intro @List.replicate.eq_1.{0} (@List.replicate.eq_2.{0})))))))))))))))))))))))))))))))))))))))))))))))))))))))))))))))))))))))))))))))))
end Go.Proofs.Ytceenajkieomoaa.Sx
namespace Go.Proofs.Ytceenajkieomoaa
open Go.RowKit Sx
class Shp (P:Program) [Tabs P]:Prop where
 sh:∀ w:World,Tabs.T (P:=P) w → w.ShapedOpen P
class Pow (P:Program) [Tabs P]:Prop where
 pw : ∀ w : World, Tabs.T (P := P) w → Lib.TabIs P w "internal/strconv.uint64pow10" .u64 Lib.pow10Tab
theorem zg2 {P:Program} {w w':World} (h:w.ShapedOpen P) (hk:∀ k,k < w.heap.size → w'.heap[k]? = w.heap[k]?):w'.ShapedOpen P:=by
 have lt:∀ {k:Nat} {o:Obj},w.heap[k]? = some o → k < w.heap.size:=fun {k o} e => by
  rcases Nat.lt_or_ge k w.heap.size with h1 | h1
  ·exact h1
  ·rw [Array.getElem?_eq_none h1] at e; cases e
 refine ⟨fun g zero t hg hz => ?_,fun k hk1 hk2 => ?_⟩
 ·obtain ⟨cs,h1,h2,h3⟩:=h.1 g zero t hg hz
  refine ⟨cs,(hk g (lt h1)).trans h1,h2,fun hb => Row.ok_of_shape (fun b x hx => ?_) (h3 hb)⟩
  rcases Nat.lt_or_ge b w.heap.size with h4 | h4
  ·simpa [World.shape?,hk b h4] using hx
  ·simp [World.shape?,Array.getElem?_eq_none h4] at hx
 ·obtain ⟨o,o₀,h1,h2,h3⟩:=h.2 k hk1 hk2
  exact ⟨o,o₀,(hk k (lt h1)).trans h1,h2,h3⟩
mutual
/-- a value without memory, as it is -/
def val:AV → Option Value
 | .s l => some (.string ⟨l.toArray⟩)
 | .i k n => some (.int k n)
 | .b x => some (.bool x)
 | .agg cs => match vals cs with
  | some vs => if vs.all (·.oneCell')=true then some (.agg vs.toArray) else none
  | none => none
 | .tup cs => (vals cs).map fun vs => .tuple vs.toArray
 | _ => none
def vals:List AV → Option (List Value)
 | [] => some []
 | x :: xs => match val x,vals xs with
  | some v,some vs => some (v :: vs)
  | _,_ => none
end
mutual
theorem zeo (G:Gh) (I:Imm):∀ (x:AV) (v:Value),val x=some v → ∀ y,Den G I x y ↔ y=v
 | .s l,v,h,y => by simp only [val,Option.some.injEq] at h; subst h; simp [Den]
 | .i k n,v,h,y => by simp only [val,Option.some.injEq] at h; subst h; simp [Den]
 | .b x,v,h,y => by simp only [val,Option.some.injEq] at h; subst h; simp [Den]
 | .agg cs,v,h,y => by
  simp only [val] at h
  split at h
  ·rename_i vs h1
   split at h
   ·rename_i h2
    injection h with h; subst h
    simp only [Den]
    constructor
    ·rintro ⟨ys,rfl,k1,_⟩
     rw [(zbM G I cs vs h1 ys).1 k1]
    ·rintro rfl
     exact ⟨vs,rfl,(zbM G I cs vs h1 vs).2 rfl,fun u hu => (List.all_eq_true.1 h2) u hu⟩
   ·cases h
  ·cases h
 | .tup cs,v,h,y => by
  simp only [val,Option.map_eq_some_iff] at h
  obtain ⟨vs,h1,rfl⟩:=h
  simp only [Den]
  constructor
  ·rintro ⟨ys,rfl,k1⟩
   rw [(zbM G I cs vs h1 ys).1 k1]
  ·rintro rfl
   exact ⟨vs,rfl,(zbM G I cs vs h1 vs).2 rfl⟩
 | .p _ _,v,h,y => by simp [val] at h
 | .row _ _,v,h,y => by simp [val] at h
 | .prow _ _,v,h,y => by simp [val] at h
 | .orow _ _,v,h,y => by simp [val] at h
 | .porow _ _ _,v,h,y => by simp [val] at h
 | .bsl _ _ _,v,h,y => by simp [val] at h
 | .m _,v,h,y => by simp [val] at h
 | .zn _,v,h,y => by simp [val] at h
 | .nil,v,h,y => by simp [val] at h
 | .fn _ _ _,v,h,y => by simp [val] at h
 | .o _,v,h,y => by simp [val] at h
 | .u,v,h,y => by simp [val] at h
theorem zbM (G:Gh) (I:Imm):∀ (xs:List AV) (vs:List Value),vals xs=some vs → ∀ ys,zai G I xs ys ↔ ys=vs
 | [],vs,h,ys => by simp only [vals,Option.some.injEq] at h; subst h; simp [zai]
 | x :: xs,vs,h,ys => by
  simp only [vals] at h
  split at h
  ·rename_i v vs' h1 h2
   injection h with h; subst h
   simp only [zai]
   constructor
   ·rintro ⟨y,ys',rfl,k1,k2⟩
    rw [(zeo G I x v h1 y).1 k1,(zbM G I xs vs' h2 ys').1 k2]
   ·rintro rfl
    exact ⟨v,vs',rfl,(zeo G I x v h1 v).2 rfl,(zbM G I xs vs' h2 vs').2 rfl⟩
  ·cases h
end
section
variable {P:Program} [Tabs P] {f:FuncId} {args:List AV} {vs:List Value} {r:AV} {v:Value} {objs:List OB} {K:List OB → AV → Prop}
theorem conv (ha:vals args=some vs) (hr:val r=some v) (h:∀ w,Calls P f vs.toArray w fun e w' => e=.returned v ∧ Qb w w') (hk:K objs r):zah P f args objs K :=
 zhB r hk fun G I w ys hm hd => by
  rw [(zbM G I args vs ha ys).1 hd]
  exact ⟨v,h w,(zeo G I r v hr v).2 rfl⟩
theorem zml (ha:vals args=some vs) (hr:val r=some v) (h:∀ w,Calls P f vs.toArray w fun e w' => e=.returned v ∧ w=w') (hk:K objs r):zah P f args objs K :=
 conv ha hr (fun w => (h w).mono (by rintro e w' ⟨rfl,rfl⟩; exact ⟨rfl,Qb.refl _⟩)) hk
theorem convT (ha:vals args=some vs) (hr:val r=some v) (h:∀ w,Tabs.T (P:=P) w → Calls P f vs.toArray w fun e w' => e=.returned v ∧ Qb w w') (hk:K objs r):zah P f args objs K :=
 zfh r hk fun G I w ys hT hm hd => by
  rw [(zbM G I args vs ha ys).1 hd]
  exact ⟨v,h w hT,(zeo G I r v hr v).2 rfl⟩
end
end Go.Proofs.Ytceenajkieomoaa
namespace Go.Proofs.Ytceenajkieomoaa
open Sx
theorem gn1 (l:List OB) (x:OB):(l ++ [x])[l.length]? = some x:=by simp
theorem sn1 (l:List OB) (x y:OB):(l ++ [x]).set l.length y=l ++ [y]:=by simp
end Go.Proofs.Ytceenajkieomoaa
namespace Go.Proofs.Ytceenajkieomoaa
open Go.RowKit
theorem nor_32:∀ n:Fin 256,(97 ≤ n.val ∧ n.val ≤ 102 ∨ 65 ≤ n.val ∧ n.val ≤ 70) → bits .or .u8 ((n.val:Nat):Int) 32=(((if n.val ≤ 70 then n.val + 32 else n.val):Nat):Int):=by decide +kernel
theorem all_at {p:UInt8 → Bool} {s:ByteArray} (h:s.data.toList.all p=true) (k:Nat) (hk:k < s.size):p s[k]=true:=by
 rw [List.all_eq_true] at h
 exact h _ (by rw [← zlN s k hk,List.getD_eq_getElem?_getD,List.getElem?_eq_getElem (by rw [zaq]; exact hk)]; exact List.getElem_mem _)
end Go.Proofs.Ytceenajkieomoaa
namespace Go.Proofs.Ytceenajkieomoaa
open Go.RowKit
theorem zjn {c:UInt8} (h:zca c=true):(48 ≤ c.toNat ∧ c.toNat ≤ 57 ∧ dvN c=c.toNat - 48) ∨ (57 < c.toNat ∧ ∃ x:Int,bits .or .u8 (c.toNat:Int) 32=x ∧ 97 ≤ x ∧ x ≤ 102 ∧ x - 97 + 10=dvN c):=by
 have h3:=hexC h
 by_cases hd:c.toNat ≤ 57
 ·refine .inl ⟨by omega,hd,?_⟩
  unfold dvN; rw [if_pos hd]
 ·have h4:97 ≤ c.toNat ∧ c.toNat ≤ 102 ∨ 65 ≤ c.toNat ∧ c.toNat ≤ 70:=by omega
  refine .inr ⟨by omega,_,nor_32 ⟨c.toNat,c.toNat_lt⟩ h4,?_,?_,?_⟩
  all_goals simp only [dvN]
  all_goals (repeat' split)
  all_goals omega
theorem zhJ {M d:Nat} (hM:(M:Int) ≤ 18446744073709551615) (hd:d < 16) (h:M < d):∃ y:Int,IntKind.u64.wrap ((M:Int) - (d:Int))=y ∧ 1000 < y:=by
 refine ⟨_,rfl,?_⟩
 rw [IntKind.wrap_u64]
 omega
set_option maxHeartbeats 4000000 in
theorem zgo (s:ByteArray) (most:Int) (w:World) (hs:s.size ≤ maxLen) (h0:0 ≤ most) (h1:most ≤ 18446744073709551615) :
  Calls Try.prog 84 #[.string s,.int .u64 16,.int .u64 most] w fun e w' => e=.returned (numV (zd7 zca 16 most.toNat s.data.toList)) ∧ w=w':=by
 unfold maxLen at hs
 obtain ⟨M,rfl⟩:=Int.eq_ofNat_of_zero_le h0
 rw [Int.toNat_natCast]
 clear h0
 by_cases h0:s.size=0
 ·obtain rfl:s=S []:=S_nil_of h0
  clear h0 hs
  go_enter Try.func84,Try.ntmps84
  go_wp2_with fail
  go_ret2
  exact ⟨rfl,rfl⟩
 ·have hne:s.data.toList ≠ []:=fun e => h0 (by rw [← zaq,e]; rfl)
  have HE:=Lib.hid hne
  have he1:s.toList.isEmpty=false:=by rw [ByteArray.toList_eq]; simpa using hne
  have hpos:0 < s.size:=by omega
  clear h0 hne
  go_enter Try.func84,Try.ntmps84
  go_wp2_with fail
  go_loop [8] (fun i => ∃ k:Nat,k ≤ s.size ∧ i=.int .i64 k ∧ Hid ((s.data.toList.take k).all zca=true)) (fun i => s.size - (intOf i).toNat)
  case atStart => exact ⟨0,Nat.zero_le _,rfl,Lib.hid rfl⟩
  case round =>
   obtain ⟨k,hk,rfl,HA⟩:=hrel
   by_cases hlt:k < s.size
   ·rcases hp:zca s[k] with _ | _
    ·have HB:Hid (s.data.toList.all zca=false):=Lib.hid (zeS _ _ (k + 1) (by rw [zi8 _ _ _ hlt,hp,Bool.and_false]))
     have HP:=Lib.hid hp
     clear hp
     go_wp2_with fail
     refine (ze5 _ _).mono ?_
     rintro e w' ⟨rfl,rfl⟩
     rw [HP.out]
     go_wp2_with fail
     go_ret2
     exact ⟨by unfold zd7; rw [zjA HE.out HB.out,if_neg (by decide)]; rfl,rfl⟩
    ·have HB:Hid ((s.data.toList.take (k + 1)).all zca=true):=Lib.hid (by rw [zi8 _ _ _ hlt,hp,HA.out]; rfl)
     have HP:=Lib.hid hp
     clear hp
     go_wp2_with fail
     refine (ze5 _ _).mono ?_
     rintro e w' ⟨rfl,rfl⟩
     rw [HP.out]
     go_wp2_with fail
     go_round
     case rel => exact ⟨k + 1,by omega,by go_num,HB⟩
     case measure => simp [intOf]; omega
   ·have HB:Hid (s.data.toList.all zca=true):=Lib.hid (by rw [← take_all s k hlt]; exact HA.out)
    have HQ:Hid (zd7 zca 16 M s.data.toList=zja 16 M s.data.toList):=Lib.hid (by unfold zd7; rw [zmo HE.out HB.out,if_pos rfl])
    have HH:Hid (s.data.toList.all zca=true):=Lib.hid HB.out
    clear HA HB
    go_wp2_with fail
    go_loop [9,10,11] (fun n i _ => ∃ k m:Nat,k ≤ s.size ∧ m ≤ M ∧ i=.int .i64 k ∧ n=.int .u64 m ∧ Hid (zfp 16 M s.data.toList 0=zfp 16 M (s.data.toList.drop k) m)) (fun _ i _ => s.size - (intOf i).toNat)
    case atStart => exact ⟨0,0,Nat.zero_le _,Nat.zero_le _,rfl,rfl,Lib.hid rfl⟩
    case round =>
     obtain ⟨k,m,hk,hm,rfl,rfl,HV⟩:=hrel
     by_cases hlt:k < s.size
     ·have hx:=all_at HH.out k hlt
      have hd16:=dvN_lt hx
      have hcs:=zjn hx
      have HC:Hid (zfp 16 M (s.data.toList.drop k) m=if m * 16 + dvN s[k] ≤ M then zfp 16 M (s.data.toList.drop (k + 1)) (m * 16 + dvN s[k]) else none):=Lib.hid (by rw [zcH s k hlt]; rfl)
      clear hx
      generalize hdv:dvN s[k]=d at *
      clear hdv
      rcases hcs with ⟨c1,c2,hc3⟩ | ⟨c1,x,hx,hx1,hx2,hx3⟩
      ·have HD:=Lib.hid hc3
       clear hc3
       by_cases hdm:d ≤ M
       ·by_cases hok:m * 16 + d ≤ M
        ·have HN:Hid (zfp 16 M s.data.toList 0=zfp 16 M (s.data.toList.drop (k + 1)) (m * 16 + d)):=Lib.hid (by rw [HV.out,HC.out,if_pos hok])
         have e1:(m:Int) ≤ (M:Int) / 16:=by omega
         have hde:=HD.out
         have hdi:(s[k].toNat:Int) - 48=(d:Int):=by omega
         have e2:(m:Int) * 16 ≤ (M:Int) - ((s[k].toNat:Int) - 48):=by omega
         have e3:(s[k].toNat:Int) - 48 ≤ (M:Int):=by omega
         have HI:=Lib.hid hdi
         clear hde hdi
         go_wp2_with fail
         go_round
         case rel => exact ⟨k + 1,m * 16 + d,by omega,hok,by go_num,congrArg (Value.int .u64) (by have:=HI.out; omega),HN⟩
         case measure => simp [intOf]; omega
        ·have HN:Hid (zfp 16 M s.data.toList 0=none):=Lib.hid (by rw [HV.out,HC.out,if_neg hok])
         by_cases e1:(m:Int) ≤ (M:Int) / 16
         ·have hde:=HD.out
          have e2:(M:Int) - ((s[k].toNat:Int) - 48) < (m:Int) * 16:=by omega
          have e3:(s[k].toNat:Int) - 48 ≤ (M:Int):=by omega
          have e4:(m:Int) * 16 ≤ 18446744073709551615:=by omega
          clear hde hok
          go_wp2_with fail
          go_ret2
          exact ⟨by rw [HQ.out]; unfold zja; rw [HN.out]; rfl,rfl⟩
         ·have e2:(M:Int) / 16 < (m:Int):=by omega
          clear e1 hok
          go_wp2_with fail
          go_ret2
          exact ⟨by rw [HQ.out]; unfold zja; rw [HN.out]; rfl,rfl⟩
       ·have HN:Hid (zfp 16 M s.data.toList 0=none):=Lib.hid (by rw [HV.out,HC.out,if_neg (by omega)])
        by_cases e1:(m:Int) ≤ (M:Int) / 16
        ·have hde:=HD.out
         obtain ⟨y,hy,hy1⟩:=zhJ h1 hd16 (by omega:M < d)
         have hdi:(d:Int)=(s[k].toNat:Int) - 48:=by omega
         rw [hdi] at hy
         have e3:(M:Int) < (s[k].toNat:Int) - 48:=by omega
         have e4:(m:Int) * 16 ≤ 1000:=by omega
         clear hde hdi hdm
         go_wp2_with fail
         go_ret2
         exact ⟨by rw [HQ.out]; unfold zja; rw [HN.out]; rfl,rfl⟩
        ·have e2:(M:Int) / 16 < (m:Int):=by omega
         clear e1 hdm
         go_wp2_with fail
         go_ret2
         exact ⟨by rw [HQ.out]; unfold zja; rw [HN.out]; rfl,rfl⟩
      ·have HD:=Lib.hid hx3
       have c3:(10:Int) ≤ d:=by omega
       clear hx3
       by_cases hdm:d ≤ M
       ·by_cases hok:m * 16 + d ≤ M
        ·have HN:Hid (zfp 16 M s.data.toList 0=zfp 16 M (s.data.toList.drop (k + 1)) (m * 16 + d)):=Lib.hid (by rw [HV.out,HC.out,if_pos hok])
         have e1:(m:Int) ≤ (M:Int) / 16:=by omega
         have hde:=HD.out
         have hdi:x - 97 + 10=(d:Int):=by omega
         have e2:(m:Int) * 16 ≤ (M:Int) - (x - 97 + 10):=by omega
         have e3:x - 97 + 10 ≤ (M:Int):=by omega
         have HI:=Lib.hid hdi
         clear hde hdi
         go_wp2_with fail
         go_round
         case rel => exact ⟨k + 1,m * 16 + d,by omega,hok,by go_num,congrArg (Value.int .u64) (by have:=HI.out; omega),HN⟩
         case measure => simp [intOf]; omega
        ·have HN:Hid (zfp 16 M s.data.toList 0=none):=Lib.hid (by rw [HV.out,HC.out,if_neg hok])
         by_cases e1:(m:Int) ≤ (M:Int) / 16
         ·have hde:=HD.out
          have e2:(M:Int) - (x - 97 + 10) < (m:Int) * 16:=by omega
          have e3:x - 97 + 10 ≤ (M:Int):=by omega
          have e4:(m:Int) * 16 ≤ 18446744073709551615:=by omega
          clear hde hok
          go_wp2_with fail
          go_ret2
          exact ⟨by rw [HQ.out]; unfold zja; rw [HN.out]; rfl,rfl⟩
         ·have e2:(M:Int) / 16 < (m:Int):=by omega
          clear e1 hok
          go_wp2_with fail
          go_ret2
          exact ⟨by rw [HQ.out]; unfold zja; rw [HN.out]; rfl,rfl⟩
       ·have HN:Hid (zfp 16 M s.data.toList 0=none):=Lib.hid (by rw [HV.out,HC.out,if_neg (by omega)])
        by_cases e1:(m:Int) ≤ (M:Int) / 16
        ·have hde:=HD.out
         obtain ⟨y,hy,hy1⟩:=zhJ h1 hd16 (by omega:M < d)
         have hdi:(d:Int)=x - 97 + 10:=by omega
         rw [hdi] at hy
         have e3:(M:Int) < x - 97 + 10:=by omega
         have e4:(m:Int) * 16 ≤ 1000:=by omega
         clear hde hdi hdm
         go_wp2_with fail
         go_ret2
         exact ⟨by rw [HQ.out]; unfold zja; rw [HN.out]; rfl,rfl⟩
        ·have e2:(M:Int) / 16 < (m:Int):=by omega
         clear e1 hdm
         go_wp2_with fail
         go_ret2
         exact ⟨by rw [HQ.out]; unfold zja; rw [HN.out]; rfl,rfl⟩
     ·have HN:Hid (zfp 16 M s.data.toList 0=some m):=Lib.hid (by rw [HV.out,List.drop_of_length_le (by rw [zaq]; omega)]; rfl)
      go_wp2_with fail
      go_ret2
      exact ⟨by rw [HQ.out]; unfold zja; rw [HN.out]; rfl,rfl⟩
theorem rHex_any (s:ByteArray) (most:Int) (w:World) (hs:s.size ≤ maxLen) (h0:0 ≤ most) (h1:most ≤ 18446744073709551615) :
  Calls Try.prog 82 #[.string s,.int .u64 most] w fun e w' => e=.returned (numV (zd7 zca 16 most.toNat s.data.toList)) ∧ w=w':=by
 go_enter Try.func82,Try.ntmps82
 go_wp2_with fail
 refine (zgo s most _ hs h0 h1).mono ?_
 rintro e w' ⟨rfl,rfl⟩
 unfold numV
 go_wp2_with fail
 go_ret2
 exact ⟨rfl,rfl⟩
end Go.Proofs.Ytceenajkieomoaa
namespace Go.Proofs.Ytceenajkieomoaa
open Go.RowKit Go.Sort
def Pw (w : World) : Prop := Lib.TabIs Try.prog w "internal/strconv.uint64pow10" .u64 Lib.pow10Tab
theorem Pw.keep {w w':World} (h:Pw w) (hq:Qb w w'):Pw w':=Lib.tabBelow_of_tabIs h w' hq
theorem Pw.drew {w:World} (h:Pw w):Pw w.drew:=h
theorem Pw.alloc {w:World} (h:Pw w) (o:Obj):Pw (w.alloc o):=Lib.tabIs_alloc h o
end Go.Proofs.Ytceenajkieomoaa
namespace Go.Proofs.Ytceenajkieomoaa
open Go.RowKit
theorem str_cons (x:Nat) (t:List UInt8):(strOfNums [48 + (x:Int)] ++ S t:ByteArray)=S (UInt8.ofNat (48 + x) :: t):=by
 rw [← S_of (strOfNums [48 + (x:Int)] ++ S t),ByteArray.data_append,Array.toList_append,strOfNums_data]
 have:(48 + (x:Int)).toNat=48 + x:=by omega
 simp [this]
set_option maxHeartbeats 1000000 in
theorem zgr (u:Nat) (hu64:u < 18446744073709551616) (w:World) :
  Calls Try.prog 65 #[.int .u64 u] w fun e w' => e=.returned (.string (S (Lib.decDigits u))) ∧ Qb w w':=by
 go_enter Try.func65,Try.ntmps65
 go_wp2_with fail
 go_loopw [0,3] (fun n s wr => ∃ (m:Nat) (t:List UInt8),m ≤ u ∧ n=.int .u64 m ∧ s=.string (S t) ∧ Hid (Lib.decDigits u=Lib.decDigits m ++ t) ∧ Qb w wr) (fun n _ _ => (intOf n).toNat)
 case atStart => exact ⟨u,[],Nat.le_refl _,rfl,rfl,Lib.hid (by simp),Qb.refl w⟩
 case round =>
  obtain ⟨m,t,hm,rfl,rfl,HD,hq⟩:=hrel
  have hst:=zdu wr [48 + (m:Int) % 10] 1 rfl
  simp only [List.map_cons,List.map_nil] at hst
  have HC:Hid ((strOfNums [48 + (m:Int) % 10] ++ S t:ByteArray)=S (UInt8.ofNat (48 + m % 10) :: t)):=Lib.hid (str_cons (m % 10) t)
  have hsz:(S t).size ≤ 30:=by
   have h1:=congrArg List.length HD.out
   rw [List.length_append,Lib.decDigits_length] at h1
   have h2:=Lib.nDigits_le20 u hu64
   rw [zd3]; omega
  have hsx:(strOfNums [48 + (m:Int) % 10]).size ≤ 1:=by rw [← zaq,strOfNums_data]; simp
  by_cases h10:m < 10
  ·have HN:Hid (Lib.decDigits u=UInt8.ofNat (48 + m % 10) :: t):=Lib.hid (by rw [HD.out,dec_one h10,Nat.mod_eq_of_lt h10]; rfl)
   have hz:((m:Int) / 10 == 0)=true:=by rw [beq_iff_eq]; omega
   clear HD
   go_wp2_with fail
   go_ret
   exact ⟨ret_str (by rw [HN.out,HC.out]),hq.alloc _⟩
  ·have HN:Hid (Lib.decDigits u=Lib.decDigits (m / 10) ++ (UInt8.ofNat (48 + m % 10) :: t)):=Lib.hid (by rw [HD.out,dec_more h10,List.append_assoc]; rfl)
   have hz:((m:Int) / 10 == 0)=false:=by rw [beq_eq_false_iff_ne]; omega
   clear HD
   go_wp2_with fail
   go_roundw
   case rel => exact ⟨m / 10,_,by omega,by go_num,congrArg Value.string HC.out,HN,hq.alloc _⟩
   case measure => simp [intOf]; omega
end Go.Proofs.Ytceenajkieomoaa
namespace Go.Proofs.Ytceenajkieomoaa.Sx
open Go.RowKit
set_option maxRecDepth 100000
def c_law16_JrdDecodes:SCode :=
 .seq (.reg [⟨some 2,.box 25 (.t 0),none⟩,
 ⟨some 4,.mv (.c (.b false)),none⟩])
 (.seq (.seq (.reg [⟨some 14,.call 8 [],none⟩,
 ⟨some 15,.not (.t 14),none⟩])
 (.cond (.t 15)
 (.seq (.reg [⟨some 4,.mv (.c (.b false)),none⟩])
 (.ret))
 (.skip)))
 (.seq (.seq (.reg [⟨some 16,.loadn 4 (.t 2),none⟩,
 ⟨some 17,.call 9 [.t 16,.c (.i .i64 90)],none⟩,
 ⟨some 18,.not (.t 17),none⟩,
 ⟨some 19,.mv (.t 18),none⟩,
 ⟨some 20,.mv (.t 1),some (19,false)⟩,
 ⟨some 21,.lens (.t 20),some (19,false)⟩,
 ⟨some 22,.bin .gtr (.t 21) (.c (.i .i64 3000)),some (19,false)⟩,
 ⟨some 23,.pick (.t 19) (.c (.b true)) (.t 22),none⟩])
 (.cond (.t 23)
 (.seq (.reg [⟨some 4,.mv (.c (.b true)),none⟩])
 (.ret))
 (.skip)))
 (.seq (.reg [⟨some 25,.mv (.t 1),none⟩,
 ⟨some 26,.call 10 [.t 25],none⟩,
 ⟨some 24,.mv (.t 26),none⟩,
 ⟨some 27,.ext (.t 24) 0,none⟩,
 ⟨some 28,.ext (.t 24) 1,none⟩,
 ⟨some 29,.ext (.t 24) 2,none⟩,
 ⟨some 5,.alloc 25 [.i .i64 0,.s [],.nil,.nil],none⟩,
 ⟨none,.store 4 (.t 5) (.t 27),none⟩,
 ⟨some 6,.mv (.t 28),none⟩,
 ⟨some 7,.mv (.t 29),none⟩])
 (.seq (.seq (.reg [⟨some 30,.loadn 4 (.t 2),none⟩,
 ⟨some 31,.loadn 4 (.t 5),none⟩,
 ⟨some 32,.bslice 2 [.i .i64 0,.s [],.nil,.nil,.i .i64 0,.s [],.nil,.nil] [(0,(4,.t 30)),(4,(4,.t 31))],none⟩,
 ⟨some 33,.lenr (.t 32),none⟩,
 ⟨some 34,.mv (.c (.i .i64 0)),none⟩])
 (.blk 0
 (.loop
 (.seq (.reg [⟨some 35,.bin .lss (.t 34) (.t 33),none⟩])
 (.seq (.cond (.t 35)
 (.skip)
 (.exit 0))
 (.seq (.blk 1
 (.seq (.reg [⟨some 36,.iad 4 (.t 32) (.t 34),none⟩,
 ⟨some 37,.loadn 4 (.t 36),none⟩,
 ⟨some 9,.alloc 25 [.i .i64 0,.s [],.nil,.nil],none⟩,
 ⟨none,.store 4 (.t 9) (.t 37),none⟩])
 (.seq (.reg [⟨some 39,.loadn 4 (.t 9),none⟩,
 ⟨some 40,.call 11 [.t 39],none⟩,
 ⟨some 38,.mv (.t 40),none⟩,
 ⟨some 41,.ext (.t 38) 0,none⟩,
 ⟨some 42,.ext (.t 38) 1,none⟩,
 ⟨some 10,.alloc 34 [.s [],.nil,.nil,.nil],none⟩,
 ⟨none,.store 4 (.t 10) (.t 41),none⟩,
 ⟨some 11,.mv (.t 42),none⟩])
 (.seq (.reg [⟨some 44,.loadn 4 (.t 9),none⟩,
 ⟨some 45,.call 12 [.t 44],none⟩,
 ⟨some 43,.mv (.t 45),none⟩,
 ⟨some 46,.ext (.t 43) 0,none⟩,
 ⟨some 47,.ext (.t 43) 1,none⟩,
 ⟨some 12,.alloc 34 [.s [],.nil,.nil,.nil],none⟩,
 ⟨none,.store 4 (.t 12) (.t 46),none⟩,
 ⟨some 13,.mv (.t 47),none⟩])
 (.seq (.reg [⟨some 48,.mv (.t 11),none⟩,
 ⟨some 49,.mv (.t 13),none⟩,
 ⟨some 50,.bin .neq (.t 48) (.t 49),none⟩,
 ⟨some 51,.mv (.t 50),none⟩,
 ⟨some 52,.loadn 4 (.t 10),some (51,false)⟩,
 ⟨some 53,.loadn 4 (.t 12),some (51,false)⟩,
 ⟨some 54,.call 13 [.t 52,.t 53],some (51,false)⟩,
 ⟨some 55,.not (.t 54),some (51,false)⟩,
 ⟨some 56,.pick (.t 51) (.c (.b true)) (.t 55),none⟩])
 (.cond (.t 56)
 (.seq (.reg [⟨some 4,.mv (.c (.b false)),none⟩])
 (.ret))
 (.skip)))))))
 (.reg [⟨some 57,.bin .add (.t 34) (.c (.i .i64 1)),none⟩,
 ⟨some 34,.mv (.t 57),none⟩])))))))
 (.seq (.reg [⟨some 4,.mv (.c (.b true)),none⟩])
 (.ret))))))
theorem is_law16_JrdDecodes:FnIs Try.prog 3 58 [.tmp 4] c_law16_JrdDecodes:=⟨⟨_,_,Try.func3,rfl,rfl,by kernel_rfl,by kernel_rfl⟩⟩
def c_law16_sane:SCode :=
 .seq (.reg [⟨some 0,.mv (.c (.b false)),none⟩])
 (.seq (.reg [⟨some 12,.call 10 [.c (.s [123,34,115,117,98,106,101,99,116,34,58,34,97,99,99,116,58,97,64,98,46,101,120,97,109,112,108,101,34,44,34,108,105,110,107,115,34,58,91,123,34,114,101,108,34,58,34,115,101,108,102,34,44,34,104,114,101,102,34,58,34,104,116,116,112,115,58,47,47,98,46,101,120,97,109,112,108,101,47,97,34,125,93,125])],none⟩,
 ⟨some 11,.mv (.t 12),none⟩,
 ⟨some 13,.ext (.t 11) 0,none⟩,
 ⟨some 14,.ext (.t 11) 1,none⟩,
 ⟨some 15,.ext (.t 11) 2,none⟩,
 ⟨some 1,.alloc 25 [.i .i64 0,.s [],.nil,.nil],none⟩,
 ⟨none,.store 4 (.t 1) (.t 13),none⟩,
 ⟨some 2,.mv (.t 14),none⟩,
 ⟨some 3,.mv (.t 15),none⟩])
 (.seq (.reg [⟨some 17,.call 10 [.c (.s [123,34,108,105,110,107,115,34,58,91,123,125,93,125])],none⟩,
 ⟨some 16,.mv (.t 17),none⟩,
 ⟨some 18,.ext (.t 16) 0,none⟩,
 ⟨some 19,.ext (.t 16) 1,none⟩,
 ⟨some 20,.ext (.t 16) 2,none⟩,
 ⟨some 4,.alloc 25 [.i .i64 0,.s [],.nil,.nil],none⟩,
 ⟨none,.store 4 (.t 4) (.t 18),none⟩,
 ⟨some 5,.mv (.t 19),none⟩,
 ⟨some 6,.mv (.t 20),none⟩])
 (.seq (.reg [⟨some 22,.loadn 4 (.t 1),none⟩,
 ⟨some 23,.call 11 [.t 22],none⟩,
 ⟨some 21,.mv (.t 23),none⟩,
 ⟨some 24,.ext (.t 21) 0,none⟩,
 ⟨some 25,.ext (.t 21) 1,none⟩,
 ⟨some 7,.alloc 34 [.s [],.nil,.nil,.nil],none⟩,
 ⟨none,.store 4 (.t 7) (.t 24),none⟩,
 ⟨some 8,.mv (.t 25),none⟩])
 (.seq (.reg [⟨some 27,.loadn 4 (.t 4),none⟩,
 ⟨some 28,.call 11 [.t 27],none⟩,
 ⟨some 26,.mv (.t 28),none⟩,
 ⟨some 29,.ext (.t 26) 0,none⟩,
 ⟨some 30,.ext (.t 26) 1,none⟩,
 ⟨some 9,.alloc 34 [.s [],.nil,.nil,.nil],none⟩,
 ⟨none,.store 4 (.t 9) (.t 29),none⟩,
 ⟨some 10,.mv (.t 30),none⟩])
 (.seq (.reg [⟨some 31,.mv (.t 8),none⟩,
 ⟨some 32,.bin .eql (.t 31) (.c (.i .i64 0)),none⟩,
 ⟨some 33,.mv (.t 32),none⟩,
 ⟨some 34,.fad 0 (.t 7),some (33,true)⟩,
 ⟨some 35,.load1 (.t 34),some (33,true)⟩,
 ⟨some 36,.bin .eql (.t 35) (.c (.s [97,99,99,116,58,97,64,98,46,101,120,97,109,112,108,101])),some (33,true)⟩,
 ⟨some 37,.pick (.t 33) (.t 36) (.c (.b false)),none⟩,
 ⟨some 38,.mv (.t 37),none⟩,
 ⟨some 39,.fad 3 (.t 7),some (38,true)⟩,
 ⟨some 40,.load1 (.t 39),some (38,true)⟩,
 ⟨some 41,.lenr (.t 40),some (38,true)⟩,
 ⟨some 42,.bin .eql (.t 41) (.c (.i .i64 1)),some (38,true)⟩,
 ⟨some 43,.pick (.t 38) (.t 42) (.c (.b false)),none⟩,
 ⟨some 44,.mv (.t 43),none⟩,
 ⟨some 45,.fad 3 (.t 7),some (44,true)⟩,
 ⟨some 46,.load1 (.t 45),some (44,true)⟩,
 ⟨some 47,.iad 6 (.t 46) (.c (.i .i64 0)),some (44,true)⟩,
 ⟨some 48,.fad 0 (.t 47),some (44,true)⟩,
 ⟨some 49,.load1 (.t 48),some (44,true)⟩,
 ⟨some 50,.bin .eql (.t 49) (.c (.s [115,101,108,102])),some (44,true)⟩,
 ⟨some 51,.pick (.t 44) (.t 50) (.c (.b false)),none⟩,
 ⟨some 52,.mv (.t 51),none⟩,
 ⟨some 53,.mv (.t 10),some (52,true)⟩,
 ⟨some 54,.bin .eql (.t 53) (.c (.i .i64 160)),some (52,true)⟩,
 ⟨some 55,.pick (.t 52) (.t 54) (.c (.b false)),none⟩,
 ⟨some 56,.mv (.t 55),none⟩,
 ⟨some 57,.loadn 4 (.t 7),some (56,true)⟩,
 ⟨some 58,.call 15 [.t 57,.c (.s [115,101,108,102])],some (56,true)⟩,
 ⟨some 59,.lenr (.t 58),some (56,true)⟩,
 ⟨some 60,.bin .eql (.t 59) (.c (.i .i64 1)),some (56,true)⟩,
 ⟨some 61,.pick (.t 56) (.t 60) (.c (.b false)),none⟩,
 ⟨some 0,.mv (.t 61),none⟩])
 (.ret))))))
theorem is_law16_sane:FnIs Try.prog 8 62 [.tmp 0] c_law16_sane:=⟨⟨_,_,Try.func8,rfl,rfl,by kernel_rfl,by kernel_rfl⟩⟩
def c_keep_Value:SCode :=
 .seq (.reg [⟨some 2,.box 25 (.t 0),none⟩,
 ⟨some 4,.mv (.c (.b false)),none⟩])
 (.seq (.reg [⟨some 5,.loadn 4 (.t 2),none⟩,
 ⟨some 6,.mv (.t 1),none⟩,
 ⟨some 7,.call 22 [.t 5,.t 6,.c (.i .i64 70)],none⟩,
 ⟨some 8,.bin .geq (.t 7) (.c (.i .i64 0)),none⟩,
 ⟨some 4,.mv (.t 8),none⟩])
 (.ret))
theorem is_keep_Value:FnIs Try.prog 9 9 [.tmp 4] c_keep_Value:=⟨⟨_,_,Try.func9,rfl,rfl,by kernel_rfl,by kernel_rfl⟩⟩
def c_ref14_Parse:SCode :=
 .seq (.reg [⟨some 2,.alloc 25 [.i .i64 0,.s [],.nil,.nil],none⟩,
 ⟨some 3,.mv (.c (.i .i64 0)),none⟩,
 ⟨some 4,.mv (.c (.i .i64 0)),none⟩])
 (.seq (.seq (.reg [⟨some 8,.mv (.t 0),none⟩,
 ⟨some 9,.lens (.t 8),none⟩,
 ⟨some 10,.bin .gtr (.t 9) (.c (.i .i64 1048576)),none⟩])
 (.cond (.t 10)
 (.seq (.reg [⟨some 11,.build [.i .i64 0,.s [],.nil,.nil] [],none⟩,
 ⟨none,.store 4 (.t 2) (.t 11),none⟩,
 ⟨some 3,.mv (.c (.i .i64 0)),none⟩,
 ⟨some 4,.mv (.c (.i .i64 142)),none⟩])
 (.ret))
 (.skip)))
 (.seq (.reg [⟨some 12,.mv (.t 0),none⟩,
 ⟨some 13,.build [.s [],.i .i64 0,.i .i64 0,.i .i64 0,.i .i64 0] [(0,(1,.t 12))],none⟩,
 ⟨some 14,.box 56 (.t 13),none⟩,
 ⟨some 5,.mv (.t 14),none⟩])
 (.seq (.reg [⟨some 15,.mv (.t 5),none⟩,
 ⟨some 16,.mv (.t 5),none⟩,
 ⟨some 17,.call 24 [.t 16],none⟩,
 ⟨some 18,.call 23 [.t 15,.t 17,.c (.i .i64 0)],none⟩,
 ⟨some 6,.alloc 25 [.i .i64 0,.s [],.nil,.nil],none⟩,
 ⟨none,.store 4 (.t 6) (.t 18),none⟩])
 (.seq (.seq (.reg [⟨some 19,.mv (.t 5),none⟩,
 ⟨some 20,.call 24 [.t 19],none⟩,
 ⟨some 7,.alloc 59 [.i .i64 0,.s [],.i .i64 0],none⟩,
 ⟨none,.store 3 (.t 7) (.t 20),none⟩])
 (.seq (.reg [⟨some 21,.mv (.t 5),none⟩,
 ⟨some 22,.nck (.t 21),none⟩,
 ⟨some 23,.fad 3 (.t 22),none⟩,
 ⟨some 24,.load1 (.t 23),none⟩,
 ⟨some 25,.bin .eql (.t 24) (.c (.i .i64 0)),none⟩,
 ⟨some 26,.mv (.t 25),none⟩,
 ⟨some 27,.fad 0 (.t 7),some (26,true)⟩,
 ⟨some 28,.load1 (.t 27),some (26,true)⟩,
 ⟨some 29,.bin .neq (.t 28) (.c (.i .i64 1)),some (26,true)⟩,
 ⟨some 30,.pick (.t 26) (.t 29) (.c (.b false)),none⟩])
 (.cond (.t 30)
 (.reg [⟨some 31,.mv (.t 5),none⟩,
 ⟨some 32,.fad 2 (.t 7),none⟩,
 ⟨some 33,.load1 (.t 32),none⟩,
 ⟨some 34,.call 25 [.t 31,.t 33,.c (.i .i64 140)],none⟩])
 (.skip))))
 (.seq (.seq (.reg [⟨some 35,.mv (.t 5),none⟩,
 ⟨some 36,.nck (.t 35),none⟩,
 ⟨some 37,.fad 3 (.t 36),none⟩,
 ⟨some 38,.load1 (.t 37),none⟩,
 ⟨some 39,.bin .neq (.t 38) (.c (.i .i64 0)),none⟩])
 (.cond (.t 39)
 (.seq (.drw [⟨some 40,.build [.i .i64 0,.s [],.nil,.nil] [],none⟩,
 ⟨some 41,.mv (.t 5),none⟩,
 ⟨some 42,.nck (.t 41),none⟩,
 ⟨some 43,.fad 4 (.t 42),none⟩,
 ⟨some 44,.load1 (.t 43),none⟩,
 ⟨some 45,.mv (.t 5),none⟩,
 ⟨some 46,.nck (.t 45),none⟩,
 ⟨some 47,.fad 3 (.t 46),none⟩,
 ⟨some 48,.load1 (.t 47),none⟩,
 ⟨none,.store 4 (.t 2) (.t 40),none⟩,
 ⟨some 3,.mv (.t 44),none⟩,
 ⟨some 4,.mv (.t 48),none⟩] 12 [(43,(2,none)),(47,(2,none))])
 (.ret))
 (.skip)))
 (.seq (.reg [⟨some 49,.loadn 4 (.t 6),none⟩,
 ⟨some 50,.mv (.t 0),none⟩,
 ⟨some 51,.lens (.t 50),none⟩,
 ⟨none,.store 4 (.t 2) (.t 49),none⟩,
 ⟨some 3,.mv (.t 51),none⟩,
 ⟨some 4,.mv (.c (.i .i64 0)),none⟩])
 (.ret)))))))
theorem is_ref14_Parse:FnIs Try.prog 10 52 [.celln 2 4,.tmp 3,.tmp 4] c_ref14_Parse:=⟨⟨_,_,Try.func10,rfl,rfl,by kernel_rfl,by kernel_rfl⟩⟩
def c_jrd_Decode:SCode :=
 .seq (.reg [⟨some 1,.box 25 (.t 0),none⟩,
 ⟨some 2,.alloc 34 [.s [],.nil,.nil,.nil],none⟩,
 ⟨some 3,.mv (.c (.i .i64 0)),none⟩])
 (.seq (.reg [⟨some 6,.loadn 4 (.t 1),none⟩,
 ⟨some 7,.call 26 [.t 6],none⟩,
 ⟨some 4,.mv (.t 7),none⟩])
 (.seq (.reg [⟨some 8,.mv (.t 4),none⟩,
 ⟨some 9,.call 27 [.t 8,.c (.s [115,117,98,106,101,99,116])],none⟩,
 ⟨some 10,.mv (.t 4),none⟩,
 ⟨some 11,.call 28 [.t 10,.c (.s [97,108,105,97,115,101,115])],none⟩,
 ⟨some 12,.mv (.t 4),none⟩,
 ⟨some 13,.call 29 [.t 12,.c (.s [112,114,111,112,101,114,116,105,101,115]),.c (.b true)],none⟩,
 ⟨some 14,.mv (.t 4),none⟩,
 ⟨some 15,.call 30 [.t 14,.c (.s [108,105,110,107,115])],none⟩,
 ⟨some 16,.build [.s [],.nil,.nil,.nil] [(0,(1,.t 9)),(1,(1,.t 11)),(2,(1,.t 13)),(3,(1,.t 15))],none⟩,
 ⟨some 5,.alloc 34 [.s [],.nil,.nil,.nil],none⟩,
 ⟨none,.store 4 (.t 5) (.t 16),none⟩])
 (.seq (.seq (.reg [⟨some 17,.mv (.t 4),none⟩,
 ⟨some 18,.nck (.t 17),none⟩,
 ⟨some 19,.fad 0 (.t 18),none⟩,
 ⟨some 20,.fad 0 (.t 19),none⟩,
 ⟨some 21,.load1 (.t 20),none⟩,
 ⟨some 22,.bin .neq (.t 21) (.c (.i .i64 0)),none⟩])
 (.cond (.t 22)
 (.seq (.drw [⟨some 23,.build [.s [],.nil,.nil,.nil] [],none⟩,
 ⟨some 24,.mv (.t 4),none⟩,
 ⟨some 25,.nck (.t 24),none⟩,
 ⟨some 26,.fad 0 (.t 25),none⟩,
 ⟨some 27,.fad 0 (.t 26),none⟩,
 ⟨some 28,.load1 (.t 27),none⟩,
 ⟨none,.store 4 (.t 2) (.t 23),none⟩,
 ⟨some 3,.mv (.t 28),none⟩] 8 [(27,(2,none))])
 (.ret))
 (.skip)))
 (.seq (.reg [⟨some 29,.loadn 4 (.t 5),none⟩,
 ⟨none,.store 4 (.t 2) (.t 29),none⟩,
 ⟨some 3,.mv (.c (.i .i64 0)),none⟩])
 (.ret)))))
theorem is_jrd_Decode:FnIs Try.prog 11 30 [.celln 2 4,.tmp 3] c_jrd_Decode:=⟨⟨_,_,Try.func11,rfl,rfl,by kernel_rfl,by kernel_rfl⟩⟩
def c_ref16_Decode:SCode :=
 .seq (.reg [⟨some 1,.box 25 (.t 0),none⟩,
 ⟨some 2,.alloc 34 [.s [],.nil,.nil,.nil],none⟩,
 ⟨some 3,.mv (.c (.i .i64 0)),none⟩])
 (.seq (.seq (.reg [⟨some 9,.fad 0 (.t 1),none⟩,
 ⟨some 10,.load1 (.t 9),none⟩,
 ⟨some 11,.bin .neq (.t 10) (.c (.i .i64 7)),none⟩])
 (.cond (.t 11)
 (.seq (.reg [⟨some 12,.build [.s [],.nil,.nil,.nil] [],none⟩,
 ⟨none,.store 4 (.t 2) (.t 12),none⟩,
 ⟨some 3,.mv (.c (.i .i64 160)),none⟩])
 (.ret))
 (.skip)))
 (.seq (.reg [⟨some 13,.build [.i .i64 0] [],none⟩,
 ⟨some 14,.box 74 (.t 13),none⟩,
 ⟨some 4,.mv (.t 14),none⟩])
 (.seq (.cra 5 34 [.s [],.nil,.nil,.nil] [([⟨some 15,.mv (.t 4),none⟩,⟨some 16,.loadn 4 (.t 1),none⟩,⟨some 18,.mv (.t 4),none⟩,⟨some 19,.loadn 4 (.t 1),none⟩,⟨some 1000003,.mv (.c .nil),none⟩],⟨some 17,.call 31 [.t 15,.t 16,.c (.s [115,117,98,106,101,99,116]),.c (.b false)],none⟩),([],⟨some 20,.call 32 [.t 18,.t 19,.c (.s [97,108,105,97,115,101,115])],none⟩)] [⟨some 21,.build [.s [],.nil,.nil,.nil] [(0,(1,.t 17)),(1,(1,.t 20))],none⟩] ⟨none,.store 4 (.t 5) (.t 21),none⟩)
 (.seq (.reg [⟨some 22,.mv (.t 4),none⟩,
 ⟨some 23,.loadn 4 (.t 1),none⟩,
 ⟨some 24,.call 33 [.t 22,.t 23,.c (.s [112,114,111,112,101,114,116,105,101,115]),.c (.b true)],none⟩,
 ⟨some 25,.fad 2 (.t 5),none⟩,
 ⟨none,.store 1 (.t 25) (.t 24),none⟩])
 (.seq (.seq (.reg [⟨some 26,.mv (.t 4),none⟩,
 ⟨some 27,.loadn 4 (.t 1),none⟩,
 ⟨some 28,.call 34 [.t 26,.t 27,.c (.s [108,105,110,107,115]),.c (.i .i64 6),.c (.i .i64 64)],none⟩,
 ⟨some 29,.fld1 3 (.t 28),none⟩,
 ⟨some 30,.lenr (.t 29),none⟩,
 ⟨some 31,.mv (.c (.i .i64 0)),none⟩])
 (.blk 0
 (.loop
 (.seq (.reg [⟨some 32,.bin .lss (.t 31) (.t 30),none⟩])
 (.seq (.cond (.t 32)
 (.skip)
 (.exit 0))
 (.seq (.blk 1
 (.seq (.reg [⟨some 33,.iad 4 (.t 29) (.t 31),none⟩,
 ⟨some 34,.loadn 4 (.t 33),none⟩,
 ⟨some 7,.alloc 25 [.i .i64 0,.s [],.nil,.nil],none⟩,
 ⟨none,.store 4 (.t 7) (.t 34),none⟩])
 (.seq (.seq (.reg [⟨some 35,.fad 0 (.t 7),none⟩,
 ⟨some 36,.load1 (.t 35),none⟩,
 ⟨some 37,.bin .neq (.t 36) (.c (.i .i64 7)),none⟩])
 (.cond (.t 37)
 (.seq (.reg [⟨some 38,.mv (.t 4),none⟩,
 ⟨some 39,.call 35 [.t 38,.c (.i .i64 160)],none⟩])
 (.exit 1))
 (.skip)))
 (.seq (.reg [⟨some 40,.mv (.t 4),none⟩,
 ⟨some 41,.loadn 4 (.t 7),none⟩,
 ⟨some 42,.call 31 [.t 40,.t 41,.c (.s [114,101,108]),.c (.b true)],none⟩,
 ⟨some 43,.build [.s [],.s [],.s [],.s [],.nil,.nil] [(0,(1,.t 42))],none⟩,
 ⟨some 8,.alloc 45 [.s [],.s [],.s [],.s [],.nil,.nil],none⟩,
 ⟨none,.store 6 (.t 8) (.t 43),none⟩])
 (.seq (.reg [⟨some 44,.mv (.t 4),none⟩,
 ⟨some 45,.loadn 4 (.t 7),none⟩,
 ⟨some 46,.call 31 [.t 44,.t 45,.c (.s [116,121,112,101]),.c (.b false)],none⟩,
 ⟨some 47,.fad 1 (.t 8),none⟩,
 ⟨none,.store 1 (.t 47) (.t 46),none⟩])
 (.seq (.reg [⟨some 48,.mv (.t 4),none⟩,
 ⟨some 49,.loadn 4 (.t 7),none⟩,
 ⟨some 50,.call 31 [.t 48,.t 49,.c (.s [104,114,101,102]),.c (.b false)],none⟩,
 ⟨some 51,.fad 2 (.t 8),none⟩,
 ⟨none,.store 1 (.t 51) (.t 50),none⟩])
 (.seq (.reg [⟨some 52,.mv (.t 4),none⟩,
 ⟨some 53,.loadn 4 (.t 7),none⟩,
 ⟨some 54,.call 31 [.t 52,.t 53,.c (.s [116,101,109,112,108,97,116,101]),.c (.b false)],none⟩,
 ⟨some 55,.fad 3 (.t 8),none⟩,
 ⟨none,.store 1 (.t 55) (.t 54),none⟩])
 (.seq (.reg [⟨some 56,.mv (.t 4),none⟩,
 ⟨some 57,.loadn 4 (.t 7),none⟩,
 ⟨some 58,.call 33 [.t 56,.t 57,.c (.s [116,105,116,108,101,115]),.c (.b false)],none⟩,
 ⟨some 59,.fad 4 (.t 8),none⟩,
 ⟨none,.store 1 (.t 59) (.t 58),none⟩])
 (.seq (.reg [⟨some 60,.mv (.t 4),none⟩,
 ⟨some 61,.loadn 4 (.t 7),none⟩,
 ⟨some 62,.call 33 [.t 60,.t 61,.c (.s [112,114,111,112,101,114,116,105,101,115]),.c (.b true)],none⟩,
 ⟨some 63,.fad 5 (.t 8),none⟩,
 ⟨none,.store 1 (.t 63) (.t 62),none⟩])
 (.reg [⟨some 64,.fad 3 (.t 5),none⟩,
 ⟨some 65,.load1 (.t 64),none⟩,
 ⟨some 66,.loadn 6 (.t 8),none⟩,
 ⟨some 67,.bslice 1 [.s [],.s [],.s [],.s [],.nil,.nil] [(0,(6,.t 66))],none⟩,
 ⟨some 68,.app 45 6 112 (.t 65) (.t 67),none⟩,
 ⟨some 69,.fad 3 (.t 5),none⟩,
 ⟨none,.store 1 (.t 69) (.t 68),none⟩]))))))))))
 (.reg [⟨some 70,.bin .add (.t 31) (.c (.i .i64 1)),none⟩,
 ⟨some 31,.mv (.t 70),none⟩])))))))
 (.seq (.seq (.reg [⟨some 71,.mv (.t 4),none⟩,
 ⟨some 72,.nck (.t 71),none⟩,
 ⟨some 73,.fad 0 (.t 72),none⟩,
 ⟨some 74,.load1 (.t 73),none⟩,
 ⟨some 75,.bin .neq (.t 74) (.c (.i .i64 0)),none⟩])
 (.cond (.t 75)
 (.seq (.drw [⟨some 76,.build [.s [],.nil,.nil,.nil] [],none⟩,
 ⟨some 77,.mv (.t 4),none⟩,
 ⟨some 78,.nck (.t 77),none⟩,
 ⟨some 79,.fad 0 (.t 78),none⟩,
 ⟨some 80,.load1 (.t 79),none⟩,
 ⟨none,.store 4 (.t 2) (.t 76),none⟩,
 ⟨some 3,.mv (.t 80),none⟩] 7 [(79,(2,none))])
 (.ret))
 (.skip)))
 (.seq (.reg [⟨some 81,.loadn 4 (.t 5),none⟩,
 ⟨none,.store 4 (.t 2) (.t 81),none⟩,
 ⟨some 3,.mv (.c (.i .i64 0)),none⟩])
 (.ret))))))))
theorem is_ref16_Decode:FnIs Try.prog 12 82 [.celln 2 4,.tmp 3] c_ref16_Decode:=⟨⟨_,_,Try.func12,rfl,rfl,by kernel_rfl,by kernel_rfl⟩⟩
def c_ref16_Same:SCode :=
 .seq (.reg [⟨some 2,.box 34 (.t 0),none⟩,
 ⟨some 3,.box 34 (.t 1),none⟩,
 ⟨some 4,.mv (.c (.b false)),none⟩])
 (.seq (.seq (.reg [⟨some 7,.fad 0 (.t 2),none⟩,
 ⟨some 8,.load1 (.t 7),none⟩,
 ⟨some 9,.fad 0 (.t 3),none⟩,
 ⟨some 10,.load1 (.t 9),none⟩,
 ⟨some 11,.bin .neq (.t 8) (.t 10),none⟩,
 ⟨some 12,.mv (.t 11),none⟩,
 ⟨some 13,.fad 1 (.t 2),some (12,false)⟩,
 ⟨some 14,.load1 (.t 13),some (12,false)⟩,
 ⟨some 15,.lenr (.t 14),some (12,false)⟩,
 ⟨some 16,.fad 1 (.t 3),some (12,false)⟩,
 ⟨some 17,.load1 (.t 16),some (12,false)⟩,
 ⟨some 18,.lenr (.t 17),some (12,false)⟩,
 ⟨some 19,.bin .neq (.t 15) (.t 18),some (12,false)⟩,
 ⟨some 20,.pick (.t 12) (.c (.b true)) (.t 19),none⟩,
 ⟨some 21,.mv (.t 20),none⟩,
 ⟨some 22,.fad 3 (.t 2),some (21,false)⟩,
 ⟨some 23,.load1 (.t 22),some (21,false)⟩,
 ⟨some 24,.lenr (.t 23),some (21,false)⟩,
 ⟨some 25,.fad 3 (.t 3),some (21,false)⟩,
 ⟨some 26,.load1 (.t 25),some (21,false)⟩,
 ⟨some 27,.lenr (.t 26),some (21,false)⟩,
 ⟨some 28,.bin .neq (.t 24) (.t 27),some (21,false)⟩,
 ⟨some 29,.pick (.t 21) (.c (.b true)) (.t 28),none⟩,
 ⟨some 30,.mv (.t 29),none⟩,
 ⟨some 31,.fad 2 (.t 2),some (30,false)⟩,
 ⟨some 32,.load1 (.t 31),some (30,false)⟩,
 ⟨some 33,.fad 2 (.t 3),some (30,false)⟩,
 ⟨some 34,.load1 (.t 33),some (30,false)⟩,
 ⟨some 35,.call 36 [.t 32,.t 34],some (30,false)⟩,
 ⟨some 36,.not (.t 35),some (30,false)⟩,
 ⟨some 37,.pick (.t 30) (.c (.b true)) (.t 36),none⟩])
 (.cond (.t 37)
 (.seq (.reg [⟨some 4,.mv (.c (.b false)),none⟩])
 (.ret))
 (.skip)))
 (.seq (.seq (.reg [⟨some 38,.fad 1 (.t 2),none⟩,
 ⟨some 39,.load1 (.t 38),none⟩,
 ⟨some 40,.lenr (.t 39),none⟩,
 ⟨some 41,.mv (.c (.i .i64 0)),none⟩])
 (.blk 0
 (.loop
 (.seq (.reg [⟨some 42,.bin .lss (.t 41) (.t 40),none⟩])
 (.seq (.cond (.t 42)
 (.skip)
 (.exit 0))
 (.seq (.blk 1
 (.seq (.reg [⟨some 43,.mv (.t 41),none⟩,
 ⟨some 5,.mv (.t 43),none⟩])
 (.seq (.drw [⟨some 44,.fad 1 (.t 2),none⟩,
 ⟨some 45,.load1 (.t 44),none⟩,
 ⟨some 46,.mv (.t 5),none⟩,
 ⟨some 47,.iad 1 (.t 45) (.t 46),none⟩,
 ⟨some 48,.load1 (.t 47),none⟩,
 ⟨some 49,.fad 1 (.t 3),none⟩,
 ⟨some 50,.load1 (.t 49),none⟩,
 ⟨some 51,.mv (.t 5),none⟩,
 ⟨some 52,.iad 1 (.t 50) (.t 51),none⟩,
 ⟨some 53,.load1 (.t 52),none⟩,
 ⟨some 54,.bin .neq (.t 48) (.t 53),none⟩] 11 [])
 (.cond (.t 54)
 (.seq (.reg [⟨some 4,.mv (.c (.b false)),none⟩])
 (.ret))
 (.skip)))))
 (.reg [⟨some 55,.bin .add (.t 41) (.c (.i .i64 1)),none⟩,
 ⟨some 41,.mv (.t 55),none⟩])))))))
 (.seq (.seq (.reg [⟨some 56,.fad 3 (.t 2),none⟩,
 ⟨some 57,.load1 (.t 56),none⟩,
 ⟨some 58,.lenr (.t 57),none⟩,
 ⟨some 59,.mv (.c (.i .i64 0)),none⟩])
 (.blk 2
 (.loop
 (.seq (.reg [⟨some 60,.bin .lss (.t 59) (.t 58),none⟩])
 (.seq (.cond (.t 60)
 (.skip)
 (.exit 2))
 (.seq (.blk 3
 (.seq (.reg [⟨some 61,.mv (.t 59),none⟩,
 ⟨some 6,.mv (.t 61),none⟩])
 (.seq (.drw [⟨some 62,.fad 3 (.t 2),none⟩,
 ⟨some 63,.load1 (.t 62),none⟩,
 ⟨some 64,.mv (.t 6),none⟩,
 ⟨some 65,.iad 6 (.t 63) (.t 64),none⟩,
 ⟨some 66,.loadn 6 (.t 65),none⟩,
 ⟨some 67,.fad 3 (.t 3),none⟩,
 ⟨some 68,.load1 (.t 67),none⟩,
 ⟨some 69,.mv (.t 6),none⟩,
 ⟨some 70,.iad 6 (.t 68) (.t 69),none⟩,
 ⟨some 71,.loadn 6 (.t 70),none⟩,
 ⟨some 72,.call 20 [.t 66,.t 71],none⟩,
 ⟨some 73,.not (.t 72),none⟩] 12 [])
 (.cond (.t 73)
 (.seq (.reg [⟨some 4,.mv (.c (.b false)),none⟩])
 (.ret))
 (.skip)))))
 (.reg [⟨some 74,.bin .add (.t 59) (.c (.i .i64 1)),none⟩,
 ⟨some 59,.mv (.t 74),none⟩])))))))
 (.seq (.reg [⟨some 4,.mv (.c (.b true)),none⟩])
 (.ret)))))
theorem is_ref16_Same:FnIs Try.prog 13 75 [.tmp 4] c_ref16_Same:=⟨⟨_,_,Try.func13,rfl,rfl,by kernel_rfl,by kernel_rfl⟩⟩
def c_jrd_Find:SCode :=
 .seq (.reg [⟨some 2,.box 34 (.t 0),none⟩,
 ⟨some 4,.mv (.c .nil),none⟩])
 (.seq (.reg [⟨some 5,.mv (.c .nil),none⟩])
 (.seq (.seq (.reg [⟨some 8,.fad 3 (.t 2),none⟩,
 ⟨some 9,.load1 (.t 8),none⟩,
 ⟨some 10,.lenr (.t 9),none⟩,
 ⟨some 11,.mv (.c (.i .i64 0)),none⟩])
 (.blk 0
 (.loop
 (.seq (.reg [⟨some 12,.bin .lss (.t 11) (.t 10),none⟩])
 (.seq (.cond (.t 12)
 (.skip)
 (.exit 0))
 (.seq (.blk 1
 (.seq (.reg [⟨some 13,.iad 6 (.t 9) (.t 11),none⟩,
 ⟨some 14,.loadn 6 (.t 13),none⟩,
 ⟨some 7,.alloc 45 [.s [],.s [],.s [],.s [],.nil,.nil],none⟩,
 ⟨none,.store 6 (.t 7) (.t 14),none⟩])
 (.seq (.reg [⟨some 15,.fad 0 (.t 7),none⟩,
 ⟨some 16,.load1 (.t 15),none⟩,
 ⟨some 17,.mv (.t 1),none⟩,
 ⟨some 18,.bin .eql (.t 16) (.t 17),none⟩])
 (.cond (.t 18)
 (.seq (.reg [⟨some 19,.fad 4 (.t 7),none⟩,
 ⟨some 20,.load1 (.t 19),none⟩,
 ⟨some 21,.call 37 [.t 20],none⟩,
 ⟨some 22,.fad 4 (.t 7),none⟩,
 ⟨none,.store 1 (.t 22) (.t 21),none⟩])
 (.seq (.reg [⟨some 23,.fad 5 (.t 7),none⟩,
 ⟨some 24,.load1 (.t 23),none⟩,
 ⟨some 25,.call 37 [.t 24],none⟩,
 ⟨some 26,.fad 5 (.t 7),none⟩,
 ⟨none,.store 1 (.t 26) (.t 25),none⟩])
 (.reg [⟨some 27,.mv (.t 5),none⟩,
 ⟨some 28,.loadn 6 (.t 7),none⟩,
 ⟨some 29,.bslice 1 [.s [],.s [],.s [],.s [],.nil,.nil] [(0,(6,.t 28))],none⟩,
 ⟨some 30,.app 45 6 112 (.t 27) (.t 29),none⟩,
 ⟨some 5,.mv (.t 30),none⟩])))
 (.skip)))))
 (.reg [⟨some 31,.bin .add (.t 11) (.c (.i .i64 1)),none⟩,
 ⟨some 11,.mv (.t 31),none⟩])))))))
 (.seq (.reg [⟨some 32,.mv (.t 5),none⟩,
 ⟨some 4,.mv (.t 32),none⟩])
 (.ret))))
theorem is_jrd_Find:FnIs Try.prog 15 33 [.tmp 4] c_jrd_Find:=⟨⟨_,_,Try.func15,rfl,rfl,by kernel_rfl,by kernel_rfl⟩⟩
def c_ref16_SameLink:SCode :=
 .seq (.reg [⟨some 2,.box 45 (.t 0),none⟩,
 ⟨some 3,.box 45 (.t 1),none⟩,
 ⟨some 4,.mv (.c (.b false)),none⟩])
 (.seq (.reg [⟨some 5,.fad 0 (.t 2),none⟩,
 ⟨some 6,.load1 (.t 5),none⟩,
 ⟨some 7,.fad 0 (.t 3),none⟩,
 ⟨some 8,.load1 (.t 7),none⟩,
 ⟨some 9,.bin .eql (.t 6) (.t 8),none⟩,
 ⟨some 10,.mv (.t 9),none⟩,
 ⟨some 11,.fad 1 (.t 2),some (10,true)⟩,
 ⟨some 12,.load1 (.t 11),some (10,true)⟩,
 ⟨some 13,.fad 1 (.t 3),some (10,true)⟩,
 ⟨some 14,.load1 (.t 13),some (10,true)⟩,
 ⟨some 15,.bin .eql (.t 12) (.t 14),some (10,true)⟩,
 ⟨some 16,.pick (.t 10) (.t 15) (.c (.b false)),none⟩,
 ⟨some 17,.mv (.t 16),none⟩,
 ⟨some 18,.fad 2 (.t 2),some (17,true)⟩,
 ⟨some 19,.load1 (.t 18),some (17,true)⟩,
 ⟨some 20,.fad 2 (.t 3),some (17,true)⟩,
 ⟨some 21,.load1 (.t 20),some (17,true)⟩,
 ⟨some 22,.bin .eql (.t 19) (.t 21),some (17,true)⟩,
 ⟨some 23,.pick (.t 17) (.t 22) (.c (.b false)),none⟩,
 ⟨some 24,.mv (.t 23),none⟩,
 ⟨some 25,.fad 3 (.t 2),some (24,true)⟩,
 ⟨some 26,.load1 (.t 25),some (24,true)⟩,
 ⟨some 27,.fad 3 (.t 3),some (24,true)⟩,
 ⟨some 28,.load1 (.t 27),some (24,true)⟩,
 ⟨some 29,.bin .eql (.t 26) (.t 28),some (24,true)⟩,
 ⟨some 30,.pick (.t 24) (.t 29) (.c (.b false)),none⟩,
 ⟨some 31,.mv (.t 30),none⟩,
 ⟨some 32,.fad 4 (.t 2),some (31,true)⟩,
 ⟨some 33,.load1 (.t 32),some (31,true)⟩,
 ⟨some 34,.fad 4 (.t 3),some (31,true)⟩,
 ⟨some 35,.load1 (.t 34),some (31,true)⟩,
 ⟨some 36,.call 36 [.t 33,.t 35],some (31,true)⟩,
 ⟨some 37,.pick (.t 31) (.t 36) (.c (.b false)),none⟩,
 ⟨some 38,.mv (.t 37),none⟩,
 ⟨some 39,.fad 5 (.t 2),some (38,true)⟩,
 ⟨some 40,.load1 (.t 39),some (38,true)⟩,
 ⟨some 41,.fad 5 (.t 3),some (38,true)⟩,
 ⟨some 42,.load1 (.t 41),some (38,true)⟩,
 ⟨some 43,.call 36 [.t 40,.t 42],some (38,true)⟩,
 ⟨some 44,.pick (.t 38) (.t 43) (.c (.b false)),none⟩,
 ⟨some 4,.mv (.t 44),none⟩])
 (.ret))
theorem is_ref16_SameLink:FnIs Try.prog 20 45 [.tmp 4] c_ref16_SameLink:=⟨⟨_,_,Try.func20,rfl,rfl,by kernel_rfl,by kernel_rfl⟩⟩
def c_keep_size:SCode :=
 .seq (.reg [⟨some 3,.box 25 (.t 0),none⟩,
 ⟨some 6,.mv (.c (.i .i64 0)),none⟩])
 (.seq (.seq (.reg [⟨some 11,.mv (.t 1),none⟩,
 ⟨some 12,.bin .leq (.t 11) (.c (.i .i64 0)),none⟩,
 ⟨some 13,.mv (.t 12),none⟩,
 ⟨some 14,.mv (.t 2),some (13,false)⟩,
 ⟨some 15,.bin .leq (.t 14) (.c (.i .i64 0)),some (13,false)⟩,
 ⟨some 16,.pick (.t 13) (.c (.b true)) (.t 15),none⟩,
 ⟨some 17,.mv (.t 16),none⟩,
 ⟨some 18,.fad 1 (.t 3),some (17,false)⟩,
 ⟨some 19,.load1 (.t 18),some (17,false)⟩,
 ⟨some 20,.lens (.t 19),some (17,false)⟩,
 ⟨some 21,.bin .gtr (.t 20) (.c (.i .i64 300)),some (17,false)⟩,
 ⟨some 22,.pick (.t 17) (.c (.b true)) (.t 21),none⟩,
 ⟨some 23,.mv (.t 22),none⟩,
 ⟨some 24,.fad 2 (.t 3),some (23,false)⟩,
 ⟨some 25,.load1 (.t 24),some (23,false)⟩,
 ⟨some 26,.lenr (.t 25),some (23,false)⟩,
 ⟨some 27,.fad 3 (.t 3),some (23,false)⟩,
 ⟨some 28,.load1 (.t 27),some (23,false)⟩,
 ⟨some 29,.lenr (.t 28),some (23,false)⟩,
 ⟨some 30,.bin .add (.t 29) (.c (.i .i64 4)),some (23,false)⟩,
 ⟨some 31,.bin .gtr (.t 26) (.t 30),some (23,false)⟩,
 ⟨some 32,.pick (.t 23) (.c (.b true)) (.t 31),none⟩,
 ⟨some 33,.mv (.t 32),none⟩,
 ⟨some 34,.fad 3 (.t 3),some (33,false)⟩,
 ⟨some 35,.load1 (.t 34),some (33,false)⟩,
 ⟨some 36,.lenr (.t 35),some (33,false)⟩,
 ⟨some 37,.mv (.t 1),some (33,false)⟩,
 ⟨some 38,.bin .gtr (.t 36) (.t 37),some (33,false)⟩,
 ⟨some 39,.pick (.t 33) (.c (.b true)) (.t 38),none⟩])
 (.cond (.t 39)
 (.seq (.reg [⟨some 6,.mv (.c (.i .i64 (-1))),none⟩])
 (.ret))
 (.skip)))
 (.seq (.reg [⟨some 40,.mv (.t 1),none⟩,
 ⟨some 41,.bin .sub (.t 40) (.c (.i .i64 1)),none⟩,
 ⟨some 1,.mv (.t 41),none⟩])
 (.seq (.seq (.reg [⟨some 42,.fad 2 (.t 3),none⟩,
 ⟨some 43,.load1 (.t 42),none⟩,
 ⟨some 44,.lenr (.t 43),none⟩,
 ⟨some 45,.mv (.c (.i .i64 0)),none⟩])
 (.blk 0
 (.loop
 (.seq (.reg [⟨some 46,.bin .lss (.t 45) (.t 44),none⟩])
 (.seq (.cond (.t 46)
 (.skip)
 (.exit 0))
 (.seq (.blk 1
 (.seq (.reg [⟨some 47,.iad 1 (.t 43) (.t 45),none⟩,
 ⟨some 48,.load1 (.t 47),none⟩,
 ⟨some 8,.mv (.t 48),none⟩])
 (.seq (.reg [⟨some 49,.mv (.t 8),none⟩,
 ⟨some 50,.lens (.t 49),none⟩,
 ⟨some 51,.bin .gtr (.t 50) (.c (.i .i64 300)),none⟩])
 (.cond (.t 51)
 (.seq (.reg [⟨some 6,.mv (.c (.i .i64 (-1))),none⟩])
 (.ret))
 (.skip)))))
 (.reg [⟨some 52,.bin .add (.t 45) (.c (.i .i64 1)),none⟩,
 ⟨some 45,.mv (.t 52),none⟩])))))))
 (.seq (.seq (.reg [⟨some 53,.fad 3 (.t 3),none⟩,
 ⟨some 54,.load1 (.t 53),none⟩,
 ⟨some 55,.lenr (.t 54),none⟩,
 ⟨some 56,.mv (.c (.i .i64 0)),none⟩])
 (.blk 2
 (.loop
 (.seq (.reg [⟨some 57,.bin .lss (.t 56) (.t 55),none⟩])
 (.seq (.cond (.t 57)
 (.skip)
 (.exit 2))
 (.seq (.blk 3
 (.seq (.reg [⟨some 58,.iad 4 (.t 54) (.t 56),none⟩,
 ⟨some 59,.loadn 4 (.t 58),none⟩,
 ⟨some 10,.alloc 25 [.i .i64 0,.s [],.nil,.nil],none⟩,
 ⟨none,.store 4 (.t 10) (.t 59),none⟩])
 (.seq (.reg [⟨some 60,.loadn 4 (.t 10),none⟩,
 ⟨some 61,.mv (.t 1),none⟩,
 ⟨some 62,.mv (.t 2),none⟩,
 ⟨some 63,.bin .sub (.t 62) (.c (.i .i64 1)),none⟩,
 ⟨some 64,.call 22 [.t 60,.t 61,.t 63],none⟩,
 ⟨some 1,.mv (.t 64),none⟩])
 (.seq (.reg [⟨some 65,.mv (.t 1),none⟩,
 ⟨some 66,.bin .lss (.t 65) (.c (.i .i64 0)),none⟩])
 (.cond (.t 66)
 (.seq (.reg [⟨some 6,.mv (.c (.i .i64 (-1))),none⟩])
 (.ret))
 (.skip))))))
 (.reg [⟨some 67,.bin .add (.t 56) (.c (.i .i64 1)),none⟩,
 ⟨some 56,.mv (.t 67),none⟩])))))))
 (.seq (.reg [⟨some 68,.mv (.t 1),none⟩,
 ⟨some 6,.mv (.t 68),none⟩])
 (.ret))))))
theorem is_keep_size:FnIs Try.prog 22 69 [.tmp 6] c_keep_size:=⟨⟨_,_,Try.func22,rfl,rfl,by kernel_rfl,by kernel_rfl⟩⟩
def c_ref14_parser_value:SCode :=
 .seq (.reg [⟨some 4,.box 59 (.t 1),none⟩,
 ⟨some 6,.alloc 25 [.i .i64 0,.s [],.nil,.nil],none⟩])
 (.seq (.reg [⟨some 11,.fad 0 (.t 4),none⟩,
 ⟨some 12,.load1 (.t 11),none⟩,
 ⟨some 13,.bin .eql (.t 12) (.c (.i .i64 3)),none⟩,
 ⟨some 14,.mv (.t 13),none⟩,
 ⟨some 15,.fad 0 (.t 4),some (14,false)⟩,
 ⟨some 16,.load1 (.t 15),some (14,false)⟩,
 ⟨some 17,.bin .eql (.t 16) (.c (.i .i64 4)),some (14,false)⟩,
 ⟨some 18,.pick (.t 14) (.c (.b true)) (.t 17),none⟩,
 ⟨some 19,.mv (.t 18),none⟩,
 ⟨some 20,.fad 0 (.t 4),some (19,false)⟩,
 ⟨some 21,.load1 (.t 20),some (19,false)⟩,
 ⟨some 22,.bin .eql (.t 21) (.c (.i .i64 5)),some (19,false)⟩,
 ⟨some 23,.pick (.t 19) (.c (.b true)) (.t 22),none⟩,
 ⟨some 24,.mv (.t 23),none⟩,
 ⟨some 25,.loadn 3 (.t 4),some (24,false)⟩,
 ⟨some 26,.call 49 [.t 25,.c (.s [91])],some (24,false)⟩,
 ⟨some 27,.pick (.t 24) (.c (.b true)) (.t 26),none⟩,
 ⟨some 28,.mv (.t 27),none⟩,
 ⟨some 29,.loadn 3 (.t 4),some (28,false)⟩,
 ⟨some 30,.call 49 [.t 29,.c (.s [123])],some (28,false)⟩,
 ⟨some 31,.pick (.t 28) (.c (.b true)) (.t 30),none⟩,
 ⟨some 7,.mv (.t 31),none⟩])
 (.seq (.seq (.reg [⟨some 32,.mv (.t 0),none⟩,
 ⟨some 33,.nck (.t 32),none⟩,
 ⟨some 34,.fad 3 (.t 33),none⟩,
 ⟨some 35,.load1 (.t 34),none⟩,
 ⟨some 36,.bin .neq (.t 35) (.c (.i .i64 0)),none⟩])
 (.cond (.t 36)
 (.seq (.reg [⟨some 37,.build [.i .i64 0,.s [],.nil,.nil] [],none⟩,
 ⟨none,.store 4 (.t 6) (.t 37),none⟩])
 (.ret))
 (.skip)))
 (.seq (.seq (.reg [⟨some 38,.mv (.t 7),none⟩,
 ⟨some 39,.not (.t 38),none⟩])
 (.cond (.t 39)
 (.seq (.reg [⟨some 40,.mv (.t 0),none⟩,
 ⟨some 41,.fad 2 (.t 4),none⟩,
 ⟨some 42,.load1 (.t 41),none⟩,
 ⟨some 43,.call 25 [.t 40,.t 42,.c (.i .i64 140)],none⟩])
 (.seq (.reg [⟨some 44,.build [.i .i64 0,.s [],.nil,.nil] [],none⟩,
 ⟨none,.store 4 (.t 6) (.t 44),none⟩])
 (.ret)))
 (.skip)))
 (.seq (.seq (.reg [⟨some 45,.fad 0 (.t 4),none⟩,
 ⟨some 46,.load1 (.t 45),none⟩,
 ⟨some 47,.bin .eql (.t 46) (.c (.i .i64 2)),none⟩,
 ⟨some 48,.mv (.t 47),none⟩,
 ⟨some 49,.mv (.t 2),some (48,true)⟩,
 ⟨some 50,.bin .eql (.t 49) (.c (.i .i64 64)),some (48,true)⟩,
 ⟨some 51,.pick (.t 48) (.t 50) (.c (.b false)),none⟩])
 (.cond (.t 51)
 (.seq (.reg [⟨some 52,.mv (.t 0),none⟩,
 ⟨some 53,.fad 2 (.t 4),none⟩,
 ⟨some 54,.load1 (.t 53),none⟩,
 ⟨some 55,.call 25 [.t 52,.t 54,.c (.i .i64 141)],none⟩])
 (.seq (.reg [⟨some 56,.build [.i .i64 0,.s [],.nil,.nil] [],none⟩,
 ⟨none,.store 4 (.t 6) (.t 56),none⟩])
 (.ret)))
 (.skip)))
 (.seq (.reg [⟨some 57,.fad 1 (.t 4),none⟩,
 ⟨some 58,.load1 (.t 57),none⟩,
 ⟨some 59,.build [.i .i64 0,.s [],.nil,.nil] [(0,(1,.c (.i .i64 5))),(1,(1,.t 58))],none⟩,
 ⟨some 8,.alloc 25 [.i .i64 0,.s [],.nil,.nil],none⟩,
 ⟨none,.store 4 (.t 8) (.t 59),none⟩])
 (.seq (.seq (.reg [⟨some 60,.fad 0 (.t 4),none⟩,
 ⟨some 61,.load1 (.t 60),none⟩,
 ⟨some 62,.bin .eql (.t 61) (.c (.i .i64 4)),none⟩])
 (.cond (.t 62)
 (.seq (.reg [⟨some 64,.fad 1 (.t 4),none⟩,
 ⟨some 65,.load1 (.t 64),none⟩,
 ⟨some 66,.call 50 [.t 65],none⟩,
 ⟨some 63,.mv (.t 66),none⟩,
 ⟨some 67,.ext (.t 63) 0,none⟩,
 ⟨some 68,.ext (.t 63) 1,none⟩,
 ⟨some 9,.mv (.t 67),none⟩,
 ⟨some 10,.mv (.t 68),none⟩])
 (.seq (.seq (.reg [⟨some 69,.mv (.t 10),none⟩,
 ⟨some 70,.bin .neq (.t 69) (.c (.i .i64 0)),none⟩])
 (.cond (.t 70)
 (.reg [⟨some 71,.mv (.t 0),none⟩,
 ⟨some 72,.fad 2 (.t 4),none⟩,
 ⟨some 73,.load1 (.t 72),none⟩,
 ⟨some 74,.mv (.t 10),none⟩,
 ⟨some 75,.call 25 [.t 71,.t 73,.t 74],none⟩])
 (.skip)))
 (.reg [⟨some 76,.mv (.t 9),none⟩,
 ⟨some 77,.build [.i .i64 0,.s [],.nil,.nil] [(0,(1,.c (.i .i64 4))),(1,(1,.t 76))],none⟩,
 ⟨none,.store 4 (.t 8) (.t 77),none⟩])))
 (.skip)))
 (.seq (.seq (.reg [⟨some 78,.mv (.t 0),none⟩,
 ⟨some 79,.nck (.t 78),none⟩,
 ⟨some 80,.fad 2 (.t 79),none⟩,
 ⟨some 81,.load1 (.t 80),none⟩,
 ⟨some 82,.bin .add (.t 81) (.c (.i .i64 1)),none⟩,
 ⟨some 83,.nck (.t 78),none⟩,
 ⟨some 84,.fad 2 (.t 83),none⟩,
 ⟨none,.store 1 (.t 84) (.t 82),none⟩])
 (.seq (.reg [⟨some 85,.mv (.t 0),none⟩,
 ⟨some 86,.nck (.t 85),none⟩,
 ⟨some 87,.fad 2 (.t 86),none⟩,
 ⟨some 88,.load1 (.t 87),none⟩,
 ⟨some 89,.bin .gtr (.t 88) (.c (.i .i64 20000)),none⟩])
 (.cond (.t 89)
 (.reg [⟨some 90,.mv (.t 0),none⟩,
 ⟨some 91,.fad 2 (.t 4),none⟩,
 ⟨some 92,.load1 (.t 91),none⟩,
 ⟨some 93,.call 25 [.t 90,.t 92,.c (.i .i64 142)],none⟩])
 (.skip))))
 (.seq (.blk 0
 (.seq (.reg [⟨some 95,.fad 0 (.t 4),none⟩,
 ⟨some 96,.load1 (.t 95),none⟩,
 ⟨some 97,.bin .eql (.t 96) (.c (.i .i64 5)),none⟩,
 ⟨some 94,.mv (.t 97),none⟩])
 (.cond (.t 94)
 (.seq (.reg [⟨some 98,.fad 1 (.t 4),none⟩,
 ⟨some 99,.load1 (.t 98),none⟩,
 ⟨some 100,.call 51 [.t 99],none⟩,
 ⟨some 101,.build [.i .i64 0,.s [],.nil,.nil] [(0,(1,.t 100))],none⟩,
 ⟨none,.store 4 (.t 6) (.t 101),none⟩])
 (.ret))
 (.seq (.reg [⟨some 103,.loadn 3 (.t 4),none⟩,
 ⟨some 104,.call 49 [.t 103,.c (.s [91])],none⟩,
 ⟨some 102,.mv (.t 104),none⟩])
 (.cond (.t 102)
 (.seq (.reg [⟨some 105,.mv (.t 0),none⟩,
 ⟨some 106,.mv (.t 2),none⟩,
 ⟨some 107,.bin .add (.t 106) (.c (.i .i64 1)),none⟩,
 ⟨some 108,.call 52 [.t 105,.t 107],none⟩,
 ⟨none,.store 4 (.t 6) (.t 108),none⟩])
 (.ret))
 (.seq (.reg [⟨some 110,.loadn 3 (.t 4),none⟩,
 ⟨some 111,.call 49 [.t 110,.c (.s [123])],none⟩,
 ⟨some 109,.mv (.t 111),none⟩])
 (.cond (.t 109)
 (.seq (.reg [⟨some 112,.mv (.t 0),none⟩,
 ⟨some 113,.mv (.t 2),none⟩,
 ⟨some 114,.bin .add (.t 113) (.c (.i .i64 1)),none⟩,
 ⟨some 115,.call 53 [.t 112,.t 114],none⟩,
 ⟨none,.store 4 (.t 6) (.t 115),none⟩])
 (.ret))
 (.skip))))))))
 (.seq (.reg [⟨some 116,.loadn 4 (.t 8),none⟩,
 ⟨none,.store 4 (.t 6) (.t 116),none⟩])
 (.ret))))))))))
theorem is_ref14_parser_value:FnIs Try.prog 23 117 [.celln 6 4] c_ref14_parser_value:=⟨⟨_,_,Try.func23,rfl,rfl,by kernel_rfl,by kernel_rfl⟩⟩
def c_ref14_parser_next:SCode :=
 .seq (.reg [⟨some 2,.alloc 59 [.i .i64 0,.s [],.i .i64 0],none⟩])
 (.seq (.seq (.reg [⟨some 6,.mv (.t 0),none⟩,
 ⟨some 7,.nck (.t 6),none⟩,
 ⟨some 8,.fad 3 (.t 7),none⟩,
 ⟨some 9,.load1 (.t 8),none⟩,
 ⟨some 10,.bin .neq (.t 9) (.c (.i .i64 0)),none⟩])
 (.cond (.t 10)
 (.seq (.reg [⟨some 11,.build [.i .i64 0,.s [],.i .i64 0] [],none⟩,
 ⟨none,.store 3 (.t 2) (.t 11),none⟩])
 (.ret))
 (.skip)))
 (.seq (.drw [⟨some 13,.mv (.t 0),none⟩,
 ⟨some 14,.nck (.t 13),none⟩,
 ⟨some 15,.fad 0 (.t 14),none⟩,
 ⟨some 16,.load1 (.t 15),none⟩,
 ⟨some 17,.mv (.t 0),none⟩,
 ⟨some 18,.nck (.t 17),none⟩,
 ⟨some 19,.fad 1 (.t 18),none⟩,
 ⟨some 20,.load1 (.t 19),none⟩,
 ⟨some 21,.pcall 54 [.t 16,.t 20],none⟩,
 ⟨some 12,.mv (.t 21),none⟩,
 ⟨some 22,.ext (.t 12) 0,none⟩,
 ⟨some 23,.ext (.t 12) 1,none⟩,
 ⟨some 24,.ext (.t 12) 2,none⟩,
 ⟨some 3,.alloc 59 [.i .i64 0,.s [],.i .i64 0],none⟩,
 ⟨none,.store 3 (.t 3) (.t 22),none⟩,
 ⟨some 4,.mv (.t 23),none⟩,
 ⟨some 5,.mv (.t 24),none⟩] 17 [(15,(3,none)),(19,(3,none))])
 (.seq (.seq (.reg [⟨some 25,.mv (.t 5),none⟩,
 ⟨some 26,.bin .neq (.t 25) (.c (.i .i64 0)),none⟩])
 (.cond (.t 26)
 (.seq (.reg [⟨some 27,.mv (.t 0),none⟩,
 ⟨some 28,.mv (.t 0),none⟩,
 ⟨some 29,.nck (.t 28),none⟩,
 ⟨some 30,.fad 1 (.t 29),none⟩,
 ⟨some 31,.load1 (.t 30),none⟩,
 ⟨some 32,.mv (.t 5),none⟩,
 ⟨some 33,.call 25 [.t 27,.t 31,.t 32],none⟩])
 (.seq (.reg [⟨some 34,.build [.i .i64 0,.s [],.i .i64 0] [],none⟩,
 ⟨none,.store 3 (.t 2) (.t 34),none⟩])
 (.ret)))
 (.skip)))
 (.seq (.reg [⟨some 35,.mv (.t 0),none⟩,
 ⟨some 36,.mv (.t 4),none⟩,
 ⟨some 37,.nck (.t 35),none⟩,
 ⟨some 38,.fad 1 (.t 37),none⟩,
 ⟨none,.store 1 (.t 38) (.t 36),none⟩])
 (.seq (.reg [⟨some 39,.loadn 3 (.t 3),none⟩,
 ⟨none,.store 3 (.t 2) (.t 39),none⟩])
 (.ret))))))
theorem is_ref14_parser_next:FnIs Try.prog 24 40 [.celln 2 3] c_ref14_parser_next:=⟨⟨_,_,Try.func24,rfl,rfl,by kernel_rfl,by kernel_rfl⟩⟩
def c_ref14_parser_stop:SCode :=
 .seq (.reg [⟨some 6,.mv (.t 0),none⟩,
 ⟨some 7,.nck (.t 6),none⟩,
 ⟨some 8,.fad 3 (.t 7),none⟩,
 ⟨some 9,.load1 (.t 8),none⟩,
 ⟨some 10,.bin .eql (.t 9) (.c (.i .i64 0)),none⟩])
 (.cond (.t 10)
 (.reg [⟨some 11,.mv (.t 0),none⟩,
 ⟨some 12,.mv (.t 0),none⟩,
 ⟨some 13,.mv (.t 2),none⟩,
 ⟨some 14,.mv (.t 1),none⟩,
 ⟨some 15,.nck (.t 11),none⟩,
 ⟨some 16,.fad 3 (.t 15),none⟩,
 ⟨none,.store 1 (.t 16) (.t 13),none⟩,
 ⟨some 17,.nck (.t 12),none⟩,
 ⟨some 18,.fad 4 (.t 17),none⟩,
 ⟨none,.store 1 (.t 18) (.t 14),none⟩])
 (.skip))
theorem is_ref14_parser_stop:FnIs Try.prog 25 19 [] c_ref14_parser_stop:=⟨⟨_,_,Try.func25,rfl,rfl,by kernel_rfl,by kernel_rfl⟩⟩
def c_jrd_newDecoder:SCode :=
 .seq (.reg [⟨some 1,.box 25 (.t 0),none⟩,
 ⟨some 2,.mv (.c (.o (.pointer none))),none⟩])
 (.seq (.reg [⟨some 4,.loadn 4 (.t 1),none⟩,
 ⟨some 5,.build [.i .i64 0,.i .i64 0,.s [],.nil,.nil] [(1,(4,.t 4))],none⟩,
 ⟨some 6,.box 71 (.t 5),none⟩,
 ⟨some 3,.mv (.t 6),none⟩])
 (.seq (.seq (.reg [⟨some 7,.fad 0 (.t 1),none⟩,
 ⟨some 8,.load1 (.t 7),none⟩,
 ⟨some 9,.bin .neq (.t 8) (.c (.i .i64 7)),none⟩])
 (.cond (.t 9)
 (.reg [⟨some 10,.mv (.t 3),none⟩,
 ⟨some 11,.nck (.t 10),none⟩,
 ⟨some 12,.fad 0 (.t 11),none⟩,
 ⟨some 13,.call 55 [.t 12,.c (.i .i64 160)],none⟩])
 (.skip)))
 (.seq (.reg [⟨some 14,.mv (.t 3),none⟩,
 ⟨some 2,.mv (.t 14),none⟩])
 (.ret))))
theorem is_jrd_newDecoder:FnIs Try.prog 26 15 [.tmp 2] c_jrd_newDecoder:=⟨⟨_,_,Try.func26,rfl,rfl,by kernel_rfl,by kernel_rfl⟩⟩
def c_jrd_decoder_text:SCode :=
 .seq (.reg [⟨some 4,.mv (.c (.s [])),none⟩])
 (.seq (.reg [⟨some 8,.mv (.t 0),none⟩,
 ⟨some 9,.mv (.t 1),none⟩,
 ⟨some 10,.call 56 [.t 8,.t 9,.c (.i .i64 5)],none⟩,
 ⟨some 7,.mv (.t 10),none⟩,
 ⟨some 11,.ext (.t 7) 0,none⟩,
 ⟨some 12,.ext (.t 7) 1,none⟩,
 ⟨some 5,.alloc 25 [.i .i64 0,.s [],.nil,.nil],none⟩,
 ⟨none,.store 4 (.t 5) (.t 11),none⟩,
 ⟨some 6,.mv (.t 12),none⟩])
 (.seq (.reg [⟨some 13,.fad 1 (.t 5),none⟩,
 ⟨some 14,.load1 (.t 13),none⟩,
 ⟨some 4,.mv (.t 14),none⟩])
 (.ret)))
theorem is_jrd_decoder_text:FnIs Try.prog 27 15 [.tmp 4] c_jrd_decoder_text:=⟨⟨_,_,Try.func27,rfl,rfl,by kernel_rfl,by kernel_rfl⟩⟩
def c_jrd_decoder_texts:SCode :=
 .seq (.reg [⟨some 4,.mv (.c .nil),none⟩])
 (.seq (.reg [⟨some 5,.mv (.c .nil),none⟩])
 (.seq (.seq (.reg [⟨some 8,.mv (.t 0),none⟩,
 ⟨some 9,.mv (.t 1),none⟩,
 ⟨some 10,.call 57 [.t 8,.t 9,.c (.i .i64 64)],none⟩,
 ⟨some 11,.lenr (.t 10),none⟩,
 ⟨some 12,.mv (.c (.i .i64 0)),none⟩])
 (.blk 0
 (.loop
 (.seq (.reg [⟨some 13,.bin .lss (.t 12) (.t 11),none⟩])
 (.seq (.cond (.t 13)
 (.skip)
 (.exit 0))
 (.seq (.blk 1
 (.seq (.reg [⟨some 14,.iad 4 (.t 10) (.t 12),none⟩,
 ⟨some 15,.loadn 4 (.t 14),none⟩,
 ⟨some 7,.alloc 25 [.i .i64 0,.s [],.nil,.nil],none⟩,
 ⟨none,.store 4 (.t 7) (.t 15),none⟩])
 (.seq (.seq (.reg [⟨some 16,.fad 0 (.t 7),none⟩,
 ⟨some 17,.load1 (.t 16),none⟩,
 ⟨some 18,.bin .neq (.t 17) (.c (.i .i64 5)),none⟩])
 (.cond (.t 18)
 (.seq (.reg [⟨some 19,.mv (.t 0),none⟩,
 ⟨some 20,.nck (.t 19),none⟩,
 ⟨some 21,.fad 0 (.t 20),none⟩,
 ⟨some 22,.call 55 [.t 21,.c (.i .i64 160)],none⟩])
 (.seq (.reg [⟨some 4,.mv (.c .nil),none⟩])
 (.ret)))
 (.skip)))
 (.reg [⟨some 23,.mv (.t 5),none⟩,
 ⟨some 24,.fad 1 (.t 7),none⟩,
 ⟨some 25,.load1 (.t 24),none⟩,
 ⟨some 26,.bslice 1 [.s []] [(0,(1,.t 25))],none⟩,
 ⟨some 27,.app 9 1 16 (.t 23) (.t 26),none⟩,
 ⟨some 5,.mv (.t 27),none⟩]))))
 (.reg [⟨some 28,.bin .add (.t 12) (.c (.i .i64 1)),none⟩,
 ⟨some 12,.mv (.t 28),none⟩])))))))
 (.seq (.reg [⟨some 29,.mv (.t 5),none⟩,
 ⟨some 4,.mv (.t 29),none⟩])
 (.ret))))
theorem is_jrd_decoder_texts:FnIs Try.prog 28 30 [.tmp 4] c_jrd_decoder_texts:=⟨⟨_,_,Try.func28,rfl,rfl,by kernel_rfl,by kernel_rfl⟩⟩
def c_jrd_decoder_properties:SCode :=
 .seq (.reg [⟨some 6,.mv (.c .nil),none⟩])
 (.seq (.reg [⟨some 16,.mv (.t 0),none⟩,
 ⟨some 17,.mv (.t 1),none⟩,
 ⟨some 18,.call 56 [.t 16,.t 17,.c (.i .i64 7)],none⟩,
 ⟨some 15,.mv (.t 18),none⟩,
 ⟨some 19,.ext (.t 15) 0,none⟩,
 ⟨some 20,.ext (.t 15) 1,none⟩,
 ⟨some 7,.alloc 25 [.i .i64 0,.s [],.nil,.nil],none⟩,
 ⟨none,.store 4 (.t 7) (.t 19),none⟩,
 ⟨some 8,.mv (.t 20),none⟩])
 (.seq (.reg [⟨some 21,.fad 2 (.t 7),none⟩,
 ⟨some 22,.load1 (.t 21),none⟩,
 ⟨some 23,.lenr (.t 22),none⟩,
 ⟨some 24,.fad 3 (.t 7),none⟩,
 ⟨some 25,.load1 (.t 24),none⟩,
 ⟨some 26,.lenr (.t 25),none⟩,
 ⟨some 27,.pu .mn [.t 23,.t 26],none⟩,
 ⟨some 9,.mv (.t 27),none⟩])
 (.seq (.seq (.reg [⟨some 28,.mv (.t 8),none⟩,
 ⟨some 29,.mv (.t 28),none⟩,
 ⟨some 30,.mv (.t 9),some (29,true)⟩,
 ⟨some 31,.bin .gtr (.t 30) (.c (.i .i64 64)),some (29,true)⟩,
 ⟨some 32,.pick (.t 29) (.t 31) (.c (.b false)),none⟩])
 (.cond (.t 32)
 (.seq (.reg [⟨some 33,.mv (.t 0),none⟩,
 ⟨some 34,.nck (.t 33),none⟩,
 ⟨some 35,.fad 0 (.t 34),none⟩,
 ⟨some 36,.call 55 [.t 35,.c (.i .i64 161)],none⟩])
 (.seq (.reg [⟨some 6,.mv (.c .nil),none⟩])
 (.ret)))
 (.skip)))
 (.seq (.reg [⟨some 10,.mv (.c .nil),none⟩])
 (.seq (.seq (.reg [⟨some 37,.mv (.t 9),none⟩,
 ⟨some 38,.mv (.c (.i .i64 0)),none⟩])
 (.blk 0
 (.loop
 (.seq (.reg [⟨some 39,.bin .lss (.t 38) (.t 37),none⟩])
 (.seq (.cond (.t 39)
 (.skip)
 (.exit 0))
 (.seq (.blk 1
 (.seq (.reg [⟨some 40,.mv (.t 38),none⟩,
 ⟨some 11,.mv (.t 40),none⟩])
 (.seq (.reg [⟨some 41,.fad 3 (.t 7),none⟩,
 ⟨some 42,.load1 (.t 41),none⟩,
 ⟨some 43,.mv (.t 11),none⟩,
 ⟨some 44,.iad 4 (.t 42) (.t 43),none⟩,
 ⟨some 45,.loadn 4 (.t 44),none⟩,
 ⟨some 12,.alloc 25 [.i .i64 0,.s [],.nil,.nil],none⟩,
 ⟨none,.store 4 (.t 12) (.t 45),none⟩])
 (.seq (.reg [⟨some 46,.mv (.t 2),none⟩,
 ⟨some 47,.mv (.t 46),none⟩,
 ⟨some 48,.fad 0 (.t 12),some (47,true)⟩,
 ⟨some 49,.load1 (.t 48),some (47,true)⟩,
 ⟨some 50,.bin .eql (.t 49) (.c (.i .i64 1)),some (47,true)⟩,
 ⟨some 51,.pick (.t 47) (.t 50) (.c (.b false)),none⟩,
 ⟨some 13,.mv (.t 51),none⟩])
 (.seq (.seq (.reg [⟨some 52,.mv (.t 13),none⟩,
 ⟨some 53,.not (.t 52),none⟩,
 ⟨some 54,.mv (.t 53),none⟩,
 ⟨some 55,.fad 0 (.t 12),some (54,true)⟩,
 ⟨some 56,.load1 (.t 55),some (54,true)⟩,
 ⟨some 57,.bin .neq (.t 56) (.c (.i .i64 5)),some (54,true)⟩,
 ⟨some 58,.pick (.t 54) (.t 57) (.c (.b false)),none⟩])
 (.cond (.t 58)
 (.seq (.reg [⟨some 59,.mv (.t 0),none⟩,
 ⟨some 60,.nck (.t 59),none⟩,
 ⟨some 61,.fad 0 (.t 60),none⟩,
 ⟨some 62,.call 55 [.t 61,.c (.i .i64 160)],none⟩])
 (.seq (.reg [⟨some 6,.mv (.c .nil),none⟩])
 (.ret)))
 (.skip)))
 (.seq (.reg [⟨some 63,.fad 2 (.t 7),none⟩,
 ⟨some 64,.load1 (.t 63),none⟩,
 ⟨some 65,.mv (.t 11),none⟩,
 ⟨some 66,.iad 1 (.t 64) (.t 65),none⟩,
 ⟨some 67,.load1 (.t 66),none⟩,
 ⟨some 68,.mv (.t 13),none⟩,
 ⟨some 69,.build [.s [],.s [],.b false] [(0,(1,.t 67)),(2,(1,.t 68))],none⟩,
 ⟨some 14,.alloc 83 [.s [],.s [],.b false],none⟩,
 ⟨none,.store 3 (.t 14) (.t 69),none⟩])
 (.seq (.seq (.reg [⟨some 70,.mv (.t 13),none⟩,
 ⟨some 71,.not (.t 70),none⟩])
 (.cond (.t 71)
 (.reg [⟨some 72,.fad 1 (.t 12),none⟩,
 ⟨some 73,.load1 (.t 72),none⟩,
 ⟨some 74,.fad 1 (.t 14),none⟩,
 ⟨none,.store 1 (.t 74) (.t 73),none⟩])
 (.skip)))
 (.reg [⟨some 75,.mv (.t 10),none⟩,
 ⟨some 76,.loadn 3 (.t 14),none⟩,
 ⟨some 77,.bslice 1 [.s [],.s [],.b false] [(0,(3,.t 76))],none⟩,
 ⟨some 78,.app 83 3 40 (.t 75) (.t 77),none⟩,
 ⟨some 10,.mv (.t 78),none⟩]))))))))
 (.reg [⟨some 79,.bin .add (.t 38) (.c (.i .i64 1)),none⟩,
 ⟨some 38,.mv (.t 79),none⟩])))))))
 (.seq (.reg [⟨some 80,.mv (.t 10),none⟩,
 ⟨some 6,.mv (.t 80),none⟩])
 (.ret)))))))
theorem is_jrd_decoder_properties:FnIs Try.prog 29 81 [.tmp 6] c_jrd_decoder_properties:=⟨⟨_,_,Try.func29,rfl,rfl,by kernel_rfl,by kernel_rfl⟩⟩
def c_jrd_decoder_links:SCode :=
 .seq (.reg [⟨some 4,.mv (.c .nil),none⟩])
 (.seq (.reg [⟨some 5,.mv (.c .nil),none⟩])
 (.seq (.seq (.reg [⟨some 9,.mv (.t 0),none⟩,
 ⟨some 10,.mv (.t 1),none⟩,
 ⟨some 11,.call 57 [.t 9,.t 10,.c (.i .i64 64)],none⟩,
 ⟨some 12,.lenr (.t 11),none⟩,
 ⟨some 13,.mv (.c (.i .i64 0)),none⟩])
 (.blk 0
 (.loop
 (.seq (.reg [⟨some 14,.bin .lss (.t 13) (.t 12),none⟩])
 (.seq (.cond (.t 14)
 (.skip)
 (.exit 0))
 (.seq (.blk 1
 (.seq (.reg [⟨some 15,.iad 4 (.t 11) (.t 13),none⟩,
 ⟨some 16,.loadn 4 (.t 15),none⟩,
 ⟨some 7,.alloc 25 [.i .i64 0,.s [],.nil,.nil],none⟩,
 ⟨none,.store 4 (.t 7) (.t 16),none⟩])
 (.seq (.reg [⟨some 17,.loadn 4 (.t 7),none⟩,
 ⟨some 18,.call 26 [.t 17],none⟩,
 ⟨some 8,.mv (.t 18),none⟩])
 (.seq (.reg [⟨some 19,.mv (.t 5),none⟩,
 ⟨some 20,.mv (.t 8),none⟩,
 ⟨some 21,.call 58 [.t 20,.c (.s [114,101,108])],none⟩,
 ⟨some 22,.mv (.t 8),none⟩,
 ⟨some 23,.call 27 [.t 22,.c (.s [116,121,112,101])],none⟩,
 ⟨some 24,.mv (.t 8),none⟩,
 ⟨some 25,.call 27 [.t 24,.c (.s [104,114,101,102])],none⟩,
 ⟨some 26,.mv (.t 8),none⟩,
 ⟨some 27,.call 27 [.t 26,.c (.s [116,101,109,112,108,97,116,101])],none⟩,
 ⟨some 28,.mv (.t 8),none⟩,
 ⟨some 29,.call 29 [.t 28,.c (.s [116,105,116,108,101,115]),.c (.b false)],none⟩,
 ⟨some 30,.mv (.t 8),none⟩,
 ⟨some 31,.call 29 [.t 30,.c (.s [112,114,111,112,101,114,116,105,101,115]),.c (.b true)],none⟩,
 ⟨some 32,.build [.s [],.s [],.s [],.s [],.nil,.nil] [(0,(1,.t 21)),(1,(1,.t 23)),(2,(1,.t 25)),(3,(1,.t 27)),(4,(1,.t 29)),(5,(1,.t 31))],none⟩,
 ⟨some 33,.bslice 1 [.s [],.s [],.s [],.s [],.nil,.nil] [(0,(6,.t 32))],none⟩,
 ⟨some 34,.app 45 6 112 (.t 19) (.t 33),none⟩,
 ⟨some 5,.mv (.t 34),none⟩])
 (.seq (.reg [⟨some 35,.mv (.t 8),none⟩,
 ⟨some 36,.nck (.t 35),none⟩,
 ⟨some 37,.fad 0 (.t 36),none⟩,
 ⟨some 38,.fad 0 (.t 37),none⟩,
 ⟨some 39,.load1 (.t 38),none⟩,
 ⟨some 40,.bin .neq (.t 39) (.c (.i .i64 0)),none⟩])
 (.cond (.t 40)
 (.seq (.drw [⟨some 41,.mv (.t 0),none⟩,
 ⟨some 42,.nck (.t 41),none⟩,
 ⟨some 43,.fad 0 (.t 42),none⟩,
 ⟨some 44,.mv (.t 8),none⟩,
 ⟨some 45,.nck (.t 44),none⟩,
 ⟨some 46,.fad 0 (.t 45),none⟩,
 ⟨some 47,.fad 0 (.t 46),none⟩,
 ⟨some 48,.load1 (.t 47),none⟩,
 ⟨some 49,.call 55 [.t 43,.t 48],none⟩] 8 [])
 (.seq (.reg [⟨some 4,.mv (.c .nil),none⟩])
 (.ret)))
 (.skip)))))))
 (.reg [⟨some 50,.bin .add (.t 13) (.c (.i .i64 1)),none⟩,
 ⟨some 13,.mv (.t 50),none⟩])))))))
 (.seq (.reg [⟨some 51,.mv (.t 5),none⟩,
 ⟨some 4,.mv (.t 51),none⟩])
 (.ret))))
theorem is_jrd_decoder_links:FnIs Try.prog 30 52 [.tmp 4] c_jrd_decoder_links:=⟨⟨_,_,Try.func30,rfl,rfl,by kernel_rfl,by kernel_rfl⟩⟩
def c_ref16_reader_text:SCode :=
 .seq (.reg [⟨some 5,.box 25 (.t 1),none⟩,
 ⟨some 8,.mv (.c (.s [])),none⟩])
 (.seq (.reg [⟨some 12,.loadn 4 (.t 5),none⟩,
 ⟨some 13,.mv (.t 2),none⟩,
 ⟨some 14,.call 59 [.t 12,.t 13],none⟩,
 ⟨some 11,.mv (.t 14),none⟩,
 ⟨some 15,.ext (.t 11) 0,none⟩,
 ⟨some 16,.ext (.t 11) 1,none⟩,
 ⟨some 9,.alloc 25 [.i .i64 0,.s [],.nil,.nil],none⟩,
 ⟨none,.store 4 (.t 9) (.t 15),none⟩,
 ⟨some 10,.mv (.t 16),none⟩])
 (.seq (.seq (.reg [⟨some 17,.mv (.t 10),none⟩,
 ⟨some 18,.mv (.t 17),none⟩,
 ⟨some 19,.fad 0 (.t 9),some (18,true)⟩,
 ⟨some 20,.load1 (.t 19),some (18,true)⟩,
 ⟨some 21,.bin .neq (.t 20) (.c (.i .i64 5)),some (18,true)⟩,
 ⟨some 22,.pick (.t 18) (.t 21) (.c (.b false)),none⟩,
 ⟨some 23,.mv (.t 22),none⟩,
 ⟨some 24,.mv (.t 10),some (23,false)⟩,
 ⟨some 25,.not (.t 24),some (23,false)⟩,
 ⟨some 26,.mv (.t 25),some (23,false)⟩,
 ⟨some 27,.mv (.t 3),some (26,true)⟩,
 ⟨some 28,.pick (.t 26) (.t 27) (.c (.b false)),some (23,false)⟩,
 ⟨some 29,.pick (.t 23) (.c (.b true)) (.t 28),none⟩])
 (.cond (.t 29)
 (.reg [⟨some 30,.mv (.t 0),none⟩,
 ⟨some 31,.call 35 [.t 30,.c (.i .i64 160)],none⟩])
 (.skip)))
 (.seq (.seq (.reg [⟨some 32,.fad 0 (.t 9),none⟩,
 ⟨some 33,.load1 (.t 32),none⟩,
 ⟨some 34,.bin .neq (.t 33) (.c (.i .i64 5)),none⟩])
 (.cond (.t 34)
 (.seq (.reg [⟨some 8,.mv (.c (.s [])),none⟩])
 (.ret))
 (.skip)))
 (.seq (.reg [⟨some 35,.fad 1 (.t 9),none⟩,
 ⟨some 36,.load1 (.t 35),none⟩,
 ⟨some 8,.mv (.t 36),none⟩])
 (.ret)))))
theorem is_ref16_reader_text:FnIs Try.prog 31 37 [.tmp 8] c_ref16_reader_text:=⟨⟨_,_,Try.func31,rfl,rfl,by kernel_rfl,by kernel_rfl⟩⟩
def c_ref16_reader_texts:SCode :=
 .seq (.reg [⟨some 4,.box 25 (.t 1),none⟩,
 ⟨some 6,.mv (.c .nil),none⟩])
 (.seq (.reg [⟨some 7,.mv (.c .nil),none⟩])
 (.seq (.seq (.reg [⟨some 10,.mv (.t 0),none⟩,
 ⟨some 11,.loadn 4 (.t 4),none⟩,
 ⟨some 12,.mv (.t 2),none⟩,
 ⟨some 13,.call 34 [.t 10,.t 11,.t 12,.c (.i .i64 6),.c (.i .i64 64)],none⟩,
 ⟨some 14,.fld1 3 (.t 13),none⟩,
 ⟨some 15,.lenr (.t 14),none⟩,
 ⟨some 16,.mv (.c (.i .i64 0)),none⟩])
 (.blk 0
 (.loop
 (.seq (.reg [⟨some 17,.bin .lss (.t 16) (.t 15),none⟩])
 (.seq (.cond (.t 17)
 (.skip)
 (.exit 0))
 (.seq (.blk 1
 (.seq (.reg [⟨some 18,.iad 4 (.t 14) (.t 16),none⟩,
 ⟨some 19,.loadn 4 (.t 18),none⟩,
 ⟨some 9,.alloc 25 [.i .i64 0,.s [],.nil,.nil],none⟩,
 ⟨none,.store 4 (.t 9) (.t 19),none⟩])
 (.seq (.seq (.reg [⟨some 20,.fad 0 (.t 9),none⟩,
 ⟨some 21,.load1 (.t 20),none⟩,
 ⟨some 22,.bin .neq (.t 21) (.c (.i .i64 5)),none⟩])
 (.cond (.t 22)
 (.reg [⟨some 23,.mv (.t 0),none⟩,
 ⟨some 24,.call 35 [.t 23,.c (.i .i64 160)],none⟩])
 (.skip)))
 (.reg [⟨some 25,.mv (.t 7),none⟩,
 ⟨some 26,.fad 1 (.t 9),none⟩,
 ⟨some 27,.load1 (.t 26),none⟩,
 ⟨some 28,.bslice 1 [.s []] [(0,(1,.t 27))],none⟩,
 ⟨some 29,.app 9 1 16 (.t 25) (.t 28),none⟩,
 ⟨some 7,.mv (.t 29),none⟩]))))
 (.reg [⟨some 30,.bin .add (.t 16) (.c (.i .i64 1)),none⟩,
 ⟨some 16,.mv (.t 30),none⟩])))))))
 (.seq (.reg [⟨some 31,.mv (.t 7),none⟩,
 ⟨some 6,.mv (.t 31),none⟩])
 (.ret))))
theorem is_ref16_reader_texts:FnIs Try.prog 32 32 [.tmp 6] c_ref16_reader_texts:=⟨⟨_,_,Try.func32,rfl,rfl,by kernel_rfl,by kernel_rfl⟩⟩
def c_ref16_reader_properties:SCode :=
 .seq (.reg [⟨some 5,.box 25 (.t 1),none⟩,
 ⟨some 8,.mv (.c .nil),none⟩])
 (.seq (.reg [⟨some 14,.mv (.t 0),none⟩,
 ⟨some 15,.loadn 4 (.t 5),none⟩,
 ⟨some 16,.mv (.t 2),none⟩,
 ⟨some 17,.call 34 [.t 14,.t 15,.t 16,.c (.i .i64 7),.c (.i .i64 64)],none⟩,
 ⟨some 9,.alloc 25 [.i .i64 0,.s [],.nil,.nil],none⟩,
 ⟨none,.store 4 (.t 9) (.t 17),none⟩])
 (.seq (.reg [⟨some 10,.mv (.c .nil),none⟩])
 (.seq (.seq (.reg [⟨some 18,.fad 3 (.t 9),none⟩,
 ⟨some 19,.load1 (.t 18),none⟩,
 ⟨some 20,.lenr (.t 19),none⟩,
 ⟨some 21,.mv (.c (.i .i64 0)),none⟩])
 (.blk 0
 (.loop
 (.seq (.reg [⟨some 22,.bin .lss (.t 21) (.t 20),none⟩])
 (.seq (.cond (.t 22)
 (.skip)
 (.exit 0))
 (.seq (.blk 1
 (.seq (.reg [⟨some 23,.mv (.t 21),none⟩,
 ⟨some 24,.iad 4 (.t 19) (.t 21),none⟩,
 ⟨some 25,.loadn 4 (.t 24),none⟩,
 ⟨some 12,.alloc 25 [.i .i64 0,.s [],.nil,.nil],none⟩,
 ⟨some 11,.mv (.t 23),none⟩,
 ⟨none,.store 4 (.t 12) (.t 25),none⟩])
 (.seq (.seq (.reg [⟨some 26,.fad 0 (.t 12),none⟩,
 ⟨some 27,.load1 (.t 26),none⟩,
 ⟨some 28,.bin .neq (.t 27) (.c (.i .i64 5)),none⟩,
 ⟨some 29,.mv (.t 28),none⟩,
 ⟨some 30,.fad 0 (.t 12),some (29,true)⟩,
 ⟨some 31,.load1 (.t 30),some (29,true)⟩,
 ⟨some 32,.bin .neq (.t 31) (.c (.i .i64 1)),some (29,true)⟩,
 ⟨some 33,.mv (.t 32),some (29,true)⟩,
 ⟨some 34,.mv (.t 3),some (33,false)⟩,
 ⟨some 35,.not (.t 34),some (33,false)⟩,
 ⟨some 36,.pick (.t 33) (.c (.b true)) (.t 35),some (29,true)⟩,
 ⟨some 37,.pick (.t 29) (.t 36) (.c (.b false)),none⟩])
 (.cond (.t 37)
 (.reg [⟨some 38,.mv (.t 0),none⟩,
 ⟨some 39,.call 35 [.t 38,.c (.i .i64 160)],none⟩])
 (.skip)))
 (.seq (.drw [⟨some 40,.fad 2 (.t 9),none⟩,
 ⟨some 41,.load1 (.t 40),none⟩,
 ⟨some 42,.mv (.t 11),none⟩,
 ⟨some 43,.iadr 1 (.t 41) (.t 42),none⟩,
 ⟨some 44,.load1 (.t 43),none⟩,
 ⟨some 45,.fad 1 (.t 12),none⟩,
 ⟨some 46,.load1 (.t 45),none⟩,
 ⟨some 47,.build [.s [],.s [],.b false] [(0,(1,.t 44)),(1,(1,.t 46))],none⟩,
 ⟨some 13,.alloc 83 [.s [],.s [],.b false],none⟩,
 ⟨none,.store 3 (.t 13) (.t 47),none⟩] 10 [(40,(13,none)),(43,(13,none)),(45,(13,none))])
 (.seq (.seq (.reg [⟨some 48,.fad 0 (.t 12),none⟩,
 ⟨some 49,.load1 (.t 48),none⟩,
 ⟨some 50,.bin .eql (.t 49) (.c (.i .i64 1)),none⟩])
 (.cond (.t 50)
 (.reg [⟨some 51,.fad 1 (.t 13),none⟩,
 ⟨none,.store 1 (.t 51) (.c (.s [])),none⟩,
 ⟨some 52,.fad 2 (.t 13),none⟩,
 ⟨none,.store 1 (.t 52) (.c (.b true)),none⟩])
 (.skip)))
 (.reg [⟨some 53,.mv (.t 10),none⟩,
 ⟨some 54,.loadn 3 (.t 13),none⟩,
 ⟨some 55,.bslice 1 [.s [],.s [],.b false] [(0,(3,.t 54))],none⟩,
 ⟨some 56,.app 83 3 40 (.t 53) (.t 55),none⟩,
 ⟨some 10,.mv (.t 56),none⟩]))))))
 (.reg [⟨some 57,.bin .add (.t 21) (.c (.i .i64 1)),none⟩,
 ⟨some 21,.mv (.t 57),none⟩])))))))
 (.seq (.reg [⟨some 58,.mv (.t 10),none⟩,
 ⟨some 8,.mv (.t 58),none⟩])
 (.ret)))))
theorem is_ref16_reader_properties:FnIs Try.prog 33 59 [.tmp 8] c_ref16_reader_properties:=⟨⟨_,_,Try.func33,rfl,rfl,by kernel_rfl,by kernel_rfl⟩⟩
def c_ref16_reader_items:SCode :=
 .seq (.reg [⟨some 6,.box 25 (.t 1),none⟩,
 ⟨some 10,.alloc 25 [.i .i64 0,.s [],.nil,.nil],none⟩])
 (.seq (.reg [⟨some 15,.loadn 4 (.t 6),none⟩,
 ⟨some 16,.mv (.t 2),none⟩,
 ⟨some 17,.call 59 [.t 15,.t 16],none⟩,
 ⟨some 14,.mv (.t 17),none⟩,
 ⟨some 18,.ext (.t 14) 0,none⟩,
 ⟨some 19,.ext (.t 14) 1,none⟩,
 ⟨some 11,.alloc 25 [.i .i64 0,.s [],.nil,.nil],none⟩,
 ⟨none,.store 4 (.t 11) (.t 18),none⟩,
 ⟨some 12,.mv (.t 19),none⟩])
 (.seq (.blk 0
 (.seq (.reg [⟨some 21,.mv (.t 12),none⟩,
 ⟨some 22,.not (.t 21),none⟩,
 ⟨some 20,.mv (.t 22),none⟩])
 (.cond (.t 20)
 (.seq (.reg [⟨some 23,.build [.i .i64 0,.s [],.nil,.nil] [],none⟩,
 ⟨none,.store 4 (.t 10) (.t 23),none⟩])
 (.ret))
 (.seq (.reg [⟨some 25,.fad 0 (.t 11),none⟩,
 ⟨some 26,.load1 (.t 25),none⟩,
 ⟨some 27,.mv (.t 3),none⟩,
 ⟨some 28,.bin .neq (.t 26) (.t 27),none⟩,
 ⟨some 24,.mv (.t 28),none⟩])
 (.cond (.t 24)
 (.seq (.reg [⟨some 29,.mv (.t 0),none⟩,
 ⟨some 30,.call 35 [.t 29,.c (.i .i64 160)],none⟩])
 (.seq (.reg [⟨some 31,.build [.i .i64 0,.s [],.nil,.nil] [],none⟩,
 ⟨none,.store 4 (.t 10) (.t 31),none⟩])
 (.ret)))
 (.skip))))))
 (.seq (.seq (.reg [⟨some 32,.mv (.t 3),none⟩,
 ⟨some 33,.bin .eql (.t 32) (.c (.i .i64 7)),none⟩])
 (.cond (.t 33)
 (.seq (.reg [⟨some 34,.fad 2 (.t 11),none⟩,
 ⟨some 35,.load1 (.t 34),none⟩,
 ⟨some 36,.lenr (.t 35),none⟩,
 ⟨some 37,.fad 3 (.t 11),none⟩,
 ⟨some 38,.load1 (.t 37),none⟩,
 ⟨some 39,.lenr (.t 38),none⟩,
 ⟨some 40,.pu .mn [.t 36,.t 39],none⟩,
 ⟨some 13,.mv (.t 40),none⟩])
 (.drw [⟨some 41,.fad 2 (.t 11),none⟩,
 ⟨some 42,.load1 (.t 41),none⟩,
 ⟨some 43,.mv (.t 13),none⟩,
 ⟨some 44,.pu (.rslh 1) [.t 42,.t 43],none⟩,
 ⟨some 45,.fad 3 (.t 11),none⟩,
 ⟨some 46,.load1 (.t 45),none⟩,
 ⟨some 47,.mv (.t 13),none⟩,
 ⟨some 48,.pu (.rslh 4) [.t 46,.t 47],none⟩,
 ⟨some 49,.fad 2 (.t 11),none⟩,
 ⟨none,.store 1 (.t 49) (.t 44),none⟩,
 ⟨some 50,.fad 3 (.t 11),none⟩,
 ⟨none,.store 1 (.t 50) (.t 48),none⟩] 12 []))
 (.skip)))
 (.seq (.seq (.reg [⟨some 51,.fad 3 (.t 11),none⟩,
 ⟨some 52,.load1 (.t 51),none⟩,
 ⟨some 53,.lenr (.t 52),none⟩,
 ⟨some 54,.mv (.t 4),none⟩,
 ⟨some 55,.bin .gtr (.t 53) (.t 54),none⟩])
 (.cond (.t 55)
 (.seq (.reg [⟨some 56,.mv (.t 0),none⟩,
 ⟨some 57,.call 35 [.t 56,.c (.i .i64 161)],none⟩])
 (.seq (.reg [⟨some 58,.build [.i .i64 0,.s [],.nil,.nil] [],none⟩,
 ⟨none,.store 4 (.t 10) (.t 58),none⟩])
 (.ret)))
 (.skip)))
 (.seq (.reg [⟨some 59,.loadn 4 (.t 11),none⟩,
 ⟨none,.store 4 (.t 10) (.t 59),none⟩])
 (.ret))))))
theorem is_ref16_reader_items:FnIs Try.prog 34 60 [.celln 10 4] c_ref16_reader_items:=⟨⟨_,_,Try.func34,rfl,rfl,by kernel_rfl,by kernel_rfl⟩⟩
def c_ref16_reader_stop:SCode :=
 .seq (.reg [⟨some 4,.mv (.t 0),none⟩,
 ⟨some 5,.nck (.t 4),none⟩,
 ⟨some 6,.fad 0 (.t 5),none⟩,
 ⟨some 7,.load1 (.t 6),none⟩,
 ⟨some 8,.bin .eql (.t 7) (.c (.i .i64 0)),none⟩])
 (.cond (.t 8)
 (.reg [⟨some 9,.mv (.t 0),none⟩,
 ⟨some 10,.mv (.t 1),none⟩,
 ⟨some 11,.nck (.t 9),none⟩,
 ⟨some 12,.fad 0 (.t 11),none⟩,
 ⟨none,.store 1 (.t 12) (.t 10),none⟩])
 (.skip))
theorem is_ref16_reader_stop:FnIs Try.prog 35 13 [] c_ref16_reader_stop:=⟨⟨_,_,Try.func35,rfl,rfl,by kernel_rfl,by kernel_rfl⟩⟩
def c_ref16_sameProperties:SCode :=
 .seq (.reg [⟨some 4,.mv (.c (.b false)),none⟩])
 (.seq (.seq (.reg [⟨some 6,.mv (.t 0),none⟩,
 ⟨some 7,.lenr (.t 6),none⟩,
 ⟨some 8,.mv (.t 1),none⟩,
 ⟨some 9,.lenr (.t 8),none⟩,
 ⟨some 10,.bin .neq (.t 7) (.t 9),none⟩])
 (.cond (.t 10)
 (.seq (.reg [⟨some 4,.mv (.c (.b false)),none⟩])
 (.ret))
 (.skip)))
 (.seq (.seq (.reg [⟨some 11,.mv (.t 0),none⟩,
 ⟨some 12,.lenr (.t 11),none⟩,
 ⟨some 13,.mv (.c (.i .i64 0)),none⟩])
 (.blk 0
 (.loop
 (.seq (.reg [⟨some 14,.bin .lss (.t 13) (.t 12),none⟩])
 (.seq (.cond (.t 14)
 (.skip)
 (.exit 0))
 (.seq (.blk 1
 (.seq (.reg [⟨some 15,.mv (.t 13),none⟩,
 ⟨some 5,.mv (.t 15),none⟩])
 (.seq (.drw [⟨some 16,.mv (.t 0),none⟩,
 ⟨some 17,.mv (.t 5),none⟩,
 ⟨some 18,.iad 3 (.t 16) (.t 17),none⟩,
 ⟨some 19,.loadn 3 (.t 18),none⟩,
 ⟨some 20,.mv (.t 1),none⟩,
 ⟨some 21,.mv (.t 5),none⟩,
 ⟨some 22,.iad 3 (.t 20) (.t 21),none⟩,
 ⟨some 23,.loadn 3 (.t 22),none⟩,
 ⟨some 24,.eqs true (.str [(0,(none,.ts)),(1,(none,.ts)),(2,(none,.tb))]) (.t 19) (.t 23),none⟩] 9 [])
 (.cond (.t 24)
 (.seq (.reg [⟨some 4,.mv (.c (.b false)),none⟩])
 (.ret))
 (.skip)))))
 (.reg [⟨some 25,.bin .add (.t 13) (.c (.i .i64 1)),none⟩,
 ⟨some 13,.mv (.t 25),none⟩])))))))
 (.seq (.reg [⟨some 4,.mv (.c (.b true)),none⟩])
 (.ret))))
theorem is_ref16_sameProperties:FnIs Try.prog 36 26 [.tmp 4] c_ref16_sameProperties:=⟨⟨_,_,Try.func36,rfl,rfl,by kernel_rfl,by kernel_rfl⟩⟩
def c_slices_Clone__api_Property_api_Property:SCode :=
 .seq (.reg [⟨some 2,.mv (.c .nil),none⟩])
 (.seq (.seq (.reg [⟨some 3,.mv (.t 0),none⟩,
 ⟨some 4,.pu (.snil false) [.t 3,.c .nil],none⟩])
 (.cond (.t 4)
 (.seq (.reg [⟨some 2,.mv (.c .nil),none⟩])
 (.ret))
 (.skip)))
 (.seq (.reg [⟨some 5,.mks 83 3 1 (.c (.i .i64 0)) (.c (.i .i64 0)),none⟩,
 ⟨some 6,.mv (.t 0),none⟩,
 ⟨some 7,.app 83 3 40 (.t 5) (.t 6),none⟩,
 ⟨some 2,.mv (.t 7),none⟩])
 (.ret)))
theorem is_slices_Clone__api_Property_api_Property:FnIs Try.prog 37 8 [.tmp 2] c_slices_Clone__api_Property_api_Property:=⟨⟨_,_,Try.func37,rfl,rfl,by kernel_rfl,by kernel_rfl⟩⟩
def c_ref14_is:SCode :=
 .seq (.reg [⟨some 2,.box 59 (.t 0),none⟩,
 ⟨some 4,.mv (.c (.b false)),none⟩])
 (.seq (.reg [⟨some 5,.fad 0 (.t 2),none⟩,
 ⟨some 6,.load1 (.t 5),none⟩,
 ⟨some 7,.bin .eql (.t 6) (.c (.i .i64 2)),none⟩,
 ⟨some 8,.mv (.t 7),none⟩,
 ⟨some 9,.fad 1 (.t 2),some (8,true)⟩,
 ⟨some 10,.load1 (.t 9),some (8,true)⟩,
 ⟨some 11,.mv (.t 1),some (8,true)⟩,
 ⟨some 12,.bin .eql (.t 10) (.t 11),some (8,true)⟩,
 ⟨some 13,.pick (.t 8) (.t 12) (.c (.b false)),none⟩,
 ⟨some 4,.mv (.t 13),none⟩])
 (.ret))
theorem is_ref14_is:FnIs Try.prog 49 14 [.tmp 4] c_ref14_is:=⟨⟨_,_,Try.func49,rfl,rfl,by kernel_rfl,by kernel_rfl⟩⟩
def c_ref13_Number:SCode :=
 .seq (.reg [⟨some 2,.mv (.c (.s [])),none⟩,
 ⟨some 3,.mv (.c (.i .i64 0)),none⟩])
 (.seq (.seq (.reg [⟨some 9,.mv (.t 0),none⟩,
 ⟨some 10,.bin .eql (.t 9) (.c (.s [])),none⟩,
 ⟨some 11,.mv (.t 10),none⟩,
 ⟨some 12,.mv (.t 0),some (11,false)⟩,
 ⟨some 13,.call 61 [.t 12],some (11,false)⟩,
 ⟨some 14,.mv (.t 0),some (11,false)⟩,
 ⟨some 15,.lens (.t 14),some (11,false)⟩,
 ⟨some 16,.bin .neq (.t 13) (.t 15),some (11,false)⟩,
 ⟨some 17,.pick (.t 11) (.c (.b true)) (.t 16),none⟩])
 (.cond (.t 17)
 (.seq (.reg [⟨some 2,.mv (.c (.s [])),none⟩,
 ⟨some 3,.mv (.c (.i .i64 130)),none⟩])
 (.ret))
 (.skip)))
 (.seq (.reg [⟨some 4,.mv (.c (.s [])),none⟩])
 (.seq (.seq (.reg [⟨some 18,.mv (.t 0),none⟩,
 ⟨some 19,.idx (.t 18) (.c (.i .i64 0)),none⟩,
 ⟨some 20,.bin .eql (.t 19) (.c (.i .u8 45)),none⟩])
 (.cond (.t 20)
 (.drw [⟨some 21,.mv (.t 0),none⟩,
 ⟨some 22,.slcs (.t 21) (some (.c (.i .i64 1))) none,none⟩,
 ⟨some 4,.mv (.c (.s [45])),none⟩,
 ⟨some 0,.mv (.t 22),none⟩] 4 [])
 (.skip)))
 (.seq (.reg [⟨some 23,.mv (.t 0),none⟩,
 ⟨some 24,.call 62 [.t 23,.c (.s [101,69])],none⟩,
 ⟨some 5,.mv (.t 24),none⟩])
 (.seq (.drw [⟨some 25,.mv (.t 0),none⟩,
 ⟨some 26,.mv (.t 5),none⟩,
 ⟨some 27,.bin .add (.t 26) (.c (.i .i64 1)),none⟩,
 ⟨some 28,.call 64 [.t 25,.t 27],none⟩,
 ⟨some 29,.call 63 [.t 28],none⟩,
 ⟨some 30,.mv (.t 0),none⟩,
 ⟨some 31,.mv (.t 5),none⟩,
 ⟨some 32,.slcs (.t 30) none (some (.t 31)),none⟩,
 ⟨some 6,.mv (.t 29),none⟩,
 ⟨some 7,.mv (.t 32),none⟩] 10 [])
 (.seq (.seq (.reg [⟨some 33,.mv (.t 7),none⟩,
 ⟨some 34,.call 62 [.t 33,.c (.s [46])],none⟩,
 ⟨some 8,.mv (.t 34),none⟩])
 (.seq (.reg [⟨some 35,.mv (.t 8),none⟩,
 ⟨some 36,.mv (.t 7),none⟩,
 ⟨some 37,.lens (.t 36),none⟩,
 ⟨some 38,.bin .lss (.t 35) (.t 37),none⟩])
 (.cond (.t 38)
 (.drw [⟨some 39,.mv (.t 6),none⟩,
 ⟨some 40,.mv (.t 7),none⟩,
 ⟨some 41,.lens (.t 40),none⟩,
 ⟨some 42,.mv (.t 8),none⟩,
 ⟨some 43,.bin .sub (.t 41) (.t 42),none⟩,
 ⟨some 44,.bin .sub (.t 43) (.c (.i .i64 1)),none⟩,
 ⟨some 45,.bin .sub (.t 39) (.t 44),none⟩,
 ⟨some 46,.mv (.t 7),none⟩,
 ⟨some 47,.mv (.t 8),none⟩,
 ⟨some 48,.slcs (.t 46) none (some (.t 47)),none⟩,
 ⟨some 49,.mv (.t 7),none⟩,
 ⟨some 50,.mv (.t 8),none⟩,
 ⟨some 51,.bin .add (.t 50) (.c (.i .i64 1)),none⟩,
 ⟨some 52,.slcs (.t 49) (some (.t 51)) none,none⟩,
 ⟨some 53,.bin .add (.t 48) (.t 52),none⟩,
 ⟨some 6,.mv (.t 45),none⟩,
 ⟨some 7,.mv (.t 53),none⟩] 17 [])
 (.skip))))
 (.seq (.blk 0
 (.loop
 (.seq (.seq (.reg [⟨some 54,.mv (.t 7),none⟩,
 ⟨some 55,.lens (.t 54),none⟩,
 ⟨some 56,.bin .gtr (.t 55) (.c (.i .i64 0)),none⟩,
 ⟨some 57,.mv (.t 56),none⟩,
 ⟨some 58,.mv (.t 7),some (57,true)⟩,
 ⟨some 59,.idx (.t 58) (.c (.i .i64 0)),some (57,true)⟩,
 ⟨some 60,.bin .eql (.t 59) (.c (.i .u8 48)),some (57,true)⟩,
 ⟨some 61,.pick (.t 57) (.t 60) (.c (.b false)),none⟩])
 (.cond (.t 61)
 (.skip)
 (.exit 0)))
 (.blk 1
 (.reg [⟨some 62,.mv (.t 7),none⟩,
 ⟨some 63,.slcs (.t 62) (some (.c (.i .i64 1))) none,none⟩,
 ⟨some 7,.mv (.t 63),none⟩])))))
 (.seq (.seq (.reg [⟨some 64,.mv (.t 7),none⟩,
 ⟨some 65,.bin .eql (.t 64) (.c (.s [])),none⟩])
 (.cond (.t 65)
 (.seq (.reg [⟨some 2,.mv (.c (.s [48])),none⟩,
 ⟨some 3,.mv (.c (.i .i64 0)),none⟩])
 (.ret))
 (.skip)))
 (.seq (.blk 2
 (.loop
 (.seq (.seq (.reg [⟨some 66,.mv (.t 7),none⟩,
 ⟨some 67,.mv (.t 7),none⟩,
 ⟨some 68,.lens (.t 67),none⟩,
 ⟨some 69,.bin .sub (.t 68) (.c (.i .i64 1)),none⟩,
 ⟨some 70,.idx (.t 66) (.t 69),none⟩,
 ⟨some 71,.bin .eql (.t 70) (.c (.i .u8 48)),none⟩])
 (.cond (.t 71)
 (.skip)
 (.exit 2)))
 (.blk 3
 (.reg [⟨some 72,.mv (.t 7),none⟩,
 ⟨some 73,.mv (.t 7),none⟩,
 ⟨some 74,.lens (.t 73),none⟩,
 ⟨some 75,.bin .sub (.t 74) (.c (.i .i64 1)),none⟩,
 ⟨some 76,.slcs (.t 72) none (some (.t 75)),none⟩,
 ⟨some 77,.mv (.t 6),none⟩,
 ⟨some 78,.bin .add (.t 77) (.c (.i .i64 1)),none⟩,
 ⟨some 7,.mv (.t 76),none⟩,
 ⟨some 6,.mv (.t 78),none⟩])))))
 (.seq (.blk 4
 (.seq (.reg [⟨some 80,.mv (.t 7),none⟩,
 ⟨some 81,.lens (.t 80),none⟩,
 ⟨some 82,.bin .gtr (.t 81) (.c (.i .i64 40)),none⟩,
 ⟨some 83,.mv (.t 82),none⟩,
 ⟨some 84,.mv (.t 6),some (83,false)⟩,
 ⟨some 85,.bin .gtr (.t 84) (.c (.i .i64 400)),some (83,false)⟩,
 ⟨some 86,.pick (.t 83) (.c (.b true)) (.t 85),none⟩,
 ⟨some 87,.mv (.t 86),none⟩,
 ⟨some 88,.mv (.t 6),some (87,false)⟩,
 ⟨some 89,.bin .lss (.t 88) (.c (.i .i64 (-400))),some (87,false)⟩,
 ⟨some 90,.pick (.t 87) (.c (.b true)) (.t 89),none⟩,
 ⟨some 79,.mv (.t 90),none⟩])
 (.cond (.t 79)
 (.seq (.reg [⟨some 2,.mv (.c (.s [])),none⟩,
 ⟨some 3,.mv (.c (.i .i64 144)),none⟩])
 (.ret))
 (.seq (.reg [⟨some 92,.mv (.t 6),none⟩,
 ⟨some 93,.bin .lss (.t 92) (.c (.i .i64 0)),none⟩,
 ⟨some 91,.mv (.t 93),none⟩])
 (.cond (.t 91)
 (.seq (.reg [⟨some 94,.mv (.t 4),none⟩,
 ⟨some 95,.mv (.t 7),none⟩,
 ⟨some 96,.bin .add (.t 94) (.t 95),none⟩,
 ⟨some 97,.bin .add (.t 96) (.c (.s [101,45])),none⟩,
 ⟨some 98,.mv (.t 6),none⟩,
 ⟨some 99,.neg (.t 98),none⟩,
 ⟨some 100,.cvi .u64 (.t 99),none⟩,
 ⟨some 101,.call 65 [.t 100],none⟩,
 ⟨some 102,.bin .add (.t 97) (.t 101),none⟩,
 ⟨some 2,.mv (.t 102),none⟩,
 ⟨some 3,.mv (.c (.i .i64 0)),none⟩])
 (.ret))
 (.seq (.reg [⟨some 104,.mv (.t 6),none⟩,
 ⟨some 105,.bin .gtr (.t 104) (.c (.i .i64 0)),none⟩,
 ⟨some 103,.mv (.t 105),none⟩])
 (.cond (.t 103)
 (.seq (.reg [⟨some 106,.mv (.t 4),none⟩,
 ⟨some 107,.mv (.t 7),none⟩,
 ⟨some 108,.bin .add (.t 106) (.t 107),none⟩,
 ⟨some 109,.bin .add (.t 108) (.c (.s [101])),none⟩,
 ⟨some 110,.mv (.t 6),none⟩,
 ⟨some 111,.cvi .u64 (.t 110),none⟩,
 ⟨some 112,.call 65 [.t 111],none⟩,
 ⟨some 113,.bin .add (.t 109) (.t 112),none⟩,
 ⟨some 2,.mv (.t 113),none⟩,
 ⟨some 3,.mv (.c (.i .i64 0)),none⟩])
 (.ret))
 (.skip))))))))
 (.seq (.reg [⟨some 114,.mv (.t 4),none⟩,
 ⟨some 115,.mv (.t 7),none⟩,
 ⟨some 116,.bin .add (.t 114) (.t 115),none⟩,
 ⟨some 2,.mv (.t 116),none⟩,
 ⟨some 3,.mv (.c (.i .i64 0)),none⟩])
 (.ret))))))))))))
theorem is_ref13_Number:FnIs Try.prog 50 117 [.tmp 2,.tmp 3] c_ref13_Number:=⟨⟨_,_,Try.func50,rfl,rfl,by kernel_rfl,by kernel_rfl⟩⟩
def c_ref14_word:SCode :=
 .seq (.reg [⟨some 2,.mv (.c (.i .i64 0)),none⟩])
 (.seq (.seq (.reg [⟨some 3,.mv (.t 0),none⟩])
 (.blk 0
 (.seq (.reg [⟨some 5,.bin .eql (.t 3) (.c (.s [116,114,117,101])),none⟩,
 ⟨some 4,.mv (.t 5),none⟩])
 (.cond (.t 4)
 (.seq (.reg [⟨some 2,.mv (.c (.i .i64 3)),none⟩])
 (.ret))
 (.seq (.reg [⟨some 7,.bin .eql (.t 3) (.c (.s [102,97,108,115,101])),none⟩,
 ⟨some 6,.mv (.t 7),none⟩])
 (.cond (.t 6)
 (.seq (.reg [⟨some 2,.mv (.c (.i .i64 2)),none⟩])
 (.ret))
 (.skip)))))))
 (.seq (.reg [⟨some 2,.mv (.c (.i .i64 1)),none⟩])
 (.ret)))
theorem is_ref14_word:FnIs Try.prog 51 8 [.tmp 2] c_ref14_word:=⟨⟨_,_,Try.func51,rfl,rfl,by kernel_rfl,by kernel_rfl⟩⟩
def c_ref14_parser_array:SCode :=
 .seq (.reg [⟨some 4,.alloc 25 [.i .i64 0,.s [],.nil,.nil],none⟩])
 (.seq (.reg [⟨some 7,.build [.i .i64 0,.s [],.nil,.nil] [(0,(1,.c (.i .i64 6)))],none⟩,
 ⟨some 5,.alloc 25 [.i .i64 0,.s [],.nil,.nil],none⟩,
 ⟨none,.store 4 (.t 5) (.t 7),none⟩])
 (.seq (.reg [⟨some 8,.mv (.t 0),none⟩,
 ⟨some 9,.call 24 [.t 8],none⟩,
 ⟨some 6,.alloc 59 [.i .i64 0,.s [],.i .i64 0],none⟩,
 ⟨none,.store 3 (.t 6) (.t 9),none⟩])
 (.seq (.seq (.reg [⟨some 10,.loadn 3 (.t 6),none⟩,
 ⟨some 11,.call 49 [.t 10,.c (.s [93])],none⟩])
 (.cond (.t 11)
 (.seq (.reg [⟨some 12,.loadn 4 (.t 5),none⟩,
 ⟨none,.store 4 (.t 4) (.t 12),none⟩])
 (.ret))
 (.skip)))
 (.seq (.blk 0
 (.loop
 (.seq (.seq (.reg [⟨some 13,.mv (.t 0),none⟩,
 ⟨some 14,.nck (.t 13),none⟩,
 ⟨some 15,.fad 3 (.t 14),none⟩,
 ⟨some 16,.load1 (.t 15),none⟩,
 ⟨some 17,.bin .eql (.t 16) (.c (.i .i64 0)),none⟩])
 (.cond (.t 17)
 (.skip)
 (.exit 0)))
 (.blk 1
 (.seq (.crg [⟨some 18,.fad 3 (.t 5),none⟩,⟨some 19,.load1 (.t 18),none⟩,⟨some 20,.mv (.t 0),none⟩,⟨some 21,.loadn 3 (.t 6),none⟩,⟨some 22,.mv (.t 1),none⟩] ⟨some 23,.call 23 [.t 20,.t 21,.t 22],none⟩ [⟨some 24,.bslice 1 [.i .i64 0,.s [],.nil,.nil] [(0,(4,.t 23))],none⟩,⟨some 25,.app 25 4 72 (.t 19) (.t 24),none⟩,⟨some 26,.fad 3 (.t 5),none⟩,⟨none,.store 1 (.t 26) (.t 25),none⟩])
 (.seq (.reg [⟨some 27,.mv (.t 0),none⟩,
 ⟨some 28,.call 24 [.t 27],none⟩,
 ⟨none,.store 3 (.t 6) (.t 28),none⟩])
 (.seq (.seq (.reg [⟨some 29,.loadn 3 (.t 6),none⟩,
 ⟨some 30,.call 49 [.t 29,.c (.s [93])],none⟩])
 (.cond (.t 30)
 (.seq (.reg [⟨some 31,.loadn 4 (.t 5),none⟩,
 ⟨none,.store 4 (.t 4) (.t 31),none⟩])
 (.ret))
 (.skip)))
 (.seq (.seq (.reg [⟨some 32,.mv (.t 0),none⟩,
 ⟨some 33,.nck (.t 32),none⟩,
 ⟨some 34,.fad 3 (.t 33),none⟩,
 ⟨some 35,.load1 (.t 34),none⟩,
 ⟨some 36,.bin .eql (.t 35) (.c (.i .i64 0)),none⟩,
 ⟨some 37,.mv (.t 36),none⟩,
 ⟨some 38,.loadn 3 (.t 6),some (37,true)⟩,
 ⟨some 39,.call 49 [.t 38,.c (.s [44])],some (37,true)⟩,
 ⟨some 40,.not (.t 39),some (37,true)⟩,
 ⟨some 41,.pick (.t 37) (.t 40) (.c (.b false)),none⟩])
 (.cond (.t 41)
 (.reg [⟨some 42,.mv (.t 0),none⟩,
 ⟨some 43,.fad 2 (.t 6),none⟩,
 ⟨some 44,.load1 (.t 43),none⟩,
 ⟨some 45,.call 25 [.t 42,.t 44,.c (.i .i64 140)],none⟩])
 (.skip)))
 (.reg [⟨some 46,.mv (.t 0),none⟩,
 ⟨some 47,.call 24 [.t 46],none⟩,
 ⟨none,.store 3 (.t 6) (.t 47),none⟩])))))))))
 (.seq (.reg [⟨some 48,.loadn 4 (.t 5),none⟩,
 ⟨none,.store 4 (.t 4) (.t 48),none⟩])
 (.ret))))))
theorem is_ref14_parser_array:FnIs Try.prog 52 49 [.celln 4 4] c_ref14_parser_array:=⟨⟨_,_,Try.func52,rfl,rfl,by kernel_rfl,by kernel_rfl⟩⟩
def c_ref14_parser_object:SCode :=
 .seq (.reg [⟨some 4,.alloc 25 [.i .i64 0,.s [],.nil,.nil],none⟩])
 (.seq (.reg [⟨some 11,.build [.i .i64 0,.s [],.nil,.nil] [(0,(1,.c (.i .i64 7)))],none⟩,
 ⟨some 5,.alloc 25 [.i .i64 0,.s [],.nil,.nil],none⟩,
 ⟨none,.store 4 (.t 5) (.t 11),none⟩])
 (.seq (.reg [⟨some 12,.mv (.t 0),none⟩,
 ⟨some 13,.call 24 [.t 12],none⟩,
 ⟨some 6,.alloc 59 [.i .i64 0,.s [],.i .i64 0],none⟩,
 ⟨none,.store 3 (.t 6) (.t 13),none⟩])
 (.seq (.seq (.reg [⟨some 14,.loadn 3 (.t 6),none⟩,
 ⟨some 15,.call 49 [.t 14,.c (.s [125])],none⟩])
 (.cond (.t 15)
 (.seq (.reg [⟨some 16,.loadn 4 (.t 5),none⟩,
 ⟨none,.store 4 (.t 4) (.t 16),none⟩])
 (.ret))
 (.skip)))
 (.seq (.blk 0
 (.loop
 (.seq (.seq (.reg [⟨some 17,.mv (.t 0),none⟩,
 ⟨some 18,.nck (.t 17),none⟩,
 ⟨some 19,.fad 3 (.t 18),none⟩,
 ⟨some 20,.load1 (.t 19),none⟩,
 ⟨some 21,.bin .eql (.t 20) (.c (.i .i64 0)),none⟩])
 (.cond (.t 21)
 (.skip)
 (.exit 0)))
 (.blk 1
 (.seq (.seq (.reg [⟨some 22,.fad 0 (.t 6),none⟩,
 ⟨some 23,.load1 (.t 22),none⟩,
 ⟨some 24,.bin .neq (.t 23) (.c (.i .i64 3)),none⟩])
 (.cond (.t 24)
 (.reg [⟨some 25,.mv (.t 0),none⟩,
 ⟨some 26,.fad 2 (.t 6),none⟩,
 ⟨some 27,.load1 (.t 26),none⟩,
 ⟨some 28,.call 25 [.t 25,.t 27,.c (.i .i64 140)],none⟩])
 (.skip)))
 (.seq (.seq (.reg [⟨some 30,.loadn 4 (.t 5),none⟩,
 ⟨some 31,.fad 1 (.t 6),none⟩,
 ⟨some 32,.load1 (.t 31),none⟩,
 ⟨some 33,.call 59 [.t 30,.t 32],none⟩,
 ⟨some 29,.mv (.t 33),none⟩,
 ⟨some 34,.ext (.t 29) 0,none⟩,
 ⟨some 35,.ext (.t 29) 1,none⟩,
 ⟨some 7,.alloc 25 [.i .i64 0,.s [],.nil,.nil],none⟩,
 ⟨none,.store 4 (.t 7) (.t 34),none⟩,
 ⟨some 8,.mv (.t 35),none⟩])
 (.seq (.reg [⟨some 36,.mv (.t 8),none⟩])
 (.cond (.t 36)
 (.reg [⟨some 37,.mv (.t 0),none⟩,
 ⟨some 38,.fad 2 (.t 6),none⟩,
 ⟨some 39,.load1 (.t 38),none⟩,
 ⟨some 40,.call 25 [.t 37,.t 39,.c (.i .i64 143)],none⟩])
 (.skip))))
 (.seq (.reg [⟨some 41,.fad 1 (.t 6),none⟩,
 ⟨some 42,.load1 (.t 41),none⟩,
 ⟨some 9,.mv (.t 42),none⟩])
 (.seq (.seq (.reg [⟨some 43,.mv (.t 0),none⟩,
 ⟨some 44,.call 24 [.t 43],none⟩,
 ⟨none,.store 3 (.t 6) (.t 44),none⟩])
 (.seq (.reg [⟨some 45,.mv (.t 0),none⟩,
 ⟨some 46,.nck (.t 45),none⟩,
 ⟨some 47,.fad 3 (.t 46),none⟩,
 ⟨some 48,.load1 (.t 47),none⟩,
 ⟨some 49,.bin .eql (.t 48) (.c (.i .i64 0)),none⟩,
 ⟨some 50,.mv (.t 49),none⟩,
 ⟨some 51,.loadn 3 (.t 6),some (50,true)⟩,
 ⟨some 52,.call 49 [.t 51,.c (.s [58])],some (50,true)⟩,
 ⟨some 53,.not (.t 52),some (50,true)⟩,
 ⟨some 54,.pick (.t 50) (.t 53) (.c (.b false)),none⟩])
 (.cond (.t 54)
 (.reg [⟨some 55,.mv (.t 0),none⟩,
 ⟨some 56,.fad 2 (.t 6),none⟩,
 ⟨some 57,.load1 (.t 56),none⟩,
 ⟨some 58,.call 25 [.t 55,.t 57,.c (.i .i64 140)],none⟩])
 (.skip))))
 (.seq (.reg [⟨some 59,.mv (.t 0),none⟩,
 ⟨some 60,.mv (.t 0),none⟩,
 ⟨some 61,.call 24 [.t 60],none⟩,
 ⟨some 62,.mv (.t 1),none⟩,
 ⟨some 63,.call 23 [.t 59,.t 61,.t 62],none⟩,
 ⟨some 10,.alloc 25 [.i .i64 0,.s [],.nil,.nil],none⟩,
 ⟨none,.store 4 (.t 10) (.t 63),none⟩])
 (.seq (.drw [⟨some 64,.fad 2 (.t 5),none⟩,
 ⟨some 65,.load1 (.t 64),none⟩,
 ⟨some 66,.mv (.t 9),none⟩,
 ⟨some 67,.bslice 1 [.s []] [(0,(1,.t 66))],none⟩,
 ⟨some 68,.app 9 1 16 (.t 65) (.t 67),none⟩,
 ⟨some 69,.fad 3 (.t 5),none⟩,
 ⟨some 70,.load1 (.t 69),none⟩,
 ⟨some 71,.loadn 4 (.t 10),none⟩,
 ⟨some 72,.bslice 1 [.i .i64 0,.s [],.nil,.nil] [(0,(4,.t 71))],none⟩,
 ⟨some 73,.app 25 4 72 (.t 70) (.t 72),none⟩,
 ⟨some 74,.fad 2 (.t 5),none⟩,
 ⟨none,.store 1 (.t 74) (.t 68),none⟩,
 ⟨some 75,.fad 3 (.t 5),none⟩,
 ⟨none,.store 1 (.t 75) (.t 73),none⟩] 14 [(69,(68,none)),(10,(68,none))])
 (.seq (.reg [⟨some 76,.mv (.t 0),none⟩,
 ⟨some 77,.call 24 [.t 76],none⟩,
 ⟨none,.store 3 (.t 6) (.t 77),none⟩])
 (.seq (.seq (.reg [⟨some 78,.loadn 3 (.t 6),none⟩,
 ⟨some 79,.call 49 [.t 78,.c (.s [125])],none⟩])
 (.cond (.t 79)
 (.seq (.reg [⟨some 80,.loadn 4 (.t 5),none⟩,
 ⟨none,.store 4 (.t 4) (.t 80),none⟩])
 (.ret))
 (.skip)))
 (.seq (.seq (.reg [⟨some 81,.mv (.t 0),none⟩,
 ⟨some 82,.nck (.t 81),none⟩,
 ⟨some 83,.fad 3 (.t 82),none⟩,
 ⟨some 84,.load1 (.t 83),none⟩,
 ⟨some 85,.bin .eql (.t 84) (.c (.i .i64 0)),none⟩,
 ⟨some 86,.mv (.t 85),none⟩,
 ⟨some 87,.loadn 3 (.t 6),some (86,true)⟩,
 ⟨some 88,.call 49 [.t 87,.c (.s [44])],some (86,true)⟩,
 ⟨some 89,.not (.t 88),some (86,true)⟩,
 ⟨some 90,.pick (.t 86) (.t 89) (.c (.b false)),none⟩])
 (.cond (.t 90)
 (.reg [⟨some 91,.mv (.t 0),none⟩,
 ⟨some 92,.fad 2 (.t 6),none⟩,
 ⟨some 93,.load1 (.t 92),none⟩,
 ⟨some 94,.call 25 [.t 91,.t 93,.c (.i .i64 140)],none⟩])
 (.skip)))
 (.reg [⟨some 95,.mv (.t 0),none⟩,
 ⟨some 96,.call 24 [.t 95],none⟩,
 ⟨none,.store 3 (.t 6) (.t 96),none⟩]))))))))))))))
 (.seq (.reg [⟨some 97,.loadn 4 (.t 5),none⟩,
 ⟨none,.store 4 (.t 4) (.t 97),none⟩])
 (.ret))))))
theorem is_ref14_parser_object:FnIs Try.prog 53 98 [.celln 4 4] c_ref14_parser_object:=⟨⟨_,_,Try.func53,rfl,rfl,by kernel_rfl,by kernel_rfl⟩⟩
def c_ref13_Next:SCode :=
 .seq (.reg [⟨some 4,.alloc 59 [.i .i64 0,.s [],.i .i64 0],none⟩,
 ⟨some 5,.mv (.c (.i .i64 0)),none⟩,
 ⟨some 6,.mv (.c (.i .i64 0)),none⟩])
 (.seq (.seq (.reg [⟨some 14,.mv (.t 1),none⟩,
 ⟨some 15,.bin .lss (.t 14) (.c (.i .i64 0)),none⟩,
 ⟨some 16,.mv (.t 15),none⟩,
 ⟨some 17,.mv (.t 1),some (16,false)⟩,
 ⟨some 18,.mv (.t 0),some (16,false)⟩,
 ⟨some 19,.lens (.t 18),some (16,false)⟩,
 ⟨some 20,.bin .gtr (.t 17) (.t 19),some (16,false)⟩,
 ⟨some 21,.pick (.t 16) (.c (.b true)) (.t 20),none⟩])
 (.cond (.t 21)
 (.seq (.reg [⟨some 22,.build [.i .i64 0,.s [],.i .i64 0] [],none⟩,
 ⟨none,.store 3 (.t 4) (.t 22),none⟩,
 ⟨some 5,.mv (.c (.i .i64 0)),none⟩,
 ⟨some 6,.mv (.c (.i .i64 4)),none⟩])
 (.ret))
 (.skip)))
 (.seq (.blk 0
 (.loop
 (.seq (.seq (.reg [⟨some 23,.mv (.t 1),none⟩,
 ⟨some 24,.mv (.t 0),none⟩,
 ⟨some 25,.lens (.t 24),none⟩,
 ⟨some 26,.bin .lss (.t 23) (.t 25),none⟩,
 ⟨some 27,.mv (.t 26),none⟩,
 ⟨some 28,.mv (.t 0),some (27,true)⟩,
 ⟨some 29,.mv (.t 1),some (27,true)⟩,
 ⟨some 30,.idx (.t 28) (.t 29),some (27,true)⟩,
 ⟨some 31,.call 66 [.t 30],some (27,true)⟩,
 ⟨some 32,.pick (.t 27) (.t 31) (.c (.b false)),none⟩])
 (.cond (.t 32)
 (.skip)
 (.exit 0)))
 (.blk 1
 (.reg [⟨some 33,.mv (.t 1),none⟩,
 ⟨some 34,.bin .add (.t 33) (.c (.i .i64 1)),none⟩,
 ⟨some 1,.mv (.t 34),none⟩])))))
 (.seq (.seq (.reg [⟨some 35,.mv (.t 1),none⟩,
 ⟨some 36,.mv (.t 0),none⟩,
 ⟨some 37,.lens (.t 36),none⟩,
 ⟨some 38,.bin .eql (.t 35) (.t 37),none⟩])
 (.cond (.t 38)
 (.seq (.reg [⟨some 39,.mv (.t 1),none⟩,
 ⟨some 40,.build [.i .i64 0,.s [],.i .i64 0] [(0,(1,.c (.i .i64 1))),(2,(1,.t 39))],none⟩,
 ⟨some 41,.mv (.t 1),none⟩,
 ⟨none,.store 3 (.t 4) (.t 40),none⟩,
 ⟨some 5,.mv (.t 41),none⟩,
 ⟨some 6,.mv (.c (.i .i64 0)),none⟩])
 (.ret))
 (.skip)))
 (.seq (.seq (.reg [⟨some 42,.mv (.t 0),none⟩,
 ⟨some 43,.mv (.t 1),none⟩,
 ⟨some 44,.idx (.t 42) (.t 43),none⟩,
 ⟨some 7,.mv (.t 44),none⟩])
 (.blk 2
 (.seq (.reg [⟨some 46,.mv (.t 7),none⟩,
 ⟨some 47,.call 67 [.t 46,.c (.s [123,125,91,93,58,44])],none⟩,
 ⟨some 45,.mv (.t 47),none⟩])
 (.cond (.t 45)
 (.seq (.reg [⟨some 48,.mv (.t 0),none⟩,
 ⟨some 49,.mv (.t 1),none⟩,
 ⟨some 50,.mv (.t 1),none⟩,
 ⟨some 51,.bin .add (.t 50) (.c (.i .i64 1)),none⟩,
 ⟨some 52,.slcs (.t 48) (some (.t 49)) (some (.t 51)),none⟩,
 ⟨some 53,.mv (.t 1),none⟩,
 ⟨some 54,.build [.i .i64 0,.s [],.i .i64 0] [(0,(1,.c (.i .i64 2))),(1,(1,.t 52)),(2,(1,.t 53))],none⟩,
 ⟨some 55,.mv (.t 1),none⟩,
 ⟨some 56,.bin .add (.t 55) (.c (.i .i64 1)),none⟩,
 ⟨none,.store 3 (.t 4) (.t 54),none⟩,
 ⟨some 5,.mv (.t 56),none⟩,
 ⟨some 6,.mv (.c (.i .i64 0)),none⟩])
 (.ret))
 (.seq (.reg [⟨some 58,.mv (.t 7),none⟩,
 ⟨some 59,.bin .eql (.t 58) (.c (.i .u8 34)),none⟩,
 ⟨some 57,.mv (.t 59),none⟩])
 (.cond (.t 57)
 (.seq (.reg [⟨some 61,.mv (.t 0),none⟩,
 ⟨some 62,.mv (.t 1),none⟩,
 ⟨some 63,.call 68 [.t 61,.t 62],none⟩,
 ⟨some 60,.mv (.t 63),none⟩,
 ⟨some 64,.ext (.t 60) 0,none⟩,
 ⟨some 65,.ext (.t 60) 1,none⟩,
 ⟨some 66,.ext (.t 60) 2,none⟩,
 ⟨some 8,.mv (.t 64),none⟩,
 ⟨some 9,.mv (.t 65),none⟩,
 ⟨some 10,.mv (.t 66),none⟩])
 (.seq (.seq (.reg [⟨some 67,.mv (.t 10),none⟩,
 ⟨some 68,.bin .neq (.t 67) (.c (.i .i64 0)),none⟩])
 (.cond (.t 68)
 (.seq (.reg [⟨some 69,.build [.i .i64 0,.s [],.i .i64 0] [],none⟩,
 ⟨some 70,.mv (.t 10),none⟩,
 ⟨none,.store 3 (.t 4) (.t 69),none⟩,
 ⟨some 5,.mv (.c (.i .i64 0)),none⟩,
 ⟨some 6,.mv (.t 70),none⟩])
 (.ret))
 (.skip)))
 (.seq (.reg [⟨some 71,.mv (.t 8),none⟩,
 ⟨some 72,.mv (.t 1),none⟩,
 ⟨some 73,.build [.i .i64 0,.s [],.i .i64 0] [(0,(1,.c (.i .i64 3))),(1,(1,.t 71)),(2,(1,.t 72))],none⟩,
 ⟨some 74,.mv (.t 9),none⟩,
 ⟨none,.store 3 (.t 4) (.t 73),none⟩,
 ⟨some 5,.mv (.t 74),none⟩,
 ⟨some 6,.mv (.c (.i .i64 0)),none⟩])
 (.ret))))
 (.seq (.reg [⟨some 76,.mv (.t 7),none⟩,
 ⟨some 77,.bin .eql (.t 76) (.c (.i .u8 45)),none⟩,
 ⟨some 78,.mv (.t 77),none⟩,
 ⟨some 79,.mv (.t 7),some (78,false)⟩,
 ⟨some 80,.call 69 [.t 79],some (78,false)⟩,
 ⟨some 81,.pick (.t 78) (.c (.b true)) (.t 80),none⟩,
 ⟨some 75,.mv (.t 81),none⟩])
 (.cond (.t 75)
 (.seq (.reg [⟨some 82,.mv (.t 0),none⟩,
 ⟨some 83,.mv (.t 1),none⟩,
 ⟨some 84,.slcs (.t 82) (some (.t 83)) none,none⟩,
 ⟨some 85,.call 61 [.t 84],none⟩,
 ⟨some 11,.mv (.t 85),none⟩])
 (.seq (.seq (.reg [⟨some 86,.mv (.t 11),none⟩,
 ⟨some 87,.bin .eql (.t 86) (.c (.i .i64 0)),none⟩])
 (.cond (.t 87)
 (.seq (.reg [⟨some 88,.build [.i .i64 0,.s [],.i .i64 0] [],none⟩,
 ⟨none,.store 3 (.t 4) (.t 88),none⟩,
 ⟨some 5,.mv (.c (.i .i64 0)),none⟩,
 ⟨some 6,.mv (.c (.i .i64 130)),none⟩])
 (.ret))
 (.skip)))
 (.seq (.reg [⟨some 89,.mv (.t 0),none⟩,
 ⟨some 90,.mv (.t 1),none⟩,
 ⟨some 91,.mv (.t 1),none⟩,
 ⟨some 92,.mv (.t 11),none⟩,
 ⟨some 93,.bin .add (.t 91) (.t 92),none⟩,
 ⟨some 94,.slcs (.t 89) (some (.t 90)) (some (.t 93)),none⟩,
 ⟨some 95,.mv (.t 1),none⟩,
 ⟨some 96,.build [.i .i64 0,.s [],.i .i64 0] [(0,(1,.c (.i .i64 4))),(1,(1,.t 94)),(2,(1,.t 95))],none⟩,
 ⟨some 97,.mv (.t 1),none⟩,
 ⟨some 98,.mv (.t 11),none⟩,
 ⟨some 99,.bin .add (.t 97) (.t 98),none⟩,
 ⟨none,.store 3 (.t 4) (.t 96),none⟩,
 ⟨some 5,.mv (.t 99),none⟩,
 ⟨some 6,.mv (.c (.i .i64 0)),none⟩])
 (.ret))))
 (.skip)))))))))
 (.seq (.reg [⟨some 12,.mv (.c (.i .i64 0)),none⟩])
 (.seq (.blk 3
 (.loop
 (.seq (.seq (.reg [⟨some 100,.mv (.t 1),none⟩,
 ⟨some 101,.mv (.t 12),none⟩,
 ⟨some 102,.bin .add (.t 100) (.t 101),none⟩,
 ⟨some 103,.mv (.t 0),none⟩,
 ⟨some 104,.lens (.t 103),none⟩,
 ⟨some 105,.bin .lss (.t 102) (.t 104),none⟩,
 ⟨some 106,.mv (.t 105),none⟩,
 ⟨some 107,.mv (.t 0),some (106,true)⟩,
 ⟨some 108,.mv (.t 1),some (106,true)⟩,
 ⟨some 109,.mv (.t 12),some (106,true)⟩,
 ⟨some 110,.bin .add (.t 108) (.t 109),some (106,true)⟩,
 ⟨some 111,.idx (.t 107) (.t 110),some (106,true)⟩,
 ⟨some 112,.call 70 [.t 111],some (106,true)⟩,
 ⟨some 113,.pick (.t 106) (.t 112) (.c (.b false)),none⟩])
 (.cond (.t 113)
 (.skip)
 (.exit 3)))
 (.blk 4
 (.reg [⟨some 114,.mv (.t 12),none⟩,
 ⟨some 115,.bin .add (.t 114) (.c (.i .i64 1)),none⟩,
 ⟨some 12,.mv (.t 115),none⟩])))))
 (.seq (.seq (.reg [⟨some 116,.mv (.t 0),none⟩,
 ⟨some 117,.mv (.t 1),none⟩,
 ⟨some 118,.mv (.t 1),none⟩,
 ⟨some 119,.mv (.t 12),none⟩,
 ⟨some 120,.bin .add (.t 118) (.t 119),none⟩,
 ⟨some 121,.slcs (.t 116) (some (.t 117)) (some (.t 120)),none⟩,
 ⟨some 13,.mv (.t 121),none⟩])
 (.seq (.reg [⟨some 122,.mv (.t 13),none⟩,
 ⟨some 123,.bin .eql (.t 122) (.c (.s [116,114,117,101])),none⟩,
 ⟨some 124,.mv (.t 123),none⟩,
 ⟨some 125,.mv (.t 13),some (124,false)⟩,
 ⟨some 126,.bin .eql (.t 125) (.c (.s [102,97,108,115,101])),some (124,false)⟩,
 ⟨some 127,.pick (.t 124) (.c (.b true)) (.t 126),none⟩,
 ⟨some 128,.mv (.t 127),none⟩,
 ⟨some 129,.mv (.t 13),some (128,false)⟩,
 ⟨some 130,.bin .eql (.t 129) (.c (.s [110,117,108,108])),some (128,false)⟩,
 ⟨some 131,.pick (.t 128) (.c (.b true)) (.t 130),none⟩])
 (.cond (.t 131)
 (.seq (.reg [⟨some 132,.mv (.t 13),none⟩,
 ⟨some 133,.mv (.t 1),none⟩,
 ⟨some 134,.build [.i .i64 0,.s [],.i .i64 0] [(0,(1,.c (.i .i64 5))),(1,(1,.t 132)),(2,(1,.t 133))],none⟩,
 ⟨some 135,.mv (.t 1),none⟩,
 ⟨some 136,.mv (.t 12),none⟩,
 ⟨some 137,.bin .add (.t 135) (.t 136),none⟩,
 ⟨none,.store 3 (.t 4) (.t 134),none⟩,
 ⟨some 5,.mv (.t 137),none⟩,
 ⟨some 6,.mv (.c (.i .i64 0)),none⟩])
 (.ret))
 (.skip))))
 (.seq (.reg [⟨some 138,.build [.i .i64 0,.s [],.i .i64 0] [],none⟩,
 ⟨none,.store 3 (.t 4) (.t 138),none⟩,
 ⟨some 5,.mv (.c (.i .i64 0)),none⟩,
 ⟨some 6,.mv (.c (.i .i64 130)),none⟩])
 (.ret)))))))))
theorem is_ref13_Next:FnIs Try.prog 54 139 [.celln 4 3,.tmp 5,.tmp 6] c_ref13_Next:=⟨⟨_,_,Try.func54,rfl,rfl,by kernel_rfl,by kernel_rfl⟩⟩
def c_jrd_failure_fail:SCode :=
 .seq (.reg [⟨some 4,.mv (.t 0),none⟩,
 ⟨some 5,.nck (.t 4),none⟩,
 ⟨some 6,.fad 0 (.t 5),none⟩,
 ⟨some 7,.load1 (.t 6),none⟩,
 ⟨some 8,.bin .eql (.t 7) (.c (.i .i64 0)),none⟩])
 (.cond (.t 8)
 (.reg [⟨some 9,.mv (.t 0),none⟩,
 ⟨some 10,.mv (.t 1),none⟩,
 ⟨some 11,.nck (.t 9),none⟩,
 ⟨some 12,.fad 0 (.t 11),none⟩,
 ⟨none,.store 1 (.t 12) (.t 10),none⟩])
 (.skip))
theorem is_jrd_failure_fail:FnIs Try.prog 55 13 [] c_jrd_failure_fail:=⟨⟨_,_,Try.func55,rfl,rfl,by kernel_rfl,by kernel_rfl⟩⟩
def c_jrd_decoder_member:SCode :=
 .seq (.reg [⟨some 6,.alloc 25 [.i .i64 0,.s [],.nil,.nil],none⟩,
 ⟨some 7,.mv (.c (.b false)),none⟩])
 (.seq (.seq (.reg [⟨some 10,.mv (.t 0),none⟩,
 ⟨some 11,.nck (.t 10),none⟩,
 ⟨some 12,.fad 0 (.t 11),none⟩,
 ⟨some 13,.fad 0 (.t 12),none⟩,
 ⟨some 14,.load1 (.t 13),none⟩,
 ⟨some 15,.bin .neq (.t 14) (.c (.i .i64 0)),none⟩])
 (.cond (.t 15)
 (.seq (.reg [⟨some 16,.build [.i .i64 0,.s [],.nil,.nil] [],none⟩,
 ⟨none,.store 4 (.t 6) (.t 16),none⟩,
 ⟨some 7,.mv (.c (.b false)),none⟩])
 (.ret))
 (.skip)))
 (.seq (.reg [⟨some 18,.mv (.t 0),none⟩,
 ⟨some 19,.nck (.t 18),none⟩,
 ⟨some 20,.fad 1 (.t 19),none⟩,
 ⟨some 21,.loadn 4 (.t 20),none⟩,
 ⟨some 22,.mv (.t 1),none⟩,
 ⟨some 23,.call 71 [.t 21,.t 22],none⟩,
 ⟨some 17,.mv (.t 23),none⟩,
 ⟨some 24,.ext (.t 17) 0,none⟩,
 ⟨some 25,.ext (.t 17) 1,none⟩,
 ⟨some 8,.alloc 25 [.i .i64 0,.s [],.nil,.nil],none⟩,
 ⟨none,.store 4 (.t 8) (.t 24),none⟩,
 ⟨some 9,.mv (.t 25),none⟩])
 (.seq (.seq (.reg [⟨some 26,.mv (.t 9),none⟩,
 ⟨some 27,.mv (.t 26),none⟩,
 ⟨some 28,.fad 0 (.t 8),some (27,true)⟩,
 ⟨some 29,.load1 (.t 28),some (27,true)⟩,
 ⟨some 30,.mv (.t 2),some (27,true)⟩,
 ⟨some 31,.bin .neq (.t 29) (.t 30),some (27,true)⟩,
 ⟨some 32,.pick (.t 27) (.t 31) (.c (.b false)),none⟩])
 (.cond (.t 32)
 (.reg [⟨some 33,.mv (.t 0),none⟩,
 ⟨some 34,.nck (.t 33),none⟩,
 ⟨some 35,.fad 0 (.t 34),none⟩,
 ⟨some 36,.call 55 [.t 35,.c (.i .i64 160)],none⟩])
 (.skip)))
 (.seq (.drw [⟨some 37,.loadn 4 (.t 8),none⟩,
 ⟨some 38,.mv (.t 9),none⟩,
 ⟨some 39,.mv (.t 38),none⟩,
 ⟨some 40,.fad 0 (.t 8),some (39,true)⟩,
 ⟨some 41,.load1 (.t 40),some (39,true)⟩,
 ⟨some 42,.mv (.t 2),some (39,true)⟩,
 ⟨some 43,.bin .eql (.t 41) (.t 42),some (39,true)⟩,
 ⟨some 44,.pick (.t 39) (.t 43) (.c (.b false)),none⟩,
 ⟨none,.store 4 (.t 6) (.t 37),none⟩,
 ⟨some 7,.mv (.t 44),none⟩] 10 [(40,(6,some (39,true)))])
 (.ret)))))
theorem is_jrd_decoder_member:FnIs Try.prog 56 45 [.celln 6 4,.tmp 7] c_jrd_decoder_member:=⟨⟨_,_,Try.func56,rfl,rfl,by kernel_rfl,by kernel_rfl⟩⟩
def c_jrd_decoder_items:SCode :=
 .seq (.reg [⟨some 6,.mv (.c .nil),none⟩])
 (.seq (.reg [⟨some 10,.mv (.t 0),none⟩,
 ⟨some 11,.mv (.t 1),none⟩,
 ⟨some 12,.call 56 [.t 10,.t 11,.c (.i .i64 6)],none⟩,
 ⟨some 9,.mv (.t 12),none⟩,
 ⟨some 13,.ext (.t 9) 0,none⟩,
 ⟨some 14,.ext (.t 9) 1,none⟩,
 ⟨some 7,.alloc 25 [.i .i64 0,.s [],.nil,.nil],none⟩,
 ⟨none,.store 4 (.t 7) (.t 13),none⟩,
 ⟨some 8,.mv (.t 14),none⟩])
 (.seq (.seq (.reg [⟨some 15,.mv (.t 8),none⟩,
 ⟨some 16,.mv (.t 15),none⟩,
 ⟨some 17,.fad 3 (.t 7),some (16,true)⟩,
 ⟨some 18,.load1 (.t 17),some (16,true)⟩,
 ⟨some 19,.lenr (.t 18),some (16,true)⟩,
 ⟨some 20,.mv (.t 2),some (16,true)⟩,
 ⟨some 21,.bin .gtr (.t 19) (.t 20),some (16,true)⟩,
 ⟨some 22,.pick (.t 16) (.t 21) (.c (.b false)),none⟩])
 (.cond (.t 22)
 (.seq (.reg [⟨some 23,.mv (.t 0),none⟩,
 ⟨some 24,.nck (.t 23),none⟩,
 ⟨some 25,.fad 0 (.t 24),none⟩,
 ⟨some 26,.call 55 [.t 25,.c (.i .i64 161)],none⟩])
 (.seq (.reg [⟨some 6,.mv (.c .nil),none⟩])
 (.ret)))
 (.skip)))
 (.seq (.reg [⟨some 27,.fad 3 (.t 7),none⟩,
 ⟨some 28,.load1 (.t 27),none⟩,
 ⟨some 6,.mv (.t 28),none⟩])
 (.ret))))
theorem is_jrd_decoder_items:FnIs Try.prog 57 29 [.tmp 6] c_jrd_decoder_items:=⟨⟨_,_,Try.func57,rfl,rfl,by kernel_rfl,by kernel_rfl⟩⟩
def c_jrd_decoder_requiredText:SCode :=
 .seq (.reg [⟨some 4,.mv (.c (.s [])),none⟩])
 (.seq (.reg [⟨some 8,.mv (.t 0),none⟩,
 ⟨some 9,.mv (.t 1),none⟩,
 ⟨some 10,.call 56 [.t 8,.t 9,.c (.i .i64 5)],none⟩,
 ⟨some 7,.mv (.t 10),none⟩,
 ⟨some 11,.ext (.t 7) 0,none⟩,
 ⟨some 12,.ext (.t 7) 1,none⟩,
 ⟨some 5,.alloc 25 [.i .i64 0,.s [],.nil,.nil],none⟩,
 ⟨none,.store 4 (.t 5) (.t 11),none⟩,
 ⟨some 6,.mv (.t 12),none⟩])
 (.seq (.seq (.reg [⟨some 13,.mv (.t 6),none⟩,
 ⟨some 14,.not (.t 13),none⟩])
 (.cond (.t 14)
 (.reg [⟨some 15,.mv (.t 0),none⟩,
 ⟨some 16,.nck (.t 15),none⟩,
 ⟨some 17,.fad 0 (.t 16),none⟩,
 ⟨some 18,.call 55 [.t 17,.c (.i .i64 160)],none⟩])
 (.skip)))
 (.seq (.reg [⟨some 19,.fad 1 (.t 5),none⟩,
 ⟨some 20,.load1 (.t 19),none⟩,
 ⟨some 4,.mv (.t 20),none⟩])
 (.ret))))
theorem is_jrd_decoder_requiredText:FnIs Try.prog 58 21 [.tmp 4] c_jrd_decoder_requiredText:=⟨⟨_,_,Try.func58,rfl,rfl,by kernel_rfl,by kernel_rfl⟩⟩
def c_ref14_Get:SCode :=
 .seq (.reg [⟨some 2,.box 25 (.t 0),none⟩,
 ⟨some 4,.alloc 25 [.i .i64 0,.s [],.nil,.nil],none⟩,
 ⟨some 5,.mv (.c (.b false)),none⟩])
 (.seq (.seq (.reg [⟨some 7,.fad 0 (.t 2),none⟩,
 ⟨some 8,.load1 (.t 7),none⟩,
 ⟨some 9,.bin .neq (.t 8) (.c (.i .i64 7)),none⟩])
 (.cond (.t 9)
 (.seq (.reg [⟨some 10,.build [.i .i64 0,.s [],.nil,.nil] [],none⟩,
 ⟨none,.store 4 (.t 4) (.t 10),none⟩,
 ⟨some 5,.mv (.c (.b false)),none⟩])
 (.ret))
 (.skip)))
 (.seq (.seq (.reg [⟨some 11,.fad 2 (.t 2),none⟩,
 ⟨some 12,.load1 (.t 11),none⟩,
 ⟨some 13,.lenr (.t 12),none⟩,
 ⟨some 14,.mv (.c (.i .i64 0)),none⟩])
 (.blk 0
 (.loop
 (.seq (.reg [⟨some 15,.bin .lss (.t 14) (.t 13),none⟩])
 (.seq (.cond (.t 15)
 (.skip)
 (.exit 0))
 (.seq (.blk 1
 (.seq (.reg [⟨some 16,.mv (.t 14),none⟩,
 ⟨some 6,.mv (.t 16),none⟩])
 (.seq (.reg [⟨some 17,.fad 2 (.t 2),none⟩,
 ⟨some 18,.load1 (.t 17),none⟩,
 ⟨some 19,.mv (.t 6),none⟩,
 ⟨some 20,.iad 1 (.t 18) (.t 19),none⟩,
 ⟨some 21,.load1 (.t 20),none⟩,
 ⟨some 22,.mv (.t 1),none⟩,
 ⟨some 23,.bin .eql (.t 21) (.t 22),none⟩,
 ⟨some 24,.mv (.t 23),none⟩,
 ⟨some 25,.mv (.t 6),some (24,true)⟩,
 ⟨some 26,.fad 3 (.t 2),some (24,true)⟩,
 ⟨some 27,.load1 (.t 26),some (24,true)⟩,
 ⟨some 28,.lenr (.t 27),some (24,true)⟩,
 ⟨some 29,.bin .lss (.t 25) (.t 28),some (24,true)⟩,
 ⟨some 30,.pick (.t 24) (.t 29) (.c (.b false)),none⟩])
 (.cond (.t 30)
 (.seq (.reg [⟨some 31,.fad 3 (.t 2),none⟩,
 ⟨some 32,.load1 (.t 31),none⟩,
 ⟨some 33,.mv (.t 6),none⟩,
 ⟨some 34,.iad 4 (.t 32) (.t 33),none⟩,
 ⟨some 35,.loadn 4 (.t 34),none⟩,
 ⟨none,.store 4 (.t 4) (.t 35),none⟩,
 ⟨some 5,.mv (.c (.b true)),none⟩])
 (.ret))
 (.skip)))))
 (.reg [⟨some 36,.bin .add (.t 14) (.c (.i .i64 1)),none⟩,
 ⟨some 14,.mv (.t 36),none⟩])))))))
 (.seq (.reg [⟨some 37,.build [.i .i64 0,.s [],.nil,.nil] [],none⟩,
 ⟨none,.store 4 (.t 4) (.t 37),none⟩,
 ⟨some 5,.mv (.c (.b false)),none⟩])
 (.ret))))
theorem is_ref14_Get:FnIs Try.prog 59 38 [.celln 4 4,.tmp 5] c_ref14_Get:=⟨⟨_,_,Try.func59,rfl,rfl,by kernel_rfl,by kernel_rfl⟩⟩
def c_ref13_numeral:SCode :=
 .seq (.reg [⟨some 2,.mv (.c (.i .i64 0)),none⟩])
 (.seq (.reg [⟨some 3,.mv (.c (.i .i64 0)),none⟩])
 (.seq (.seq (.reg [⟨some 7,.mv (.t 3),none⟩,
 ⟨some 8,.mv (.t 0),none⟩,
 ⟨some 9,.lens (.t 8),none⟩,
 ⟨some 10,.bin .lss (.t 7) (.t 9),none⟩,
 ⟨some 11,.mv (.t 10),none⟩,
 ⟨some 12,.mv (.t 0),some (11,true)⟩,
 ⟨some 13,.mv (.t 3),some (11,true)⟩,
 ⟨some 14,.idx (.t 12) (.t 13),some (11,true)⟩,
 ⟨some 15,.bin .eql (.t 14) (.c (.i .u8 45)),some (11,true)⟩,
 ⟨some 16,.pick (.t 11) (.t 15) (.c (.b false)),none⟩])
 (.cond (.t 16)
 (.reg [⟨some 17,.mv (.t 3),none⟩,
 ⟨some 18,.bin .add (.t 17) (.c (.i .i64 1)),none⟩,
 ⟨some 3,.mv (.t 18),none⟩])
 (.skip)))
 (.seq (.seq (.reg [⟨some 19,.mv (.t 3),none⟩,
 ⟨some 20,.mv (.t 0),none⟩,
 ⟨some 21,.lens (.t 20),none⟩,
 ⟨some 22,.bin .eql (.t 19) (.t 21),none⟩,
 ⟨some 23,.mv (.t 22),none⟩,
 ⟨some 24,.mv (.t 0),some (23,false)⟩,
 ⟨some 25,.mv (.t 3),some (23,false)⟩,
 ⟨some 26,.idx (.t 24) (.t 25),some (23,false)⟩,
 ⟨some 27,.call 69 [.t 26],some (23,false)⟩,
 ⟨some 28,.not (.t 27),some (23,false)⟩,
 ⟨some 29,.pick (.t 23) (.c (.b true)) (.t 28),none⟩])
 (.cond (.t 29)
 (.seq (.reg [⟨some 2,.mv (.c (.i .i64 0)),none⟩])
 (.ret))
 (.skip)))
 (.seq (.seq (.reg [⟨some 30,.mv (.t 0),none⟩,
 ⟨some 31,.mv (.t 3),none⟩,
 ⟨some 32,.idx (.t 30) (.t 31),none⟩,
 ⟨some 33,.bin .eql (.t 32) (.c (.i .u8 48)),none⟩])
 (.cond (.t 33)
 (.reg [⟨some 34,.mv (.t 3),none⟩,
 ⟨some 35,.bin .add (.t 34) (.c (.i .i64 1)),none⟩,
 ⟨some 3,.mv (.t 35),none⟩])
 (.reg [⟨some 36,.mv (.t 3),none⟩,
 ⟨some 37,.mv (.t 0),none⟩,
 ⟨some 38,.mv (.t 3),none⟩,
 ⟨some 39,.slcs (.t 37) (some (.t 38)) none,none⟩,
 ⟨some 40,.call 72 [.t 39],none⟩,
 ⟨some 41,.bin .add (.t 36) (.t 40),none⟩,
 ⟨some 3,.mv (.t 41),none⟩])))
 (.seq (.seq (.reg [⟨some 42,.mv (.t 0),none⟩,
 ⟨some 43,.mv (.t 3),none⟩,
 ⟨some 44,.bin .add (.t 43) (.c (.i .i64 1)),none⟩,
 ⟨some 45,.call 64 [.t 42,.t 44],none⟩,
 ⟨some 46,.call 72 [.t 45],none⟩,
 ⟨some 4,.mv (.t 46),none⟩])
 (.seq (.reg [⟨some 47,.mv (.t 3),none⟩,
 ⟨some 48,.mv (.t 0),none⟩,
 ⟨some 49,.lens (.t 48),none⟩,
 ⟨some 50,.bin .lss (.t 47) (.t 49),none⟩,
 ⟨some 51,.mv (.t 50),none⟩,
 ⟨some 52,.mv (.t 0),some (51,true)⟩,
 ⟨some 53,.mv (.t 3),some (51,true)⟩,
 ⟨some 54,.idx (.t 52) (.t 53),some (51,true)⟩,
 ⟨some 55,.bin .eql (.t 54) (.c (.i .u8 46)),some (51,true)⟩,
 ⟨some 56,.pick (.t 51) (.t 55) (.c (.b false)),none⟩,
 ⟨some 57,.mv (.t 56),none⟩,
 ⟨some 58,.mv (.t 4),some (57,true)⟩,
 ⟨some 59,.bin .gtr (.t 58) (.c (.i .i64 0)),some (57,true)⟩,
 ⟨some 60,.pick (.t 57) (.t 59) (.c (.b false)),none⟩])
 (.cond (.t 60)
 (.reg [⟨some 61,.mv (.t 3),none⟩,
 ⟨some 62,.mv (.t 4),none⟩,
 ⟨some 63,.bin .add (.c (.i .i64 1)) (.t 62),none⟩,
 ⟨some 64,.bin .add (.t 61) (.t 63),none⟩,
 ⟨some 3,.mv (.t 64),none⟩])
 (.skip))))
 (.seq (.seq (.reg [⟨some 65,.mv (.t 3),none⟩,
 ⟨some 66,.mv (.t 0),none⟩,
 ⟨some 67,.lens (.t 66),none⟩,
 ⟨some 68,.bin .lss (.t 65) (.t 67),none⟩,
 ⟨some 69,.mv (.t 68),none⟩,
 ⟨some 70,.mv (.t 0),some (69,true)⟩,
 ⟨some 71,.mv (.t 3),some (69,true)⟩,
 ⟨some 72,.idx (.t 70) (.t 71),some (69,true)⟩,
 ⟨some 73,.call 67 [.t 72,.c (.s [101,69])],some (69,true)⟩,
 ⟨some 74,.pick (.t 69) (.t 73) (.c (.b false)),none⟩])
 (.cond (.t 74)
 (.seq (.reg [⟨some 75,.mv (.t 3),none⟩,
 ⟨some 76,.bin .add (.t 75) (.c (.i .i64 1)),none⟩,
 ⟨some 5,.mv (.t 76),none⟩])
 (.seq (.seq (.reg [⟨some 77,.mv (.t 5),none⟩,
 ⟨some 78,.mv (.t 0),none⟩,
 ⟨some 79,.lens (.t 78),none⟩,
 ⟨some 80,.bin .lss (.t 77) (.t 79),none⟩,
 ⟨some 81,.mv (.t 80),none⟩,
 ⟨some 82,.mv (.t 0),some (81,true)⟩,
 ⟨some 83,.mv (.t 5),some (81,true)⟩,
 ⟨some 84,.idx (.t 82) (.t 83),some (81,true)⟩,
 ⟨some 85,.call 67 [.t 84,.c (.s [43,45])],some (81,true)⟩,
 ⟨some 86,.pick (.t 81) (.t 85) (.c (.b false)),none⟩])
 (.cond (.t 86)
 (.reg [⟨some 87,.mv (.t 5),none⟩,
 ⟨some 88,.bin .add (.t 87) (.c (.i .i64 1)),none⟩,
 ⟨some 5,.mv (.t 88),none⟩])
 (.skip)))
 (.seq (.reg [⟨some 89,.mv (.t 0),none⟩,
 ⟨some 90,.mv (.t 5),none⟩,
 ⟨some 91,.call 64 [.t 89,.t 90],none⟩,
 ⟨some 92,.call 72 [.t 91],none⟩,
 ⟨some 6,.mv (.t 92),none⟩])
 (.seq (.reg [⟨some 93,.mv (.t 6),none⟩,
 ⟨some 94,.bin .gtr (.t 93) (.c (.i .i64 0)),none⟩])
 (.cond (.t 94)
 (.reg [⟨some 95,.mv (.t 5),none⟩,
 ⟨some 96,.mv (.t 6),none⟩,
 ⟨some 97,.bin .add (.t 95) (.t 96),none⟩,
 ⟨some 3,.mv (.t 97),none⟩])
 (.skip))))))
 (.skip)))
 (.seq (.reg [⟨some 98,.mv (.t 3),none⟩,
 ⟨some 2,.mv (.t 98),none⟩])
 (.ret))))))))
theorem is_ref13_numeral:FnIs Try.prog 61 99 [.tmp 2] c_ref13_numeral:=⟨⟨_,_,Try.func61,rfl,rfl,by kernel_rfl,by kernel_rfl⟩⟩
def c_ref13_exponent:SCode :=
 .seq (.reg [⟨some 2,.mv (.c (.i .i64 0)),none⟩])
 (.seq (.reg [⟨some 6,.mv (.t 0),none⟩,
 ⟨some 7,.bin .neq (.t 6) (.c (.s [])),none⟩,
 ⟨some 8,.mv (.t 7),none⟩,
 ⟨some 9,.mv (.t 0),some (8,true)⟩,
 ⟨some 10,.idx (.t 9) (.c (.i .i64 0)),some (8,true)⟩,
 ⟨some 11,.bin .eql (.t 10) (.c (.i .u8 45)),some (8,true)⟩,
 ⟨some 12,.pick (.t 8) (.t 11) (.c (.b false)),none⟩,
 ⟨some 3,.mv (.t 12),none⟩])
 (.seq (.seq (.reg [⟨some 13,.mv (.t 0),none⟩,
 ⟨some 14,.bin .neq (.t 13) (.c (.s [])),none⟩,
 ⟨some 15,.mv (.t 14),none⟩,
 ⟨some 16,.mv (.t 0),some (15,true)⟩,
 ⟨some 17,.idx (.t 16) (.c (.i .i64 0)),some (15,true)⟩,
 ⟨some 18,.call 67 [.t 17,.c (.s [43,45])],some (15,true)⟩,
 ⟨some 19,.pick (.t 15) (.t 18) (.c (.b false)),none⟩])
 (.cond (.t 19)
 (.reg [⟨some 20,.mv (.t 0),none⟩,
 ⟨some 21,.slcs (.t 20) (some (.c (.i .i64 1))) none,none⟩,
 ⟨some 0,.mv (.t 21),none⟩])
 (.skip)))
 (.seq (.reg [⟨some 4,.mv (.c (.i .i64 0)),none⟩])
 (.seq (.seq (.reg [⟨some 5,.mv (.c (.i .i64 0)),none⟩])
 (.blk 0
 (.loop
 (.seq (.seq (.reg [⟨some 22,.mv (.t 5),none⟩,
 ⟨some 23,.mv (.t 0),none⟩,
 ⟨some 24,.lens (.t 23),none⟩,
 ⟨some 25,.bin .lss (.t 22) (.t 24),none⟩])
 (.cond (.t 25)
 (.skip)
 (.exit 0)))
 (.seq (.blk 1
 (.reg [⟨some 28,.mv (.t 4),none⟩,
 ⟨some 29,.bin .mul (.t 28) (.c (.i .i64 10)),none⟩,
 ⟨some 30,.mv (.t 0),none⟩,
 ⟨some 31,.mv (.t 5),none⟩,
 ⟨some 32,.idx (.t 30) (.t 31),none⟩,
 ⟨some 33,.bin .sub (.t 32) (.c (.i .u8 48)),none⟩,
 ⟨some 34,.cvi .i64 (.t 33),none⟩,
 ⟨some 35,.bin .add (.t 29) (.t 34),none⟩,
 ⟨some 36,.pu .mn [.t 35,.c (.i .i64 1073741824)],none⟩,
 ⟨some 4,.mv (.t 36),none⟩]))
 (.reg [⟨some 26,.mv (.t 5),none⟩,
 ⟨some 27,.bin .add (.t 26) (.c (.i .i64 1)),none⟩,
 ⟨some 5,.mv (.t 27),none⟩]))))))
 (.seq (.seq (.reg [⟨some 37,.mv (.t 3),none⟩])
 (.cond (.t 37)
 (.seq (.reg [⟨some 38,.mv (.t 4),none⟩,
 ⟨some 39,.neg (.t 38),none⟩,
 ⟨some 2,.mv (.t 39),none⟩])
 (.ret))
 (.skip)))
 (.seq (.reg [⟨some 40,.mv (.t 4),none⟩,
 ⟨some 2,.mv (.t 40),none⟩])
 (.ret)))))))
theorem is_ref13_exponent:FnIs Try.prog 63 41 [.tmp 2] c_ref13_exponent:=⟨⟨_,_,Try.func63,rfl,rfl,by kernel_rfl,by kernel_rfl⟩⟩
def c_ref13_tail:SCode :=
 .seq (.reg [⟨some 4,.mv (.c (.s [])),none⟩])
 (.seq (.seq (.reg [⟨some 5,.mv (.t 1),none⟩,
 ⟨some 6,.mv (.t 0),none⟩,
 ⟨some 7,.lens (.t 6),none⟩,
 ⟨some 8,.bin .geq (.t 5) (.t 7),none⟩])
 (.cond (.t 8)
 (.seq (.reg [⟨some 4,.mv (.c (.s [])),none⟩])
 (.ret))
 (.skip)))
 (.seq (.reg [⟨some 9,.mv (.t 0),none⟩,
 ⟨some 10,.mv (.t 1),none⟩,
 ⟨some 11,.slcs (.t 9) (some (.t 10)) none,none⟩,
 ⟨some 4,.mv (.t 11),none⟩])
 (.ret)))
theorem is_ref13_tail:FnIs Try.prog 64 12 [.tmp 4] c_ref13_tail:=⟨⟨_,_,Try.func64,rfl,rfl,by kernel_rfl,by kernel_rfl⟩⟩
def c_ref13_white:SCode :=
 .seq (.reg [⟨some 2,.mv (.c (.b false)),none⟩])
 (.seq (.reg [⟨some 3,.mv (.t 0),none⟩,
 ⟨some 4,.call 67 [.t 3,.c (.s [32,9,10,13])],none⟩,
 ⟨some 2,.mv (.t 4),none⟩])
 (.ret))
theorem is_ref13_white:FnIs Try.prog 66 5 [.tmp 2] c_ref13_white:=⟨⟨_,_,Try.func66,rfl,rfl,by kernel_rfl,by kernel_rfl⟩⟩
def c_ref13_text:SCode :=
 .seq (.reg [⟨some 4,.mv (.c (.s [])),none⟩,
 ⟨some 5,.mv (.c (.i .i64 0)),none⟩,
 ⟨some 6,.mv (.c (.i .i64 0)),none⟩])
 (.seq (.reg [⟨some 7,.mv (.c (.s [])),none⟩])
 (.seq (.seq (.reg [⟨some 15,.mv (.t 1),none⟩,
 ⟨some 16,.bin .add (.t 15) (.c (.i .i64 1)),none⟩,
 ⟨some 8,.mv (.t 16),none⟩])
 (.blk 0
 (.loop
 (.seq (.seq (.reg [⟨some 17,.mv (.t 8),none⟩,
 ⟨some 18,.mv (.t 0),none⟩,
 ⟨some 19,.lens (.t 18),none⟩,
 ⟨some 20,.bin .lss (.t 17) (.t 19),none⟩])
 (.cond (.t 20)
 (.skip)
 (.exit 0)))
 (.blk 1
 (.blk 2
 (.seq (.reg [⟨some 39,.mv (.t 0),none⟩,
 ⟨some 40,.mv (.t 8),none⟩,
 ⟨some 41,.idx (.t 39) (.t 40),none⟩,
 ⟨some 42,.bin .eql (.t 41) (.c (.i .u8 34)),none⟩,
 ⟨some 38,.mv (.t 42),none⟩])
 (.cond (.t 38)
 (.seq (.reg [⟨some 43,.mv (.t 7),none⟩,
 ⟨some 44,.mv (.t 8),none⟩,
 ⟨some 45,.bin .add (.t 44) (.c (.i .i64 1)),none⟩,
 ⟨some 4,.mv (.t 43),none⟩,
 ⟨some 5,.mv (.t 45),none⟩,
 ⟨some 6,.mv (.c (.i .i64 0)),none⟩])
 (.ret))
 (.seq (.reg [⟨some 47,.mv (.t 0),none⟩,
 ⟨some 48,.mv (.t 8),none⟩,
 ⟨some 49,.idx (.t 47) (.t 48),none⟩,
 ⟨some 50,.bin .eql (.t 49) (.c (.i .u8 92)),none⟩,
 ⟨some 46,.mv (.t 50),none⟩])
 (.cond (.t 46)
 (.seq (.reg [⟨some 52,.mv (.t 0),none⟩,
 ⟨some 53,.mv (.t 8),none⟩,
 ⟨some 54,.call 73 [.t 52,.t 53],none⟩,
 ⟨some 51,.mv (.t 54),none⟩,
 ⟨some 55,.ext (.t 51) 0,none⟩,
 ⟨some 56,.ext (.t 51) 1,none⟩,
 ⟨some 57,.ext (.t 51) 2,none⟩,
 ⟨some 9,.mv (.t 55),none⟩,
 ⟨some 10,.mv (.t 56),none⟩,
 ⟨some 11,.mv (.t 57),none⟩])
 (.seq (.seq (.reg [⟨some 58,.mv (.t 11),none⟩,
 ⟨some 59,.bin .neq (.t 58) (.c (.i .i64 0)),none⟩])
 (.cond (.t 59)
 (.seq (.reg [⟨some 60,.mv (.t 11),none⟩,
 ⟨some 4,.mv (.c (.s [])),none⟩,
 ⟨some 5,.mv (.c (.i .i64 0)),none⟩,
 ⟨some 6,.mv (.t 60),none⟩])
 (.ret))
 (.skip)))
 (.reg [⟨some 61,.mv (.t 7),none⟩,
 ⟨some 62,.mv (.t 9),none⟩,
 ⟨some 63,.bin .add (.t 61) (.t 62),none⟩,
 ⟨some 64,.mv (.t 10),none⟩,
 ⟨some 7,.mv (.t 63),none⟩,
 ⟨some 8,.mv (.t 64),none⟩])))
 (.seq (.reg [⟨some 66,.mv (.t 0),none⟩,
 ⟨some 67,.mv (.t 8),none⟩,
 ⟨some 68,.idx (.t 66) (.t 67),none⟩,
 ⟨some 69,.bin .lss (.t 68) (.c (.i .u8 32)),none⟩,
 ⟨some 65,.mv (.t 69),none⟩])
 (.cond (.t 65)
 (.seq (.reg [⟨some 4,.mv (.c (.s [])),none⟩,
 ⟨some 5,.mv (.c (.i .i64 0)),none⟩,
 ⟨some 6,.mv (.c (.i .i64 130)),none⟩])
 (.ret))
 (.seq (.reg [⟨some 22,.mv (.t 0),none⟩,
 ⟨some 23,.mv (.t 8),none⟩,
 ⟨some 24,.call 74 [.t 22,.t 23],none⟩,
 ⟨some 21,.mv (.t 24),none⟩,
 ⟨some 25,.ext (.t 21) 0,none⟩,
 ⟨some 26,.ext (.t 21) 1,none⟩,
 ⟨some 27,.ext (.t 21) 2,none⟩,
 ⟨some 12,.mv (.t 25),none⟩,
 ⟨some 13,.mv (.t 26),none⟩,
 ⟨some 14,.mv (.t 27),none⟩])
 (.seq (.seq (.reg [⟨some 28,.mv (.t 14),none⟩,
 ⟨some 29,.bin .neq (.t 28) (.c (.i .i64 0)),none⟩])
 (.cond (.t 29)
 (.seq (.reg [⟨some 30,.mv (.t 14),none⟩,
 ⟨some 4,.mv (.c (.s [])),none⟩,
 ⟨some 5,.mv (.c (.i .i64 0)),none⟩,
 ⟨some 6,.mv (.t 30),none⟩])
 (.ret))
 (.skip)))
 (.reg [⟨some 31,.mv (.t 7),none⟩,
 ⟨some 32,.mv (.t 0),none⟩,
 ⟨some 33,.mv (.t 8),none⟩,
 ⟨some 34,.mv (.t 13),none⟩,
 ⟨some 35,.slcs (.t 32) (some (.t 33)) (some (.t 34)),none⟩,
 ⟨some 36,.bin .add (.t 31) (.t 35),none⟩,
 ⟨some 37,.mv (.t 13),none⟩,
 ⟨some 7,.mv (.t 36),none⟩,
 ⟨some 8,.mv (.t 37),none⟩])))))))))))))))
 (.seq (.reg [⟨some 4,.mv (.c (.s [])),none⟩,
 ⟨some 5,.mv (.c (.i .i64 0)),none⟩,
 ⟨some 6,.mv (.c (.i .i64 130)),none⟩])
 (.ret))))
theorem is_ref13_text:FnIs Try.prog 68 70 [.tmp 4,.tmp 5,.tmp 6] c_ref13_text:=⟨⟨_,_,Try.func68,rfl,rfl,by kernel_rfl,by kernel_rfl⟩⟩
def c_jsondoc_Get:SCode :=
 .seq (.reg [⟨some 2,.box 25 (.t 0),none⟩,
 ⟨some 4,.alloc 25 [.i .i64 0,.s [],.nil,.nil],none⟩,
 ⟨some 5,.mv (.c (.b false)),none⟩])
 (.seq (.seq (.reg [⟨some 7,.fad 0 (.t 2),none⟩,
 ⟨some 8,.load1 (.t 7),none⟩,
 ⟨some 9,.bin .neq (.t 8) (.c (.i .i64 7)),none⟩])
 (.cond (.t 9)
 (.seq (.reg [⟨some 10,.build [.i .i64 0,.s [],.nil,.nil] [],none⟩,
 ⟨none,.store 4 (.t 4) (.t 10),none⟩,
 ⟨some 5,.mv (.c (.b false)),none⟩])
 (.ret))
 (.skip)))
 (.seq (.reg [⟨some 11,.fad 2 (.t 2),none⟩,
 ⟨some 12,.load1 (.t 11),none⟩,
 ⟨some 13,.mv (.t 1),none⟩,
 ⟨some 14,.call 75 [.t 12,.t 13],none⟩,
 ⟨some 6,.mv (.t 14),none⟩])
 (.seq (.seq (.reg [⟨some 15,.mv (.t 6),none⟩,
 ⟨some 16,.bin .lss (.t 15) (.c (.i .i64 0)),none⟩,
 ⟨some 17,.mv (.t 16),none⟩,
 ⟨some 18,.mv (.t 6),some (17,false)⟩,
 ⟨some 19,.fad 3 (.t 2),some (17,false)⟩,
 ⟨some 20,.load1 (.t 19),some (17,false)⟩,
 ⟨some 21,.lenr (.t 20),some (17,false)⟩,
 ⟨some 22,.bin .geq (.t 18) (.t 21),some (17,false)⟩,
 ⟨some 23,.pick (.t 17) (.c (.b true)) (.t 22),none⟩])
 (.cond (.t 23)
 (.seq (.reg [⟨some 24,.build [.i .i64 0,.s [],.nil,.nil] [],none⟩,
 ⟨none,.store 4 (.t 4) (.t 24),none⟩,
 ⟨some 5,.mv (.c (.b false)),none⟩])
 (.ret))
 (.skip)))
 (.seq (.reg [⟨some 25,.fad 3 (.t 2),none⟩,
 ⟨some 26,.load1 (.t 25),none⟩,
 ⟨some 27,.mv (.t 6),none⟩,
 ⟨some 28,.iad 4 (.t 26) (.t 27),none⟩,
 ⟨some 29,.loadn 4 (.t 28),none⟩,
 ⟨some 30,.call 76 [.t 29],none⟩,
 ⟨none,.store 4 (.t 4) (.t 30),none⟩,
 ⟨some 5,.mv (.c (.b true)),none⟩])
 (.ret)))))
theorem is_jsondoc_Get:FnIs Try.prog 71 31 [.celln 4 4,.tmp 5] c_jsondoc_Get:=⟨⟨_,_,Try.func71,rfl,rfl,by kernel_rfl,by kernel_rfl⟩⟩
def c_ref13_run:SCode :=
 .seq (.reg [⟨some 2,.mv (.c (.i .i64 0)),none⟩])
 (.seq (.reg [⟨some 3,.mv (.c (.i .i64 0)),none⟩])
 (.seq (.blk 0
 (.loop
 (.seq (.seq (.reg [⟨some 4,.mv (.t 3),none⟩,
 ⟨some 5,.mv (.t 0),none⟩,
 ⟨some 6,.lens (.t 5),none⟩,
 ⟨some 7,.bin .lss (.t 4) (.t 6),none⟩,
 ⟨some 8,.mv (.t 7),none⟩,
 ⟨some 9,.mv (.t 0),some (8,true)⟩,
 ⟨some 10,.mv (.t 3),some (8,true)⟩,
 ⟨some 11,.idx (.t 9) (.t 10),some (8,true)⟩,
 ⟨some 12,.call 69 [.t 11],some (8,true)⟩,
 ⟨some 13,.pick (.t 8) (.t 12) (.c (.b false)),none⟩])
 (.cond (.t 13)
 (.skip)
 (.exit 0)))
 (.blk 1
 (.reg [⟨some 14,.mv (.t 3),none⟩,
 ⟨some 15,.bin .add (.t 14) (.c (.i .i64 1)),none⟩,
 ⟨some 3,.mv (.t 15),none⟩])))))
 (.seq (.reg [⟨some 16,.mv (.t 3),none⟩,
 ⟨some 2,.mv (.t 16),none⟩])
 (.ret))))
theorem is_ref13_run:FnIs Try.prog 72 17 [.tmp 2] c_ref13_run:=⟨⟨_,_,Try.func72,rfl,rfl,by kernel_rfl,by kernel_rfl⟩⟩
def c_slices_Index__string_string:SCode :=
 .seq (.reg [⟨some 4,.mv (.c (.i .i64 0)),none⟩])
 (.seq (.seq (.reg [⟨some 6,.mv (.t 0),none⟩,
 ⟨some 7,.lenr (.t 6),none⟩,
 ⟨some 8,.mv (.c (.i .i64 0)),none⟩])
 (.blk 0
 (.loop
 (.seq (.reg [⟨some 9,.bin .lss (.t 8) (.t 7),none⟩])
 (.seq (.cond (.t 9)
 (.skip)
 (.exit 0))
 (.seq (.blk 1
 (.seq (.reg [⟨some 10,.mv (.t 8),none⟩,
 ⟨some 5,.mv (.t 10),none⟩])
 (.seq (.reg [⟨some 11,.mv (.t 1),none⟩,
 ⟨some 12,.mv (.t 0),none⟩,
 ⟨some 13,.mv (.t 5),none⟩,
 ⟨some 14,.iad 1 (.t 12) (.t 13),none⟩,
 ⟨some 15,.load1 (.t 14),none⟩,
 ⟨some 16,.bin .eql (.t 11) (.t 15),none⟩])
 (.cond (.t 16)
 (.seq (.reg [⟨some 17,.mv (.t 5),none⟩,
 ⟨some 4,.mv (.t 17),none⟩])
 (.ret))
 (.skip)))))
 (.reg [⟨some 18,.bin .add (.t 8) (.c (.i .i64 1)),none⟩,
 ⟨some 8,.mv (.t 18),none⟩])))))))
 (.seq (.reg [⟨some 4,.mv (.c (.i .i64 (-1))),none⟩])
 (.ret)))
theorem is_slices_Index__string_string:FnIs Try.prog 75 19 [.tmp 4] c_slices_Index__string_string:=⟨⟨_,_,Try.func75,rfl,rfl,by kernel_rfl,by kernel_rfl⟩⟩
def c_jsondoc_clone:SCode :=
 .seq (.reg [⟨some 1,.box 25 (.t 0),none⟩,
 ⟨some 2,.alloc 25 [.i .i64 0,.s [],.nil,.nil],none⟩])
 (.seq (.reg [⟨some 4,.fad 2 (.t 1),none⟩,
 ⟨some 5,.load1 (.t 4),none⟩,
 ⟨some 6,.call 80 [.t 5],none⟩,
 ⟨some 7,.fad 2 (.t 1),none⟩,
 ⟨none,.store 1 (.t 7) (.t 6),none⟩])
 (.seq (.reg [⟨some 8,.fad 3 (.t 1),none⟩,
 ⟨some 9,.load1 (.t 8),none⟩,
 ⟨some 10,.call 81 [.t 9],none⟩,
 ⟨some 11,.fad 3 (.t 1),none⟩,
 ⟨none,.store 1 (.t 11) (.t 10),none⟩])
 (.seq (.seq (.reg [⟨some 12,.fad 3 (.t 1),none⟩,
 ⟨some 13,.load1 (.t 12),none⟩,
 ⟨some 14,.lenr (.t 13),none⟩,
 ⟨some 15,.mv (.c (.i .i64 0)),none⟩])
 (.blk 0
 (.loop
 (.seq (.reg [⟨some 16,.bin .lss (.t 15) (.t 14),none⟩])
 (.seq (.cond (.t 16)
 (.skip)
 (.exit 0))
 (.seq (.blk 1
 (.seq (.reg [⟨some 17,.mv (.t 15),none⟩,
 ⟨some 3,.mv (.t 17),none⟩])
 (.drw [⟨some 18,.fad 3 (.t 1),none⟩,
 ⟨some 19,.load1 (.t 18),none⟩,
 ⟨some 20,.mv (.t 3),none⟩,
 ⟨some 21,.fad 3 (.t 1),none⟩,
 ⟨some 22,.load1 (.t 21),none⟩,
 ⟨some 23,.mv (.t 3),none⟩,
 ⟨some 24,.iad 4 (.t 22) (.t 23),none⟩,
 ⟨some 25,.loadn 4 (.t 24),none⟩,
 ⟨some 26,.call 76 [.t 25],none⟩,
 ⟨some 27,.iad 4 (.t 19) (.t 20),none⟩,
 ⟨none,.store 4 (.t 27) (.t 26),none⟩] 10 [])))
 (.reg [⟨some 28,.bin .add (.t 15) (.c (.i .i64 1)),none⟩,
 ⟨some 15,.mv (.t 28),none⟩])))))))
 (.seq (.reg [⟨some 29,.loadn 4 (.t 1),none⟩,
 ⟨none,.store 4 (.t 2) (.t 29),none⟩])
 (.ret)))))
theorem is_jsondoc_clone:FnIs Try.prog 76 30 [.celln 2 4] c_jsondoc_clone:=⟨⟨_,_,Try.func76,rfl,rfl,by kernel_rfl,by kernel_rfl⟩⟩
def c_ref13_unit:SCode :=
 .seq (.reg [⟨some 4,.mv (.c (.i .i64 0)),none⟩,
 ⟨some 5,.mv (.c (.b false)),none⟩])
 (.seq (.seq (.reg [⟨some 8,.mv (.t 1),none⟩,
 ⟨some 9,.bin .add (.t 8) (.c (.i .i64 6)),none⟩,
 ⟨some 10,.mv (.t 0),none⟩,
 ⟨some 11,.lens (.t 10),none⟩,
 ⟨some 12,.bin .gtr (.t 9) (.t 11),none⟩,
 ⟨some 13,.mv (.t 12),none⟩,
 ⟨some 14,.mv (.t 0),some (13,false)⟩,
 ⟨some 15,.mv (.t 1),some (13,false)⟩,
 ⟨some 16,.idx (.t 14) (.t 15),some (13,false)⟩,
 ⟨some 17,.bin .neq (.t 16) (.c (.i .u8 92)),some (13,false)⟩,
 ⟨some 18,.pick (.t 13) (.c (.b true)) (.t 17),none⟩,
 ⟨some 19,.mv (.t 18),none⟩,
 ⟨some 20,.mv (.t 0),some (19,false)⟩,
 ⟨some 21,.mv (.t 1),some (19,false)⟩,
 ⟨some 22,.bin .add (.t 21) (.c (.i .i64 1)),some (19,false)⟩,
 ⟨some 23,.idx (.t 20) (.t 22),some (19,false)⟩,
 ⟨some 24,.bin .neq (.t 23) (.c (.i .u8 117)),some (19,false)⟩,
 ⟨some 25,.pick (.t 19) (.c (.b true)) (.t 24),none⟩])
 (.cond (.t 25)
 (.seq (.reg [⟨some 4,.mv (.c (.i .i64 0)),none⟩,
 ⟨some 5,.mv (.c (.b false)),none⟩])
 (.ret))
 (.skip)))
 (.seq (.reg [⟨some 27,.mv (.t 0),none⟩,
 ⟨some 28,.mv (.t 1),none⟩,
 ⟨some 29,.bin .add (.t 28) (.c (.i .i64 2)),none⟩,
 ⟨some 30,.mv (.t 1),none⟩,
 ⟨some 31,.bin .add (.t 30) (.c (.i .i64 6)),none⟩,
 ⟨some 32,.slcs (.t 27) (some (.t 29)) (some (.t 31)),none⟩,
 ⟨some 33,.call 82 [.t 32,.c (.i .u64 65535)],none⟩,
 ⟨some 26,.mv (.t 33),none⟩,
 ⟨some 34,.ext (.t 26) 0,none⟩,
 ⟨some 35,.ext (.t 26) 1,none⟩,
 ⟨some 6,.mv (.t 34),none⟩,
 ⟨some 7,.mv (.t 35),none⟩])
 (.seq (.reg [⟨some 36,.mv (.t 6),none⟩,
 ⟨some 37,.cvi .i64 (.t 36),none⟩,
 ⟨some 38,.mv (.t 7),none⟩,
 ⟨some 39,.bin .eql (.t 38) (.c (.i .i64 0)),none⟩,
 ⟨some 4,.mv (.t 37),none⟩,
 ⟨some 5,.mv (.t 39),none⟩])
 (.ret))))
theorem is_ref13_unit:FnIs Try.prog 77 40 [.tmp 4,.tmp 5] c_ref13_unit:=⟨⟨_,_,Try.func77,rfl,rfl,by kernel_rfl,by kernel_rfl⟩⟩
def c_slices_Clone__string_string:SCode :=
 .seq (.reg [⟨some 2,.mv (.c .nil),none⟩])
 (.seq (.seq (.reg [⟨some 3,.mv (.t 0),none⟩,
 ⟨some 4,.pu (.snil false) [.t 3,.c .nil],none⟩])
 (.cond (.t 4)
 (.seq (.reg [⟨some 2,.mv (.c .nil),none⟩])
 (.ret))
 (.skip)))
 (.seq (.reg [⟨some 5,.mks 9 1 1 (.c (.i .i64 0)) (.c (.i .i64 0)),none⟩,
 ⟨some 6,.mv (.t 0),none⟩,
 ⟨some 7,.app 9 1 16 (.t 5) (.t 6),none⟩,
 ⟨some 2,.mv (.t 7),none⟩])
 (.ret)))
theorem is_slices_Clone__string_string:FnIs Try.prog 80 8 [.tmp 2] c_slices_Clone__string_string:=⟨⟨_,_,Try.func80,rfl,rfl,by kernel_rfl,by kernel_rfl⟩⟩
def c_slices_Clone__api_Value_api_Value:SCode :=
 .seq (.reg [⟨some 2,.mv (.c .nil),none⟩])
 (.seq (.seq (.reg [⟨some 3,.mv (.t 0),none⟩,
 ⟨some 4,.pu (.snil false) [.t 3,.c .nil],none⟩])
 (.cond (.t 4)
 (.seq (.reg [⟨some 2,.mv (.c .nil),none⟩])
 (.ret))
 (.skip)))
 (.seq (.reg [⟨some 5,.mks 25 4 1 (.c (.i .i64 0)) (.c (.i .i64 0)),none⟩,
 ⟨some 6,.mv (.t 0),none⟩,
 ⟨some 7,.app 25 4 72 (.t 5) (.t 6),none⟩,
 ⟨some 2,.mv (.t 7),none⟩])
 (.ret)))
theorem is_slices_Clone__api_Value_api_Value:FnIs Try.prog 81 8 [.tmp 2] c_slices_Clone__api_Value_api_Value:=⟨⟨_,_,Try.func81,rfl,rfl,by kernel_rfl,by kernel_rfl⟩⟩
end Go.Proofs.Ytceenajkieomoaa.Sx
namespace Go.Proofs.Ytceenajkieomoaa
open Go.RowKit Sx
theorem zaU {s:List UInt8} {j:Nat} (hj:j < s.length):s.getD j 0=s[j]:=by
 rw [List.getD_eq_getElem?_getD,List.getElem?_eq_getElem hj]; rfl
theorem wrap_u64 (n:Int) (h0:0 ≤ n) (h1:n < 18446744073709551616):IntKind.u64.wrap n=n:=by
 simp [IntKind.wrap,IntKind.bits,IntKind.signed]
 omega
theorem zdK:maxLen=2 ^ 63 - 1:=rfl
section
variable [Tabs Try.prog] {objs:List OB} {K:List OB → AV → Prop}
theorem ze1 (u:Nat) (hu:u < 18446744073709551616) (hk:K objs (.s (Lib.decDigits u))):zah Try.prog 65 [.i .u64 u] objs K :=
 conv (vs:=[.int .u64 u]) rfl rfl (fun w => zgr u hu w) hk
theorem zh2 (s set:List UInt8) (hs:s.length ≤ maxLen) (ha:set.length ≤ maxLen) (hk:K objs (.i .i64 (zju s set))):zah Try.prog 62 [.s s,.s set] objs K :=
 zml (vs:=[.string (S s),.string (S set)]) rfl rfl (fun w => zjo (S s) (S set) w (by rw [zd3]; exact hs) (by rw [zd3]; exact ha)) hk
theorem zeA (c:UInt8) (hk:K objs (.b (zar c))):zah Try.prog 69 [.i .u8 c.toNat] objs K :=
 zml (vs:=[.int .u8 c.toNat]) rfl rfl (fun w => zgv c w) hk
theorem zky (c:UInt8) (hk:K objs (.b (zdO c))):zah Try.prog 70 [.i .u8 c.toNat] objs K :=
 zml (vs:=[.int .u8 c.toNat]) rfl rfl (fun w => zgw c w) hk
theorem zgu (c:UInt8) (s:List UInt8) (hs:s.length ≤ maxLen) (hk:K objs (.b (zdc c s))):zah Try.prog 67 [.i .u8 c.toNat,.s s] objs K :=
 zml (vs:=[.int .u8 c.toNat,.string (S s)]) rfl rfl (fun w => zg8 c (S s) w (by rw [zd3]; exact hs)) hk
theorem rnHex_k (s:List UInt8) (most:Nat) (hs:s.length ≤ maxLen) (hm:most ≤ 18446744073709551615) (hk:K objs (.tup [.i .u64 (zd7 zca 16 most s).2,.i .i64 (zd7 zca 16 most s).1])):zah Try.prog 82 [.s s,.i .u64 most] objs K :=
 zml (vs:=[.string (S s),.int .u64 most]) rfl rfl (fun w => rHex_any (S s) most w (by rw [zd3]; exact hs) (by omega) (by omega)) hk
end
end Go.Proofs.Ytceenajkieomoaa
namespace Go.Proofs.Ytceenajkieomoaa
open Go.RowKit
end Go.Proofs.Ytceenajkieomoaa
namespace Go.Proofs.Ytceenajkieomoaa
open Go.RowKit
theorem zdo (a:Nat) (ha:a < 9223372036854775808):(BitVec.ofInt 64 (a:Int)).toNat=a:=by
 rw [BitVec.ofInt_natCast,BitVec.toNat_ofNat]; exact Nat.mod_eq_of_lt (by omega)
theorem zcw (a b:Nat) (ha:a < 9223372036854775808) (hb:b < 9223372036854775808):bits .and .i64 (a:Int) (b:Int)=((a &&& b:Nat):Int):=by
 have hx:a &&& b < 2 ^ 63:=Nat.and_lt_two_pow _ (by omega)
 show IntKind.i64.wrap ((BitVec.ofInt 64 (a:Int) &&& BitVec.ofInt 64 (b:Int)).toNat:Int)=_
 rw [BitVec.toNat_and,zdo a ha,zdo b hb,IntKind.wrap_i64]
 omega
theorem zcm (a b:Nat) (ha:a < 9223372036854775808) (hb:b < 9223372036854775808):bits .or .i64 (a:Int) (b:Int)=((a ||| b:Nat):Int):=by
 have hx:a ||| b < 2 ^ 63:=Nat.or_lt_two_pow (by omega) (by omega)
 show IntKind.i64.wrap ((BitVec.ofInt 64 (a:Int) ||| BitVec.ofInt 64 (b:Int)).toNat:Int)=_
 rw [BitVec.toNat_or,zdo a ha,zdo b hb,IntKind.wrap_i64]
 omega
theorem and63 (a:Nat):a &&& 63=a % 64:=Nat.and_two_pow_sub_one_eq_mod a 6
theorem zgA (a b i:Nat) (h:b < 2 ^ i):2 ^ i * a ||| b=2 ^ i * a + b:=(Nat.two_pow_add_eq_or_of_lt h a).symm
theorem zcj (r:Int) (w:World) :
  Calls Try.prog 83 #[.int .i64 r] w fun e w' => e=.returned (.bool (cpB r)) ∧ w=w':=by
 go_enter Try.func83,Try.ntmps83
 go_wp2
 all_goals go_ret
 all_goals exact ⟨zcO (by unfold cpB; first | exact dt (by omega) | exact df (by omega) | (rw [Bool.eq_iff_iff]; simp only [Bool.or_eq_true,Bool.and_eq_true,decide_eq_true_eq]; omega)),rfl⟩
theorem zi6 (r:Nat) (h:r ≤ 4503599627370496):bits .and .i64 (r:Int) 63=((r % 64:Nat):Int):=by
 have h1:=zcw r 63 (by omega) (by omega)
 rw [and63] at h1
 exact h1
theorem or128 (x:Nat) (h:x < 64):bits .or .i64 128 (x:Int)=((128 + x:Nat):Int):=by
 have h2:=zcm 128 x (by omega) (by omega)
 have h3:=zgA 1 x 7 (by omega)
 rw [show (128:Nat) ||| x=128 + x from h3] at h2
 exact h2
theorem or192 (x:Nat) (h:x < 64):bits .or .i64 192 (x:Int)=((192 + x:Nat):Int):=by
 have h2:=zcm 192 x (by omega) (by omega)
 have h3:=zgA 3 x 6 (by omega)
 rw [show (192:Nat) ||| x=192 + x from h3] at h2
 exact h2
theorem or224 (x:Nat) (h:x < 32):bits .or .i64 224 (x:Int)=((224 + x:Nat):Int):=by
 have h2:=zcm 224 x (by omega) (by omega)
 have h3:=zgA 7 x 5 (by omega)
 rw [show (224:Nat) ||| x=224 + x from h3] at h2
 exact h2
theorem or240 (x:Nat) (h:x < 16):bits .or .i64 240 (x:Int)=((240 + x:Nat):Int):=by
 have h2:=zcm 240 x (by omega) (by omega)
 have h3:=zgA 15 x 4 (by omega)
 rw [show (240:Nat) ||| x=240 + x from h3] at h2
 exact h2
theorem or64 (r x:Nat) (hr:r ≤ 4503599627370496) (h:x < 64):bits .or .i64 ((r:Int) * 64) (x:Int)=((r * 64 + x:Nat):Int):=by
 have h2:=zcm (r * 64) x (by omega) (by omega)
 have h3:=zgA r x 6 (by omega)
 rw [show r * 64 ||| x=r * 64 + x from by rw [Nat.mul_comm]; exact h3] at h2
 rw [← h2,Int.natCast_mul]; rfl
structure UTabs (w:World):Prop where
 triv:True
theorem UTabs.keep {w w':World} (h:UTabs w) (hq:Qb w w'):UTabs w':=⟨trivial⟩
def zfZ (r:Int):Int × List UInt8:=if cpB r=true then (0,zdr r.toNat) else (4,[])
theorem encV_1 {n:Nat} (hp:cpB (n:Int)=true) (h:n < 128):zfZ n=(0,(strOfNums [(n:Int)]).data.toList):=by
 unfold zfZ zdr; rw [if_pos hp,Int.toNat_natCast,if_pos h]; rfl
theorem encV_2 {n:Nat} (hp:cpB (n:Int)=true) (h1:¬ n < 128) (h:n < 2048):zfZ n=(0,(strOfNums [192 + (n:Int) / 64,128 + (n:Int) % 64]).data.toList):=by
 unfold zfZ zdr; rw [if_pos hp,Int.toNat_natCast,if_neg h1,if_pos h]
 simp only [strOfNums_data,List.map_cons,List.map_nil,u8b]
 rw [show (192 + (n:Int) / 64).toNat=192 + n / 64 from by omega,show (128 + (n:Int) % 64).toNat=128 + n % 64 from by omega]
theorem encV_3 {n:Nat} (hp:cpB (n:Int)=true) (h1:¬ n < 2048) (h:n < 65536):zfZ n=(0,(strOfNums [224 + (n:Int) / 4096,128 + (n:Int) / 64 % 64,128 + (n:Int) % 64]).data.toList):=by
 unfold zfZ zdr; rw [if_pos hp,Int.toNat_natCast,if_neg (by omega),if_neg h1,if_pos h]
 simp only [strOfNums_data,List.map_cons,List.map_nil,u8b]
 rw [show (224 + (n:Int) / 4096).toNat=224 + n / 4096 from by omega,show (128 + (n:Int) / 64 % 64).toNat=128 + n / 64 % 64 from by omega,show (128 + (n:Int) % 64).toNat=128 + n % 64 from by omega]
theorem encV_4 {n:Nat} (hp:cpB (n:Int)=true) (h1:¬ n < 65536):zfZ n=(0,(strOfNums [240 + (n:Int) / 262144,128 + (n:Int) / 4096 % 64,128 + (n:Int) / 64 % 64,128 + (n:Int) % 64]).data.toList):=by
 unfold zfZ zdr; rw [if_pos hp,Int.toNat_natCast,if_neg (by omega),if_neg (by omega),if_neg h1]
 simp only [strOfNums_data,List.map_cons,List.map_nil,u8b]
 rw [show (240 + (n:Int) / 262144).toNat=240 + n / 262144 from by omega,show (128 + (n:Int) / 4096 % 64).toNat=128 + n / 4096 % 64 from by omega,show (128 + (n:Int) / 64 % 64).toNat=128 + n / 64 % 64 from by omega,show (128 + (n:Int) % 64).toNat=128 + n % 64 from by omega]
theorem cpB_nat {r:Int} (h:cpB r=true):∃ n:Nat,r=n ∧ n ≤ 1114111:=by
 have:=of_decide_eq_true h
 exact ⟨r.toNat,by omega,by omega⟩
end Go.Proofs.Ytceenajkieomoaa
namespace Go.Proofs.Ytceenajkieomoaa
open Go.RowKit
def firstN (c:UInt8) (n:Nat):Nat:=if n=1 then c.toNat else if n=2 then c.toNat % 32 else if n=3 then c.toNat % 16 else c.toNat % 8
theorem and31 (a:Nat):a &&& 31=a % 32:=Nat.and_two_pow_sub_one_eq_mod a 5
theorem and15 (a:Nat):a &&& 15=a % 16:=Nat.and_two_pow_sub_one_eq_mod a 4
theorem and7 (a:Nat):a &&& 7=a % 8:=Nat.and_two_pow_sub_one_eq_mod a 3
def zcJ (l:List UInt8) (at_:Int):Int × Int × Int :=
 if at_ < 0 ∨ (l.length:Int) ≤ at_ then (0,0,4) else match zd2 (l.drop at_.toNat) with
  | none => (0,0,7)
  | some (r,n) => ((r:Int),at_ + n,0)
def triV (x:Int × Int × Int):Value:=.tuple #[.int .i64 x.1,.int .i64 x.2.1,.int .i64 x.2.2]
theorem zjw {l:List UInt8} {a:Int} (h:a < 0 ∨ (l.length:Int) ≤ a):zcJ l a=(0,0,4):=if_pos h
theorem zeH {l:List UInt8} {k:Nat} (h:k < l.length) (hd:zd2 (l.drop k)=none):zcJ l k=(0,0,7):=by
 unfold zcJ; rw [if_neg (by omega),Int.toNat_natCast,hd]
theorem zhy {l:List UInt8} {k r n:Nat} (h:k < l.length) (hd:zd2 (l.drop k)=some (r,n)):zcJ l k=((r:Int),(k:Int) + n,0):=by
 unfold zcJ; rw [if_neg (by omega),Int.toNat_natCast,hd]
end Go.Proofs.Ytceenajkieomoaa
namespace Go.Proofs.Ytceenajkieomoaa
open Go.RowKit
end Go.Proofs.Ytceenajkieomoaa
namespace Go.Proofs.Ytceenajkieomoaa
open Go.RowKit
theorem zmA (q:Int) (h0:0 ≤ q) (h:q ≤ 4503599627370496):bits .and .i64 q 63=q % 64:=by
 obtain ⟨n,rfl⟩:=Int.eq_ofNat_of_zero_le h0
 exact zi6 n (by omega)
theorem zkS (q:Int) (h0:0 ≤ q) (h:q < 64):bits .or .i64 128 q=128 + q:=by
 obtain ⟨n,rfl⟩:=Int.eq_ofNat_of_zero_le h0
 exact or128 n (by omega)
theorem zcD (r:Int) (w:World) :
  Calls Try.prog 78 #[.int .i64 r] w fun e w' => e=.returned (resV (zfZ r)) ∧ Qb w w':=by
 rcases hp:cpB r with _ | _
 ·have he:zfZ r=(4,[]):=by unfold zfZ; rw [hp]; rfl
  rw [he]
  go_enter Try.func78,Try.ntmps78
  go_wp2_with (go_at_call 83; refine (zcj _ _).mono ?_; rintro e w1 ⟨rfl,rfl⟩)
  go_ret2
  exact ⟨rfl,Qb.refl _⟩
 ·obtain ⟨n,rfl,hn⟩:=cpB_nat hp
  have a0:=zmA (n:Int) (by omega) (by omega)
  have a1:=zmA ((n:Int) / 64) (by omega) (by omega)
  have a2:=zmA ((n:Int) / 4096) (by omega) (by omega)
  have o0:=zkS ((n:Int) % 64) (by omega) (by omega)
  have o1:=zkS ((n:Int) / 64 % 64) (by omega) (by omega)
  have o2:=zkS ((n:Int) / 4096 % 64) (by omega) (by omega)
  by_cases h1:n < 128
  ·rw [encV_1 hp h1]
   have hst:=zdu w [(n:Int)] 1 rfl
   simp only [List.map_cons,List.map_nil] at hst
   go_enter Try.func78,Try.ntmps78
   go_wp2_with (go_at_call 83; refine (zcj _ _).mono ?_; rintro e w1 ⟨rfl,rfl⟩)
   go_ret2
   exact ⟨rfl,(Qb.refl _).alloc _⟩
  ·by_cases h2:n < 2048
   ·rw [encV_2 hp h1 h2]
    have hst:=zdu w [192 + (n:Int) / 64,128 + (n:Int) % 64] 2 rfl
    simp only [List.map_cons,List.map_nil] at hst
    have ho:bits .or .i64 192 ((n:Int) / 64)=192 + (n:Int) / 64:=or192 (n / 64) (by omega)
    go_enter Try.func78,Try.ntmps78
    go_wp2_with (go_at_call 83; refine (zcj _ _).mono ?_; rintro e w1 ⟨rfl,rfl⟩)
    go_ret2
    exact ⟨rfl,(Qb.refl _).alloc _⟩
   ·by_cases h3:n < 65536
    ·rw [encV_3 hp h2 h3]
     have hst:=zdu w [224 + (n:Int) / 4096,128 + (n:Int) / 64 % 64,128 + (n:Int) % 64] 3 rfl
     simp only [List.map_cons,List.map_nil] at hst
     have ho:bits .or .i64 224 ((n:Int) / 4096)=224 + (n:Int) / 4096:=or224 (n / 4096) (by omega)
     have hb3:decide ((n:Int) < 65536)=true:=decide_eq_true (by omega)
     have hb1:decide ((n:Int) < 128)=false:=decide_eq_false (by omega)
     have hb2:decide ((n:Int) < 2048)=false:=decide_eq_false (by omega)
     have H3:=Lib.hid h3
     have nb:(n:Int) / 4096 < 16:=by omega
     clear h1 h2 h3
     go_enter Try.func78,Try.ntmps78
     go_wp2_with (go_at_call 83; refine (zcj _ _).mono ?_; rintro e w1 ⟨rfl,rfl⟩)
     go_ret2
     exact ⟨rfl,(Qb.refl _).alloc _⟩
    ·rw [encV_4 hp h3]
     have hst:=zdu w [240 + (n:Int) / 262144,128 + (n:Int) / 4096 % 64,128 + (n:Int) / 64 % 64,128 + (n:Int) % 64] 4 rfl
     simp only [List.map_cons,List.map_nil] at hst
     have ho:bits .or .i64 240 ((n:Int) / 262144)=240 + (n:Int) / 262144:=or240 (n / 262144) (by omega)
     have hb3:decide ((n:Int) < 65536)=false:=decide_eq_false (by omega)
     have nb:(n:Int) / 262144 < 8:=by omega
     have hb1:decide ((n:Int) < 128)=false:=decide_eq_false (by omega)
     have hb2:decide ((n:Int) < 2048)=false:=decide_eq_false (by omega)
     have H3:=Lib.hid h3
     clear h1 h2 h3
     go_enter Try.func78,Try.ntmps78
     go_wp2_with (go_at_call 83; refine (zcj _ _).mono ?_; rintro e w1 ⟨rfl,rfl⟩)
     go_ret2
     exact ⟨rfl,(Qb.refl _).alloc _⟩
def zd9:List UInt8 → Nat → Nat
 | [],r => r
 | c :: t,r => zd9 t (r * 64 + c.toNat % 64)
def zdW:List UInt8 → Nat
 | [] => 0
 | c :: t => zd9 t (firstN c (t.length + 1))
theorem pow4 (i:Nat):4 * 64 ^ (i + 1)=64 * (4 * 64 ^ i):=by rw [Nat.pow_succ]; omega
theorem zhc {i:Nat} (h:i ≤ 4):4 * 64 ^ i ≤ 67108864:=by
 have:i=0 ∨ i=1 ∨ i=2 ∨ i=3 ∨ i=4:=by omega
 rcases this with rfl | rfl | rfl | rfl | rfl <;> decide
theorem zjg (s:ByteArray) (h1:1 ≤ s.size) (h4:s.size ≤ 4) (w:World) :
  Calls Try.prog 79 #[.string s] w fun e w' => e=.returned (.int .i64 (zdW s.data.toList)) ∧ Qb w w':=by
 have hd:=zcH s 0 (by omega)
 rw [List.drop_zero] at hd
 have hv:zdW s.data.toList=zd9 (s.data.toList.drop 1) (firstN s[0] s.size):=by
  conv => lhs; rw [hd]
  rw [zdW,List.length_drop,zaq,show s.size - 1 + 1=s.size from by omega]
 have HV:=Lib.hid hv
 clear hd hv
 have hc:=s[0].toNat_lt
 have a1:bits .and .i64 (s[0].toNat:Int) 31=((s[0].toNat % 32:Nat):Int):=by rw [← and31]; exact zcw s[0].toNat 31 (by omega) (by omega)
 have a2:bits .and .i64 (s[0].toNat:Int) 15=((s[0].toNat % 16:Nat):Int):=by rw [← and15]; exact zcw s[0].toNat 15 (by omega) (by omega)
 have a3:bits .and .i64 (s[0].toNat:Int) 7=((s[0].toNat % 8:Nat):Int):=by rw [← and7]; exact zcw s[0].toNat 7 (by omega) (by omega)
 have H:=Lib.hid (And.intro a1 (And.intro a2 a3))
 clear a1 a2 a3
 have hn:s.size=1 ∨ s.size=2 ∨ s.size=3 ∨ s.size=4:=by omega
 rcases hn with hz | hz | hz | hz
 ·have HE:Hid (zdW s.data.toList=s[0].toNat):=Lib.hid (by rw [HV.out,List.drop_of_length_le (by rw [zaq]; omega),hz]; rfl)
  go_enter Try.func79,Try.ntmps79
  go_wp2_with fail
  go_ret
  exact ⟨zdG (by rw [HE.out]),Qb.refl _⟩
 ·have HE:Hid (zdW s.data.toList=zd9 (s.data.toList.drop 1) (s[0].toNat % 32)):=Lib.hid (by rw [HV.out,hz]; rfl)
  have HA:Hid (bits .and .i64 (s[0].toNat:Int) 31=((s[0].toNat % 32:Nat):Int)):=Lib.hid H.out.1
  go_enter Try.func79,Try.ntmps79
  go_wp2_with fail
  go_quiet (fail)
  go_wp2_with fail
  rw [HA.out]
  go_loop [3,4] (fun r x => ∃ i q:Nat,1 ≤ i ∧ i ≤ s.size ∧ x=.int .i64 i ∧ r=.int .i64 q ∧ q < 4 * 64 ^ i ∧ Hid (zdW s.data.toList=zd9 (s.data.toList.drop i) q)) (fun _ x => s.size - (intOf x).toNat)
  case atStart => exact ⟨1,s[0].toNat % 32,Nat.le_refl _,h1,rfl,rfl,by omega,HE⟩
  case round =>
   obtain ⟨i,q,hi1,hi,rfl,rfl,hq,HR⟩:=hrel
   have hp:=zhc (show i ≤ 4 by omega)
   have hq2:q < 67108864:=by omega
   have HP:=Lib.hid (pow4 i)
   have Hq:=Lib.hid hq
   clear hp hq
   by_cases hlt:i < s.size
   ·have hcc:=s[i].toNat_lt
    have HO:Hid (bits .or .i64 ((q:Int) * 64) (bits .and .i64 (s[i].toNat:Int) 63)=((q * 64 + s[i].toNat % 64:Nat):Int)):=Lib.hid (by rw [zi6 s[i].toNat (by omega)]; exact or64 q (s[i].toNat % 64) (by omega) (by omega))
    have HN:Hid (zdW s.data.toList=zd9 (s.data.toList.drop (i + 1)) (q * 64 + s[i].toNat % 64)):=Lib.hid (by rw [HR.out,zcH s i hlt]; rfl)
    go_wp2_with fail
    go_round
    case rel =>
     refine ⟨i + 1,q * 64 + s[i].toNat % 64,by omega,by omega,by go_num,by rw [HO.out],?_,HN⟩
     rw [HP.out]
     have:=Hq.out
     generalize 4 * 64 ^ i=P at *
     omega
    case measure => simp [intOf]; omega
   ·have HN:Hid (zdW s.data.toList=q):=Lib.hid (by rw [HR.out,List.drop_of_length_le (by rw [zaq]; omega)]; rfl)
    go_wp2_with fail
    go_ret
    exact ⟨zdG (by rw [HN.out]),(Qb.refl _).drewN _⟩
 ·have HE:Hid (zdW s.data.toList=zd9 (s.data.toList.drop 1) (s[0].toNat % 16)):=Lib.hid (by rw [HV.out,hz]; rfl)
  have HA:Hid (bits .and .i64 (s[0].toNat:Int) 15=((s[0].toNat % 16:Nat):Int)):=Lib.hid H.out.2.1
  go_enter Try.func79,Try.ntmps79
  go_wp2_with fail
  go_quiet (fail)
  go_wp2_with fail
  rw [HA.out]
  go_loop [3,4] (fun r x => ∃ i q:Nat,1 ≤ i ∧ i ≤ s.size ∧ x=.int .i64 i ∧ r=.int .i64 q ∧ q < 4 * 64 ^ i ∧ Hid (zdW s.data.toList=zd9 (s.data.toList.drop i) q)) (fun _ x => s.size - (intOf x).toNat)
  case atStart => exact ⟨1,s[0].toNat % 16,Nat.le_refl _,h1,rfl,rfl,by omega,HE⟩
  case round =>
   obtain ⟨i,q,hi1,hi,rfl,rfl,hq,HR⟩:=hrel
   have hp:=zhc (show i ≤ 4 by omega)
   have hq2:q < 67108864:=by omega
   have HP:=Lib.hid (pow4 i)
   have Hq:=Lib.hid hq
   clear hp hq
   by_cases hlt:i < s.size
   ·have hcc:=s[i].toNat_lt
    have HO:Hid (bits .or .i64 ((q:Int) * 64) (bits .and .i64 (s[i].toNat:Int) 63)=((q * 64 + s[i].toNat % 64:Nat):Int)):=Lib.hid (by rw [zi6 s[i].toNat (by omega)]; exact or64 q (s[i].toNat % 64) (by omega) (by omega))
    have HN:Hid (zdW s.data.toList=zd9 (s.data.toList.drop (i + 1)) (q * 64 + s[i].toNat % 64)):=Lib.hid (by rw [HR.out,zcH s i hlt]; rfl)
    go_wp2_with fail
    go_round
    case rel =>
     refine ⟨i + 1,q * 64 + s[i].toNat % 64,by omega,by omega,by go_num,by rw [HO.out],?_,HN⟩
     rw [HP.out]
     have:=Hq.out
     generalize 4 * 64 ^ i=P at *
     omega
    case measure => simp [intOf]; omega
   ·have HN:Hid (zdW s.data.toList=q):=Lib.hid (by rw [HR.out,List.drop_of_length_le (by rw [zaq]; omega)]; rfl)
    go_wp2_with fail
    go_ret
    exact ⟨zdG (by rw [HN.out]),(Qb.refl _).drewN _⟩
 ·have HE:Hid (zdW s.data.toList=zd9 (s.data.toList.drop 1) (s[0].toNat % 8)):=Lib.hid (by rw [HV.out,hz]; rfl)
  have HA:Hid (bits .and .i64 (s[0].toNat:Int) 7=((s[0].toNat % 8:Nat):Int)):=Lib.hid H.out.2.2
  go_enter Try.func79,Try.ntmps79
  go_wp2_with fail
  go_quiet (fail)
  go_wp2_with fail
  rw [HA.out]
  go_loop [3,4] (fun r x => ∃ i q:Nat,1 ≤ i ∧ i ≤ s.size ∧ x=.int .i64 i ∧ r=.int .i64 q ∧ q < 4 * 64 ^ i ∧ Hid (zdW s.data.toList=zd9 (s.data.toList.drop i) q)) (fun _ x => s.size - (intOf x).toNat)
  case atStart => exact ⟨1,s[0].toNat % 8,Nat.le_refl _,h1,rfl,rfl,by omega,HE⟩
  case round =>
   obtain ⟨i,q,hi1,hi,rfl,rfl,hq,HR⟩:=hrel
   have hp:=zhc (show i ≤ 4 by omega)
   have hq2:q < 67108864:=by omega
   have HP:=Lib.hid (pow4 i)
   have Hq:=Lib.hid hq
   clear hp hq
   by_cases hlt:i < s.size
   ·have hcc:=s[i].toNat_lt
    have HO:Hid (bits .or .i64 ((q:Int) * 64) (bits .and .i64 (s[i].toNat:Int) 63)=((q * 64 + s[i].toNat % 64:Nat):Int)):=Lib.hid (by rw [zi6 s[i].toNat (by omega)]; exact or64 q (s[i].toNat % 64) (by omega) (by omega))
    have HN:Hid (zdW s.data.toList=zd9 (s.data.toList.drop (i + 1)) (q * 64 + s[i].toNat % 64)):=Lib.hid (by rw [HR.out,zcH s i hlt]; rfl)
    go_wp2_with fail
    go_round
    case rel =>
     refine ⟨i + 1,q * 64 + s[i].toNat % 64,by omega,by omega,by go_num,by rw [HO.out],?_,HN⟩
     rw [HP.out]
     have:=Hq.out
     generalize 4 * 64 ^ i=P at *
     omega
    case measure => simp [intOf]; omega
   ·have HN:Hid (zdW s.data.toList=q):=Lib.hid (by rw [HR.out,List.drop_of_length_le (by rw [zaq]; omega)]; rfl)
    go_wp2_with fail
    go_ret
    exact ⟨zdG (by rw [HN.out]),(Qb.refl _).drewN _⟩
end Go.Proofs.Ytceenajkieomoaa
namespace Go.Proofs.Ytceenajkieomoaa
open Go.RowKit
theorem valN_enc {r:Nat} (h:cpB (r:Int)=true):zdW (zdr r)=r:=by
 have hr:=(of_decide_eq_true h).2.1
 unfold zdr
 by_cases h1:r < 128
 ·rw [if_pos h1]
  show (u8b r).toNat=r
  exact zaJ (by omega)
 rw [if_neg h1]
 by_cases h2:r < 2048
 ·rw [if_pos h2]
  show (u8b (192 + r / 64)).toNat % 32 * 64 + (u8b (128 + r % 64)).toNat % 64=r
  rw [zaJ (by omega),zaJ (by omega)]; omega
 rw [if_neg h2]
 by_cases h3:r < 65536
 ·rw [if_pos h3]
  show ((u8b (224 + r / 4096)).toNat % 16 * 64 + (u8b (128 + r / 64 % 64)).toNat % 64) * 64 + (u8b (128 + r % 64)).toNat % 64=r
  rw [zaJ (by omega),zaJ (by omega),zaJ (by omega)]; omega
 ·rw [if_neg h3]
  show (((u8b (240 + r / 262144)).toNat % 8 * 64 + (u8b (128 + r / 4096 % 64)).toNat % 64) * 64 + (u8b (128 + r / 64 % 64)).toNat % 64) * 64 + (u8b (128 + r % 64)).toNat % 64=r
  rw [zaJ (by omega),zaJ (by omega),zaJ (by omega),zaJ (by omega)]; omega
def zho (l:List UInt8):Bool:=decide ((zfZ (zdW l)).1=0) && ((zfZ (zdW l)).2 == l)
theorem zlK {l:List UInt8} {n:Nat} (hn:n ≤ l.length) (h:zho (l.take n)=true):zd2 l=some (zdW (l.take n),n):=by
 unfold zho at h
 rw [Bool.and_eq_true,decide_eq_true_eq,beq_iff_eq] at h
 rcases hc:cpB (zdW (l.take n):Int) with _ | _
 ·have:=h.1
  unfold zfZ at this
  rw [hc,if_neg Bool.false_ne_true] at this
  exact absurd this (by decide)
 ·have h2:=h.2
  unfold zfZ at h2
  rw [hc,if_pos rfl,Int.toNat_natCast] at h2
  exact zhw hc h2 hn
theorem isEnc_no {l:List UInt8} {n r:Nat} (h:zd2 l=some (r,n)):zho (l.take n)=true:=by
 have hb:=zcV h
 have hv:zdW (l.take n)=r:=by rw [← hb.2.1]; exact valN_enc hb.1
 unfold zho zfZ
 rw [hv,hb.1,if_pos rfl,Int.toNat_natCast,hb.2.1]
 simp
theorem zgx (s:ByteArray) (a:Int) (w:World) (hs:s.size ≤ 140737488351232) :
  Calls Try.prog 74 #[.string s,.int .i64 a] w fun e w' => e=.returned (triV (zcJ s.data.toList a)) ∧ Qb w w':=by
 by_cases h:a < 0 ∨ (s.size:Int) ≤ a
 ·rw [zjw (by rw [zaq]; exact h)]
  by_cases h0:a < 0
  ·clear h
   go_enter Try.func74,Try.ntmps74
   go_wp2_with fail
   go_ret3
   exact ⟨rfl,Qb.refl _⟩
  ·have h1:(s.size:Int) ≤ a:=by omega
   clear h
   go_enter Try.func74,Try.ntmps74
   go_wp2_with fail
   go_ret3
   exact ⟨rfl,Qb.refl _⟩
 ·obtain ⟨k,rfl⟩:=Int.eq_ofNat_of_zero_le (show 0 ≤ a by omega)
  have hk:k < s.size:=by omega
  clear h
  have hb0:decide ((k:Int) < 0)=false:=decide_eq_false (by omega)
  have hbs:decide (s.size ≤ k)=false:=decide_eq_false (by omega)
  go_enter Try.func74,Try.ntmps74
  go_wp2_with fail
  go_loopw [7,8,9,10] (fun x _ _ _ wr => ∃ n:Nat,1 ≤ n ∧ n ≤ 5 ∧ x=.int .i64 n ∧ Hid (∀ r m,zd2 (s.data.toList.drop k)=some (r,m) → n ≤ m) ∧ Qb w wr) (fun x _ _ _ _ => 5 - (intOf x).toNat)
  case atStart => exact ⟨1,Nat.le_refl _,by omega,rfl,Lib.hid fun r m hd => (zcV hd).2.2.2.1,Qb.refl w⟩
  case round =>
   obtain ⟨n,h1,h5,rfl,HM,hq⟩:=hrel
   by_cases hlt:n ≤ 4 ∧ k + n ≤ s.size
   ·obtain ⟨h4,hle⟩:=hlt
    have hx:Hid ((s.extract k (k + n)).data.toList=(s.data.toList.drop k).take n):=Lib.hid (by rw [Lib.extract_data,Nat.add_sub_cancel_left])
    have hsz:=size_extract s k (k + n) hle
    have hz1:1 ≤ (s.extract k (k + n)).size:=by omega
    have hz4:(s.extract k (k + n)).size ≤ 4:=by omega
    clear hsz
    go_wp2_with fail
    refine (zjg _ hz1 hz4 _).mono ?_
    rintro e w1 ⟨rfl,hq1⟩
    rw [hx.out]
    rcases hi:zho ((s.data.toList.drop k).take n) with _ | _
    ·have HN:Hid (∀ r m,zd2 (s.data.toList.drop k)=some (r,m) → n + 1 ≤ m):=Lib.hid fun r m hd => by
      have h6:=HM.out r m hd
      have h7:n ≠ m:=by
       rintro rfl
       rw [isEnc_no hd] at hi; cases hi
      omega
     obtain ⟨er,eb,hres,hor⟩:∃ er eb,resV (zfZ (zdW ((s.data.toList.drop k).take n)))=.tuple #[.string eb,.int .i64 er] ∧ ((er == 0)=false ∨ (eb.toList == (s.extract k (k + n)).toList)=false):=by
      refine ⟨_,_,rfl,?_⟩
      unfold zho at hi
      rw [Bool.and_eq_false_iff,decide_eq_false_iff_not,beq_eq_false_iff_ne] at hi
      rcases hi with hi | hi
      ·exact .inl (beq_eq_false_iff_ne.2 hi)
      ·refine .inr (beq_eq_false_iff_ne.2 fun e => hi ?_)
       rw [ByteArray.toList_eq,ByteArray.toList_eq,hx.out] at e
       exact e
     have HR:=Lib.hid hres
     clear hres hi
     generalize zdW ((s.data.toList.drop k).take n)=q at *
     go_wp2_with fail
     refine (zcD _ _).mono ?_
     rintro e w2 ⟨rfl,hq2⟩
     rw [HR.out]
     rcases hor with ho | ho
     ·go_wp2_with fail
      go_roundw
      case rel => exact ⟨n + 1,by omega,by omega,by go_num,HN,(hq.trans hq1).trans hq2⟩
      case measure => simp [intOf]; omega
     ·by_cases he:er=0
      ·subst he
       go_wp2_with fail
       go_roundw
       case rel => exact ⟨n + 1,by omega,by omega,by go_num,HN,(hq.trans hq1).trans hq2⟩
       case measure => simp [intOf]; omega
      ·have he1:(er == 0)=false:=beq_eq_false_iff_ne.2 he
       clear he
       go_wp2_with fail
       go_roundw
       case rel => exact ⟨n + 1,by omega,by omega,by go_num,HN,(hq.trans hq1).trans hq2⟩
       case measure => simp [intOf]; omega
    ·have HD:=Lib.hid (zlK (by rw [List.length_drop,zaq]; omega) hi)
     have hres:resV (zfZ (zdW ((s.data.toList.drop k).take n)))=.tuple #[.string (s.extract k (k + n)),.int .i64 0]:=by
      unfold zho at hi
      rw [Bool.and_eq_true,decide_eq_true_eq,beq_iff_eq] at hi
      unfold resV
      rw [hi.1,hi.2,← hx.out]
     have HR:=Lib.hid hres
     clear hres hi
     generalize zdW ((s.data.toList.drop k).take n)=q at *
     go_wp2_with fail
     refine (zcD _ _).mono ?_
     rintro e w2 ⟨rfl,hq2⟩
     rw [HR.out]
     go_wp2_with fail
     go_ret3
     exact ⟨by rw [zhy (by rw [zaq]; exact hk) HD.out]; rfl,(hq.trans hq1).trans hq2⟩
   ·have HN:Hid (zd2 (s.data.toList.drop k)=none):=Lib.hid (by
     rcases hd:zd2 (s.data.toList.drop k) with _ | ⟨r,m⟩
     ·rfl
     ·have h6:=HM.out r m hd
      have hb:=zcV hd
      have hb1:=hb.2.2.1
      rw [List.length_drop,zaq] at hb1
      omega)
    by_cases h4:n ≤ 4
    ·have hgt:s.size < k + n:=by omega
     clear hlt
     go_wp2_with fail
     go_ret3
     exact ⟨by rw [zeH (by rw [zaq]; exact hk) HN.out]; rfl,hq⟩
    ·clear hlt
     go_wp2_with fail
     go_ret3
     exact ⟨by rw [zeH (by rw [zaq]; exact hk) HN.out]; rfl,hq⟩
end Go.Proofs.Ytceenajkieomoaa
namespace Go.Proofs.Ytceenajkieomoaa
open Go.RowKit
end Go.Proofs.Ytceenajkieomoaa
namespace Go.Proofs.Ytceenajkieomoaa
open Go.RowKit Sx
class Utf (P:Program) [Tabs P]:Prop where
 ut:∀ w:World,Tabs.T (P:=P) w → UTabs w
section
variable [Tabs Try.prog] {objs:List OB} {K:List OB → AV → Prop}
theorem zjh (s:List UInt8) (a:Int) (hs:s.length ≤ 140737488351232) (hk:K objs (.tup [.i .i64 (zcJ s a).1,.i .i64 (zcJ s a).2.1,.i .i64 (zcJ s a).2.2])):zah Try.prog 74 [.s s,.i .i64 a] objs K :=
 conv (vs:=[.string (S s),.int .i64 a]) rfl rfl (fun w => zgx (S s) a w (by rw [zd3]; exact hs)) hk
end
end Go.Proofs.Ytceenajkieomoaa
namespace Go.Proofs.Ytceenajkieomoaa.Sx
open Go.RowKit
theorem zf6 {k:IntKind} {r:Int} {K K':Int → Prop} (hk:∀ v,K v → K' v) (h:arK k r K):arK k r K':=by
 cases k
 all_goals first | exact hk _ h | exact ⟨h.1,hk _ h.2⟩
theorem zmu {op:BinOp} {x y:AV} {K K':AV → Prop} (hk:∀ v,K v → K' v) (h:binK op x y K):binK op x y K':=by
 unfold binK at h ⊢
 split at h
 ·refine ⟨h.1,?_⟩
  replace h:=h.2
  cases op
  all_goals first
   | exact h.elim
   | exact zf6 (fun _ g => hk _ g) h
   | exact ⟨h.1,zf6 (fun _ g => hk _ g) h.2⟩
   | exact ⟨h.1,hk _ h.2⟩
   | exact hk _ h
 all_goals
  revert h
  cases op
  all_goals first
   | exact fun h => h.elim
   | exact fun h => ⟨h.1,hk _ h.2⟩
   | exact fun h => hk _ h
section
variable {P:Program} [Tabs P] {C:Cx}
theorem zea {so:SOp} {objs:List OB} {tm:List AV} {K K':List OB → AV → Prop} (hk:∀ o v,K o v → K' o v) (h:wpS P so objs tm K):wpS P so objs tm K':=by
 cases so
 all_goals simp only [wpS] at h ⊢
 all_goals try exact hk _ _ h
 all_goals try exact ⟨h.1,hk _ _ h.2⟩
 all_goals try exact zmu (fun _ g => hk _ _ g) h
 all_goals try exact h.mono hk
 all_goals try exact ⟨h.1,h.2.mono fun _ _ g => ⟨g.1,hk _ _ g.2⟩⟩
 all_goals
  revert h
  repeat' split
  all_goals first
   | exact fun h => h.elim
   | exact fun h => hk _ _ h
   | exact fun h => ⟨h.1,hk _ _ h.2⟩
   | exact fun h => zf6 (fun _ g => hk _ _ g) h
   | exact fun h => ⟨fun e => hk _ _ (h.1 e),fun e => hk _ _ (h.2 e)⟩
   | exact fun ⟨v,h1,h2⟩ => ⟨v,h1,hk _ _ h2⟩
   | exact fun ⟨h0,l,h1,h2⟩ => ⟨h0,l,h1,hk _ _ h2⟩
   | exact fun h => ⟨h.1,h.2.mono hk⟩
theorem zaR:∀ {l:List SO} {objs:List OB} {tm:List AV} {K K':List OB → List AV → Prop},(∀ o t,K o t → K' o t) → wpR P l objs tm K → wpR P l objs tm K'
 | [],_,_,_,_,hk,h => hk _ _ h
 | ⟨dst,op,none⟩ :: r,_,_,_,_,hk,h => zea (fun _ _ g => zaR hk g) h
 | ⟨dst,op,some (t,want)⟩ :: r,objs,tm,K,K',hk,h => by
  simp only [wpR] at h ⊢
  revert h
  split
  ·exact fun h => ⟨fun e => zea (fun _ _ g => zaR hk g) (h.1 e),fun e => zaR hk (h.2 e)⟩
  ·exact fun h => zaR hk h
  ·exact fun h => h.elim
theorem zcs:∀ {l:List SO} {objs:List OB} {tm:List AV} {K K':List OB → List AV → Prop},(∀ o t,K o t → K' o t) → wpD P l objs tm K → wpD P l objs tm K'
 | [],_,_,_,_,hk,h => hk _ _ h
 | ⟨dst,op,none⟩ :: r,_,_,_,_,hk,h => by
  simp only [wpD] at h ⊢
  revert h
  split
  ·exact fun ⟨v,h1,h2⟩ => ⟨v,h1,zcs hk h2⟩
  ·exact fun h => zea (fun _ _ g => zcs hk g) h
 | ⟨dst,op,some (t,want)⟩ :: r,objs,tm,K,K',hk,h => by
  simp only [wpD] at h ⊢
  revert h
  split
  ·refine fun h => ⟨fun e => ?_,fun e => zcs hk (h.2 e)⟩
   have h1:=h.1 e
   revert h1
   split
   ·exact fun ⟨v,h1,h2⟩ => ⟨v,h1,zcs hk h2⟩
   ·exact fun h => zea (fun _ _ g => zcs hk g) h
  ·exact fun h => zcs hk h
  ·exact fun h => h.elim
theorem zjd {N N':List OB → List AV → Prop} {K K':zaG} (hn:∀ o t,N o t → N' o t) (hk:∀ e o t,K e o t → K' e o t):∀ e o t,zd5 N K e o t → zd5 N' K' e o t:=by
 intro e o t h
 cases e <;> first | exact hn _ _ h | exact hk _ _ _ h
theorem zmt {id:Nat} {K K':zaG} (hk:∀ e o t,K e o t → K' e o t):∀ e o t,blkK id K e o t → blkK id K' e o t:=by
 intro e o t h
 cases e
 all_goals try exact hk _ _ _ h
 rename_i i
 unfold blkK at h ⊢
 simp only at h ⊢
 split at h
 ·rename_i g; rw [if_pos g]; exact hk _ _ _ h
 ·rename_i g; rw [if_neg g]; exact hk _ _ _ h
theorem zfl:∀ (st:List (List SO × SO)) (h:List (List SO × List AV × List AV)) (last:List SO) (o:List OB) (t:List AV) {K K':List OB → List AV → Prop},(∀ o t,K o t → K' o t) → wpT P st h last o t K → wpT P st h last o t K'
 | [],h,last,o,t,K,K',hk,g => zaR hk g
 | (L,c) :: st,h,last,o,t,K,K',hk,g => zaR (fun _ _ g => zaR (fun _ _ g => ⟨g.1,zfl st _ last _ _ hk g.2⟩) g) g
theorem zhI (d:Nat) (T:TypeId) (z:List AV):∀ (st:List (List SO × SO)) (h:List (List SO × List AV × List AV)) (last:List SO) (o:List OB) (t:List AV) {K K':List OB → List AV → Prop},(∀ o t,K o t → K' o t) → wpB P d T z st h last o t K → wpB P d T z st h last o t K'
 | [],h,last,o,t,K,K',hk,g => zaR (fun _ _ g => ⟨g.1,hk _ _ g.2⟩) g
 | (L,c) :: st,h,last,o,t,K,K',hk,g => zaR (fun _ _ g => ⟨⟨g.1.1,zaR (fun _ _ g => ⟨g.1,zfl st _ last _ _ hk g.2⟩) g.1.2⟩,zaR (fun _ _ g => ⟨g.1,zhI d T z st _ last _ _ hk g.2⟩) g.2⟩) g
theorem zcM:∀ (c:SCode) {K K':zaG} {objs:List OB} {tm:List AV},(∀ e o t,K e o t → K' e o t) → wpC P C c K objs tm → wpC P C c K' objs tm
 | .skip,_,_,_,_,hk,h => hk _ _ _ h
 | .reg l,_,_,_,_,hk,h => zaR (fun _ _ g => hk _ _ _ g) h
 | .drw l k ap,_,_,_,_,hk,h => zcs (fun _ _ g => ⟨g.1,zaR (fun _ _ g => hk _ _ _ g) g.2⟩) h
 | .crg pre cl post,_,_,_,_,hk,h => zaR (fun _ _ g => zaR (fun _ _ g => ⟨g.1,zaR (fun _ _ g => hk _ _ _ g) g.2⟩) g) h
 | .crs st last,_,_,_,_,hk,h => zfl st [] last _ _ (fun _ _ g => hk _ _ _ g) h
 | .cra d T z st last sr,_,_,_,_,hk,h => ⟨h.1,zhI d T z st [] last _ _ (fun _ _ g => zaR (fun _ _ g => hk _ _ _ g) g) h.2⟩
 | .seq x y,_,_,_,_,hk,h => zcM x (zjd (fun _ _ g => zcM y hk g) hk) h
 | .cond c x y,_,_,_,_,hk,h => by
  simp only [wpC] at h ⊢
  revert h
  split
  ·exact fun h => ⟨fun e => zcM x hk (h.1 e),fun e => zcM y hk (h.2 e)⟩
  ·exact fun h => h.elim
 | .blk id c,_,_,_,_,hk,h => zcM c (zmt hk) h
 | .loop c,_,_,_,_,hk,h => fun c hc => WP.mono (fun e o t g => by cases e <;> first | exact hk _ _ _ g | exact g) (h c hc)
 | .exit id,_,_,_,_,hk,h => hk _ _ _ h
 | .ret,_,_,_,_,hk,h => hk _ _ _ h
 | .dead,_,_,_,_,hk,h => h.elim
def cutF (P:Program) [Tabs P] (C:Cx) (J:List OB → List AV → Prop) (k:List IT) (F:zaG):zaG:=zd5 J (zeK P C F k)
variable {F:zaG} {k:List IT} {objs:List OB} {tm:List AV}
theorem zac (J:List OB → List AV → Prop):cutF P C J k F .normal objs tm=J objs tm:=Eq.trans rfl rfl
theorem zbq (J:List OB → List AV → Prop) (id:Nat):cutF P C J k F (.exit id) objs tm=xit P C id k objs tm F:=Eq.trans rfl rfl
theorem cutF_ret (J:List OB → List AV → Prop):cutF P C J k F .ret objs tm=F .ret objs tm:=zb7 k
theorem zaz {x:SCode} (J:List OB → List AV → Prop) (h:run P C [.code x] objs tm (cutF P C J k F)) (hJ:∀ o t,J o t → run P C k o t F):run P C (.code x :: k) objs tm F :=
 zcM x (fun e o t g => by
  cases e
  ·exact hJ _ _ g
  all_goals exact g) h
end
end Go.Proofs.Ytceenajkieomoaa.Sx
namespace Go.Proofs.Ytceenajkieomoaa.Sx
open Go.RowKit
section
variable {P:Program} [Tabs P] {C:Cx} {F:zaG} {k:List IT} {objs:List OB} {tm:List AV}
theorem zaa {x y:SCode} (h:∀ Y,Y=y → run P C (.code x :: .code Y :: k) objs tm F):run P C (.code (.seq x y) :: k) objs tm F:=h y rfl
theorem zaY (J:List AV → Prop) (h:J tm) (hk:∀ t,J t → run P C k objs t F):run P C k objs tm F:=hk tm h
end
end Go.Proofs.Ytceenajkieomoaa.Sx
namespace Go.Proofs.Ytceenajkieomoaa
open Go.RowKit Sx
theorem iv {k:IntKind} {x y:Int} (h:x=y):some (AV.i k x)=some (AV.i k y):=by rw [h]
theorem run_at (s:List UInt8) (i:Nat) (h:i < s.length):za5 (s.drop i)=if zar s[i]=true then za5 (s.drop (i + 1)) + 1 else 0:=by
 rw [List.drop_eq_getElem_cons h,za5]
theorem run_end (s:List UInt8):za5 (s.drop s.length)=0:=by rw [List.drop_length]; rfl
theorem get_some {s:List UInt8} {i:Nat} (h:i < s.length) {c:UInt8}:(s[i]? = some c) ↔ s[i]=c:=by
 rw [List.getElem?_eq_getElem h,Option.some.injEq]
theorem zcU {s:List UInt8} {i:Nat} (h:¬ i < s.length) {c:UInt8}:¬ s[i]? = some c:=by
 rw [List.getElem?_eq_none (by omega)]; simp
theorem zdx {c:UInt8} {k:Nat} (hk:k < 256):(((c.toNat:Nat):Int)=((k:Nat):Int)) ↔ c=UInt8.ofNat k:=by
 constructor
 ·intro h
  have h2:c.toNat=k:=by omega
  rw [← h2]; simp
 ·rintro rfl
  rw [UInt8.toNat_ofNat']; omega
theorem zjC {s:List UInt8} {i:Nat} (h:i < s.length) (k:Nat) (hk:k < 256):s[i]? = some (UInt8.ofNat k) ↔ ((s[i].toNat:Nat):Int)=((k:Nat):Int):=by
 rw [get_some h]
 exact (zdx hk).symm
theorem zeG (s:List UInt8) (a i:Nat):(s.drop a)[i]? = s[a + i]?:=List.getElem?_drop
section
variable [Tabs Try.prog] {objs:List OB} {K:List OB → AV → Prop}
end
end Go.Proofs.Ytceenajkieomoaa
namespace Go.Proofs.Ytceenajkieomoaa
open Go.RowKit Sx
section
variable [Tabs Try.prog] {objs:List OB} {K:List OB → AV → Prop}
end
end Go.Proofs.Ytceenajkieomoaa
namespace Go.Proofs.Ytceenajkieomoaa
open Go.RowKit Sx
end Go.Proofs.Ytceenajkieomoaa
namespace Go.Proofs.Ytceenajkieomoaa
open Go.RowKit Sx
theorem zdf {c:UInt8} (h:zar c=true):c.toNat < 128 ∧ ([101,69]:List UInt8).contains c=false ∧ c ≠ 46:=by
 have:=zf2 h
 refine ⟨by omega,?_,?_⟩
 ·have h1:c ≠ 101:=fun e => by subst e; exact absurd this (by decide)
  have h2:c ≠ 69:=fun e => by subst e; exact absurd this (by decide)
  simp [h1,h2]
 ·rintro rfl; exact absurd this (by decide)
def NumS.body (p:NumS):List UInt8:=p.int ++ (frT p.fr ++ exT p.ex)
theorem frT_mem {f:List UInt8} (hf:f.all zar=true):∀ c ∈ frT f,c.toNat < 128 ∧ ([101,69]:List UInt8).contains c=false:=by
 intro c hc
 cases f with
 | nil => cases hc
 | cons a t =>
  have hc:c=46 ∨ c ∈ a :: t:=by simpa [frT] using hc
  rcases hc with rfl | hc
  ·exact ⟨by decide,by decide⟩
  ·have:=zdf (List.all_eq_true.1 hf c hc)
   exact ⟨this.1,this.2.1⟩
theorem zmk {p:NumS} (hp:p.Good):ziX 46 (p.int ++ frT p.fr)=(p.int,p.fr,!p.fr.isEmpty):=by
 have key:∀ (u v:List UInt8),(∀ c ∈ u,c ≠ 46) → ziX 46 (u ++ v)=(u ++ (ziX 46 v).1,(ziX 46 v).2.1,(ziX 46 v).2.2):=by
  intro u v
  induction u with
  | nil => intro _; rfl
  | cons c u ih =>
   intro h
   rw [List.cons_append,zeI,if_neg (h c (by simp)),ih (fun x hx => h x (by simp [hx]))]
   rfl
 rw [key _ _ (fun c hc => (zdf (List.all_eq_true.1 hp.i1 c hc)).2.2)]
 cases hf:p.fr with
 | nil => simp [frT,ziX]
 | cons a t => simp [frT,zeI]
section
variable [Tabs Try.prog] {objs:List OB} {K:List OB → AV → Prop}
end
end Go.Proofs.Ytceenajkieomoaa
namespace Go.Proofs.Ytceenajkieomoaa
open Go.RowKit
end Go.Proofs.Ytceenajkieomoaa
namespace Go.Proofs.Ytceenajkieomoaa
open Go.RowKit Sx
theorem zcf {l:List UInt8} {n:Nat} (h:zct l=some n):6 ≤ l.length ∧ n ≤ 65535:=by
 unfold zct at h
 split at h
 ·cases h
 ·rename_i g
  split at h
  ·injection h with h
   have:=zib zca 16 65535 ((l.drop 2).take 4)
   constructor
   ·apply Classical.byContradiction
    intro h1
    exact g (.inl (by omega))
   ·omega
  ·cases h
section
variable [Tabs Try.prog] {objs:List OB} {K:List OB → AV → Prop}
end
end Go.Proofs.Ytceenajkieomoaa
namespace Go.Proofs.Ytceenajkieomoaa
open Go.RowKit Sx
theorem zmj {s:List UInt8} {i:Nat} (h:i < s.length):zcJ s i=match zd2 (s.drop i) with | none => (0,0,7) | some (r,n) => ((r:Int),((i + n:Nat):Int),0):=by
 unfold zcJ
 rw [if_neg (by omega),Int.toNat_natCast]
 cases zd2 (s.drop i) <;> simp
theorem zeq (s:List UInt8) (i m:Nat):(s.take (i + m)).drop i=(s.drop i).take m:=by
 rw [List.drop_take,show i + m - i=m by omega]
def zc1 (n:Nat) (r:List UInt8):Nat × Nat :=
 if 55296 ≤ n ∧ n < 56320 then (match zct r with
  | some m => if 56320 ≤ m ∧ m ≤ 57343 then (65536 + (n - 55296) * 1024 + (m - 56320),12) else (n,6)
  | none => (n,6)) else (n,6)
theorem zlU {l:List UInt8} {n:Nat} (h0:(l[1]?).bind zes=none) (h:zct l=some n):zd1 l=if cpB ((zc1 n (l.drop 6)).1:Int)=true then (0,zdr (zc1 n (l.drop 6)).1,(zc1 n (l.drop 6)).2) else (7,[],0):=by
 have hn:=(zcf h).2
 have hcp:∀ k:Nat,cpB (k:Int)=decide (k ≤ 1114111 ∧ (k < 55296 ∨ 57343 < k)):=by
  intro k
  unfold cpB
  by_cases h1:k ≤ 1114111 ∧ (k < 55296 ∨ 57343 < k)
  ·rw [decide_eq_true (by omega),decide_eq_true h1]
  ·rw [decide_eq_false (by omega),decide_eq_false h1]
 have hE:zd1 l=(if n < 55296 ∨ 57343 < n then ((0:Int),zdr n,6)
   else if 56319 < n then (7,[],0)
   else match zct (l.drop 6) with
    | none => (7,[],0)
    | some m => if m < 56320 ∨ 57343 < m then (7,[],0) else (0,zdr (65536 + (n - 55296) * 1024 + (m - 56320)),12)):=by
  unfold zd1
  rw [h0,h]
  rfl
 rw [hE]
 by_cases c1:n < 55296 ∨ 57343 < n
 ·have hU:zc1 n (l.drop 6)=(n,6):=by unfold zc1; rw [if_neg (show ¬ (55296 ≤ n ∧ n < 56320) by omega)]
  rw [if_pos c1,hU,hcp,if_pos (decide_eq_true (by omega))]
 ·by_cases c2:56319 < n
  ·have hU:zc1 n (l.drop 6)=(n,6):=by unfold zc1; rw [if_neg (show ¬ (55296 ≤ n ∧ n < 56320) by omega)]
   rw [if_neg c1,if_pos c2,hU,hcp,if_neg (by rw [decide_eq_true_eq]; omega)]
  ·rw [if_neg c1,if_neg c2]
   cases hu:zct (l.drop 6) with
   | none =>
    have hU:zc1 n (l.drop 6)=(n,6):=by unfold zc1; rw [if_pos (show 55296 ≤ n ∧ n < 56320 by omega),hu]
    rw [hU,hcp,if_neg (by rw [decide_eq_true_eq]; omega)]
   | some m =>
    by_cases c3:m < 56320 ∨ 57343 < m
    ·have hU:zc1 n (l.drop 6)=(n,6):=by
      unfold zc1; rw [if_pos (show 55296 ≤ n ∧ n < 56320 by omega),hu]
      simp only
      rw [if_neg (show ¬ (56320 ≤ m ∧ m ≤ 57343) by omega)]
     simp only
     rw [if_pos c3,hU,hcp,if_neg (by rw [decide_eq_true_eq]; omega)]
    ·have hU:zc1 n (l.drop 6)=(65536 + (n - 55296) * 1024 + (m - 56320),12):=by
      unfold zc1; rw [if_pos (show 55296 ≤ n ∧ n < 56320 by omega),hu]
      simp only
      rw [if_pos (show 56320 ≤ m ∧ m ≤ 57343 by omega)]
     simp only
     rw [if_neg c3,hU,hcp,if_pos (decide_eq_true (by omega))]
theorem escU_ge (n:Nat) (r:List UInt8):6 ≤ (zc1 n r).2:=by
 unfold zc1
 repeat' split
 all_goals first | exact Nat.le_refl _ | (show 6 ≤ 12; omega)
theorem escU_len {l:List UInt8} {n:Nat} (h:zct l=some n):(zc1 n (l.drop 6)).2 ≤ l.length ∧ (zc1 n (l.drop 6)).1 ≤ 1114111:=by
 have h1:=zcf h
 unfold zc1
 split
 ·cases hu:zct (l.drop 6) with
  | none => simp only; omega
  | some m =>
   have h2:=zcf hu
   rw [List.length_drop] at h2
   simp only
   split
   ·simp only; omega
   ·simp only; omega
 ·simp only; omega
theorem ziE {l x:List UInt8} {n:Nat} (h:zd1 l=(0,x,n)):x.length ≤ n ∧ 1 ≤ n ∧ n ≤ l.length:=by
 cases hse:(l[1]?).bind zes with
 | some d =>
  have he:zd1 l=(0,[d],2):=by unfold zd1; rw [hse]
  rw [he] at h
  injection h with _ h; injection h with h1 h2
  subst h1 h2
  obtain ⟨c,h2,_⟩:=Option.bind_eq_some_iff.1 hse
  have:=(List.getElem?_eq_some_iff.1 h2).1
  exact ⟨by simp,by omega,by omega⟩
 | none =>
  cases hu:zct l with
  | none =>
   have he:zd1 l=(130,[],0):=by unfold zd1; rw [hse,hu]
   rw [he] at h
   injection h with h _; cases h
  | some k =>
   have he:=zlU hse hu
   have h3:=escU_len hu
   have h4:=escU_ge k (l.drop 6)
   have h5:=encU_len (r:=(zc1 k (l.drop 6)).1)
   rw [h] at he
   split at he
   ·injection he with _ he; injection he with h1 h2
    subst h1 h2
    omega
   ·injection he with he _; cases he
section
variable [Tabs Try.prog] [Utf Try.prog] {objs:List OB} {K:List OB → AV → Prop}
end
end Go.Proofs.Ytceenajkieomoaa
namespace Go.Proofs.Ytceenajkieomoaa
open Go.RowKit Sx
def za7 (s:List UInt8) (a:Int):(Int × List UInt8 × Int) × Int × Int :=
 if a < 0 ∨ (s.length:Int) < a then ((0,[],0),0,4)
 else if (zbr (s.drop (a.toNat + zbi (s.drop a.toNat)))).1 ≠ 0 then ((0,[],0),0,(zbr (s.drop (a.toNat + zbi (s.drop a.toNat)))).1)
 else (((zbr (s.drop (a.toNat + zbi (s.drop a.toNat)))).2.1,(zbr (s.drop (a.toNat + zbi (s.drop a.toNat)))).2.2.1,((a.toNat + zbi (s.drop a.toNat):Nat):Int)),((a.toNat + zbi (s.drop a.toNat) + (zbr (s.drop (a.toNat + zbi (s.drop a.toNat)))).2.2.2:Nat):Int),0)
def zk5 (r:(Int × List UInt8 × Int) × Int × Int):AV:=.tup [.agg [.i .i64 r.1.1,.s r.1.2.1,.i .i64 r.1.2.2],.i .i64 r.2.1,.i .i64 r.2.2]
theorem word_at (s:List UInt8) (i:Nat) (h:i < s.length):zbL (s.drop i)=if zdO s[i]=true then zbL (s.drop (i + 1)) + 1 else 0:=by
 rw [List.drop_eq_getElem_cons h,zbL]
theorem white_at (s:List UInt8) (i:Nat) (h:i < s.length):zbi (s.drop i)=if zfV s[i]=true then zbi (s.drop (i + 1)) + 1 else 0:=by
 rw [List.drop_eq_getElem_cons h,zbi]
theorem zfo:∀ l:List UInt8,zbL l ≤ l.length
 | [] => Nat.le_refl _
 | c :: t => by
  have:=zfo t
  unfold zbL
  split <;> simp only [List.length_cons] <;> omega
theorem zen:∀ l:List UInt8,zbi l ≤ l.length
 | [] => Nat.le_refl _
 | c :: t => by
  have:=zen t
  unfold zbi
  split <;> simp only [List.length_cons] <;> omega
section
variable [Tabs Try.prog] [Utf Try.prog] {objs:List OB} {K:List OB → AV → Prop}
end
end Go.Proofs.Ytceenajkieomoaa
