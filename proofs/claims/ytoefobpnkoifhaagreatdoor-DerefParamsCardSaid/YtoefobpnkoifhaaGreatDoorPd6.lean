/- The texts that the proofs of these statements reach, in their order, as few files. -/
import Derived.Lib.LastIndexByte
import Derived.Lib.Replace
import Derived.Lib.CountLaws
import Derived.Lib.Join
import Derived.ProofKit
import Derived.OpenShut
import Derived.ShutString
import Derived.Carry
import Derived.WideKeyArgs
import Derived.SizedLaws
import Derived.Test.YtoefobpnkoifhaaGreatDoorProg
import Derived.Test.YtoefobpnkoifhaaGreatDoorPd5
set_option linter.unusedVariables false
set_option linter.unusedSimpArgs false
set_option maxRecDepth 100000
namespace Go.Proofs.YtoefobpnkoifhaaGreatDoor
open Go.RowKit Sx
section
variable [Tabs Tryz.prog] {objs:List OB} {K:List OB → AV → Prop}
end
end Go.Proofs.YtoefobpnkoifhaaGreatDoor
namespace Go.Proofs.YtoefobpnkoifhaaGreatDoor
open Go.RowKit Sx
section
variable [Tabs Tryz.prog] {objs:List OB} {K:List OB → AV → Prop}
end
end Go.Proofs.YtoefobpnkoifhaaGreatDoor
namespace Go.Proofs.YtoefobpnkoifhaaGreatDoor
end Go.Proofs.YtoefobpnkoifhaaGreatDoor
namespace Go.Proofs.YtoefobpnkoifhaaGreatDoor
structure UrlP where
 host:List UInt8
 port:Int
 path:List UInt8
 query:List UInt8
 frag:List UInt8
 hq:Bool
 hf:Bool
instance:DecidableEq UrlP:=fun a b =>
 decidable_of_iff (a.host=b.host ∧ a.port=b.port ∧ a.path=b.path ∧ a.query=b.query ∧ a.frag=b.frag ∧ a.hq=b.hq ∧ a.hf=b.hf) (by
  cases a; cases b; simp)
end Go.Proofs.YtoefobpnkoifhaaGreatDoor
namespace Go.Proofs.YtoefobpnkoifhaaGreatDoor
open Go.RowKit Sx
theorem has_cut (l:List UInt8) (c:UInt8):decide (0 ≤ Lib.indexByte l c)=(zaw c l).2.2:=by
 rcases zbu c l with ⟨h1,h2,_⟩ | ⟨k,h1,_,h2,_⟩
 ·rw [h1,h2]; rfl
 ·rw [h1,h2]; simp
section
variable [Tabs Tryz.prog] {objs:List OB} {K:List OB → AV → Prop}
theorem zdN (s:List UInt8) (c:UInt8) (hk:K objs (.b (zaw c s).2.2)):zal Tryz.prog 84 [.s s,.s [c]] objs K:=by
 rw [← has_cut] at hk
 exact conv (vs:=[.string (S s),.string (S [c])]) rfl rfl (fun w => (Tryz.strings_Contains_one (S s) c w).mono fun e w' ⟨h1,h2⟩ => ⟨h1,Qb.rev h2⟩) hk
end
end Go.Proofs.YtoefobpnkoifhaaGreatDoor
namespace Go.Proofs.YtoefobpnkoifhaaGreatDoor
def ze8 (c:UInt8) (new s:List UInt8):List UInt8:=s.flatMap fun x => if x=c then new else [x]
structure DidU where
 meth:List UInt8
 id:List UInt8
 path:List UInt8
 query:List UInt8
 frag:List UInt8
 hq:Bool
 hf:Bool
instance:DecidableEq DidU:=fun a b =>
 decidable_of_iff (a.meth=b.meth ∧ a.id=b.id ∧ a.path=b.path ∧ a.query=b.query ∧ a.frag=b.frag ∧ a.hq=b.hq ∧ a.hf=b.hf) (by
  cases a; cases b; simp)
theorem zcA (c:UInt8):∀ s:List UInt8,Lib.index s [c]=Lib.indexByte s c
 | [] => rfl
 | b :: l => by
  have ih:=zcA c l
  unfold Lib.index Lib.indexByte
  rw [ih]
  by_cases h:b=c
  ·subst h; simp
  ·have h':¬ c=b:=fun e => h e.symm
   simp [h,h']
theorem zcr (c:UInt8) (new:List UInt8):∀ s:List UInt8,c ∉ s → ze8 c new s=s
 | [],_ => rfl
 | x :: s,h => by
  simp only [List.mem_cons,not_or] at h
  unfold ze8
  rw [List.flatMap_cons,if_neg (fun e => h.1 e.symm)]
  show [x] ++ ze8 c new s=_
  rw [zcr c new s h.2]; rfl
theorem zcs (c:UInt8) (new a b:List UInt8):ze8 c new (a ++ b)=ze8 c new a ++ ze8 c new b:=by simp [ze8]
theorem zdT (c:UInt8) (new:List UInt8):∀ (n:Nat) (s:List UInt8),s.length ≤ n → Lib.replaceK [c] new (Lib.count s [c]) s=ze8 c new s:=by
 intro n
 induction n with
 | zero =>
  intro s hs
  obtain rfl:s=[]:=List.eq_nil_of_length_eq_zero (by omega)
  rfl
 | succ n ih =>
  intro s hs
  rcases zbu c s with ⟨h1,_,h2⟩ | ⟨k,h1,h2,_,h3⟩
  ·rw [Lib.count_miss (by rw [zcA]; exact h1),zcr c new s h2]; rfl
  ·have hi:Lib.index s [c]=k:=by rw [zcA]; exact h1
   rw [Lib.count_hit (by simp) hi,Nat.add_comm,Lib.replaceK_hit _ _ _ _ _ hi]
   have:=ih (s.drop (k + [c].length)) (by rw [List.length_drop]; simp; omega)
   rw [this]
   have hk:s[k]=c:=by rw [List.getElem?_eq_getElem h2] at h3; injection h3
   have hpre:c ∉ s.take k:=by
    intro hm
    obtain ⟨j,hj,hjc⟩:=List.mem_iff_getElem.1 hm
    have hj':j < k:=by rw [List.length_take] at hj; omega
    have:=(Lib.indexByte_some h1).2 j hj'
    rw [List.getElem_take] at hjc
    exact this (by rw [List.getElem?_eq_getElem (by omega),hjc])
   conv => rhs; rw [← List.take_append_drop k s,List.drop_eq_getElem_cons h2,hk,zcs,zcr c new _ hpre]
   show _=s.take k ++ ze8 c new ([c] ++ s.drop (k + 1))
   rw [zcs]
   simp [ze8]
theorem zcM (c:UInt8) (new s:List UInt8) (h:new ≠ [c]):Lib.replaceAll s [c] new=ze8 c new s:=by
 unfold Lib.replaceAll Lib.replace
 rw [if_neg (by simp; exact fun e => h e.symm)]
 unfold Lib.replaceNum
 rw [if_pos (.inl (by decide))]
 exact zdT c new s.length s (Nat.le_refl _)
theorem zec (c:UInt8) (s:List UInt8):Lib.count s [c] ≤ s.length + 1:=Lib.count_le s [c]
end Go.Proofs.YtoefobpnkoifhaaGreatDoor
namespace Go.Proofs.YtoefobpnkoifhaaGreatDoor
open Go.RowKit Sx
section
variable [Tabs Tryz.prog] {objs:List OB} {K:List OB → AV → Prop}
theorem zen [Shp Tryz.prog] (s new:List UInt8) (c:UInt8) (hs:s.length ≤ 100000) (hn:new.length ≤ 100) (hne:new ≠ [c]) (hk:K objs (.s (ze8 c new s))):zal Tryz.prog 131 [.s s,.s [c],.s new] objs K:=by
 have hc:Lib.countB (S s) (S [c]) ≤ s.length + 1:=zec c s
 have hl:(S s).size + Lib.countB (S s) (S [c]) * (S new).size ≤ 140737488355328:=by
  have h1:Lib.countB (S s) (S [c]) * (S new).size ≤ 100001 * 100:=Nat.mul_le_mul (by omega) (by rw [zaP]; omega)
  rw [zaP]; omega
 have e:Lib.replaceAll s [c] new=ze8 c new s:=zcM c new s hne
 rw [← e] at hk
 exact convT (vs:=[.string (S s),.string (S [c]),.string (S new)]) rfl rfl (fun w hT => Tryz.strings_ReplaceAll_shaped (S s) (S [c]) (S new) w (Shp.sh w hT) (by rw [zaP]; omega) (by rw [zaP]; simp) hl) hk
end
end Go.Proofs.YtoefobpnkoifhaaGreatDoor
namespace Go.Proofs.YtoefobpnkoifhaaGreatDoor.Sx
open Go.RowKit
inductive XV where
 | ok (o:List OB) (r:AV)
 | bad (op:SOp)
inductive T8 where
 | lf (v:AV)
 | nd (l r:T8)
noncomputable def T8.get (t:T8):Nat → AV :=
 T8.rec (motive:=fun _ => Nat → AV) (fun v _ => v) (fun _ _ gl gr n => Bool.rec (motive:=fun _ => AV) (gr (Nat.div n 2)) (gl (Nat.div n 2)) (Nat.beq (Nat.mod n 2) 0)) t
noncomputable def T8.setK (t:T8):Nat → AV → (T8 → XV) → XV :=
 T8.rec (motive:=fun _ => Nat → AV → (T8 → XV) → XV) (fun _ _ v k => k (.lf v)) (fun l r sl sr n v k => Bool.rec (motive:=fun _ => XV) (sr (Nat.div n 2) v fun r' => k (.nd l r')) (sl (Nat.div n 2) v fun l' => k (.nd l' r)) (Nat.beq (Nat.mod n 2) 0)) t
def T8.put:T8 → Nat → AV → T8
 | .lf _,_,v => .lf v
 | .nd l r,n,v => if n % 2=0 then .nd (l.put (n / 2) v) r else .nd l (r.put (n / 2) v)
def T8.full:Nat → T8 → Prop
 | 0,.lf _ => True
 | D + 1,.nd l r => T8.full D l ∧ T8.full D r
 | _,_ => False
noncomputable def T8.mk (D:Nat):T8:=Nat.rec (motive:=fun _ => T8) (.lf (.o undef)) (fun _ t => .nd t t) D
theorem ziW (n:Nat):Nat.beq (Nat.mod n 2) 0=decide (n % 2=0):=by
 rw [Bool.eq_iff_iff,Nat.beq_eq,decide_eq_true_eq]; rfl
theorem zfB (l r:T8) (n:Nat):(T8.nd l r).get n=if n % 2=0 then l.get (n / 2) else r.get (n / 2):=by
 show (Bool.rec (motive:=fun _ => AV) (r.get (Nat.div n 2)) (l.get (Nat.div n 2)) (Nat.beq (Nat.mod n 2) 0))=_
 rw [ziW]
 by_cases h:n % 2=0
 ·rw [decide_eq_true h,if_pos h]; rfl
 ·rw [decide_eq_false h,if_neg h]; rfl
theorem zbm:∀ (t:T8) (n:Nat) (v:AV) (k:T8 → XV),t.setK n v k=k (t.put n v)
 | .lf _,n,v,k => rfl
 | .nd l r,n,v,k => by
  show (Bool.rec (motive:=fun _ => XV) (r.setK (Nat.div n 2) v fun r' => k (.nd l r')) (l.setK (Nat.div n 2) v fun l' => k (.nd l' r)) (Nat.beq (Nat.mod n 2) 0))=_
  rw [ziW,zbm,zbm,T8.put]
  by_cases h:n % 2=0
  ·rw [decide_eq_true h,if_pos h]; rfl
  ·rw [decide_eq_false h,if_neg h]; rfl
theorem zdu:∀ {D:Nat} {t:T8} (n:Nat) (v:AV),T8.full D t → T8.full D (t.put n v)
 | 0,.lf _,n,v,h => trivial
 | D + 1,.nd l r,n,v,h => by
  rw [T8.put]
  split
  ·exact ⟨zdu _ _ h.1,h.2⟩
  ·exact ⟨h.1,zdu _ _ h.2⟩
 | 0,.nd _ _,_,_,h => h.elim
 | D + 1,.lf _,_,_,h => h.elim
theorem zeC:∀ {D:Nat} {t:T8} {n m:Nat} (v:AV),T8.full D t → n < 2 ^ D → m < 2 ^ D → (t.put n v).get m=if n=m then v else t.get m
 | 0,.lf x,n,m,v,h,hn,hm => by
  obtain rfl:n=0:=by simpa using hn
  obtain rfl:m=0:=by simpa using hm
  rfl
 | D + 1,.nd l r,n,m,v,h,hn,hm => by
  rw [Nat.pow_succ] at hn hm
  rw [T8.put,zfB]
  by_cases h1:n % 2=0
  ·rw [if_pos h1,zfB,zeC v h.1 (by omega) (by omega)]
   by_cases h2:m % 2=0
   ·rw [if_pos h2,if_pos h2]
    by_cases h3:n=m
    ·rw [if_pos h3,if_pos (by omega)]
    ·rw [if_neg h3,if_neg (by omega)]
   ·rw [if_neg h2,if_neg h2,if_neg (by omega)]
  ·rw [if_neg h1,zfB,zeC v h.2 (by omega) (by omega)]
   by_cases h2:m % 2=0
   ·rw [if_pos h2,if_pos h2,if_neg (by omega)]
   ·rw [if_neg h2,if_neg h2]
    by_cases h3:n=m
    ·rw [if_pos h3,if_pos (by omega)]
    ·rw [if_neg h3,if_neg (by omega)]
 | 0,.nd _ _,_,_,_,h,_,_ => h.elim
 | D + 1,.lf _,_,_,_,h,_,_ => h.elim
theorem zeE:∀ D,T8.full D (T8.mk D)
 | 0 => trivial
 | D + 1 => ⟨zeE D,zeE D⟩
theorem get_mk:∀ (D n:Nat),(T8.mk D).get n=.o undef
 | 0,n => rfl
 | D + 1,n => by
  show (T8.nd (T8.mk D) (T8.mk D)).get n=_
  rw [zfB,get_mk]; exact ite_self _
def Rep (w:Nat) (t:T8) (tm:List AV):Prop:=tm.length=w ∧ ∃ D,T8.full D t ∧ w ≤ 2 ^ D ∧ ∀ n,n < w → t.get n=(tm[n]?).getD .u
theorem Rep.put {w n:Nat} {t:T8} {tm:List AV} {v:AV} (h:Rep w t tm) (hn:n < w):Rep w (t.put n v) (tm.set n v):=by
 obtain ⟨h1,D,h2,h3,h4⟩:=h
 refine ⟨by rw [List.length_set]; exact h1,D,zdu _ _ h2,h3,fun m hm => ?_⟩
 rw [zeC v h2 (by omega) (by omega),List.getElem?_set]
 by_cases e:n=m
 ·subst e
  rw [if_pos rfl,if_pos rfl,if_pos (by omega)]; rfl
 ·rw [if_neg e,if_neg e]; exact h4 m hm
noncomputable def evT (w:Nat) (t:T8) (x:SV):AV :=
 SV.rec (motive:=fun _ => AV) (fun n => Bool.rec (motive:=fun _ => AV) .u (t.get n) (Nat.blt n w)) (fun v => v) x
theorem zbq (n w:Nat):Nat.blt n w=decide (n < w):=by
 rw [Bool.eq_iff_iff,decide_eq_true_eq]; exact iff_of_eq Nat.ble_eq
theorem Rep.ev {w:Nat} {t:T8} {tm:List AV} (h:Rep w t tm):evT w t=fun x => x.ev tm:=by
 funext x
 cases x with
 | c v => rfl
 | t n =>
  show (Bool.rec (motive:=fun _ => AV) .u (t.get n) (Nat.blt n w))=(tm[n]?).getD .u
  obtain ⟨h1,D,h2,h3,h4⟩:=h
  rw [zbq]
  by_cases e:n < w
  ·rw [decide_eq_true e]; exact h4 n e
  ·rw [decide_eq_false e,List.getElem?_eq_none (by omega)]; rfl
noncomputable def zfF (n:Nat) (k:Nat → XV):XV:=Nat.rec (motive:=fun _ => XV) (k 0) (fun m _ => k (Nat.succ m)) n
theorem zeF (n:Nat) (k:Nat → XV):zfF n k=k n:=by cases n <;> rfl
noncomputable def zcD {β:Type} (l:List β):(List β → XV) → XV :=
 List.rec (motive:=fun _ => (List β → XV) → XV) (fun k => k []) (fun c _ ih k => ih fun t => k (c :: t)) l
theorem zcC {β:Type}:∀ (l:List β) (k:List β → XV),zcD l k=k l
 | [],k => rfl
 | c :: l,k => zcC l fun t => k (c :: t)
noncomputable def frc (v:AV) (k:AV → XV):XV :=
 match v with
 | .s l => k (.s l)
 | .i kd (.ofNat n) => zfF n fun n => k (.i kd (.ofNat n))
 | .b true => k (.b true)
 | .b false => k (.b false)
 | .p b o => zfF b fun b => zfF o fun o => k (.p b o)
 | .orow b g => zfF b fun b => zfF g fun g => k (.orow b g)
 | .prow xs j => zfF j fun j => k (.prow xs j)
 | .porow b g j => zfF b fun b => zfF g fun g => zfF j fun j => k (.porow b g j)
 | .i kd (.negSucc n) => k (.i kd (.negSucc n))
 | .agg cs => k (.agg cs)
 | .tup cs => k (.tup cs)
 | .row n xs => zfF n fun n => k (.row n xs)
 | .crow n xs => k (.crow n xs)
 | .bsl a b c => k (.bsl a b c)
 | .m b => k (.m b)
 | .zn b => k (.zn b)
 | .nil => k .nil
 | .fn f a b => k (.fn f a b)
 | .o v => k (.o v)
 | .u => k .u
theorem zfE (v:AV) (k:AV → XV):frc v k=k v:=by
 unfold frc
 split <;> simp only [zeF]
noncomputable def zc4 (l:List AV):(List AV → XV) → XV :=
 List.rec (motive:=fun _ => (List AV → XV) → XV) (fun k => k []) (fun c _ ih k => frc c fun c => ih fun t => k (c :: t)) l
theorem zbe:∀ (l:List AV) (k:List AV → XV),zc4 l k=k l
 | [],k => rfl
 | c :: l,k => by
  show frc c (fun c => zc4 l fun t => k (c :: t))=_
  rw [zfE,zbe]
def unA:List AV → Option (List UInt8)
 | [] => some []
 | .i .u8 (.ofNat n) :: l => if n < 256 then (unA l).map (UInt8.ofNat n :: ·) else none
 | _ => none
theorem zgI:∀ {xs:List AV} {l:List UInt8},unA xs=some l → xs=byA l
 | [],l,h => by
  unfold unA at h
  injection h with h; subst h; rfl
 | x :: xs,l,h => by
  unfold unA at h
  split at h
  ·rename_i e; cases e
  ·rename_i n r e
   injection e with e1 e2
   subst e1 e2
   split at h
   ·rename_i hn
    obtain ⟨r',hr,rfl⟩:=Option.map_eq_some_iff.1 h
    rw [zgI hr]
    have:(UInt8.ofNat n).toNat=n:=by rw [UInt8.toNat_ofNat']; omega
    show _=AV.i .u8 _ :: byA r'
    rw [this]; rfl
   ·cases h
  ·cases h
def exAr (k:IntKind) (r:Int):Option Int :=
 match k with
 | .i64 => if -9223372036854775808 ≤ r ∧ r ≤ 9223372036854775807 then some r else none
 | k => some (k.wrap r)
theorem zeI {k:IntKind} {r n:Int} {K:Int → Prop} (h:exAr k r=some n) (hk:K n):arK k r K:=by
 cases k <;> simp only [exAr] at h <;> simp only [arK]
 all_goals first
  | (injection h with h; subst h; exact hk)
  | (split at h <;> first | (rename_i c; injection h with h; subst h; exact ⟨c,hk⟩) | cases h)
noncomputable def eqB (l:List UInt8):List UInt8 → Bool :=
 List.rec (motive:=fun _ => List UInt8 → Bool) (fun m => List.rec (motive:=fun _ => Bool) true (fun _ _ _ => false) m) (fun c _ ih m => List.rec (motive:=fun _ => Bool) false (fun d m' _ => Bool.rec (motive:=fun _ => Bool) false (ih m') (Nat.beq c.toNat d.toNat)) m) l
theorem ziv:∀ (l m:List UInt8),eqB l m=decide (l=m)
 | [],[] => by rw [decide_eq_true rfl]; rfl
 | [],_ :: _ => by rw [decide_eq_false (by simp)]; rfl
 | _ :: _,[] => by rw [decide_eq_false (by simp)]; rfl
 | c :: l,d :: m => by
  show (Bool.rec (motive:=fun _ => Bool) false (eqB l m) (Nat.beq c.toNat d.toNat))=_
  by_cases e:c=d
  ·subst e
   rw [Nat.beq_refl,ziv]
   by_cases e2:l=m
   ·subst e2; simp
   ·rw [decide_eq_false e2,decide_eq_false (by simp [e2])]
  ·rw [show Nat.beq c.toNat d.toNat=false from by
    rw [Bool.eq_false_iff]; intro h; exact e (UInt8.toNat_inj.1 (Nat.eq_of_beq_eq_true h)),decide_eq_false (by simp [e])]
def zaX (op:BinOp):AV → AV → Option AV
 | .i k m,.i k' n => if k=k' then
   match op with
   | .add => (exAr k (m + n)).map (.i k)
   | .sub => (exAr k (m - n)).map (.i k)
   | .mul => (exAr k (m * n)).map (.i k)
   | .quo => if n ≠ 0 then (exAr k (m.tdiv n)).map (.i k) else none
   | .rem => if n ≠ 0 then some (.i k (m.tmod n)) else none
   | .eql => some (.b (decide (m=n)))
   | .neq => some (.b (decide (¬ m=n)))
   | .lss => some (.b (decide (m < n)))
   | .leq => some (.b (decide (m ≤ n)))
   | .gtr => some (.b (decide (n < m)))
   | .geq => some (.b (decide (n ≤ m)))
   | _ => none
  else none
 | .s l,.s m =>
  match op with
  | .add => if l.length + m.length ≤ 9223372036854775807 then some (.s (l ++ m)) else none
  | .eql => some (.b (decide (l=m)))
  | .neq => some (.b (decide (¬ l=m)))
  | _ => none
 | _,_ => none
theorem zfK {op:BinOp} {x y v:AV} {K:AV → Prop} (h:zaX op x y=some v) (hk:K v):binK op x y K:=by
 unfold zaX at h
 unfold binK
 split at h
 ·split at h
  ·rename_i c
   refine ⟨c,?_⟩
   cases op <;> dsimp only at h ⊢
   all_goals first
    | (injection h with h; subst h; exact hk)
    | (obtain ⟨n,hn,rfl⟩:=Option.map_eq_some_iff.1 h; exact zeI hn hk)
    | (split at h <;> first | (rename_i c2; obtain ⟨n,hn,rfl⟩:=Option.map_eq_some_iff.1 h; exact ⟨c2,zeI hn hk⟩) | (rename_i c2; injection h with h; subst h; exact ⟨c2,hk⟩) | cases h)
    | cases h
  ·cases h
 ·cases op <;> dsimp only at h ⊢
  all_goals first
   | (injection h with h; subst h; exact hk)
   | (split at h <;> first | (rename_i c2; injection h with h; subst h; exact ⟨c2,hk⟩) | cases h)
   | cases h
 ·cases h
noncomputable def quC (op:BinOp) (k:IntKind) (m n:Nat):Option AV :=
 match op with
 | .eql => some (.b (Nat.beq m n))
 | .neq => some (.b (!(Nat.beq m n)))
 | .lss => some (.b (Nat.blt m n))
 | .leq => some (.b (Nat.ble m n))
 | .gtr => some (.b (Nat.blt n m))
 | .geq => some (.b (Nat.ble n m))
 | op => zaX op (.i k (.ofNat m)) (.i k (.ofNat n))
noncomputable def quN (op:BinOp) (m n:Nat):Option AV :=
 match op with
 | .add => Bool.rec (motive:=fun _ => Option AV) (zaX .add (.i .i64 (.ofNat m)) (.i .i64 (.ofNat n))) (some (.i .i64 (.ofNat (Nat.add m n)))) (Nat.ble (Nat.add m n) 9223372036854775807)
 | .sub => Bool.rec (motive:=fun _ => Option AV) (zaX .sub (.i .i64 (.ofNat m)) (.i .i64 (.ofNat n))) (some (.i .i64 (.ofNat (Nat.sub m n)))) (Nat.ble n m && Nat.ble m 9223372036854775807)
 | op => quC op .i64 m n
noncomputable def quK (op:BinOp) (k k':IntKind) (m n:Nat):Option AV :=
 match k with
 | .i64 => (match k' with
  | .i64 => quN op m n
  | k' => zaX op (.i .i64 (.ofNat m)) (.i k' (.ofNat n)))
 | .u8 => (match k' with
  | .u8 => quC op .u8 m n
  | k' => zaX op (.i .u8 (.ofNat m)) (.i k' (.ofNat n)))
 | k => zaX op (.i k (.ofNat m)) (.i k' (.ofNat n))
noncomputable def quI (op:BinOp) (k:IntKind) (m:Int) (y:AV):Option AV :=
 match y with
 | .i k' n => (match m with
  | .ofNat m => (match n with
   | .ofNat n => quK op k k' m n
   | n => zaX op (.i k (.ofNat m)) (.i k' n))
  | m => zaX op (.i k m) (.i k' n))
 | y => zaX op (.i k m) y
noncomputable def quS (op:BinOp) (l:List UInt8) (y:AV):Option AV :=
 match y with
 | .s m => (match op with
  | .eql => some (.b (eqB l m))
  | .neq => some (.b (!(eqB l m)))
  | op => zaX op (.s l) (.s m))
 | y => zaX op (.s l) y
noncomputable def quB (op:BinOp) (x y:AV):Option AV :=
 match x with
 | .i k m => quI op k m y
 | .s l => quS op l y
 | x => zaX op x y
theorem beq_dec (m n:Nat):Nat.beq m n=decide ((Int.ofNat m)=Int.ofNat n):=by
 rw [Bool.eq_iff_iff,decide_eq_true_eq,Nat.beq_eq]; exact ⟨fun h => by rw [h],fun h => Int.ofNat.inj h⟩
theorem blt_decI (m n:Nat):Nat.blt m n=decide ((Int.ofNat m) < Int.ofNat n):=by
 rw [zbq,Bool.eq_iff_iff,decide_eq_true_eq,decide_eq_true_eq]
 exact ⟨fun h => Int.ofNat_lt.2 h,fun h => Int.ofNat_lt.1 h⟩
theorem ble_decI (m n:Nat):Nat.ble m n=decide ((Int.ofNat m) ≤ Int.ofNat n):=by
 rw [Bool.eq_iff_iff,decide_eq_true_eq,Nat.ble_eq]
 exact ⟨fun h => Int.ofNat_le.2 h,fun h => Int.ofNat_le.1 h⟩
theorem quC_eq (op:BinOp) (k:IntKind) (m n:Nat):quC op k m n=zaX op (.i k (.ofNat m)) (.i k (.ofNat n)):=by
 cases op <;> simp only [quC,zaX,if_true,beq_dec,blt_decI,ble_decI,decide_not]
theorem quN_eq (op:BinOp) (m n:Nat):quN op m n=zaX op (.i .i64 (.ofNat m)) (.i .i64 (.ofNat n)):=by
 unfold quN
 split
 ·cases h:Nat.ble (Nat.add m n) 9223372036854775807 with
  | false => rfl
  | true =>
   have h2:m + n ≤ 9223372036854775807:=Nat.le_of_ble_eq_true h
   have h3:-9223372036854775808 ≤ Int.ofNat m + Int.ofNat n ∧ Int.ofNat m + Int.ofNat n ≤ 9223372036854775807:=by
    have e:Int.ofNat m + Int.ofNat n=((m + n:Nat):Int):=rfl
    rw [e]; omega
   simp only [zaX,if_true,exAr,if_pos h3,Option.map_some]
   rfl
 ·cases h:(Nat.ble n m && Nat.ble m 9223372036854775807) with
  | false => rfl
  | true =>
   rw [Bool.and_eq_true,Nat.ble_eq,Nat.ble_eq] at h
   have e:Int.ofNat m - Int.ofNat n=((m - n:Nat):Int):=by
    show (m:Int) - (n:Int)=_
    omega
   have h3:-9223372036854775808 ≤ Int.ofNat m - Int.ofNat n ∧ Int.ofNat m - Int.ofNat n ≤ 9223372036854775807:=by rw [e]; omega
   simp only [zaX,if_true,exAr,if_pos h3,Option.map_some]
   rw [e]; rfl
 ·exact quC_eq _ _ _ _
theorem quB_eq (op:BinOp) (x y:AV):quB op x y=zaX op x y:=by
 unfold quB
 split
 ·unfold quI
  split
  ·split
   ·split
    ·unfold quK
     split
     ·split
      ·exact quN_eq _ _ _
      ·rfl
     ·split
      ·exact quC_eq _ _ _ _
      ·rfl
     ·rfl
    ·rfl
   ·rfl
  ·rfl
 ·unfold quS
  split
  ·split
   ·simp only [zaX,ziv]
   ·simp only [zaX,ziv,decide_not]
   ·rfl
  ·rfl
 ·rfl
noncomputable def wrF (k:IntKind) (n:Int):Int :=
 match n with
 | .ofNat m => Bool.rec (motive:=fun _ => Int) (match k with
  | .i64 => Bool.rec (motive:=fun _ => Int) (IntKind.i64.wrap (.ofNat m)) (.ofNat m) (Nat.ble m 9223372036854775807)
  | k => k.wrap (.ofNat m)) (.ofNat m) (Nat.ble m 127)
 | n => k.wrap n
theorem wrF_eq (k:IntKind) (n:Int):wrF k n=k.wrap n:=by
 unfold wrF
 split
 ·rename_i m
  cases h:Nat.ble m 127 with
  | true =>
   have h2:m ≤ 127:=Nat.le_of_ble_eq_true h
   have h3:(0:Int) ≤ Int.ofNat m ∧ Int.ofNat m ≤ 127:=⟨Int.natCast_nonneg m,Int.ofNat_le.2 h2⟩
   show Int.ofNat m=_
   generalize Int.ofNat m=z at h3
   cases k
   all_goals first
    | exact (IntWalk.i8_in z (by omega)).symm
    | exact (IntWalk.i16_in z (by omega)).symm
    | exact (IntWalk.i32_in z (by omega)).symm
    | exact (IntWalk.i64_in z (by omega)).symm
    | exact (IntWalk.u8_in z (by omega)).symm
    | exact (IntWalk.u16_in z (by omega)).symm
    | exact (IntWalk.u32_in z (by omega)).symm
    | exact (IntWalk.u64_in z (by omega)).symm
    | (unfold IntKind.wrap; simp [IntKind.bits,IntKind.signed]; omega)
  | false =>
   dsimp only
   split
   ·cases h2:Nat.ble m 9223372036854775807 with
    | false => rfl
    | true =>
     have h3:m ≤ 9223372036854775807:=Nat.le_of_ble_eq_true h2
     exact (IntWalk.i64_in (Int.ofNat m) ⟨Int.le_trans (by decide) (Int.natCast_nonneg m),Int.ofNat_le.2 h3⟩).symm
   ·rfl
 ·rfl
noncomputable def idxK (l:List UInt8):Nat → Option Nat :=
 List.rec (motive:=fun _ => Nat → Option Nat) (fun _ => none) (fun c _ ih n => Nat.rec (motive:=fun _ => Option Nat) (some c.toNat) (fun m _ => ih m) n) l
theorem zh8:∀ {l:List UInt8} {n c:Nat},idxK l n=some c → n < l.length ∧ (l.getD n 0).toNat=c
 | [],n,c,h => by cases h
 | d :: l,0,c,h => by
  have h2:some d.toNat=some c:=h
  injection h2 with h2
  exact ⟨Nat.succ_pos _,h2⟩
 | d :: l,n + 1,c,h => by
  have h2:idxK l n=some c:=h
  obtain ⟨h3,h4⟩:=zh8 h2
  exact ⟨Nat.succ_lt_succ h3,h4⟩
def svbF (ev:SV → AV) (d:Int):Option SV → Option Int
 | none => some d
 | some x => match ev x with
  | .i _ n => some n
  | _ => none
theorem svbF_eq (tm:List AV) (d:Int):∀ x,svbF (fun x => x.ev tm) d x=zeg tm d x
 | none => rfl
 | some _ => rfl
def isM:SOp → Bool
 | .mkm0 => true
 | _ => false
structure Qls where
 cp:Nat → List AV → XV
 ci:Nat → List AV → List OB → XV
 has:Nat → Bool
 inn:Nat → Bool
structure QlsOk (P:Program) [Tabs P] (c:Qls):Prop where
 cp:∀ f args o r,c.cp f args=.ok o r → ∀ (objs:List OB) (K:List OB → AV → Prop),K objs r → zal P f args objs K
 pl:∀ f args o r,c.cp f args=.ok o r → r.plain=true
 ci:∀ f args objs o r,c.ci f args objs=.ok o r → ∀ (K:List OB → AV → Prop),K o r → zal P f args objs K
 has : ∀ f, c.has f = true → ∃ fn, P.funcs[f]? = some fn ∧ fn.body.isSome = true ∧ fn.name ≠ "runtime.NumGoroutine"
noncomputable def h_mv (x:SV) (Q:Qls) (objs:List OB) (ev:SV → AV) (k:List OB → AV → XV):XV:=k objs (ev x)
noncomputable def zid (c:SV) (x:SV) (y:SV) (Q:Qls) (objs:List OB) (ev:SV → AV) (k:List OB → AV → XV):XV:=match ev c with
  | .b true => k objs (ev x)
  | .b false => k objs (ev y)
  | _ => .bad (.pick c x y)
noncomputable def zim (T:Nat) (z:List AV) (Q:Qls) (objs:List OB) (ev:SV → AV) (k:List OB → AV → XV):XV:=zcD (objs ++ [.box T z]) fun o => k o (.p objs.length 0)
noncomputable def h_box (T:Nat) (x:SV) (Q:Qls) (objs:List OB) (ev:SV → AV) (k:List OB → AV → XV):XV:=if (ev x).flat=true then zcD (objs ++ [.box T (ev x).cells]) fun o => k o (.p objs.length 0) else .bad (.box T x)
noncomputable def zil (z:List AV) (ps:List (Nat × Nat × SV)) (Q:Qls) (objs:List OB) (ev:SV → AV) (k:List OB → AV → XV):XV:=match zaN z (ps.map fun p => (p.1,p.2.1,ev p.2.2)) with
  | some cs => zc4 cs fun cs => k objs (.agg cs)
  | none => .bad (.build z ps)
noncomputable def zfA (len:Nat) (z:List AV) (ps:List (Nat × Nat × SV)) (Q:Qls) (objs:List OB) (ev:SV → AV) (k:List OB → AV → XV):XV:=match zaN z (ps.map fun p => (p.1,p.2.1,ev p.2.2)) with
  | some cs => zc4 cs fun cs => k objs (.row len cs)
  | none => .bad (.bslice len z ps)
noncomputable def h_bslo (E:Nat) (sz:Nat) (len:Nat) (z:List AV) (ps:List (Nat × Nat × SV)) (Q:Qls) (objs:List OB) (ev:SV → AV) (k:List OB → AV → XV):XV:=match zaN z (ps.map fun p => (p.1,p.2.1,ev p.2.2)) with
  | some cs => if cs.length=len * sz then zc4 cs fun cs => zcD (objs ++ [.orow E sz 0 len cs]) fun o => k o (.orow objs.length 0) else .bad (.bslo E sz len z ps)
  | none => .bad (.bslo E sz len z ps)
noncomputable def zif (x:SV) (Q:Qls) (objs:List OB) (ev:SV → AV) (k:List OB → AV → XV):XV:=match ev x with
  | .p b off => match objs[b]? with
   | some (.box _ cs) => match cs[off]? with
    | some v => k objs v
    | none => .bad (.load1 x)
   | _ => .bad (.load1 x)
  | .prow xs j => match xs[j]? with
   | some v => k objs v
   | none => .bad (.load1 x)
  | .porow b gen j => match objs[b]? with
   | some (.orow _ _ gen' _ xs) => if gen'=gen then (match xs[j]? with
    | some v => k objs v
    | none => .bad (.load1 x)) else .bad (.load1 x)
   | _ => .bad (.load1 x)
  | _ => .bad (.load1 x)
noncomputable def zie (sz:Nat) (x:SV) (Q:Qls) (objs:List OB) (ev:SV → AV) (k:List OB → AV → XV):XV:=match ev x with
  | .p b off => match objs[b]? with
   | some (.box _ cs) => if off + sz ≤ cs.length then zc4 ((cs.drop off).take sz) fun cs => k objs (.agg cs) else .bad (.loadn sz x)
   | _ => .bad (.loadn sz x)
  | .prow xs j => if j + sz ≤ xs.length then zc4 ((xs.drop j).take sz) fun cs => k objs (.agg cs) else .bad (.loadn sz x)
  | .porow b gen j => match objs[b]? with
   | some (.orow _ _ gen' _ xs) => if gen'=gen ∧ j + sz ≤ xs.length then zc4 ((xs.drop j).take sz) fun cs => k objs (.agg cs) else .bad (.loadn sz x)
   | _ => .bad (.loadn sz x)
  | _ => .bad (.loadn sz x)
noncomputable def zib (sz:Nat) (x:SV) (y:SV) (Q:Qls) (objs:List OB) (ev:SV → AV) (k:List OB → AV → XV):XV:=match ev x with
  | .p b off => match objs[b]? with
   | some (.box T cs) => if (ev y).flat=true ∧ (ev y).cells.length=sz ∧ off + sz ≤ cs.length then zc4 (zas cs off (ev y).cells) fun cs => zcD (objs.set b (.box T cs)) fun o => k o .u else .bad (.store sz x y)
   | _ => .bad (.store sz x y)
  | .porow b gen j => match objs[b]? with
   | some (.orow E s gen' n xs) => if gen'=gen ∧ (ev y).flat=true ∧ (ev y).cells.length=sz ∧ j + sz ≤ xs.length then zc4 (zas xs j (ev y).cells) fun cs => zcD (objs.set b (.orow E s gen' n cs)) fun o => k o .u else .bad (.store sz x y)
   | _ => .bad (.store sz x y)
  | _ => .bad (.store sz x y)
noncomputable def h_nck (x:SV) (Q:Qls) (objs:List OB) (ev:SV → AV) (k:List OB → AV → XV):XV:=match ev x with
  | .p b o => k objs (.p b o)
  | .prow xs j => k objs (.prow xs j)
  | .fn f fs cs => k objs (.fn f fs cs)
  | .porow b gen j => k objs (.porow b gen j)
  | _ => .bad (.nck x)
noncomputable def h_bin (op:BinOp) (x:SV) (y:SV) (Q:Qls) (objs:List OB) (ev:SV → AV) (k:List OB → AV → XV):XV:=match quB op (ev x) (ev y) with
  | some (.s l) => zcD l fun l => k objs (.s l)
  | some v => k objs v
  | none => .bad (.bin op x y)
noncomputable def h_beq (ne:Bool) (x:SV) (y:SV) (Q:Qls) (objs:List OB) (ev:SV → AV) (k:List OB → AV → XV):XV:=match ev x,ev y with
  | .b l,.b m => k objs (.b (if ne then !(l == m) else (l == m)))
  | _,_ => .bad .mkm0
noncomputable def h_eqs (ne:Bool) (et:ET) (x:SV) (y:SV) (Q:Qls) (objs:List OB) (ev:SV → AV) (k:List OB → AV → XV):XV:=match ev x,ev y with
  | .agg xs,.agg ys => match eqA et (.agg xs) (.agg ys) with
   | some r => k objs (.b (if ne then !r else r))
   | none => .bad (.eqs ne et x y)
  | _,_ => .bad (.eqs ne et x y)
noncomputable def h_not (x:SV) (Q:Qls) (objs:List OB) (ev:SV → AV) (k:List OB → AV → XV):XV:=match ev x with
  | .b t => k objs (.b (!t))
  | _ => .bad (.not x)
noncomputable def h_neg (x:SV) (Q:Qls) (objs:List OB) (ev:SV → AV) (k:List OB → AV → XV):XV:=match ev x with
  | .i kd n => match exAr kd (0 - n) with
   | some r => k objs (.i kd r)
   | none => .bad (.neg x)
  | _ => .bad (.neg x)
noncomputable def h_cvi (kd:IntKind) (x:SV) (Q:Qls) (objs:List OB) (ev:SV → AV) (k:List OB → AV → XV):XV:=match ev x with
  | .i _ n => k objs (.i kd (wrF kd n))
  | _ => .bad (.cvi kd x)
noncomputable def h_cvs (x:SV) (Q:Qls) (objs:List OB) (ev:SV → AV) (k:List OB → AV → XV):XV:=match ev x with
  | .s l => k objs (.s l)
  | _ => .bad (.cvs x)
noncomputable def zii (x:SV) (Q:Qls) (objs:List OB) (ev:SV → AV) (k:List OB → AV → XV):XV:=match ev x with
  | .orow b gen => match objs[b]? with
   | some (.orow _ sz gen' _ xs) => if gen'=gen ∧ sz=1 then (match unA xs with
    | some l => zcD l fun l => k objs (.s l)
    | none => .bad (.cvbs x)) else .bad (.cvbs x)
   | _ => .bad (.cvbs x)
  | .row n xs => match unA xs with
   | some l => if n=l.length then zcD l fun l => k objs (.s l) else .bad (.cvbs x)
   | none => .bad (.cvbs x)
  | .nil => k objs (.s [])
  | _ => .bad (.cvbs x)
noncomputable def zic (x:SV) (lo:Option SV) (hi:Option SV) (Q:Qls) (objs:List OB) (ev:SV → AV) (k:List OB → AV → XV):XV:=match ev x with
  | .s l => match svbF ev 0 lo,svbF ev l.length hi with
   | some (.ofNat i),some (.ofNat j) => Bool.rec (motive:=fun _ => XV) (.bad (.slcs x lo hi)) (zcD ((l.take j).drop i) fun l => k objs (.s l)) (Nat.ble i j && Nat.ble j l.length)
   | _,_ => .bad (.slcs x lo hi)
  | _ => .bad (.slcs x lo hi)
noncomputable def h_fad (off:Nat) (x:SV) (Q:Qls) (objs:List OB) (ev:SV → AV) (k:List OB → AV → XV):XV:=match ev x with
  | .p b o => k objs (.p b (o + off))
  | .prow xs j => k objs (.prow xs (j + off))
  | .porow b gen j => k objs (.porow b gen (j + off))
  | _ => .bad (.fad off x)
noncomputable def h_fld1 (off:Nat) (x:SV) (Q:Qls) (objs:List OB) (ev:SV → AV) (k:List OB → AV → XV):XV:=match ev x with
  | .agg cs => match cs[off]? with
   | some v => k objs (v)
   | none => .bad (.fld1 off x)
  | _ => .bad (.fld1 off x)
noncomputable def h_fldn (off:Nat) (sz:Nat) (x:SV) (Q:Qls) (objs:List OB) (ev:SV → AV) (k:List OB → AV → XV):XV:=match ev x with
  | .agg cs => zc4 ((cs.drop off).take sz) fun cs => k objs (.agg cs)
  | _ => .bad (.fldn off sz x)
noncomputable def h_iad (sz:Nat) (x:SV) (y:SV) (Q:Qls) (objs:List OB) (ev:SV → AV) (k:List OB → AV → XV):XV:=match ev x,ev y with
  | .row n xs,.i _ (.ofNat i) => Bool.rec (motive:=fun _ => XV) (.bad (.iad sz x y)) (k objs (.prow xs (Nat.mul i sz))) (Nat.blt i n && Nat.ble (Nat.mul n sz) xs.length)
  | .orow b gen,.i _ (.ofNat i) => match objs[b]? with
   | some (.orow _ s gen' n _) => Bool.rec (motive:=fun _ => XV) (.bad (.iad sz x y)) (k objs (.porow b gen (Nat.mul i sz))) (Nat.beq gen' gen && Nat.beq s sz && Nat.blt i n)
   | _ => .bad (.iad sz x y)
  | _,_ => .bad (.iad sz x y)
noncomputable def h_iada (sz:Nat) (len:Nat) (x:SV) (y:SV) (Q:Qls) (objs:List OB) (ev:SV → AV) (k:List OB → AV → XV):XV:=match ev x,ev y with
  | .p b off,.i _ i => if 0 ≤ i ∧ i < len then k objs (.p b (off + i.toNat * sz)) else .bad (.iada sz len x y)
  | _,_ => .bad (.iada sz len x y)
noncomputable def zih (sz:Nat) (x:SV) (y:SV) (Q:Qls) (objs:List OB) (ev:SV → AV) (k:List OB → AV → XV):XV:=match ev x,ev y with
  | .row n xs,.i _ (.ofNat i) => Bool.rec (motive:=fun _ => XV) (.bad (.iadr sz x y)) (k objs (.prow xs (Nat.mul i sz))) (Nat.blt i n && Nat.ble (Nat.mul n sz) xs.length)
  | _,_ => .bad (.iadr sz x y)
noncomputable def h_idx (x:SV) (y:SV) (Q:Qls) (objs:List OB) (ev:SV → AV) (k:List OB → AV → XV):XV:=match ev x,ev y with
  | .s l,.i _ (.ofNat n) => match idxK l n with
   | some c => k objs (.i .u8 (.ofNat c))
   | none => .bad (.idx x y)
  | _,_ => .bad (.idx x y)
noncomputable def h_ext (x:SV) (j:Nat) (Q:Qls) (objs:List OB) (ev:SV → AV) (k:List OB → AV → XV):XV:=match ev x with
  | .tup vs => match vs[j]? with
   | some v => k objs (v)
   | none => .bad (.ext x j)
  | _ => .bad (.ext x j)
noncomputable def zik (f:Nat) (args:List SV) (Q:Qls) (objs:List OB) (ev:SV → AV) (k:List OB → AV → XV):XV:=zc4 (args.map ev) fun ag => Bool.rec (motive:=fun _ => XV) (match Q.ci f ag objs with
   | .ok o v => k o v
   | .bad e => .bad e) (match Q.cp f ag with
   | .ok _ v => k objs v
   | .bad e => Bool.rec (motive:=fun _ => XV) (.bad e) (match Q.ci f ag objs with
    | .ok o v => k o v
    | .bad e => .bad e) (isM e)) (zan ag && !(Q.inn f))
noncomputable def zey (f:Nat) (args:List SV) (Q:Qls) (objs:List OB) (ev:SV → AV) (k:List OB → AV → XV):XV:=zc4 (args.map ev) fun ag => Bool.rec (motive:=fun _ => XV) (.bad (.pcall f args)) (match Q.cp f ag with
   | .ok _ v => k objs v
   | .bad e => .bad e) (zan ag)
noncomputable def zez (x:SV) (args:List SV) (Q:Qls) (objs:List OB) (ev:SV → AV) (k:List OB → AV → XV):XV:=match ev x with
  | .fn f fs cs => zc4 (fs ++ args.map ev ++ cs) fun ag => Bool.rec (motive:=fun _ => XV) (.bad (.callv x args)) (Bool.rec (motive:=fun _ => XV) (match Q.ci f ag objs with
   | .ok o v => k o v
   | .bad e => .bad e) (match Q.cp f ag with
   | .ok _ v => k objs v
   | .bad e => Bool.rec (motive:=fun _ => XV) (.bad e) (match Q.ci f ag objs with
    | .ok o v => k o v
    | .bad e => .bad e) (isM e)) (zan ag)) (Q.has f)
  | _ => .bad (.callv x args)
noncomputable def h_app (E:Nat) (sz:Nat) (bytes:Nat) (x:SV) (y:SV) (Q:Qls) (objs:List OB) (ev:SV → AV) (k:List OB → AV → XV):XV:=match zaL objs (ev y) with
  | some (m,ys) => match ev x with
   | .orow b gen => match objs[b]? with
    | some (.orow E' sz' gen' n xs) => if (E'=E ∧ sz'=sz ∧ gen'=gen) ∧ ys.length=m * sz ∧ (n + m) * bytes ≤ 140737488355328 ∧ n + m ≤ 140737488355328 then zfF (n + m) fun nm => zcD (objs.set b (.orow E sz (gen + 1) nm (xs ++ ys))) fun o => k o (.orow b (gen + 1)) else .bad (.app E sz bytes x y)
    | _ => .bad (.app E sz bytes x y)
   | .nil => if ys.length=m * sz ∧ m * bytes ≤ 140737488355328 ∧ m ≤ 140737488355328 then zcD (objs ++ [.orow E sz 0 m ys]) fun o => k o (.orow objs.length 0) else .bad (.app E sz bytes x y)
   | _ => .bad (.app E sz bytes x y)
  | none => .bad (.app E sz bytes x y)
noncomputable def h_apps (E:Nat) (x:SV) (y:SV) (Q:Qls) (objs:List OB) (ev:SV → AV) (k:List OB → AV → XV):XV:=match ev y with
  | .s l => match ev x with
   | .orow b gen => match objs[b]? with
    | some (.orow E' sz' gen' n xs) => if (E'=E ∧ sz'=1 ∧ gen'=gen) ∧ n + l.length ≤ 140737488355328 then zfF (n + l.length) fun nm => zcD (objs.set b (.orow E 1 (gen + 1) nm (xs ++ byA l))) fun o => k o (.orow b (gen + 1)) else .bad (.apps E x y)
    | _ => .bad (.apps E x y)
   | .nil => if l.length ≤ 140737488355328 then zcD (objs ++ [.orow E 1 0 l.length (byA l)]) fun o => k o (.orow objs.length 0) else .bad (.apps E x y)
   | _ => .bad (.apps E x y)
  | _ => .bad (.apps E x y)
noncomputable def zig (x:SV) (Q:Qls) (objs:List OB) (ev:SV → AV) (k:List OB → AV → XV):XV:=match ev x with
  | .s l => zfF l.length fun n => k objs (.i .i64 (.ofNat n))
  | _ => .bad (.lens x)
noncomputable def h_lenr (x:SV) (Q:Qls) (objs:List OB) (ev:SV → AV) (k:List OB → AV → XV):XV:=match ev x with
  | .row n _ => k objs (.i .i64 n)
  | .nil => k objs (.i .i64 0)
  | .zn _ => k objs (.i .i64 0)
  | .orow b gen => match objs[b]? with
   | some (.orow _ _ gen' n _) => if gen'=gen then k objs (.i .i64 n) else .bad (.lenr x)
   | _ => .bad (.lenr x)
  | _ => .bad (.lenr x)
noncomputable def h_mks (E:Nat) (sz:Nat) (bytes:Nat) (x:SV) (y:SV) (Q:Qls) (objs:List OB) (ev:SV → AV) (k:List OB → AV → XV):XV:=match ev x,ev y with
  | .i _ l,.i _ c => if l=0 ∧ 0 ≤ c ∧ (bytes:Int) * c ≤ 281474976710656 ∧ c ≤ 140737488355328 then zcD (objs ++ [.orow E sz 0 0 []]) fun o => k o (.orow objs.length 0) else .bad (.mks E sz bytes x y)
  | _,_ => .bad (.mks E sz bytes x y)
noncomputable def h_mkz (E:Nat) (bytes:Nat) (kd:IntKind) (z:Int) (x:SV) (Q:Qls) (objs:List OB) (ev:SV → AV) (k:List OB → AV → XV):XV:=match ev x with
  | .i _ l => if 0 ≤ l ∧ (bytes:Int) * l ≤ 281474976710656 ∧ l ≤ 140737488355328 then zcD (objs ++ [.orow E 1 0 l.toNat (List.replicate l.toNat (.i kd z))]) fun o => k o (.orow objs.length 0) else .bad (.mkz E bytes kd z x)
  | _ => .bad (.mkz E bytes kd z x)
noncomputable def h_capp (sz:Nat) (bytes:Nat) (x:SV) (y:SV) (Q:Qls) (objs:List OB) (ev:SV → AV) (k:List OB → AV → XV):XV:=match ev x,zaL [] (ev y) with
  | .crow n xs,some (m,ys) => if (xs.length=n * sz ∧ ys.length=m * sz) ∧ 0 < m ∧ (n + m) * bytes ≤ 140737488355328 ∧ n + m ≤ 140737488355328 then zcD (xs ++ ys) fun cs => k objs (.row (n + m) cs) else .bad (.capp sz bytes x y)
  | _,_ => .bad (.capp sz bytes x y)
noncomputable def zij (E:Nat) (sz:Nat) (bytes:Nat) (x:SV) (y:SV) (Q:Qls) (objs:List OB) (ev:SV → AV) (k:List OB → AV → XV):XV:=match ev x,zaL objs (ev y) with
  | .crow n xs,some (m,ys) => if (xs.length=n * sz ∧ ys.length=m * sz) ∧ 0 < m ∧ (n + m) * bytes ≤ 140737488355328 ∧ n + m ≤ 140737488355328 then zcD (objs ++ [.orow E sz 0 (n + m) (xs ++ ys)]) fun o => k o (.orow objs.length 0) else .bad (.cappo E sz bytes x y)
  | _,_ => .bad (.cappo E sz bytes x y)
noncomputable def h_trn (sz:Nat) (x:SV) (y:SV) (Q:Qls) (objs:List OB) (ev:SV → AV) (k:List OB → AV → XV):XV:=match ev x,ev y with
  | .row n xs,.i _ j => if 0 ≤ j ∧ j ≤ n then zcD (xs.take (j.toNat * sz)) fun xs => k objs (.row j.toNat xs) else .bad (.trn sz x y)
  | .nil,.i _ j => if j=0 then k objs .nil else .bad (.trn sz x y)
  | .orow b gen,.i _ j => match objs[b]? with
   | some (.orow E s gen' n xs) => if gen'=gen ∧ s=sz ∧ 0 ≤ j ∧ j ≤ n then zcD (objs.set b (.orow E s (gen + 1) j.toNat (xs.take (j.toNat * s)))) fun o => k o (.orow b (gen + 1)) else .bad (.trn sz x y)
   | _ => .bad (.trn sz x y)
  | _,_ => .bad (.trn sz x y)
noncomputable def h_mkf (f:Nat) (fs:List SV) (cs:List SV) (Q:Qls) (objs:List OB) (ev:SV → AV) (k:List OB → AV → XV):XV:=zc4 (fs.map ev) fun fs => zc4 (cs.map ev) fun cs => k objs (.fn f fs cs)
noncomputable def h_pu (q:PQ) (xs:List SV) (Q:Qls) (objs:List OB) (ev:SV → AV) (k:List OB → AV → XV):XV:=match pq q (xs.map ev) with
  | some v => k objs (v)
  | none => .bad (.pu q xs)
noncomputable def h_mkm0 (Q:Qls) (objs:List OB) (ev:SV → AV) (k:List OB → AV → XV):XV:=zcD (objs ++ [.mp []]) fun o => k o (.m objs.length)
noncomputable def h_mkm1 (x:SV) (Q:Qls) (objs:List OB) (ev:SV → AV) (k:List OB → AV → XV):XV:=match ev x with
  | .i _ _ => zcD (objs ++ [.mp []]) fun o => k o (.m objs.length)
  | _ => .bad (.mkm1 x)
noncomputable def h_lk (z:AV) (ok:Bool) (x:SV) (y:SV) (Q:Qls) (objs:List OB) (ev:SV → AV) (k:List OB → AV → XV):XV:=match ev x,ev y with
  | .m b,.s l => match objs[b]? with
   | some (.mp es) => k objs (lkA z ok (zgs l es))
   | _ => .bad (.lk z ok x y)
  | _,_ => .bad (.lk z ok x y)
noncomputable def h_mup (x:SV) (y:SV) (v:SV) (Q:Qls) (objs:List OB) (ev:SV → AV) (k:List OB → AV → XV):XV:=match ev x,ev y with
  | .m b,.s l => match objs[b]? with
   | some (.mp es) => if (ev v).one=true then zcD (objs.set b (.mp (zew l (ev v) es))) fun o => k o (.u) else .bad (.mup x y v)
   | _ => .bad (.mup x y v)
  | _,_ => .bad (.mup x y v)
noncomputable def gS (c:Qls) (op:SOp) (objs:List OB) (ev:SV → AV) (k:List OB → AV → XV):XV :=
 SOp.rec (motive:=fun _ => Qls → List OB → (SV → AV) → (List OB → AV → XV) → XV) h_mv zid zim h_box zil zfA h_bslo zif zie zib h_nck h_bin h_beq h_eqs h_not h_neg h_cvi h_cvs zii zic h_fad h_fld1 h_fldn h_iad h_iada zih h_idx h_ext zik zey zez h_app h_apps zig h_lenr h_mks h_mkz h_capp zij h_trn h_mkf h_pu h_mkm0 h_mkm1 h_lk h_mup op c objs ev k
theorem gS_ok {P:Program} [Tabs P] {c:Qls} (hc:QlsOk P c) {op:SOp} {objs ro:List OB} {tm:List AV} {r:AV} {k:List OB → AV → XV} {K:List OB → AV → Prop} (h:gS c op objs (fun x => x.ev tm) k=.ok ro r) (hk:∀ o v,k o v=.ok ro r → K o v):wpS P op objs tm K:=by
 cases op
 case call f args =>
  simp only [gS,zik,zbe] at h
  simp only [wpS]
  cases hp:(zan (args.map fun x => x.ev tm) && !(c.inn f)) with
  | true =>
   rw [hp] at h
   dsimp only at h
   split at h
   ·rename_i o v hv; exact hc.cp _ _ _ _ hv _ _ (hk _ _ h)
   ·rename_i e _
    cases he:isM e with
    | false => rw [he] at h; cases h
    | true =>
     rw [he] at h
     dsimp only at h
     split at h
     ·rename_i o v hv; exact hc.ci _ _ _ _ _ hv _ (hk _ _ h)
     ·cases h
  | false =>
   rw [hp] at h
   dsimp only at h
   split at h
   ·rename_i o v hv; exact hc.ci _ _ _ _ _ hv _ (hk _ _ h)
   ·cases h
 case pcall f args =>
  simp only [gS,zey,zbe] at h
  simp only [wpS]
  cases hp:zan (args.map fun x => x.ev tm) with
  | true =>
   rw [hp] at h
   dsimp only at h
   split at h
   ·rename_i o v hv
    exact ⟨rfl,hc.cp _ _ _ _ hv [] (fun _ r => r.plain=true ∧ K objs r) ⟨hc.pl _ _ _ _ hv,hk _ _ h⟩⟩
   ·cases h
  | false => rw [hp] at h; cases h
 case callv x args =>
  simp only [gS,zez,zbe] at h
  simp only [wpS]
  split at h
  ·rename_i f fs cs hx
   rw [hx]
   dsimp only
   cases hh:c.has f with
   | false => rw [hh] at h; cases h
   | true =>
    rw [hh] at h
    dsimp only at h
    refine ⟨hc.has _ hh,?_⟩
    cases hp:zan (fs ++ (args.map fun x => x.ev tm) ++ cs) with
    | true =>
     rw [hp] at h
     dsimp only at h
     split at h
     ·rename_i o v hv; exact hc.cp _ _ _ _ hv _ _ (hk _ _ h)
     ·rename_i e _
      cases he:isM e with
      | false => rw [he] at h; cases h
      | true =>
       rw [he] at h
       dsimp only at h
       split at h
       ·rename_i o v hv; exact hc.ci _ _ _ _ _ hv _ (hk _ _ h)
       ·cases h
    | false =>
     rw [hp] at h
     dsimp only at h
     split at h
     ·rename_i o v hv; exact hc.ci _ _ _ _ _ hv _ (hk _ _ h)
     ·cases h
  ·cases h
 case bin op x y =>
  simp only [gS,h_bin,zcC,quB_eq] at h
  simp only [wpS]
  split at h
  ·rename_i l hl; exact zfK hl (hk _ _ h)
  ·rename_i v hv _; exact zfK (by assumption) (hk _ _ h)
  ·cases h
 case neg x =>
  simp only [gS,h_neg] at h
  simp only [wpS]
  split at h
  ·rename_i kd n hx
   rw [hx]
   dsimp only
   split at h
   ·rename_i m hm; exact zeI hm (hk _ _ h)
   ·cases h
  ·cases h
 case idx x y =>
  simp only [gS,h_idx] at h
  simp only [wpS]
  split at h
  ·rename_i l kd n hx hy
   rw [hx,hy]
   dsimp only
   split at h
   ·rename_i m hm
    obtain ⟨h1,h2⟩:=zh8 hm
    refine ⟨⟨Int.natCast_nonneg n,Int.ofNat_lt.2 h1⟩,?_⟩
    have:=hk _ _ h
    rw [← h2] at this
    exact this
   ·cases h
  ·cases h
 case lens x =>
  simp only [gS,zig,zeF] at h
  simp only [wpS]
  split at h
  ·rename_i l hx
   rw [hx]
   exact hk _ _ h
  ·cases h
 case slcs x lo hi =>
  simp only [gS,zic,zcC,svbF_eq] at h
  simp only [wpS]
  split at h
  ·rename_i l hx
   rw [hx]
   dsimp only
   split at h
   ·rename_i i j h1 h2
    rw [h1,h2]
    dsimp only
    cases hb:(Nat.ble i j && Nat.ble j l.length) with
    | false => rw [hb] at h; cases h
    | true =>
     rw [hb] at h
     dsimp only at h
     rw [Bool.and_eq_true,Nat.ble_eq,Nat.ble_eq] at hb
     exact ⟨⟨Int.natCast_nonneg i,Int.ofNat_le.2 hb.1,Int.ofNat_le.2 hb.2⟩,hk _ _ h⟩
   ·cases h
  ·cases h
 case cvbs x =>
  simp only [gS,zii,zcC] at h
  simp only [wpS]
  split at h
  ·rename_i b gen hx
   rw [hx]
   dsimp only
   split at h
   ·rename_i T sz gen' n xs hb
    rw [hb]
    dsimp only
    split at h
    ·rename_i c
     split at h
     ·rename_i l hl; exact ⟨c,l,zgI hl,hk _ _ h⟩
     ·cases h
    ·cases h
   ·cases h
  ·rename_i n xs hx
   rw [hx]
   dsimp only
   split at h
   ·rename_i l hl
    split at h
    ·rename_i c; exact ⟨l,⟨zgI hl,c⟩,hk _ _ h⟩
    ·cases h
   ·cases h
  ·rename_i hx
   rw [hx]
   exact hk _ _ h
  ·cases h
 case pick c x y =>
  simp only [gS,zid] at h
  simp only [wpS]
  split at h
  ·rename_i hx
   rw [hx]
   exact ⟨fun _ => hk _ _ h,(fun e => by cases e)⟩
  ·rename_i hx
   rw [hx]
   exact ⟨(fun e => by cases e),fun _ => hk _ _ h⟩
  ·cases h
 case iad sz x y =>
  simp only [gS,h_iad] at h
  simp only [wpS]
  split at h
  ·rename_i n xs kd i hx hy
   rw [hx,hy]
   dsimp only
   cases hb:(Nat.blt i n && Nat.ble (Nat.mul n sz) xs.length) with
   | false => rw [hb] at h; cases h
   | true =>
    rw [hb] at h
    dsimp only at h
    rw [Bool.and_eq_true,zbq,decide_eq_true_eq,Nat.ble_eq] at hb
    exact ⟨⟨Int.natCast_nonneg i,Int.ofNat_lt.2 hb.1,hb.2⟩,hk _ _ h⟩
  ·rename_i b gen kd i hx hy
   rw [hx,hy]
   dsimp only
   split at h
   ·rename_i E s gen' n xs hb2
    rw [hb2]
    dsimp only
    cases hb:(Nat.beq gen' gen && Nat.beq s sz && Nat.blt i n) with
    | false => rw [hb] at h; cases h
    | true =>
     rw [hb] at h
     dsimp only at h
     rw [Bool.and_eq_true,Bool.and_eq_true,zbq,decide_eq_true_eq,Nat.beq_eq,Nat.beq_eq] at hb
     exact ⟨⟨hb.1.1,hb.1.2,Int.natCast_nonneg i,Int.ofNat_lt.2 hb.2⟩,hk _ _ h⟩
   ·cases h
  ·cases h
 case iadr sz x y =>
  simp only [gS,zih] at h
  simp only [wpS]
  split at h
  ·rename_i n xs kd i hx hy
   rw [hx,hy]
   dsimp only
   cases hb:(Nat.blt i n && Nat.ble (Nat.mul n sz) xs.length) with
   | false => rw [hb] at h; cases h
   | true =>
    rw [hb] at h
    dsimp only at h
    rw [Bool.and_eq_true,zbq,decide_eq_true_eq,Nat.ble_eq] at hb
    exact ⟨⟨Int.natCast_nonneg i,Int.ofNat_lt.2 hb.1,hb.2⟩,hk _ _ h⟩
  ·cases h
 all_goals simp only [gS,h_mv,zid,zim,h_box,zil,zfA,h_bslo,zif,zie,zib,h_nck,h_bin,h_beq,h_eqs,h_not,h_neg,h_cvi,h_cvs,zii,zic,h_fad,h_fld1,h_fldn,h_iad,h_iada,zih,h_idx,h_ext,zik,zey,zez,h_app,h_apps,zig,h_lenr,h_mks,h_mkz,h_capp,zij,h_trn,h_mkf,h_pu,h_mkm0,h_mkm1,h_lk,h_mup,wrF_eq,zcC,zbe,zeF,reduceCtorEq] at h
 all_goals simp only [wpS]
 all_goals first
  | exact hk _ _ h
  | ((repeat' split at h) <;> first | (cases h; done) | (have h9:=hk _ _ h; simp_all; done))
noncomputable def zdA (w:Nat) (t:T8) (dst:Option Nat) (v:AV) (op:SOp) (k:T8 → XV):XV :=
 match dst with
 | none => k t
 | some d => Bool.rec (motive:=fun _ => XV) (.bad op) (frc v fun v => t.setK d v k) (Nat.blt d w)
theorem zbn {w:Nat} {t:T8} {tm:List AV} {dst:Option Nat} {v:AV} {op:SOp} {k:T8 → XV} {o:List OB} {r:AV} (hr:Rep w t tm) (h:zdA w t dst v op k=.ok o r):∃ t',Rep w t' (zag tm dst v) ∧ k t'=.ok o r:=by
 unfold zdA at h
 split at h
 ·exact ⟨t,hr,h⟩
 ·rename_i d
  rw [zbq] at h
  by_cases e:d < w
  ·rw [decide_eq_true e] at h
   have h:(frc v fun v => t.setK d v k)=.ok o r:=h
   rw [zfE,zbm] at h
   exact ⟨_,hr.put e,h⟩
  ·rw [decide_eq_false e] at h; cases h
noncomputable def gR (c:Qls) (w:Nat) (l:List SO):List OB → T8 → (List OB → T8 → XV) → XV :=
 List.rec (motive:=fun _ => List OB → T8 → (List OB → T8 → XV) → XV) (fun o t k => k o t)
  (fun a _ ih o t k => match a with
   | ⟨dst,op,none⟩ => gS c op o (evT w t) fun o v => zdA w t dst v op fun t => ih o t k
   | ⟨dst,op,some (g,want)⟩ => match evT w t (.t g) with
    | .b x => Bool.rec (motive:=fun _ => XV) (zdA w t dst (.o undef) op fun t => ih o t k) (gS c op o (evT w t) fun o v => zdA w t dst v op fun t => ih o t k) (x == want)
    | .o (.tuple _) => zdA w t dst (.o undef) op fun t => ih o t k
    | _ => .bad op) l
theorem zeS {tm:List AV} {g:Nat} {x:Bool} (h:(tm[g]?).getD .u=.b x):tm.set g (.b x)=tm:=by
 cases e:tm[g]? with
 | none => rw [e] at h; cases h
 | some y => rw [e] at h; exact set_same (e.trans (congrArg some h))
theorem zbk {P:Program} [Tabs P] {c:Qls} (hc:QlsOk P c) {w:Nat} {ro:List OB} {r:AV}:∀ (l:List SO) {objs:List OB} {t:T8} {tm:List AV} {k:List OB → T8 → XV} {K:List OB → List AV → Prop},Rep w t tm → gR c w l objs t k=.ok ro r → (∀ o' t' tm',Rep w t' tm' → k o' t'=.ok ro r → K o' tm') → wpR P l objs tm K
 | [],objs,t,tm,k,K,hr,h,hk => hk _ _ _ hr h
 | ⟨dst,op,none⟩ :: l,objs,t,tm,k,K,hr,h,hk => by
  have h:(gS c op objs (evT w t) fun o v => zdA w t dst v op fun t => gR c w l o t k)=.ok ro r:=h
  rw [hr.ev] at h
  simp only [wpR]
  refine gS_ok hc h fun o v h => ?_
  obtain ⟨t',hr',h⟩:=zbn hr h
  exact zbk hc l hr' h hk
 | ⟨dst,op,some (g,want)⟩ :: l,objs,t,tm,k,K,hr,h0,hk => by
  have h:(match evT w t (.t g) with
    | .b x => Bool.rec (motive:=fun _ => XV) (zdA w t dst (.o undef) op fun t => gR c w l objs t k) (gS c op objs (evT w t) fun o v => zdA w t dst v op fun t => gR c w l o t k) (x == want)
    | .o (.tuple _) => zdA w t dst (.o undef) op fun t => gR c w l objs t k
    | _ => .bad op)=.ok ro r:=h0
  clear h0
  rw [hr.ev] at h
  simp only [wpR]
  split at h
  ·rename_i x hx
   have hx:(tm[g]?).getD .u=.b x:=hx
   rw [hx]
   dsimp only
   cases hw:(x == want) with
   | true =>
    rw [hw] at h
    have e:x=want:=by simpa using hw
    subst e
    refine ⟨fun _ => ?_,(fun e => by cases x <;> cases e)⟩
    rw [zeS hx]
    refine gS_ok hc h fun o v h => ?_
    obtain ⟨t',hr',h⟩:=zbn hr h
    exact zbk hc l hr' h hk
   | false =>
    rw [hw] at h
    have e:x=!want:=by cases x <;> cases want <;> first | rfl | cases hw
    subst e
    refine ⟨(fun e => by cases want <;> cases e),fun _ => ?_⟩
    rw [zeS hx]
    obtain ⟨t',hr',h⟩:=zbn hr h
    exact zbk hc l hr' h hk
  ·rename_i vs hx
   have hx:(tm[g]?).getD .u=.o (.tuple vs):=hx
   rw [hx]
   obtain ⟨t',hr',h⟩:=zbn hr h
   exact zbk hc l hr' h hk
  ·cases h
noncomputable def gOD (c:Qls) (op:SOp) (objs:List OB) (ev:SV → AV) (k:List OB → AV → XV):XV :=
 Bool.rec (motive:=fun _ => XV) (gS c op objs ev k) (match op with
  | .call f args => zc4 (args.map ev) fun ag => Bool.rec (motive:=fun _ => XV) (.bad op) (match c.cp f ag with
   | .ok _ v => k objs v
   | .bad e => .bad e) (zan ag)
  | .pcall f args => zc4 (args.map ev) fun ag => Bool.rec (motive:=fun _ => XV) (.bad op) (match c.cp f ag with
   | .ok _ v => k objs v
   | .bad e => .bad e) (zan ag)
  | _ => .bad op) op.isCall
theorem gOD_ok {P:Program} [Tabs P] {c:Qls} (hc:QlsOk P c) {op:SOp} {objs ro:List OB} {tm:List AV} {r:AV} {k:List OB → AV → XV} {K:List OB → AV → Prop} (h:gOD c op objs (fun x => x.ev tm) k=.ok ro r) (hk:∀ o v,k o v=.ok ro r → K o v):if op.isCall=true then ∃ v,wpS P op objs tm (fun o x => o=objs ∧ x=v) ∧ K objs v else wpS P op objs tm K:=by
 unfold gOD at h
 cases hi:op.isCall with
 | false => rw [hi] at h; rw [if_neg (by decide)]; exact gS_ok hc h hk
 | true =>
  rw [hi] at h
  rw [if_pos rfl]
  dsimp only at h
  split at h
  ·rename_i f args
   rw [zbe] at h
   cases hp:zan (args.map fun x => x.ev tm) with
   | true =>
    rw [hp] at h
    dsimp only at h
    split at h
    ·rename_i o v hv; exact ⟨v,hc.cp _ _ _ _ hv _ _ ⟨rfl,rfl⟩,hk _ _ h⟩
    ·cases h
   | false => rw [hp] at h; cases h
  ·rename_i f args
   rw [zbe] at h
   cases hp:zan (args.map fun x => x.ev tm) with
   | true =>
    rw [hp] at h
    dsimp only at h
    split at h
    ·rename_i o v hv; exact ⟨v,⟨hp,hc.cp _ _ _ _ hv [] (fun _ r => r.plain=true ∧ (objs=objs ∧ r=v)) ⟨hc.pl _ _ _ _ hv,rfl,rfl⟩⟩,hk _ _ h⟩
    ·cases h
   | false => rw [hp] at h; cases h
  ·cases h
noncomputable def gD (c:Qls) (w:Nat) (l:List SO):List OB → T8 → (List OB → T8 → XV) → XV :=
 List.rec (motive:=fun _ => List OB → T8 → (List OB → T8 → XV) → XV) (fun o t k => k o t)
  (fun a _ ih o t k => match a with
   | ⟨dst,op,none⟩ => gOD c op o (evT w t) fun o v => zdA w t dst v op fun t => ih o t k
   | ⟨dst,op,some (g,want)⟩ => match evT w t (.t g) with
    | .b x => Bool.rec (motive:=fun _ => XV) (zdA w t dst (.o undef) op fun t => ih o t k) (gOD c op o (evT w t) fun o v => zdA w t dst v op fun t => ih o t k) (x == want)
    | .o (.tuple _) => zdA w t dst (.o undef) op fun t => ih o t k
    | _ => .bad op) l
theorem ziq {P:Program} [Tabs P] {c:Qls} (hc:QlsOk P c) {w:Nat} {ro:List OB} {r:AV}:∀ (l:List SO) {objs:List OB} {t:T8} {tm:List AV} {k:List OB → T8 → XV} {K:List OB → List AV → Prop},Rep w t tm → gD c w l objs t k=.ok ro r → (∀ o' t' tm',Rep w t' tm' → k o' t'=.ok ro r → K o' tm') → wpD P l objs tm K
 | [],objs,t,tm,k,K,hr,h,hk => hk _ _ _ hr h
 | ⟨dst,op,none⟩ :: l,objs,t,tm,k,K,hr,h,hk => by
  have h:(gOD c op objs (evT w t) fun o v => zdA w t dst v op fun t => gD c w l o t k)=.ok ro r:=h
  rw [hr.ev] at h
  simp only [wpD]
  refine gOD_ok hc (K:=fun o v => wpD P l o (zag tm dst v) K) h fun o v h => ?_
  obtain ⟨t',hr',h⟩:=zbn hr h
  exact ziq hc l hr' h hk
 | ⟨dst,op,some (g,want)⟩ :: l,objs,t,tm,k,K,hr,h0,hk => by
  have h:(match evT w t (.t g) with
    | .b x => Bool.rec (motive:=fun _ => XV) (zdA w t dst (.o undef) op fun t => gD c w l objs t k) (gOD c op objs (evT w t) fun o v => zdA w t dst v op fun t => gD c w l o t k) (x == want)
    | .o (.tuple _) => zdA w t dst (.o undef) op fun t => gD c w l objs t k
    | _ => .bad op)=.ok ro r:=h0
  clear h0
  rw [hr.ev] at h
  simp only [wpD]
  split at h
  ·rename_i x hx
   have hx:(tm[g]?).getD .u=.b x:=hx
   rw [hx]
   dsimp only
   cases hw:(x == want) with
   | true =>
    rw [hw] at h
    have e:x=want:=by simpa using hw
    subst e
    refine ⟨fun _ => ?_,(fun e => by cases x <;> cases e)⟩
    rw [zeS hx]
    refine gOD_ok hc (K:=fun o v => wpD P l o (zag tm dst v) K) h fun o v h => ?_
    obtain ⟨t',hr',h⟩:=zbn hr h
    exact ziq hc l hr' h hk
   | false =>
    rw [hw] at h
    have e:x=!want:=by cases x <;> cases want <;> first | rfl | cases hw
    subst e
    refine ⟨(fun e => by cases want <;> cases e),fun _ => ?_⟩
    rw [zeS hx]
    obtain ⟨t',hr',h⟩:=zbn hr h
    exact ziq hc l hr' h hk
  ·rename_i vs hx
   have hx:(tm[g]?).getD .u=.o (.tuple vs):=hx
   rw [hx]
   obtain ⟨t',hr',h⟩:=zbn hr h
   exact ziq hc l hr' h hk
  ·cases h
def udA:Value → Bool
 | .tuple a => decide (a=#[])
 | _ => false
mutual
def samA:Nat → AV → AV → Bool
 | 0,_,_ => false
 | _ + 1,.s l,.s m => decide (l=m)
 | _ + 1,.i a n,.i b m => decide (a=b) && decide (n=m)
 | _ + 1,.b x,.b y => x == y
 | k + 1,.agg xs,.agg ys => zgi k xs ys
 | k + 1,.tup xs,.tup ys => zgi k xs ys
 | _ + 1,.p a b,.p c d => decide (a=c) && decide (b=d)
 | k + 1,.row n xs,.row m ys => decide (n=m) && zgi k xs ys
 | k + 1,.prow xs n,.prow ys m => decide (n=m) && zgi k xs ys
 | k + 1,.crow n xs,.crow m ys => decide (n=m) && zgi k xs ys
 | _ + 1,.orow a b,.orow c d => decide (a=c) && decide (b=d)
 | _ + 1,.porow a b e,.porow c d f => decide (a=c) && (decide (b=d) && decide (e=f))
 | _ + 1,.m a,.m b => decide (a=b)
 | _ + 1,.zn a,.zn b => a == b
 | _ + 1,.nil,.nil => true
 | _ + 1,.u,.u => true
 | k + 1,.fn f a b,.fn g c d => decide (f=g) && (zgi k a c && zgi k b d)
 | _ + 1,.o v,.o w => udA v && udA w
 | _ + 1,_,_ => false
def zgi:Nat → List AV → List AV → Bool
 | 0,_,_ => false
 | _ + 1,[],[] => true
 | k + 1,x :: xs,y :: ys => samA k x y && zgi k xs ys
 | _ + 1,_,_ => false
end
theorem udA_ok {v:Value} (h:udA v=true):v=.tuple #[]:=by
 unfold udA at h
 split at h
 ·rw [of_decide_eq_true h]
 ·cases h
mutual
theorem zem:∀ {k:Nat} {x y:AV},samA k x y=true → x=y
 | 0,x,y,h => by rw [samA] at h; cases h
 | k + 1,x,y,h => by
  cases x <;> cases y <;> simp only [samA,Bool.and_eq_true,decide_eq_true_eq,beq_iff_eq,reduceCtorEq,Bool.false_eq_true] at h
  case s.s => rw [h]
  case i.i => rw [h.1,h.2]
  case b.b => rw [h]
  case agg.agg => rw [zbo h]
  case tup.tup => rw [zbo h]
  case p.p => rw [h.1,h.2]
  case row.row => rw [h.1,zbo h.2]
  case prow.prow => rw [h.1,zbo h.2]
  case crow.crow => rw [h.1,zbo h.2]
  case orow.orow => rw [h.1,h.2]
  case porow.porow => rw [h.1,h.2.1,h.2.2]
  case m.m => rw [h]
  case zn.zn => rw [h]
  case nil.nil => rfl
  case u.u => rfl
  case fn.fn => rw [h.1,zbo h.2.1,zbo h.2.2]
  case o.o => rw [udA_ok h.1,udA_ok h.2]
theorem zbo:∀ {k:Nat} {x y:List AV},zgi k x y=true → x=y
 | 0,x,y,h => by rw [zgi] at h; cases h
 | k + 1,[],[],h => rfl
 | k + 1,[],_ :: _,h => by simp only [zgi,Bool.false_eq_true] at h
 | k + 1,_ :: _,[],h => by simp only [zgi,Bool.false_eq_true] at h
 | k + 1,x :: xs,y :: ys,h => by
  simp only [zgi,Bool.and_eq_true] at h
  rw [zem h.1,zbo h.2]
end
def zgP:T8 → T8 → Bool
 | .lf x,.lf y => samA 200 x y
 | .nd a b,.nd c d => zgP a c && zgP b d
 | _,_ => false
theorem zel:∀ {x y:T8},zgP x y=true → x=y
 | .lf x,.lf y,h => by rw [zgP] at h; rw [zem h]
 | .nd a b,.nd c d,h => by rw [zgP,Bool.and_eq_true] at h; rw [zel h.1,zel h.2]
 | .lf x,.nd _ _,h => by simp [zgP] at h
 | .nd _ _,.lf _,h => by simp [zgP] at h
theorem Rep.inj {w:Nat} {t:T8} {tm tm':List AV} (h:Rep w t tm) (h':Rep w t tm'):tm=tm':=by
 obtain ⟨h1,D,_,_,h2⟩:=h
 obtain ⟨h1',D',_,_,h2'⟩:=h'
 apply List.ext_getElem (h1.trans h1'.symm)
 intro n hn hn'
 have e1:=h2 n (by omega)
 have e2:=h2' n (by omega)
 rw [List.getElem?_eq_getElem hn] at e1
 rw [List.getElem?_eq_getElem hn'] at e2
 exact e1.symm.trans e2
abbrev HsT:=List (List SO × T8 × T8)
noncomputable def gRe (c:Qls) (w:Nat):HsT → List OB → XV
 | [],o => .ok o .u
 | e :: r,o => match gR c w e.1 o e.2.1 (fun _ x => Bool.rec (motive:=fun _ => XV) (.bad .mkm0) (.ok [] .u) (zgP x e.2.2)) with
  | .ok _ _ => gRe c w r o
  | .bad e => .bad e
def zdB (w:Nat):HsT → Hst → Prop
 | [],[] => True
 | a :: r,b :: s => (a.1=b.1 ∧ Rep w a.2.1 b.2.1 ∧ Rep w a.2.2 b.2.2) ∧ zdB w r s
 | _,_ => False
theorem zdB.cons {w:Nat} {l:List SO} {t u:T8} {tm um:List AV} {h:HsT} {hs:Hst} (h1:Rep w t tm) (h2:Rep w u um) (h3:zdB w h hs):zdB w ((l,t,u) :: h) ((l,tm,um) :: hs):=⟨⟨rfl,h1,h2⟩,h3⟩
theorem zdB.nil {w:Nat}:zdB w [] []:=trivial
theorem zfC {P:Program} [Tabs P] {c:Qls} (hc:QlsOk P c) {w:Nat} {l:List SO} {objs ro:List OB} {t u:T8} {tm um:List AV} {r:AV} (hr:Rep w t tm) (hu:Rep w u um) (h:gR c w l objs t (fun _ x => Bool.rec (motive:=fun _ => XV) (.bad .mkm0) (.ok [] .u) (zgP x u))=.ok ro r):wpR P l objs tm (fun _ x => x=um):=by
 refine zbk hc l hr h fun o' t' tm' hr' h => ?_
 cases e:zgP t' u with
 | false => rw [e] at h; cases h
 | true =>
  have:=zel e
  subst this
  exact hr'.inj hu
theorem zc3 {P:Program} [Tabs P] {c:Qls} (hc:QlsOk P c) {w:Nat}:∀ {h:HsT} {hs:Hst} {o ro:List OB} {r:AV},zdB w h hs → gRe c w h o=.ok ro r → zaB P hs o
 | [],[],o,ro,r,hr,h => trivial
 | a :: l,b :: s,o,ro,r,hr,h => by
  rw [gRe] at h
  split at h
  ·rename_i x y hx
   obtain ⟨⟨h1,h2,h3⟩,h4⟩:=hr
   rw [h1] at hx
   exact ⟨zfC hc h2 h3 hx,zc3 hc h4 h⟩
  ·cases h
 | [],_ :: _,_,_,_,hr,h => hr.elim
 | _ :: _,[],_,_,_,hr,h => hr.elim
noncomputable def gT (c:Qls) (w:Nat):List (List SO × SO) → HsT → List SO → List OB → T8 → (List OB → T8 → XV) → XV
 | [],_,last,o,t,k => gR c w last o t k
 | (L,cl) :: r,hist,last,o,t,k => gR c w L o t fun _ u => gR c w [cl] o u fun o' t' => match gRe c w ((L,t,u) :: hist) o' with
  | .ok _ _ => gT c w r ((L,t,u) :: hist) last o' t' k
  | .bad e => .bad e
theorem gT_ok {P:Program} [Tabs P] {c:Qls} (hc:QlsOk P c) {w:Nat} {ro:List OB} {r:AV}:∀ {st:List (List SO × SO)} {h:HsT} {hs:Hst} {last:List SO} {o:List OB} {t:T8} {tm:List AV} {k:List OB → T8 → XV} {K:List OB → List AV → Prop},zdB w h hs → Rep w t tm → gT c w st h last o t k=.ok ro r → (∀ o' t' tm',Rep w t' tm' → k o' t'=.ok ro r → K o' tm') → wpT P st hs last o tm K
 | [],h,hs,last,o,t,tm,k,K,hh,hr,he,hk => by
  rw [gT] at he
  exact zbk hc _ hr he hk
 | (L,cl) :: st,h,hs,last,o,t,tm,k,K,hh,hr,he,hk => by
  rw [gT] at he
  rw [wpT]
  refine zbk hc _ hr he fun _ u um hu he => ?_
  refine zbk hc _ hu he fun o' t' tm' hr' he => ?_
  split at he
  ·rename_i x y hx
   have h2:zdB w ((L,t,u) :: h) ((L,tm,um) :: hs):=zdB.cons hr hu hh
   exact ⟨zc3 hc h2 hx,gT_ok hc h2 hr' he hk⟩
  ·cases he
noncomputable def both (x y:XV):XV :=
 match x with
 | .ok [] r => (match y with
  | .ok [] r' => Bool.rec (motive:=fun _ => XV) (.bad .mkm0) (.ok [] r) (samA 200 r r')
  | .ok _ _ => .bad .mkm0
  | .bad e => .bad e)
 | .ok _ _ => .bad .mkm0
 | .bad e => .bad e
theorem both_ok {x y:XV} {o:List OB} {r:AV} (h:both x y=.ok o r):x=.ok o r ∧ y=.ok o r:=by
 cases x with
 | bad e => cases h
 | ok ox rx =>
  cases ox with
  | cons _ _ => cases h
  | nil =>
   cases y with
   | bad e => cases h
   | ok oy ry =>
    cases oy with
    | cons _ _ => cases h
    | nil =>
     have h:(Bool.rec (motive:=fun _ => XV) (.bad .mkm0) (.ok [] rx) (samA 200 rx ry):XV)=.ok o r:=h
     cases e:samA 200 rx ry with
     | false => rw [e] at h; cases h
     | true => rw [e] at h; rw [← zem e]; exact ⟨h,h⟩
noncomputable def hsT (w d:Nat) (p:AV):HsT → (HsT → XV) → XV
 | [],k => k []
 | e :: r,k => e.2.1.setK d p fun a => e.2.2.setK d p fun b => hsT w d p r fun r => k ((e.1,a,b) :: r)
theorem zia {w d:Nat} (hd:d < w) {p:AV}:∀ {h:HsT} {hs:Hst} {k:HsT → XV} {o:List OB} {r:AV},zdB w h hs → hsT w d p h k=.ok o r → ∃ h',zdB w h' (hsV d p hs) ∧ k h'=.ok o r
 | [],[],k,o,r,hh,h => ⟨[],trivial,h⟩
 | a :: l,b :: s,k,o,r,hh,h => by
  rw [hsT,zbm,zbm] at h
  obtain ⟨⟨h1,h2,h3⟩,h4⟩:=hh
  obtain ⟨h',e1,e2⟩:=zia hd h4 h
  refine ⟨_,?_,e2⟩
  exact ⟨⟨h1,h2.put hd,h3.put hd⟩,e1⟩
 | [],_ :: _,_,_,_,hr,h => hr.elim
 | _ :: _,[],_,_,_,hr,h => hr.elim
noncomputable def gB (c:Qls) (w d T:Nat) (z:List AV):List (List SO × SO) → HsT → List SO → List OB → T8 → (List OB → T8 → XV) → XV
 | [],hist,last,o,t,k => gR c w last o t fun _ u => hsT w d (.p o.length 0) ((last,t,u) :: hist) fun h => match gRe c w h (o ++ [.box T z]) with
  | .ok _ _ => u.setK d (.p o.length 0) fun u => k (o ++ [.box T z]) u
  | .bad e => .bad e
 | (L,cl) :: r,hist,last,o,t,k => gR c w L o t fun _ u => both
  (hsT w d (.p o.length 0) ((L,t,u) :: hist) fun h => match gRe c w h (o ++ [.box T z]) with
   | .ok _ _ => u.setK d (.p o.length 0) fun u => gR c w [cl] (o ++ [.box T z]) u fun o' t' => (match gRe c w h o' with
    | .ok _ _ => gT c w r h last o' t' k
    | .bad e => .bad e)
   | .bad e => .bad e)
  (gR c w [cl] o u fun o' t' => match gRe c w ((L,t,u) :: hist) o' with
   | .ok _ _ => gB c w d T z r ((L,t,u) :: hist) last o' t' k
   | .bad e => .bad e)
theorem gB_ok {P:Program} [Tabs P] {c:Qls} (hc:QlsOk P c) {w d T:Nat} {z:List AV} (hd:d < w) {ro:List OB} {r:AV}:∀ {st:List (List SO × SO)} {h:HsT} {hs:Hst} {last:List SO} {o:List OB} {t:T8} {tm:List AV} {k:List OB → T8 → XV} {K:List OB → List AV → Prop},zdB w h hs → Rep w t tm → gB c w d T z st h last o t k=.ok ro r → (∀ o' t' tm',Rep w t' tm' → k o' t'=.ok ro r → K o' tm') → wpB P d T z st hs last o tm K
 | [],h,hs,last,o,t,tm,k,K,hh,hr,he,hk => by
  rw [gB] at he
  rw [wpB]
  refine zbk hc _ hr he fun _ u um hu he => ?_
  obtain ⟨h',hh',he⟩:=zia hd (hs:=(last,tm,um) :: hs) (zdB.cons hr hu hh) he
  split at he
  ·rename_i x y hx
   rw [zbm] at he
   exact ⟨zc3 hc hh' hx,hk _ _ _ (hu.put hd) he⟩
  ·cases he
 | (L,cl) :: st,h,hs,last,o,t,tm,k,K,hh,hr,he,hk => by
  rw [gB] at he
  rw [wpB]
  refine zbk hc _ hr he fun _ u um hu he => ?_
  obtain ⟨he1,he2⟩:=both_ok he
  have h2:zdB w ((L,t,u) :: h) ((L,tm,um) :: hs):=zdB.cons hr hu hh
  constructor
  ·obtain ⟨h',hh',he⟩:=zia hd h2 he1
   split at he
   ·rename_i x y hx
    rw [zbm] at he
    refine ⟨zc3 hc hh' hx,zbk hc _ (hu.put hd) he fun o' t' tm' hr' he => ?_⟩
    split at he
    ·rename_i x y hx
     exact ⟨zc3 hc hh' hx,gT_ok hc hh' hr' he hk⟩
    ·cases he
   ·cases he
  ·refine zbk hc _ hu he2 fun o' t' tm' hr' he => ?_
   split at he
   ·rename_i x y hx
    exact ⟨zc3 hc h2 hx,gB_ok hc hd h2 hr' he hk⟩
   ·cases he
theorem samB {x:XV} {o ro:List OB} {r:AV} {b:Bool} {e:SOp} (h:(Bool.rec (motive:=fun _ => XV) (.bad e) x b:XV)=.ok ro r):b=true ∧ x=.ok ro r:=by
 cases b with
 | false => cases h
 | true => exact ⟨rfl,h⟩
instance (x y:Option AV):Decidable (zbb x y):=by unfold zbb; split <;> infer_instance
instance (x y:Option AV):Decidable (apS x y):=by unfold apS; split <;> infer_instance
instance (x:Option AV) (b:Bool) (p:Prop) [Decidable p]:Decidable (apB x b p):=by unfold apB; split <;> infer_instance
noncomputable def slT (w:Nat) (t:T8) (n:Nat):Option AV:=Bool.rec (motive:=fun _ => Option AV) none (some (t.get n)) (Nat.blt n w)
theorem slT_eq {w:Nat} {t:T8} {tm:List AV} (h:Rep w t tm) (n:Nat):slT w t n=tm[n]?:=by
 obtain ⟨h1,D,h2,h3,h4⟩:=h
 unfold slT
 rw [zbq]
 by_cases e:n < w
 ·rw [decide_eq_true e]
  have:=h4 n e
  rw [List.getElem?_eq_getElem (by omega)] at this ⊢
  exact congrArg some this
 ·rw [decide_eq_false e,List.getElem?_eq_none (by omega)]
noncomputable def apT (w:Nat) (t:T8):List (Nat × Nat × Option (Nat × Bool)) → Bool
 | [] => true
 | (s,s',g) :: r => (if s' < 1000000 then (match g with
   | none => decide (zbb (slT w t s) (slT w t s'))
   | some (g,want) => decide (apB (slT w t g) want (zbb (slT w t s) (slT w t s')))) else decide (apS (slT w t s) (slT w t (s' - 1000000)))) && apT w t r
theorem apT_ok {w:Nat} {t:T8} {tm:List AV} (hr:Rep w t tm):∀ {l:List (Nat × Nat × Option (Nat × Bool))},apT w t l=true → zcK l tm
 | [],h => trivial
 | (s,s',g) :: r,h => by
  simp only [apT,Bool.and_eq_true] at h
  refine ⟨?_,apT_ok hr h.2⟩
  have h1:=h.1
  simp only [slT_eq hr] at h1
  split at h1
  ·rename_i hs
   rw [if_pos hs]
   cases g with
   | none => show zbb _ _; exact of_decide_eq_true h1
   | some g => obtain ⟨g,want⟩:=g; show apB _ _ _; exact of_decide_eq_true h1
  ·rename_i hs
   rw [if_neg hs]
   exact of_decide_eq_true h1
noncomputable def gC (c:Qls) (w F:Nat) (sc:SCode):List OB → T8 → (List OB → T8 → XV) → (Nat → List OB → T8 → XV) → (List OB → T8 → XV) → XV :=
 SCode.rec (motive:=fun _ => List OB → T8 → (List OB → T8 → XV) → (Nat → List OB → T8 → XV) → (List OB → T8 → XV) → XV)
  (fun o t kn kx kr => kn o t)
  (fun l o t kn kx kr => gR c w l o t kn)
  (fun l k ap o t kn kx kr => gD c w (l.take k) o t fun o t => Bool.rec (motive:=fun _ => XV) (.bad .mkm0) (gR c w (l.drop k) o t kn) (apT w t ap))
  (fun pre cl post o t kn kx kr => gR c w pre o t fun _ t1 => gR c w [cl] o t1 fun o2 t2 => match gR c w pre o2 t (fun _ x => Bool.rec (motive:=fun _ => XV) (.bad .mkm0) (.ok [] .u) (zgP x t1)) with
   | .ok _ _ => gR c w post o2 t2 kn
   | .bad e => .bad e)
  (fun st last o t kn kx kr => gT c w st [] last o t kn)
  (fun d T z st last sr o t kn kx kr => Bool.rec (motive:=fun _ => XV) (.bad .mkm0) (gB c w d T z st [] last o t fun o t => gR c w [sr] o t kn) (Nat.ble w 1000003 && Nat.blt d w))
  (fun _ _ fx fy o t kn kx kr => fx o t (fun o t => fy o t kn kx kr) kx kr)
  (fun b _ _ fx fy o t kn kx kr => match evT w t b with
   | .b true => fx o t kn kx kr
   | .b false => fy o t kn kx kr
   | _ => .bad (.mv b))
  (fun id _ fx o t kn kx kr => fx o t kn (fun i o t => Bool.rec (motive:=fun _ => XV) (kx i o t) (kn o t) (Nat.beq i id)) kr)
  (fun _ fx o t kn kx kr => Nat.rec (motive:=fun _ => List OB → T8 → XV) (fun _ _ => .bad .mkm0) (fun _ ih o t => fx o t ih kx kr) F o t)
  (fun id o t kn kx kr => kx id o t)
  (fun o t kn kx kr => kr o t)
  (fun _ _ _ _ _ => .bad .mkm0) sc
theorem zeD {P:Program} [Tabs P] {C:Cx} [On P C] {c:Qls} (hc:QlsOk P c) {w F:Nat} {ro:List OB} {r:AV}:∀ (sc:SCode) {o:List OB} {t:T8} {tm:List AV} {kn:List OB → T8 → XV} {kx:Nat → List OB → T8 → XV} {kr:List OB → T8 → XV} {K:zaq},Rep w t tm → gC c w F sc o t kn kx kr=.ok ro r →
  (∀ o' t' tm',Rep w t' tm' → kn o' t'=.ok ro r → K .normal o' tm') → (∀ i o' t' tm',Rep w t' tm' → kx i o' t'=.ok ro r → K (.exit i) o' tm') → (∀ o' t' tm',Rep w t' tm' → kr o' t'=.ok ro r → K .ret o' tm') → wpC P C sc K o tm
 | .skip,o,t,tm,kn,kx,kr,K,hr,h,h1,h2,h3 => h1 _ _ _ hr h
 | .reg l,o,t,tm,kn,kx,kr,K,hr,h,h1,h2,h3 => by
  simp only [wpC]
  exact zbk hc l hr h h1
 | .drw l k ap,o,t,tm,kn,kx,kr,K,hr,h,h1,h2,h3 => by
  simp only [wpC]
  refine ziq hc _ hr h fun o' t' tm' hr' h => ?_
  obtain ⟨ha,h⟩:=samB (o:=o) h
  exact ⟨apT_ok hr' ha,zbk hc _ hr' h h1⟩
 | .crg pre cl post,o,t,tm,kn,kx,kr,K,hr,h,h1,h2,h3 => by
  simp only [wpC]
  refine zbk hc _ hr h fun _ t1 tm1 hr1 h => ?_
  refine zbk hc _ hr1 h fun o2 t2 tm2 hr2 h => ?_
  split at h
  ·rename_i x y hx
   exact ⟨zfC hc hr hr1 hx,zbk hc _ hr2 h h1⟩
  ·cases h
 | .crs st last,o,t,tm,kn,kx,kr,K,hr,h,h1,h2,h3 => by
  simp only [wpC]
  exact gT_ok hc (hs:=[]) zdB.nil hr h h1
 | .cra d T z st last sr,o,t,tm,kn,kx,kr,K,hr,h,h1,h2,h3 => by
  simp only [wpC]
  obtain ⟨ha,h⟩:=samB (o:=o) h
  rw [Bool.and_eq_true,Nat.ble_eq,zbq,decide_eq_true_eq] at ha
  refine ⟨by rw [hr.1]; exact ha.1,gB_ok hc ha.2 (hs:=[]) zdB.nil hr h fun o' t' tm' hr' h => zbk hc _ hr' h h1⟩
 | .seq x y,o,t,tm,kn,kx,kr,K,hr,h,h1,h2,h3 => by
  simp only [wpC]
  exact zeD hc x hr h (fun o' t' tm' hr' h => zeD hc y hr' h h1 h2 h3) h2 h3
 | .cond b x y,o,t,tm,kn,kx,kr,K,hr,h,h1,h2,h3 => by
  simp only [wpC]
  have h:(match evT w t b with
   | .b true => gC c w F x o t kn kx kr
   | .b false => gC c w F y o t kn kx kr
   | _ => .bad (.mv b))=.ok ro r:=h
  rw [hr.ev] at h
  split at h
  ·rename_i hb
   have hb:b.ev tm=_:=hb
   rw [hb]
   exact ⟨fun _ => zeD hc x hr h h1 h2 h3,(fun e => by cases e)⟩
  ·rename_i hb
   have hb:b.ev tm=_:=hb
   rw [hb]
   exact ⟨(fun e => by cases e),fun _ => zeD hc y hr h h1 h2 h3⟩
  ·cases h
 | .blk id x,o,t,tm,kn,kx,kr,K,hr,h,h1,h2,h3 => by
  simp only [wpC]
  refine zeD hc x hr h h1 (fun i o' t' tm' hr' h => ?_) h3
  show if i=id then _ else _
  by_cases e:i=id
  ·subst e
   rw [if_pos rfl]
   rw [Nat.beq_refl] at h
   exact h1 _ _ _ hr' h
  ·rw [if_neg e]
   rw [show Nat.beq i id=false from by rw [Bool.eq_false_iff]; intro h; exact e (Nat.eq_of_beq_eq_true h)] at h
   exact h2 _ _ _ _ hr' h
 | .loop x,o,t,tm,kn,kx,kr,K,hr,h,h1,h2,h3 => by
  refine zeQ (fun m o tm => ∃ t,Rep w t tm ∧ (Nat.rec (motive:=fun _ => List OB → T8 → XV) (fun _ _ => .bad .mkm0) (fun _ ih o t => gC c w F x o t ih kx kr) m:List OB → T8 → XV) o t=.ok ro r) F ⟨t,hr,h⟩ ?_
  rintro m o tm ⟨t,hr,h⟩
  cases m with
  | zero => cases h
  | succ m =>
   exact zeD hc x hr h (fun o' t' tm' hr' h => ⟨m,Nat.lt_succ_self m,t',hr',h⟩) h2 h3
 | .exit id,o,t,tm,kn,kx,kr,K,hr,h,h1,h2,h3 => h2 _ _ _ _ hr h
 | .ret,o,t,tm,kn,kx,kr,K,hr,h,h1,h2,h3 => h3 _ _ _ hr h
 | .dead,o,t,tm,kn,kx,kr,K,hr,h,h1,h2,h3 => by cases h
mutual
/-- the value as it is given away, k steps -/
def zcO:Nat → List OB → Nat → AV → Option AV
 | 0,_,_,_ => none
 | k + 1,objs,d,.agg cs => (zb8 k objs d cs).map .agg
 | k + 1,objs,d,.tup cs => (zb8 k objs d cs).map .tup
 | k + 1,objs,0,.orow _ _ => none
 | k + 1,objs,d + 1,.orow b gen => match objs[b]? with
  | some (.orow _ _ gen' n xs) => if gen'=gen then (zb8 k objs d xs).map (.row n) else none
  | _ => none
 | k + 1,objs,d,x => if x.plain=true then some x else none
def zb8:Nat → List OB → Nat → List AV → Option (List AV)
 | 0,_,_,_ => none
 | k + 1,_,_,[] => some []
 | k + 1,objs,d,x :: xs => match zcO k objs d x,zb8 k objs d xs with
  | some y,some ys => some (y :: ys)
  | _,_ => none
end
mutual
theorem zfJ:∀ {k:Nat} {objs:List OB} {d:Nat} {x r:AV},zcO k objs d x=some r → pub objs d x=some r
 | 0,objs,d,x,r,h => by rw [zcO] at h; cases h
 | k + 1,objs,d,x,r,h => by
  cases x with
  | agg cs =>
   cases d <;> (simp only [zcO] at h; simp only [pub]; obtain ⟨ys,hy,rfl⟩:=Option.map_eq_some_iff.1 h; rw [zbI hy]; rfl)
  | tup cs =>
   cases d <;> (simp only [zcO] at h; simp only [pub]; obtain ⟨ys,hy,rfl⟩:=Option.map_eq_some_iff.1 h; rw [zbI hy]; rfl)
  | orow b gen =>
   cases d with
   | zero => simp only [zcO,reduceCtorEq] at h
   | succ d =>
    simp only [zcO] at h
    simp only [pub]
    split at h
    ·rename_i E sz gen' n xs hb
     rw [hb]
     dsimp only
     split at h
     ·rename_i hg
      rw [if_pos hg]
      obtain ⟨ys,hy,rfl⟩:=Option.map_eq_some_iff.1 h
      rw [zbI hy]; rfl
     ·cases h
    ·cases h
  | _ => cases d <;> (simp only [zcO] at h; simp only [pub]; exact h)
theorem zbI:∀ {k:Nat} {objs:List OB} {d:Nat} {xs rs:List AV},zb8 k objs d xs=some rs → zcN objs d xs=some rs
 | 0,objs,d,xs,rs,h => by rw [zb8] at h; cases h
 | k + 1,objs,d,[],rs,h => by
  simp only [zb8] at h
  rw [zcN]; exact h
 | k + 1,objs,d,x :: xs,rs,h => by
  simp only [zb8] at h
  rw [zcN]
  split at h
  ·rename_i y ys h1 h2
   rw [zfJ h1,zbI h2]; exact h
  ·cases h
end
noncomputable def resT (objs:List OB) (w:Nat) (t:T8):SRes → Option AV
 | .tmp n => slT w t n
 | .cell1 n => match slT w t n with
  | some (.p b off) => match objs[b]? with
   | some (.box _ cs) => cs[off]?
   | _ => none
  | _ => none
 | .celln n sz => match slT w t n with
  | some (.p b off) => match objs[b]? with
   | some (.box _ cs) => if off + sz ≤ cs.length then some (.agg ((cs.drop off).take sz)) else none
   | _ => none
  | _ => none
noncomputable def zhg (objs:List OB) (w:Nat) (t:T8):List SRes → Option (List AV)
 | [] => some []
 | r :: rs => match resT objs w t r,zhg objs w t rs with
  | some x,some xs => some (x :: xs)
  | _,_ => none
theorem zdl {objs:List OB} {w:Nat} {t:T8} {tm:List AV} (h:Rep w t tm):∀ ss,zhg objs w t ss=zbi objs tm ss
 | [] => rfl
 | r :: rs => by
  rw [zhg,zbi,zdl h rs]
  have e:resT objs w t r=zgj objs tm r:=by
   cases r <;> simp only [resT,zgj,slT_eq h] <;> rfl
  rw [e]; rfl
noncomputable def setA (l:List AV):Nat → T8 → (T8 → XV) → XV :=
 List.rec (motive:=fun _ => Nat → T8 → (T8 → XV) → XV) (fun _ t k => k t) (fun a _ ih i t k => t.setK i a fun t => ih (Nat.succ i) t k) l
theorem zgO {o:List OB} {r:AV} {w:Nat}:∀ {l:List AV} {pre:List AV} {t:T8} {k:T8 → XV},pre.length + l.length ≤ w → Rep w t (pre ++ List.replicate (w - pre.length) (.o undef)) → setA l pre.length t k=.ok o r → ∃ t',Rep w t' (pre ++ l ++ List.replicate (w - (pre.length + l.length)) (.o undef)) ∧ k t'=.ok o r
 | [],pre,t,k,hl,hr,h => ⟨t,by simpa using hr,h⟩
 | a :: l,pre,t,k,hl,hr,h => by
  have h:(t.setK pre.length a fun t => setA l (Nat.succ pre.length) t k)=.ok o r:=h
  rw [zbm] at h
  rw [List.length_cons] at hl
  have h2:=hr.put (n:=pre.length) (v:=a) (by omega)
  have e:(pre ++ List.replicate (w - pre.length) (AV.o undef)).set pre.length a=(pre ++ [a]) ++ List.replicate (w - (pre ++ [a]).length) (.o undef):=by
   rw [List.set_append_right _ _ (Nat.le_refl _),Nat.sub_self,show w - pre.length=(w - (pre ++ [a]).length) + 1 from by rw [List.length_append,List.length_singleton]; omega,List.replicate_succ,List.set_cons_zero,List.append_assoc]; rfl
  rw [e] at h2
  have e3:Nat.succ pre.length=(pre ++ [a]).length:=by simp
  rw [e3] at h
  obtain ⟨t',h3,h4⟩:=zgO (by rw [List.length_append,List.length_singleton]; omega) h2 h
  refine ⟨t',?_,h4⟩
  rw [List.length_append,List.length_singleton] at h3
  rw [List.length_cons,show pre.length + (l.length + 1)=pre.length + 1 + l.length from by omega,show pre ++ a :: l=pre ++ [a] ++ l from by simp]
  exact h3
theorem rep_mk {w:Nat}:Rep w (T8.mk (Nat.succ (Nat.log2 w))) (List.replicate w (.o undef)):=by
 refine ⟨List.length_replicate,_,zeE _,?_,fun n hn => ?_⟩
 ·have:=@Nat.lt_log2_self w; exact Nat.le_of_lt this
 ·rw [get_mk,List.getElem?_replicate,if_pos hn]; rfl
structure Ent (P:Program) where
 f:Nat
 n:Nat
 ss:List SRes
 sc:SCode
 is:FnIs P f n ss sc
inductive TB (P:Program) where
 | e
 | lf (x:Ent P)
 | nd (l r:TB P)
noncomputable def TB.get {P:Program} (t:TB P):Nat → Option (Ent P) :=
 TB.rec (motive:=fun _ => Nat → Option (Ent P)) (fun _ => none) (fun x _ => some x) (fun _ _ gl gr n => Bool.rec (motive:=fun _ => Option (Ent P)) (gr (Nat.div n 2)) (gl (Nat.div n 2)) (Nat.beq (Nat.mod n 2) 0)) t
noncomputable def gF {P:Program} (c:Qls) (F:Nat) (e:Ent P) (args:List AV) (objs:List OB) (k:List OB → AV → XV):XV :=
 Bool.rec (motive:=fun _ => XV) (.bad (.call e.f [])) (setA args 0 (T8.mk (Nat.succ (Nat.log2 e.n))) fun t => gC c e.n F e.sc objs t (fun o t => match zhg o e.n t e.ss with
   | some xs => zc4 xs fun xs => frc (zef xs) fun x => k o x
   | none => .bad (.call e.f [])) (fun _ _ _ => .bad (.call e.f [])) (fun o t => match zhg o e.n t e.ss with
   | some xs => zc4 xs fun xs => frc (zef xs) fun x => k o x
   | none => .bad (.call e.f []))) (Nat.ble args.length e.n)
theorem gF_ok {P:Program} [Tabs P] {C:Cx} [On P C] {c:Qls} (hc:QlsOk P c) {F:Nat} {e:Ent P} {args:List AV} {objs ro:List OB} {r:AV} {k:List OB → AV → XV} {K:zaq} (h:gF c F e args objs k=.ok ro r) (hk:∀ o tm xs,zbi o tm e.ss=some xs → k o (zef xs)=.ok ro r → K .normal o tm ∧ K .ret o tm):wpC P C e.sc K objs (args ++ List.replicate (e.n - args.length) (.o undef)):=by
 obtain ⟨ha,h⟩:=samB (o:=objs) h
 rw [Nat.ble_eq] at ha
 obtain ⟨t,hr,h⟩:=zgO (pre:=[]) (by simpa using ha) (by simpa using rep_mk) h
 have hr:Rep e.n t (args ++ List.replicate (e.n - args.length) (.o undef)):=by simpa using hr
 refine zeD hc e.sc hr h (fun o' t' tm' hr' h => ?_) (fun i o' t' tm' hr' h => by cases h) (fun o' t' tm' hr' h => ?_)
 ·rw [zdl hr'] at h
  split at h
  ·rename_i xs hx; rw [zbe,zfE] at h; exact (hk _ _ _ hx h).1
  ·cases h
 ·rw [zdl hr'] at h
  split at h
  ·rename_i xs hx; rw [zbe,zfE] at h; exact (hk _ _ _ hx h).2
  ·cases h
noncomputable def gG {P:Program} (tbl:TB P) (lib:Nat → List AV → Option AV) (has inn:Nat → Bool) (F:Nat) (k:Nat):Qls :=
 Nat.rec (motive:=fun _ => Qls) ⟨fun f _ => .bad (.call f []),fun f _ _ => .bad (.call f []),fun _ => false,fun _ => false⟩ (fun _ q => ⟨fun f args => match lib f args with
   | some r => Bool.rec (motive:=fun _ => XV) (.bad (.call f [])) (.ok [] r) r.plain
   | none => match tbl.get f with
    | none => .bad (.call f [])
    | some e => Bool.rec (motive:=fun _ => XV) (.bad (.call f [])) (match gF q F e args [] (fun o r => match zcO F o 5 r with
      | some r => .ok [] r
      | none => .bad .mkm0) with
     | .ok _ r => Bool.rec (motive:=fun _ => XV) (.bad .mkm0) (.ok [] r) r.plain
     | .bad e => .bad e) (Nat.beq e.f f && zan args),
  fun f args objs => match tbl.get f with
   | none => .bad (.call f [])
   | some e => Bool.rec (motive:=fun _ => XV) (.bad (.call f [])) (gF q F e args objs fun o r => .ok o r) (Nat.beq e.f f),has,inn⟩) k
theorem gG_ok {P : Program} [Tabs P] (tbl : TB P) (lib : Nat → List AV → Option AV) (has inn : Nat → Bool) (hl : ∀ f args r, lib f args = some r → ∀ (objs : List OB) (K : List OB → AV → Prop), K objs r → zal P f args objs K) (hh : ∀ f, has f = true → ∃ fn, P.funcs[f]? = some fn ∧ fn.body.isSome = true ∧ fn.name ≠ "runtime.NumGoroutine") (F : Nat) : ∀ k, QlsOk P (gG tbl lib has inn F k)
 | 0 => ⟨(fun _ _ _ _ h => by cases h),(fun _ _ _ _ h => by cases h),(fun _ _ _ _ _ h => by cases h),(fun _ h => by cases h)⟩
 | k + 1 => by
  have ih:=gG_ok tbl lib has inn hl hh F k
  have hcp:∀ f args o r,(gG tbl lib has inn F (k + 1)).cp f args=.ok o r → r.plain=true ∧ ∀ (objs:List OB) (K:List OB → AV → Prop),K objs r → zal P f args objs K:=by
   intro f args o r h
   have h:(match lib f args with
   | some r => Bool.rec (motive:=fun _ => XV) (.bad (.call f [])) (.ok [] r) r.plain
   | none => match tbl.get f with
    | none => .bad (.call f [])
    | some e => Bool.rec (motive:=fun _ => XV) (.bad (.call f [])) (match gF (gG tbl lib has inn F k) F e args [] (fun o r => match zcO F o 5 r with
      | some r => .ok [] r
      | none => .bad .mkm0) with
     | .ok _ r => Bool.rec (motive:=fun _ => XV) (.bad .mkm0) (.ok [] r) r.plain
     | .bad e => .bad e) (Nat.beq e.f f && zan args))=.ok o r:=h
   split at h
   ·rename_i x hx
    obtain ⟨hp,h⟩:=samB (o:=o) h
    injection h with h1 h2
    subst h2
    exact ⟨hp,fun objs K hk => hl _ _ _ hx objs K hk⟩
   ·split at h
    ·cases h
    ·rename_i e he
     obtain ⟨hb,h5⟩:=samB (o:=o) h
     clear h
     rw [Bool.and_eq_true,Nat.beq_eq] at hb
     obtain ⟨hf,hp⟩:=hb
     subst hf
     split at h5
     ·rename_i o1 r1 hg
      obtain ⟨hr,h6⟩:=samB (o:=o) h5
      injection h6 with h1 h2
      subst h2
      refine ⟨hr,fun objs K hk => fn_ok e.is hp fun C _ => gF_ok ih hg fun o tm xs hx h => ?_⟩
      have hq:outK e.ss (fun r => K objs r) o tm:=by
       unfold outK
       rw [hx,Option.bind_some]
       split at h
       ·rename_i z hz
        injection h with h3 h4
        subst h4
        rw [zfJ hz]; exact hk
       ·cases h
      exact ⟨hq,hq⟩
     ·cases h5
  refine ⟨fun f args o r h => (hcp f args o r h).2,fun f args o r h => (hcp f args o r h).1,fun f args objs o r h K hk => ?_,hh⟩
  have h:(match tbl.get f with
   | none => .bad (.call f [])
   | some e => Bool.rec (motive:=fun _ => XV) (.bad (.call f [])) (gF (gG tbl lib has inn F k) F e args objs fun o r => .ok o r) (Nat.beq e.f f))=XV.ok o r:=h
  split at h
  ·cases h
  ·rename_i e he
   obtain ⟨hf,h9⟩:=samB (o:=o) h
   clear h
   rw [Nat.beq_eq] at hf
   subst hf
   refine fn_in e.is fun C _ => gF_ok ih h9 fun o1 tm xs hx h => ?_
   injection h with h3 h4
   subst h3 h4
   have hq:outI e.ss K o1 tm:=by unfold outI; rw [hx]; exact hk
   exact ⟨hq,hq⟩
end Go.Proofs.YtoefobpnkoifhaaGreatDoor.Sx
namespace Go.Proofs.YtoefobpnkoifhaaGreatDoor.Sx
open Go.RowKit
def tbl:TB Tryz.prog:=(.nd
 (.nd
 (.nd
 (.nd
 (.nd
 (.nd
 (.nd (.lf ⟨128,8,[.tmp 2],c_slices_Clone__string_string,is_slices_Clone__string_string⟩) (.lf ⟨64,41,[.tmp 2],c_ref13_exponent,is_ref13_exponent⟩)) (.lf ⟨32,45,[.tmp 4,.tmp 5],c_ref03_escape,is_ref03_escape⟩))
 (.nd
 (.nd
 (.nd (.lf ⟨16,12,[.tmp 4],c_ref29_tail,is_ref29_tail⟩) (.lf ⟨144,54,[.tmp 4],c_internal_strconv_FormatInt,is_internal_strconv_FormatInt⟩)) (.lf ⟨80,6,[.tmp 2],c_uri_schemeEnd,is_uri_schemeEnd⟩))
 (.nd (.lf ⟨48,67,[.celln 2 9,.tmp 3],c_uri_Split,is_uri_Split⟩) (.lf ⟨112,19,[.tmp 2,.tmp 3],c_host_Port,is_host_Port⟩))))
 (.nd
 (.nd
 (.nd
 (.nd (.lf ⟨8,52,[.celln 2 4,.tmp 3,.tmp 4],c_ref14_Parse,is_ref14_Parse⟩) (.lf ⟨136,23,[.tmp 2],c_ascii_Lower,is_ascii_Lower⟩)) (.lf ⟨72,10,[.celln 3 4,.tmp 4],c_diddoc_membersOf_1,is_diddoc_membersOf_1⟩))
 (.nd (.lf ⟨40,25,[.celln 2 2,.tmp 3],c_diddoc_subject,is_diddoc_subject⟩) (.lf ⟨104,29,[.tmp 2],c_did_isMethod,is_did_isMethod⟩)))
 (.nd
 (.nd (.lf ⟨24,51,[.celln 2 7,.tmp 3],c_weburl_Parse,is_weburl_Parse⟩) (.lf ⟨88,23,[.tmp 4],c_uri_merge,is_uri_merge⟩))
 (.nd (.lf ⟨56,8,[.celln 2 2],c_weburl_Origin,is_weburl_Origin⟩) (.lf ⟨120,9,[.tmp 2],c_ascii_isCapital,is_ascii_isCapital⟩)))))
 (.nd
 (.nd
 (.nd
 (.nd
 (.nd (.lf ⟨4,29,[.tmp 0],c_law29_sane,is_law29_sane⟩) (.lf ⟨132,83,[.celln 2 7,.tmp 3],c_did_Parse,is_did_Parse⟩)) (.lf ⟨68,5,[.tmp 2],c_ref13_white,is_ref13_white⟩)) (.lf ⟨36,49,[.celln 4 4],c_ref14_parser_array,is_ref14_parser_array⟩))
 (.nd
 (.nd
 (.nd (.lf ⟨20,97,[.celln 2 5,.tmp 3],c_diddoc_Decode,is_diddoc_Decode⟩) (.lf ⟨148,48,[.tmp 2],c_host_isLabel,is_host_isLabel⟩)) .e)
 (.nd (.lf ⟨52,65,[.celln 4 9],c_uri_Resolve,is_uri_Resolve⟩) (.lf ⟨116,17,[.tmp 4],c_percent_isPlain,is_percent_isPlain⟩))))
 (.nd
 (.nd
 (.nd (.lf ⟨12,8,[.tmp 2,.tmp 3],c_percent_Decode,is_percent_Decode⟩) (.lf ⟨76,26,[.tmp 2,.tmp 3],c_diddoc_texts,is_diddoc_texts⟩))
 (.nd (.lf ⟨44,43,[.celln 4 3,.tmp 5],c_diddoc_decodeMethod,is_diddoc_decodeMethod⟩) (.lf ⟨108,13,[.tmp 2],c_ascii_IsAlpha,is_ascii_IsAlpha⟩))) (.lf ⟨60,11,[.tmp 2],c_percent_digit,is_percent_digit⟩))))
 (.nd
 (.nd
 (.nd
 (.nd
 (.nd (.lf ⟨130,14,[.tmp 2],c_did_isIDByte,is_did_isIDByte⟩) (.lf ⟨66,17,[.tmp 2],c_ref04_Format,is_ref04_Format⟩))
 (.nd (.lf ⟨34,117,[.tmp 2,.tmp 3],c_ref13_Number,is_ref13_Number⟩) (.lf ⟨98,9,[.tmp 2],c_ascii_IsDigit,is_ascii_IsDigit⟩)))
 (.nd
 (.nd
 (.nd (.lf ⟨18,40,[.celln 2 3],c_ref14_parser_next,is_ref14_parser_next⟩) (.lf ⟨146,17,[.tmp 2],c_ref02_point,is_ref02_point⟩)) .e)
 (.nd (.lf ⟨50,50,[.celln 2 7,.tmp 3],c_weburl_parseRest,is_weburl_parseRest⟩) (.lf ⟨114,9,[.tmp 2],c_ascii_IsUnreserved,is_ascii_IsUnreserved⟩))))
 (.nd
 (.nd
 (.nd
 (.nd (.lf ⟨10,4,[.tmp 2],c_deref_parts,is_deref_parts⟩) (.lf ⟨138,9,[.tmp 2],c_ascii_isLetterOrDigit,is_ascii_isLetterOrDigit⟩)) (.lf ⟨74,24,[.tmp 4,.tmp 5],c_diddoc_textMember,is_diddoc_textMember⟩))
 (.nd (.lf ⟨42,16,[.tmp 2,.tmp 3],c_diddoc_oneOrListed,is_diddoc_oneOrListed⟩) (.lf ⟨106,30,[.celln 4 7,.tmp 5],c_did_Resolve,is_did_Resolve⟩)))
 (.nd
 (.nd (.lf ⟨26,19,[.tmp 2],c_weburl_Format,is_weburl_Format⟩) (.lf ⟨90,5,[.tmp 2],c_uri_concat,is_uri_concat⟩)) .e)))
 (.nd
 (.nd
 (.nd
 (.nd (.lf ⟨134,28,[.tmp 2],c_host_isName,is_host_isName⟩) (.lf ⟨70,9,[.tmp 2],c_ref01_IsDigit,is_ref01_IsDigit⟩))
 (.nd (.lf ⟨38,139,[.celln 4 3,.tmp 5,.tmp 6],c_ref13_Next,is_ref13_Next⟩) (.lf ⟨102,19,[.tmp 4],c_slices_Index__string_string,is_slices_Index__string_string⟩)))
 (.nd
 (.nd
 (.nd (.lf ⟨22,22,[.celln 4 3,.tmp 5],c_deref_findService,is_deref_findService⟩) (.lf ⟨150,20,[.tmp 4],c_number_check,is_number_check⟩)) (.lf ⟨86,11,[.tmp 4,.tmp 5],c_percent_Normalize,is_percent_Normalize⟩))
 (.nd (.lf ⟨54,31,[.tmp 2],c_uri_Join,is_uri_Join⟩) (.lf ⟨118,21,[.tmp 2],c_uri_withoutLast,is_uri_withoutLast⟩))))
 (.nd
 (.nd
 (.nd
 (.nd (.lf ⟨14,20,[.tmp 4],c_ref01_Index,is_ref01_Index⟩) (.lf ⟨142,19,[.tmp 4,.tmp 5],c_strings_Builder_WriteString,is_strings_Builder_WriteString⟩)) (.lf ⟨78,20,[.tmp 3,.tmp 4],c_uri_Split_1,is_uri_Split_1⟩)) (.lf ⟨46,63,[.celln 4 3,.tmp 5],c_diddoc_decodeService,is_diddoc_decodeService⟩))
 (.nd
 (.nd
 (.nd (.lf ⟨30,12,[.tmp 6,.tmp 7],c_percent_Decode_1,is_percent_Decode_1⟩) (.lf ⟨158,87,[.tmp 6,.tmp 7],c_ref04_parse,is_ref04_parse⟩)) .e)
 (.nd (.lf ⟨62,17,[.tmp 2],c_ref03_digit,is_ref03_digit⟩) (.lf ⟨126,66,[.tmp 2,.tmp 3],c_ref02_Encode,is_ref02_Encode⟩)))))))
 (.nd
 (.nd
 (.nd
 (.nd
 (.nd
 (.nd (.lf ⟨129,8,[.tmp 2],c_slices_Clone__api_Value_api_Value,is_slices_Clone__api_Value_api_Value⟩) (.lf ⟨65,12,[.tmp 4],c_ref13_tail,is_ref13_tail⟩))
 (.nd
 (.nd (.lf ⟨33,14,[.tmp 4],c_ref14_is,is_ref14_is⟩) (.lf ⟨161,13,[.tmp 2],c_number_digit,is_number_digit⟩)) (.lf ⟨97,21,[.tmp 2],c_ascii_IsHex,is_ascii_IsHex⟩)))
 (.nd
 (.nd
 (.nd (.lf ⟨17,117,[.celln 6 4],c_ref14_parser_value,is_ref14_parser_value⟩) (.lf ⟨145,11,[.tmp 4,.tmp 5],c_ref04_Hex,is_ref04_Hex⟩)) (.lf ⟨81,35,[.tmp 2],c_uri_isScheme,is_uri_isScheme⟩))
 (.nd (.lf ⟨49,30,[.celln 2 2,.tmp 3],c_weburl_parseOrigin,is_weburl_parseOrigin⟩) (.lf ⟨113,28,[.tmp 7,.tmp 8],c_percent_Normalize_1,is_percent_Normalize_1⟩))))
 (.nd
 (.nd
 (.nd
 (.nd (.lf ⟨9,91,[.tmp 4,.tmp 5],c_deref_Service,is_deref_Service⟩) (.lf ⟨137,25,[.tmp 4,.tmp 5],c_number_Strict,is_number_Strict⟩)) (.lf ⟨73,31,[.celln 4 4,.tmp 5],c_jsondoc_Get,is_jsondoc_Get⟩))
 (.nd (.lf ⟨41,12,[.tmp 2,.tmp 3],c_diddoc_listed,is_diddoc_listed⟩) (.lf ⟨105,54,[.tmp 2,.tmp 3],c_did_parseID,is_did_parseID⟩)))
 (.nd
 (.nd (.lf ⟨25,46,[.celln 4 7,.tmp 5],c_weburl_Relative,is_weburl_Relative⟩) (.lf ⟨89,8,[.tmp 2],c_ascii_lower,is_ascii_lower⟩)) (.lf ⟨57,14,[.tmp 2],c_weburl_Target,is_weburl_Target⟩))))
 (.nd
 (.nd
 (.nd
 (.nd (.lf ⟨5,26,[.tmp 4],c_ref18_SameFields,is_ref18_SameFields⟩) (.lf ⟨69,70,[.tmp 4,.tmp 5,.tmp 6],c_ref13_text,is_ref13_text⟩))
 (.nd (.lf ⟨37,98,[.celln 4 4],c_ref14_parser_object,is_ref14_parser_object⟩) (.lf ⟨101,59,[.tmp 4,.tmp 5,.tmp 6],c_ref02_Decode,is_ref02_Decode⟩)))
 (.nd
 (.nd
 (.nd (.lf ⟨21,10,[.tmp 2],c_deref_firstParam,is_deref_firstParam⟩) (.lf ⟨149,17,[.tmp 2],c_ascii_Digits,is_ascii_Digits⟩)) (.lf ⟨85,42,[.celln 2 2,.tmp 3],c_host_Parse,is_host_Parse⟩)) (.lf ⟨53,26,[.tmp 4],c_ascii_Equal,is_ascii_Equal⟩)))
 (.nd
 (.nd
 (.nd (.lf ⟨13,34,[.tmp 4],c_ref01_Split,is_ref01_Split⟩) (.lf ⟨77,27,[.tmp 4,.tmp 5],c_diddoc_memberID,is_diddoc_memberID⟩)) (.lf ⟨45,43,[.tmp 6,.tmp 7],c_diddoc_elements__api_Service,is_diddoc_elements__api_Service⟩))
 (.nd
 (.nd
 (.nd (.lf ⟨29,65,[.tmp 4,.tmp 5],c_percent_rewrite,is_percent_rewrite⟩) (.lf ⟨157,102,[.tmp 10,.tmp 11],c_internal_strconv_formatBits,is_internal_strconv_formatBits⟩)) .e)
 (.nd (.lf ⟨61,21,[.tmp 2],c_ref01_IsHex,is_ref01_IsHex⟩) (.lf ⟨125,40,[.tmp 4,.tmp 5],c_ref13_unit,is_ref13_unit⟩))))))
 (.nd
 (.nd
 (.nd
 (.nd
 (.nd (.lf ⟨3,15,[.tmp 2],c_law29_DerefParams,is_law29_DerefParams⟩) (.lf ⟨67,38,[.celln 4 4,.tmp 5],c_ref14_Get,is_ref14_Get⟩))
 (.nd (.lf ⟨35,8,[.tmp 2],c_ref14_word,is_ref14_word⟩) (.lf ⟨99,17,[.tmp 2],c_ref13_run,is_ref13_run⟩)))
 (.nd
 (.nd (.lf ⟨19,19,[],c_ref14_parser_stop,is_ref14_parser_stop⟩) (.lf ⟨83,13,[.tmp 2],c_uri_firstPart,is_uri_firstPart⟩))
 (.nd (.lf ⟨51,18,[.tmp 2],c_weburl_Valid,is_weburl_Valid⟩) (.lf ⟨115,14,[.tmp 4],c_percent_appendEscape,is_percent_appendEscape⟩))))
 (.nd
 (.nd
 (.nd (.lf ⟨139,9,[.tmp 4],c_ascii_isOneOf,is_ascii_isOneOf⟩) (.lf ⟨75,46,[.celln 2 2,.tmp 3],c_did_ParseDID,is_did_ParseDID⟩))
 (.nd (.lf ⟨43,43,[.tmp 6,.tmp 7],c_diddoc_elements__api_Method,is_diddoc_elements__api_Method⟩) (.lf ⟨107,25,[.tmp 2],c_did_Format,is_did_Format⟩)))
 (.nd
 (.nd (.lf ⟨27,22,[],c_deref_parts_1,is_deref_parts_1⟩) (.lf ⟨91,9,[.tmp 4],c_uri_given,is_uri_given⟩)) (.lf ⟨59,24,[.tmp 4],c_percent_isEscapeAt,is_percent_isEscapeAt⟩))))
 (.nd
 (.nd
 (.nd
 (.nd
 (.nd (.lf ⟨7,42,[.tmp 2],c_ref29_Params,is_ref29_Params⟩) (.lf ⟨135,35,[.tmp 2],c_host_IsIPv4,is_host_IsIPv4⟩)) (.lf ⟨71,17,[.tmp 2],c_ref01_IsAlpha,is_ref01_IsAlpha⟩))
 (.nd
 (.nd (.lf ⟨39,4,[.tmp 2],c_diddoc_membersOf,is_diddoc_membersOf⟩) (.lf ⟨167,8,[.tmp 2],c_internal_strconv_isPowerOfTwo,is_internal_strconv_isPowerOfTwo⟩)) (.lf ⟨103,30,[.celln 2 4],c_jsondoc_clone,is_jsondoc_clone⟩)))
 (.nd
 (.nd
 (.nd (.lf ⟨23,10,[.tmp 2],c_did_FormatDID,is_did_FormatDID⟩) (.lf ⟨151,39,[.tmp 6,.tmp 7],c_number_value,is_number_value⟩)) (.lf ⟨87,59,[.tmp 2],c_uri_RemoveDots,is_uri_RemoveDots⟩)) (.lf ⟨55,15,[.tmp 2],c_host_Format,is_host_Format⟩)))
 (.nd
 (.nd (.lf ⟨15,40,[.tmp 2,.tmp 3],c_ref03_Decode,is_ref03_Decode⟩)
 (.nd (.lf ⟨47,20,[.tmp 3,.tmp 4],c_deref_firstParam_1,is_deref_firstParam_1⟩) (.lf ⟨111,22,[.tmp 2,.tmp 3],c_host_Host,is_host_Host⟩)))
 (.nd (.lf ⟨31,17,[.tmp 4],c_ref01_In,is_ref01_In⟩)
 (.nd (.lf ⟨63,99,[.tmp 2],c_ref13_numeral,is_ref13_numeral⟩) (.lf ⟨127,35,[.tmp 2],c_ref02_value,is_ref02_value⟩))))))))
end Go.Proofs.YtoefobpnkoifhaaGreatDoor.Sx
namespace Go.Proofs.YtoefobpnkoifhaaGreatDoor
open Nat renaming reduceAdd → z6, reduceSub → z7, reduceLeDiff → z8, reduceLT → j4, reduceMul → j5, reduceEqDiff → j6
open Int renaming reduceToNat → j7, reduceAdd → j8, reduceSub → j9, reduceMul → x0, reduceNeg → x3, reduceLT → x4, reduceLE → x5, reduceEq → x6, reduceNe → x7
open Go.RowKit Sx
section
attribute [local irreducible] run
def unS:List AV → Option (List (List UInt8))
 | [] => some []
 | .s x :: l => (unS l).map (x :: ·)
 | _ => none
theorem unS_ok:∀ {cs:List AV} {xs:List (List UInt8)},unS cs=some xs → cs=xs.map .s
 | [],xs,h => by
  rw [unS] at h
  injection h with h; subst h; rfl
 | c :: cs,xs,h => by
  unfold unS at h
  split at h
  ·rename_i e; cases e
  ·rename_i x l e
   injection e with e1 e2
   subst e1 e2
   obtain ⟨ys,hy,rfl⟩:=Option.map_eq_some_iff.1 h
   rw [unS_ok hy]; rfl
  ·cases h
noncomputable def drLib:Nat → List AV → Option AV:=fun f args => match args with
 | [.s l] => if f=6 ∧ l.length ≤ 1000000 then some (.row (zdo (zbz l)).length (zav (zdo (zbz l)))) else none
 | [.s s,.s [c],.s new] => if f=131 ∧ s.length ≤ 100000 ∧ new.length ≤ 100 ∧ new ≠ [c] then some (.s (ze8 c new s)) else none
 | [.s s,.s [c]] => if f=11 ∧ s.length ≤ 1000000 then some (.tup [.s (zaw c s).1,.s (zaw c s).2.1,.b (zaw c s).2.2]) else if f=84 then some (.b (zaw c s).2.2) else if f=82 then some (.tup [.s (Lib.trimPrefix s [c]),.b (Lib.hasPrefix s [c])]) else if f=117 then some (.b (Lib.hasPrefix s [c])) else none
 | [.s s,.s p] => if f=82 then some (.tup [.s (Lib.trimPrefix s p),.b (Lib.hasPrefix s p)]) else if f=117 then some (.b (Lib.hasPrefix s p)) else none
 | [.row n cs,.s sep] => match unS cs with
   | some xs => if f=121 ∧ n=xs.length ∧ xs.length ≤ 1000000 ∧ (Lib.join xs sep).length ≤ 1000000 then some (.s (Lib.join xs sep)) else none
   | none => none
 | [.s s,.i .u8 (.ofNat n)] => if f=119 ∧ s.length ≤ 1000000 then some (.i .i64 (Lib.lastIndexByte (S s) (.ofNat n))) else if f=79 ∧ n < 256 then some (.i .i64 (Lib.indexByte s (UInt8.ofNat n))) else none
 | _ => none
def drHas (f:Nat):Bool:=[30,47,72,78,113,98,44,46].any (Nat.beq f)
def drInn (f:Nat):Bool:=Nat.beq f 129
section
variable [Tabs Tryz.prog] [Shp Tryz.prog]
theorem drLib_ok (f:Nat) (args:List AV) (r:AV) (h:drLib f args=some r) (objs:List OB) (K:List OB → AV → Prop) (hk:K objs r):zal Tryz.prog f args objs K:=by
 unfold drLib at h
 split at h
 ·split at h
  ·rename_i c; obtain ⟨rfl,c⟩:=c; injection h with h; subst h; exact zff _ c hk
  ·cases h
 ·split at h
  ·rename_i c; obtain ⟨rfl,c1,c2,c3⟩:=c; injection h with h; subst h; exact zen _ _ _ c1 c2 c3 hk
  ·cases h
 ·split at h
  ·rename_i c; obtain ⟨rfl,c⟩:=c; injection h with h; subst h; exact sCut_k _ _ (by unfold maxLen; omega) hk
  ·split at h
   ·rename_i c; subst c; injection h with h; subst h; exact zdN _ _ hk
   ·split at h
    ·rename_i c; subst c; injection h with h; subst h; exact zb5 _ _ hk
    ·split at h
     ·rename_i c; subst c; injection h with h; subst h; exact zb4 _ _ hk
     ·cases h
 ·split at h
  ·rename_i c; subst c; injection h with h; subst h; exact zb5 _ _ hk
  ·split at h
   ·rename_i c; subst c; injection h with h; subst h; exact zb4 _ _ hk
   ·cases h
 ·split at h
  ·rename_i xs hx
   split at h
   ·rename_i c; obtain ⟨rfl,rfl,c1,c2⟩:=c; injection h with h; subst h; rw [unS_ok hx]; exact sJoin_k _ _ (by omega) (by omega) hk
   ·cases h
  ·cases h
 ·rename_i s n
  split at h
  ·rename_i c; obtain ⟨rfl,c⟩:=c; injection h with h; subst h; exact zhJ _ _ (by omega) hk
  ·split at h
   ·rename_i c; obtain ⟨rfl,c⟩:=c; injection h with h; subst h
    have e:AV.i .u8 (.ofNat n)=.i .u8 ((UInt8.ofNat n).toNat:Int):=by
     rw [show (UInt8.ofNat n).toNat=n from by rw [UInt8.toNat_ofNat']; omega]; rfl
    rw [e]; exact zdM _ _ hk
   ·cases h
 ·cases h
omit [Tabs Tryz.prog] [Shp Tryz.prog] in
theorem drHas_ok (f : Nat) (h : drHas f = true) : ∃ fn, Tryz.prog.funcs[f]? = some fn ∧ fn.body.isSome = true ∧ fn.name ≠ "runtime.NumGoroutine" := by
 unfold drHas at h
 simp only [List.any_cons,List.any_nil,Bool.or_eq_true,Nat.beq_eq,Bool.false_eq_true,or_false] at h
 rcases h with rfl | rfl | rfl | rfl | rfl | rfl | rfl | rfl
 ·exact ⟨_,Tryz.func30,by kernel_rfl,of_decide_eq_true (by kernel_rfl)⟩
 ·exact ⟨_,Tryz.func47,by kernel_rfl,of_decide_eq_true (by kernel_rfl)⟩
 ·exact ⟨_,Tryz.func72,by kernel_rfl,of_decide_eq_true (by kernel_rfl)⟩
 ·exact ⟨_,Tryz.func78,by kernel_rfl,of_decide_eq_true (by kernel_rfl)⟩
 ·exact ⟨_,Tryz.func113,by kernel_rfl,of_decide_eq_true (by kernel_rfl)⟩
 ·exact ⟨_,Tryz.func98,by kernel_rfl,of_decide_eq_true (by kernel_rfl)⟩
 ·exact ⟨_,Tryz.func44,by kernel_rfl,of_decide_eq_true (by kernel_rfl)⟩
 ·exact ⟨_,Tryz.func46,by kernel_rfl,of_decide_eq_true (by kernel_rfl)⟩
omit [Tabs Tryz.prog] [Shp Tryz.prog] in
theorem zgh:(gG tbl drLib drHas drInn 4000 30).cp 4 []=.ok [] (.b true):=by kernel_rfl
variable {objs:List OB} {K:List OB → AV → Prop}
theorem sane29_k (hk:K objs (.b true)):zal Tryz.prog 4 [] objs K :=
 (gG_ok tbl drLib drHas drInn drLib_ok drHas_ok 4000 30).cp _ _ _ _ zgh objs K hk
theorem derefParams_c (l0:List UInt8) (w0:l0.length ≤ 140737488351232):zal Tryz.prog 3 [.s l0] [] (fun _ r => r=.b true):=by
 refine fn_rn is_law29_DerefParams rfl fun C _ => ?_
 simp only [c_law29_DerefParams,sxZ,z6,z7,z8,j4,j5,j6,j7,j8,j9,x0,x3,x4,x5,x6,x7,reduceCtorEq,↓reduceIte]
 refine zdW (sane29_k ?_)
 by_cases c:(1000:Int) < l0.length
 ·simp only [c,sxZ,z6,z7,z8,j4,j5,j6,j7,j8,j9,x0,x3,x4,x5,x6,x7,reduceCtorEq,↓reduceIte]
 ·have hs:l0.length ≤ 1000000:=by omega
  simp only [c,sxZ,z6,z7,z8,j4,j5,j6,j7,j8,j9,x0,x3,x4,x5,x6,x7,reduceCtorEq,↓reduceIte]
  refine zdW (zff l0 hs ?_)
  simp only [sxZ,z6,z7,z8,j4,j5,j6,j7,j8,j9,x0,x3,x4,x5,x6,x7,reduceCtorEq,↓reduceIte]
  refine zdW (zhh l0 hs ?_)
  simp only [sxZ,z6,z7,z8,j4,j5,j6,j7,j8,j9,x0,x3,x4,x5,x6,x7,reduceCtorEq,↓reduceIte]
  have hl:=Nat.le_trans (zet (zbz l0)) (zfa l0)
  refine zdW (zdL _ _ ?_ ?_)
  ·omega
  ·simp only [sxZ,z6,z7,z8,j4,j5,j6,j7,j8,j9,x0,x3,x4,x5,x6,x7,reduceCtorEq,↓reduceIte]
end
end
end Go.Proofs.YtoefobpnkoifhaaGreatDoor
namespace Go.Proofs.YtoefobpnkoifhaaGreatDoor.Sx
open Go.RowKit Go.WideShapes Go.ChangeShapes Go.ChangeAt
inductive TT where
 | s
 | b
 | i (k:IntKind)
 | st (ts:List TT)
 | sl (t:TT)
 | rv
inductive RV where
 | mk (k:Int) (t:List UInt8) (ks:List (List UInt8)) (its:List RV)
mutual
def zcV:RV → List AV
 | .mk k t ks its => [.i .i64 k,.s t,.row ks.length (ks.map .s),.row its.length (zcu its)]
def zcu:List RV → List AV
 | [] => []
 | v :: l => zcV v ++ zcu l
end
mutual
def RVok:RV → Prop
 | .mk k t ks its => (Lit.int .i64 k).wf=true ∧ t.length ≤ 140737488351232 ∧ ks.length ≤ 140737488351232 ∧ (∀ k ∈ ks,k.length ≤ 140737488351232) ∧ its.length ≤ 140737488351232 ∧ zi4 its
def zi4:List RV → Prop
 | [] => True
 | v :: l => RVok v ∧ zi4 l
end
mutual
def ShT:TT → List AV → Prop
 | .s,xs => ∃ l:List UInt8,xs=[.s l] ∧ l.length ≤ 140737488351232
 | .b,xs => ∃ b,xs=[.b b]
 | .i k,xs => ∃ n,xs=[.i k n] ∧ (Lit.int k n).wf=true
 | .st ts,xs => ShTs ts xs
 | .sl t,xs => ∃ gs:List (List AV),xs=[.row gs.length gs.flatten] ∧ gs.length ≤ 140737488351232 ∧ ∀ g ∈ gs,ShT t g
 | .rv,xs => ∃ r:RV,xs=zcV r ∧ RVok r
def ShTs:List TT → List AV → Prop
 | [],xs => xs=[]
 | t :: ts,xs => ∃ a b,xs=a ++ b ∧ ShT t a ∧ ShTs ts b
end
def ShA:TT → AV → Prop
 | .st ts,x => ∃ cs,x=.agg cs ∧ ShTs ts cs
 | .rv,x => ∃ r:RV,x=.agg (zcV r) ∧ RVok r
 | t,x => ShT t [x]
def ShAs:List TT → List AV → Prop
 | [],xs => xs=[]
 | t :: ts,xs => ∃ x ys,xs=x :: ys ∧ ShA t x ∧ ShAs ts ys
def trTs (P:Program) (rc:TypeId → Option TT):Nat → List Field → Option (List TT)
 | o,[] => some []
 | o,f :: fs => match rc f.type,trTs P rc (o + P.cellsOf f.type) fs with
  | some t,some ts => if f.offset=o then some (t :: ts) else none
  | _,_ => none
def zcI (P:Program):List Field → Nat
 | [] => 0
 | f :: fs => P.cellsOf f.type + zcI P fs
def isRV (P:Program) (t:TypeId):List Field → Bool
 | [a,b,c,d] => (a.offset == 0 && b.offset == 1 && c.offset == 2 && d.offset == 3) && (P.cellsOf t == 4 && P.cellsOf a.type == 1 && P.cellsOf b.type == 1 && P.cellsOf c.type == 1 && P.cellsOf d.type == 1) && decide (0 < P.bytesOf t) && (match P.underlying a.type,P.underlying b.type,P.underlying c.type,P.underlying d.type with
  | some (.int .i64),some .string,some (.slice e),some (.slice f) => f == t && P.cellsOf e == 1 && decide (0 < P.bytesOf e) && (match P.underlying e with | some .string => true | _ => false)
  | _,_,_,_ => false)
 | _ => false
def trT (P:Program):Nat → TypeId → Option TT
 | 0,_ => none
 | d + 1,t => match P.underlying t with
  | some .string => some .s
  | some .bool => some .b
  | some (.int k) => some (.i k)
  | some (.struct fs) => if isRV P t fs.toList=true then some .rv else if P.cellsOf t=zcI P fs.toList then (trTs P (trT P d) 0 fs.toList).map .st else none
  | some (.slice e) => if 0 < P.cellsOf e ∧ 0 < P.bytesOf e then (trT P d e).map .sl else none
  | _ => none
theorem zbl {H:Type} {P:Program} {e:TypeId}:∀ {ds:List (DataW H)} {d:DataW H},d ∈ ds → ∀ n ∈ d.weights P e,n ∈ DataW.weightsAll P e ds
 | [],d,hd,n,hn => by cases hd
 | d0 :: ds,d,hd,n,hn => by
  simp only [DataW.weightsAll,List.mem_append]
  rcases List.mem_cons.1 hd with rfl | hd
  ·exact .inl hn
  ·exact .inr (zbl hd n hn)
theorem zeV {w:World} {G:Gh} {I:Imm} {t:TT} (a:Addr) (c:Nat) (hI:∀ g o v,w.cell? ⟨g,o,none⟩=some v → I g o v):∀ k:Nat,
  (∀ i,i < k → ∃ (g:List AV) (ys:List Value),ys.length=c ∧ (∀ j,j < c → w.cell? ((a.add (i * c)).add j)=ys[j]?) ∧ zac G I g ys ∧ ShT t g ∧ ∀ u ∈ ys,u.oneCell'=true) →
  ∃ (gs:List (List AV)) (ys:List Value),gs.length=k ∧ ys.length=k * c ∧ zac G I gs.flatten ys ∧ (∀ g ∈ gs,ShT t g) ∧ (∀ u ∈ ys,u.oneCell'=true) ∧ ∀ j,j < k * c → w.cell? (a.add j)=ys[j]?
 | 0,_ => ⟨[],[],rfl,by simp,zac.nil,by simp,by simp,fun j hj => by simp at hj⟩
 | k + 1,h => by
  obtain ⟨gs,ys,h1,h2,h3,h4,h5,h6⟩:=zeV a c hI k (fun i hi => h i (by omega))
  obtain ⟨g,zs,k1,k2,k3,k4,k5⟩:=h k (by omega)
  have hm:(k + 1) * c=k * c + c:=Nat.succ_mul k c
  refine ⟨gs ++ [g],ys ++ zs,by simp [h1],by rw [List.length_append,h2,k1,hm],?_,?_,?_,?_⟩
  ·rw [List.flatten_append,List.flatten_cons,List.flatten_nil,List.append_nil]
   exact zac.append h3 k3
  ·intro x hx
   rcases List.mem_append.1 hx with hx | hx
   ·exact h4 x hx
   ·rw [List.mem_singleton] at hx; subst hx; exact k4
  ·intro u hu
   rcases List.mem_append.1 hu with hu | hu
   ·exact h5 u hu
   ·exact k5 u hu
  ·intro j hj
   by_cases hjk:j < k * c
   ·rw [h6 j hjk,List.getElem?_append_left (by omega)]
   ·have:=k2 (j - k * c) (by omega)
    rw [Addr.add_add,show k * c + (j - k * c)=j by omega] at this
    rw [this,List.getElem?_append_right (by omega),h2]
theorem add_flat {a:Addr} {j:Nat} (ha:a.spot=none):a.add j=⟨a.block,a.off + j,none⟩:=by
 cases a
 simp only at ha
 subst ha
 unfold Addr.add
 split
 ·rename_i h; subst h; rfl
 ·rfl
section
variable {H:Type} {enc:TypeId × Value → H} {P:Program} {w:World} {base:Nat} {spare:Nat → Bool} {held:Bool} {G:Gh} {I:Imm}
theorem zcX (d:Nat) (ih:∀ (t:TypeId) (tt:TT) (fuel:Nat) (cs:List Value) (x:DataW H × List MemPlace),trT P d t=some tt → DataW.trod enc P w base spare held fuel t cs=some x → (∀ n ∈ x.1.weights P t,n ≤ reachBytes) → ∃ xs,zac G I xs cs ∧ ShT tt xs ∧ ∀ u ∈ cs,u.oneCell'=true) (n:Nat) :
  ∀ (fs:List Field) (ts:List TT) (o:Nat) (cs:List Value),trTs P (trT P d) o fs=some ts → cs.length=o + zcI P fs → (∀ f ∈ fs,∃ x,DataW.trod enc P w base spare held n f.type ((cs.drop f.offset).take (P.cellsOf f.type))=some x ∧ ∀ m ∈ x.1.weights P f.type,m ≤ reachBytes) →
   ∃ xs,zac G I xs (cs.drop o) ∧ ShTs ts xs ∧ ∀ u ∈ cs.drop o,u.oneCell'=true
 | [],ts,o,cs,ht,hl,hf => by
  simp only [trTs,Option.some.injEq] at ht; subst ht
  have:cs.drop o=[]:=List.drop_eq_nil_of_le (by simp [zcI] at hl; omega)
  rw [this]
  exact ⟨[],zac.nil,rfl,by simp⟩
 | f :: fs,ts,o,cs,ht,hl,hf => by
  simp only [trTs] at ht
  split at ht
  ·rename_i t ts' h1 h2
   split at ht
   ·rename_i ho
    injection ht with ht; subst ht
    obtain ⟨x,hx,hxw⟩:=hf f (List.mem_cons_self ..)
    rw [ho] at hx
    obtain ⟨xs,k1,k2,k3⟩:=ih _ _ _ _ _ h1 hx hxw
    simp only [zcI] at hl
    obtain ⟨ys,m1,m2,m3⟩:=zcX d ih n fs ts' (o + P.cellsOf f.type) cs h2 (by omega) (fun f' hf' => hf f' (List.mem_cons_of_mem _ hf'))
    have e:cs.drop o=(cs.drop o).take (P.cellsOf f.type) ++ cs.drop (o + P.cellsOf f.type):=by
     rw [← List.drop_drop,List.take_append_drop]
    refine ⟨xs ++ ys,?_,?_,?_⟩
    ·rw [e]; exact zac.append k1 m1
    ·exact ⟨xs,ys,rfl,k2,m2⟩
    ·rw [e]; intro u hu
     rcases List.mem_append.1 hu with hu | hu
     ·exact k3 u hu
     ·exact m3 u hu
   ·cases ht
  ·cases ht
theorem zbX (hI:∀ g o v,w.cell? ⟨g,o,none⟩=some v → I g o v) (hspa:∀ b,spare b=true) {t e:TypeId} {te:TT} {fuel:Nat} {cs:List Value} {x:DataW H × List MemPlace} (hu:P.underlying t=some (.slice e)) (hc:0 < P.cellsOf e ∧ 0 < P.bytesOf e)
  (ih:∀ (n:Nat) (ys:List Value) (x:DataW H × List MemPlace),n < fuel → DataW.trod enc P w base spare held n e ys=some x → (∀ n ∈ x.1.weights P e,n ≤ reachBytes) → ∃ g,zac G I g ys ∧ ShT te g ∧ ∀ u ∈ ys,u.oneCell'=true)
  (h:DataW.trod enc P w base spare held fuel t cs=some x) (hwt:∀ n ∈ x.1.weights P t,n ≤ reachBytes):∃ xs,zac G I xs cs ∧ ShT (.sl te) xs ∧ ∀ u ∈ cs,u.oneCell'=true:=by
 rcases DataW.trod_slice hu h with ⟨rfl,rfl⟩ | ⟨a,len,cap,elems,rest,n,hfu,rfl,rfl,hb,hl,hm,hlen,hel,hsr,_⟩
 ·exact ⟨[.row 0 []],zac.cons (by simp only [Den]; exact ⟨none,0,[],rfl,⟨Nat.le_refl _,fun ad h => by cases h⟩,zac.nil,by simp,by simp⟩) zac.nil,⟨[],rfl,by simp,by simp⟩,by simp; rfl⟩
 ·have hw2:(elems.length + rest.length) * P.bytesOf e ≤ reachBytes:=by
   have:=hwt ((elems.map (·.1)).length + (rest.map (·.1)).length |> (· * P.bytesOf e)) (by simp [DataW.weights,hu])
   simpa using this
  have hel2:elems.length ≤ 140737488351232:=by
   have h1:elems.length * 1 ≤ (elems.length + rest.length) * P.bytesOf e:=Nat.mul_le_mul (by omega) hc.2
   have:reachBytes=140737488351232:=rfl
   omega
  have hel3:∀ i,i < len → ∃ (g:List AV) (ys:List Value),ys.length=P.cellsOf e ∧ (∀ j,j < P.cellsOf e → w.cell? ((a.add (i * P.cellsOf e)).add j)=ys[j]?) ∧ zac G I g ys ∧ ShT te g ∧ ∀ u ∈ ys,u.oneCell'=true:=by
   intro i hi
   have h1:=hel i hi
   have hil:i < elems.length:=by omega
   rw [List.getElem?_eq_getElem hil,Option.bind_eq_some_iff] at h1
   obtain ⟨ys,y1,y2⟩:=h1
   obtain ⟨_,z1,z2⟩:=World.cells?_some y1
   obtain ⟨g,g1,g2,g3⟩:=ih n ys _ (by omega) y2 (fun m hm => hwt m (by
    simp only [DataW.weights,hu,List.mem_cons,List.mem_append]
    exact .inr (.inl (zbl (List.mem_map.2 ⟨_,List.getElem_mem hil,rfl⟩) m hm))))
   exact ⟨g,ys,z1,z2,g1,g2,g3⟩
  obtain ⟨gs,ys,k1,k2,k3,k4,k5,k6⟩:=zeV (G:=G) a (P.cellsOf e) hI len hel3
  have hsp0:cap ≠ 0 → a.spot=none:=by
   intro hcap
   by_cases hl0:0 < len
   ·have hp:0 < len * P.cellsOf e:=Nat.mul_pos hl0 hc.1
    have h2:=k6 0 hp
    rw [List.getElem?_eq_getElem (by omega)] at h2
    have:=World.cell?_spot h2
    simpa [Addr.add] using this
   ·have hr:=(hsr (hspa _)).2 0 (by omega)
    have hrl:=(hsr (hspa _)).1
    rw [List.getElem?_eq_getElem (by omega),Option.bind_eq_some_iff] at hr
    obtain ⟨zs,y1,_⟩:=hr
    obtain ⟨_,z1,z2⟩:=World.cells?_some y1
    have h2:=z2 0 hc.1
    rw [List.getElem?_eq_getElem (by omega)] at h2
    have:=World.cell?_spot h2
    have hl1:len=0:=by omega
    subst hl1
    simpa [Addr.add] using this
  refine ⟨[.row gs.length gs.flatten],zac.cons ?_ zac.nil,⟨gs,rfl,by omega,k4⟩,by simp; rfl⟩
  simp only [Den]
  refine ⟨some a,cap,ys,by rw [k1],⟨by omega,fun ad h hc0 => by injection h with h; subst h; exact hsp0 hc0⟩,k3,k5,fun j u hj => ?_⟩
  have hjl:=(List.getElem?_eq_some_iff.1 hj).1
  have hlp:len ≠ 0:=by rintro rfl; rw [k2,Nat.zero_mul] at hjl; omega
  have hs:=hsp0 (by omega)
  refine ⟨a.block,a.off,by cases a; simp only at hs; subst hs; rfl,hI _ _ _ ?_⟩
  have h2:=k6 j (k2 ▸ hjl)
  rw [add_flat hs] at h2
  rw [h2,hj]
theorem isRV_of {t:TypeId} {fs:List Field} (h:isRV P t fs=true):∃ a b c d e,fs=[a,b,c,d] ∧ (a.offset=0 ∧ b.offset=1 ∧ c.offset=2 ∧ d.offset=3) ∧ (P.cellsOf t=4 ∧ P.cellsOf a.type=1 ∧ P.cellsOf b.type=1 ∧ P.cellsOf c.type=1 ∧ P.cellsOf d.type=1) ∧ 0 < P.bytesOf t ∧
  P.underlying a.type=some (.int .i64) ∧ P.underlying b.type=some .string ∧ P.underlying c.type=some (.slice e) ∧ P.underlying d.type=some (.slice t) ∧ P.cellsOf e=1 ∧ 0 < P.bytesOf e ∧ P.underlying e=some .string:=by
 unfold isRV at h
 split at h
 ·rename_i a b c d
  simp only [Bool.and_eq_true,beq_iff_eq,decide_eq_true_eq] at h
  obtain ⟨⟨⟨h1,h2⟩,h3⟩,h4⟩:=h
  split at h4
  ·rename_i e f u1 u2 u3 u4
   simp only [Bool.and_eq_true,beq_iff_eq,decide_eq_true_eq] at h4
   obtain ⟨⟨⟨k1,k2⟩,k3⟩,k4⟩:=h4
   subst k1
   split at k4
   ·rename_i u5
    exact ⟨a,b,c,d,e,rfl,⟨h1.1.1.1,h1.1.1.2,h1.1.2,h1.2⟩,⟨h2.1.1.1.1,h2.1.1.1.2,h2.1.1.2,h2.1.2,h2.2⟩,h3,u1,u2,u3,u4,k2,k3,u5⟩
   ·cases k4
  ·cases h4
 ·cases h
theorem zgU:∀ gs:List (List AV),(∀ g ∈ gs,ShT .s g) → ∃ ks:List (List UInt8),gs.flatten=ks.map .s ∧ ks.length=gs.length ∧ ∀ k ∈ ks,k.length ≤ 140737488351232
 | [],_ => ⟨[],rfl,rfl,by simp⟩
 | g :: gs,h => by
  obtain ⟨ks,h1,h2,h3⟩:=zgU gs (fun g hg => h g (List.mem_cons_of_mem _ hg))
  obtain ⟨l,hl,hl2⟩:=h g (List.mem_cons_self ..)
  refine ⟨l :: ks,by rw [List.flatten_cons,hl,h1]; rfl,by simp [h2],fun k hk => ?_⟩
  rcases List.mem_cons.1 hk with rfl | hk
  ·exact hl2
  ·exact h3 k hk
theorem zeU:∀ gs:List (List AV),(∀ g ∈ gs,ShT .rv g) → ∃ rs:List RV,gs.flatten=zcu rs ∧ rs.length=gs.length ∧ zi4 rs
 | [],_ => ⟨[],by rw [zcu]; rfl,rfl,by rw [zi4]; trivial⟩
 | g :: gs,h => by
  obtain ⟨rs,h1,h2,h3⟩:=zeU gs (fun g hg => h g (List.mem_cons_of_mem _ hg))
  obtain ⟨r,hr,hr2⟩:=h g (List.mem_cons_self ..)
  exact ⟨r :: rs,by rw [List.flatten_cons,hr,h1,zcu],by simp [h2],by rw [zi4]; exact ⟨hr2,h3⟩⟩
theorem open_rv (hI:∀ g o v,w.cell? ⟨g,o,none⟩=some v → I g o v) (hspa:∀ b,spare b=true) {t:TypeId} {fs:Array Field} (hu:P.underlying t=some (.struct fs)) (hrv:isRV P t fs.toList=true):∀ (m fuel:Nat) (cs:List Value) (x:DataW H × List MemPlace),fuel < m → DataW.trod enc P w base spare held fuel t cs=some x → (∀ n ∈ x.1.weights P t,n ≤ reachBytes) → ∃ xs,zac G I xs cs ∧ ShT .rv xs ∧ ∀ u ∈ cs,u.oneCell'=true:=by
 intro m
 induction m with
 | zero => intro fuel cs x hm; omega
 | succ m ih =>
  intro fuel cs x hm h hwt
  obtain ⟨a,b,c,d,e,hfs,⟨o1,o2,o3,o4⟩,⟨c0,c1,c2,c3,c4⟩,hb,u1,u2,u3,u4,e1,e2,e3⟩:=isRV_of hrv
  obtain ⟨xs,n,hfu,rfl,hlen,hxl,hf⟩:=DataW.trod_struct hu h
  have hsz:fs.size=4:=by rw [← Array.length_toList,hfs]; rfl
  have gf:∀ j,fs[j]? = [a,b,c,d][j]?:=fun j => by rw [← hfs,Array.getElem?_toList]
  have hall:∀ (j:Nat) (f:Field),[a,b,c,d][j]? = some f → ∃ x,DataW.trod enc P w base spare held n f.type ((cs.drop f.offset).take (P.cellsOf f.type))=some x ∧ ∀ m ∈ x.1.weights P f.type,m ≤ reachBytes:=by
   intro j f hj
   have h1:=hf j f (by rw [gf]; exact hj)
   have hjl:j < xs.length:=by
    rw [hxl,hsz]
    exact (List.getElem?_eq_some_iff.1 hj).1
   rw [List.getElem?_eq_getElem hjl] at h1
   refine ⟨_,h1,fun m hm => hwt m ?_⟩
   have hj2:(fs.toList.map (·.type))[j]? = some f.type:=by rw [List.getElem?_map,hfs,hj]; rfl
   have:=DataW.weights_mem_each hj2 (show (xs.map (·.1))[j]? = some xs[j].1 by rw [List.getElem?_map,List.getElem?_eq_getElem hjl]; rfl) m hm
   simpa [DataW.weights,hu] using this
  obtain ⟨xa,ha,wa⟩:=hall 0 a rfl
  obtain ⟨xb,hb',wb⟩:=hall 1 b rfl
  obtain ⟨xc,hc',wc⟩:=hall 2 c rfl
  obtain ⟨xd,hd',wd⟩:=hall 3 d rfl
  rw [o1,c1] at ha
  rw [o2,c2] at hb'
  rw [o3,c3] at hc'
  rw [o4,c4] at hd'
  rw [c0] at hlen
  obtain ⟨v0,v1,v2,v3,rfl⟩:∃ v0 v1 v2 v3,cs=[v0,v1,v2,v3]:=by
   match cs,hlen with
   | [v0,v1,v2,v3],_ => exact ⟨v0,v1,v2,v3,rfl⟩
  simp only [List.drop_zero,List.drop_succ_cons,List.take_succ_cons,List.take_zero] at ha hb' hc' hd'
  obtain ⟨i0,r0,_,w0⟩:=DataW.trod_int u1 ha
  injection r0 with r0 _
  obtain ⟨s0,r1,rx1,_⟩:=DataW.trod_string u2 hb'
  injection r1 with r1 _
  subst r0 r1
  obtain ⟨ys2,d2,⟨g2,q2,l2,m2⟩,oc2⟩:=zbX (te:=.s) (G:=G) (I:=I) hI hspa u3 ⟨by omega,e2⟩ (fun n' ys y hn' hy hyw => by
   obtain ⟨s,rfl,rfl,hs⟩:=DataW.trod_string e3 hy
   exact ⟨[.s s.data.toList],zac.cons (by simp [Den]) zac.nil,⟨_,rfl,hyw _ (by simp [DataW.weights])⟩,by simp; rfl⟩) hc' wc
  obtain ⟨ys3,d3,⟨g3,q3,l3,m3⟩,oc3⟩:=zbX (te:=.rv) (G:=G) (I:=I) hI hspa u4 ⟨by omega,hb⟩ (fun n' ys y hn' hy hyw => ih n' ys y (by omega) hy hyw) hd' wd
  subst q2 q3
  obtain ⟨ks,k1,k2,k3⟩:=zgU g2 m2
  obtain ⟨rs,j1,j2,j3⟩:=zeU g3 m3
  refine ⟨zcV (.mk i0 s0.data.toList ks rs),?_,⟨_,rfl,?_⟩,?_⟩
  ·rw [zcV,k2,j2,← k1,← j1]
   exact zac.cons (by simp [Den]) (zac.cons (by simp [Den]) (zac.append d2 d3))
  ·rw [RVok]
   refine ⟨w0,?_,by omega,k3,by omega,j3⟩
   subst rx1
   exact wb _ (by simp [DataW.weights])
  ·intro u hu'
   simp only [List.mem_cons,List.not_mem_nil,or_false] at hu'
   rcases hu' with rfl | rfl | rfl | rfl
   ·rfl
   ·rfl
   ·exact oc2 _ (by simp)
   ·exact oc3 _ (by simp)
theorem zhu (hI:∀ g o v,w.cell? ⟨g,o,none⟩=some v → I g o v) (hspa:∀ b,spare b=true):∀ (d:Nat) (t:TypeId) (tt:TT) (fuel:Nat) (cs:List Value) (x:DataW H × List MemPlace),trT P d t=some tt → DataW.trod enc P w base spare held fuel t cs=some x → (∀ n ∈ x.1.weights P t,n ≤ reachBytes) → ∃ xs,zac G I xs cs ∧ ShT tt xs ∧ ∀ u ∈ cs,u.oneCell'=true:=by
 intro d
 induction d with
 | zero => intro t tt fuel cs x ht; simp [trT] at ht
 | succ d ih =>
  intro t tt fuel cs x ht h hwt
  simp only [trT] at ht
  split at ht
  ·rename_i hu
   injection ht with ht; subst ht
   obtain ⟨s,rfl,rfl,hs⟩:=DataW.trod_string hu h
   refine ⟨[.s s.data.toList],zac.cons (by simp [Den]) zac.nil,⟨_,rfl,?_⟩,by simp; rfl⟩
   exact hwt _ (by simp [DataW.weights])
  ·rename_i hu
   injection ht with ht; subst ht
   obtain ⟨b,rfl,_⟩:=DataW.trod_bool hu h
   exact ⟨[.b b],zac.cons (by simp [Den]) zac.nil,⟨_,rfl⟩,by simp; rfl⟩
  ·rename_i k hu
   injection ht with ht; subst ht
   obtain ⟨n,rfl,_,hw⟩:=DataW.trod_int hu h
   exact ⟨[.i k n],zac.cons (by simp [Den]) zac.nil,⟨_,rfl,hw⟩,by simp; rfl⟩
  ·rename_i fs hu
   split at ht
   ·rename_i hrv
    injection ht with ht; subst ht
    exact open_rv hI hspa hu hrv (fuel + 1) fuel cs x (by omega) h hwt
   split at ht
   ·rename_i hc
    cases hts:trTs P (trT P d) 0 fs.toList with
    | none => rw [hts] at ht; cases ht
    | some ts =>
     rw [hts] at ht; injection ht with ht; subst ht
     obtain ⟨xs,n,_,rfl,hlen,hxl,hf⟩:=DataW.trod_struct hu h
     have hall:∀ f ∈ fs.toList,∃ x,DataW.trod enc P w base spare held n f.type ((cs.drop f.offset).take (P.cellsOf f.type))=some x ∧ ∀ m ∈ x.1.weights P f.type,m ≤ reachBytes:=by
      intro f hfm
      obtain ⟨j,hj⟩:=List.mem_iff_getElem?.1 hfm
      have h1:=hf j f (by simpa using hj)
      have hjl:j < xs.length:=by
       rw [hxl]
       have:=(List.getElem?_eq_some_iff.1 hj).1
       simpa using this
      rw [List.getElem?_eq_getElem hjl] at h1
      refine ⟨_,h1,fun m hm => hwt m ?_⟩
      have hj2:(fs.toList.map (·.type))[j]? = some f.type:=by rw [List.getElem?_map,hj]; rfl
      have:=DataW.weights_mem_each hj2 (show (xs.map (·.1))[j]? = some xs[j].1 by rw [List.getElem?_map,List.getElem?_eq_getElem hjl]; rfl) m hm
      simpa [DataW.weights,hu] using this
     obtain ⟨ys,k1,k2,k3⟩:=zcX d ih n fs.toList ts 0 cs hts (by rw [hlen,hc]; omega) hall
     exact ⟨ys,by simpa using k1,k2,by simpa using k3⟩
   ·cases ht
  ·rename_i e hu
   split at ht
   ·rename_i hc
    cases hte:trT P d e with
    | none => rw [hte] at ht; cases ht
    | some te =>
     rw [hte] at ht; injection ht with ht; subst ht
     exact zbX hI hspa hu hc (fun n ys y _ hy hyw => ih e te n ys y hte hy hyw) h hwt
   ·cases ht
  ·cases ht
theorem open_arg (hI:∀ g o v,w.cell? ⟨g,o,none⟩=some v → I g o v) (hspa:∀ b,spare b=true) {r:Reach} {b0:Nat} {t:TypeId} {tt:TT} {v:Value} {dd:DataW H} {ps:List MemPlace} (ht:trT P 20 t=some tt) (hv:Value.okWide P w r b0 t v) (h:DataW.Trod enc P w base spare held t v dd ps) (hwt:∀ n ∈ dd.weights P t,n ≤ reachBytes):∃ x,Den G I x v ∧ ShA tt x:=by
 obtain ⟨fuel,hf⟩:=h
 obtain ⟨xs,h1,h2,h3⟩:=zhu hI hspa 20 t tt fuel _ _ ht hf hwt
 have ht':=ht
 unfold trT at ht
 cases tt with
 | st ts =>
  split at ht <;> first | (injection ht with ht; cases ht; done) | skip
  ·rename_i fs hu
   obtain ⟨cs,rfl,_⟩:=okWide_struct hu hv
   refine ⟨.agg xs,?_,⟨xs,rfl,h2⟩⟩
   simp only [Den]
   exact ⟨cs.toList,by simp,h1,h3⟩
  ·split at ht
   ·cases hq:trT P 19 _ with
    | none => rw [hq] at ht; cases ht
    | some q => rw [hq] at ht; injection ht with ht; cases ht
   ·cases ht
  ·cases ht
 | rv =>
  split at ht <;> first | (injection ht with ht; cases ht; done) | skip
  ·rename_i fs hu
   obtain ⟨cs,rfl,_⟩:=okWide_struct hu hv
   obtain ⟨r,rfl,hr⟩:=h2
   refine ⟨.agg (zcV r),?_,⟨r,rfl,hr⟩⟩
   simp only [Den]
   exact ⟨cs.toList,by simp,h1,h3⟩
  ·split at ht
   ·cases hq:trT P 19 _ with
    | none => rw [hq] at ht; cases ht
    | some q => rw [hq] at ht; injection ht with ht; cases ht
   ·cases ht
  ·cases ht
 | sl t =>
  split at ht <;> first | (injection ht with ht; cases ht; done) | skip
  ·split at ht
   ·injection ht with ht; cases ht
   split at ht
   ·cases hq:trTs P (trT P 19) 0 _ with
    | none => rw [hq] at ht; cases ht
    | some q => rw [hq] at ht; injection ht with ht; cases ht
   ·cases ht
  ·rename_i e hu
   obtain ⟨a,len,cap,rfl⟩:=okWide_slice hu hv
   obtain ⟨gs,rfl,hl,hg⟩:=h2
   simp only [zac] at h1
   obtain ⟨y,ys,e1,k1,k2⟩:=h1
   subst k2
   have e2:[Value.slice a len cap]=[y]:=e1
   injection e2 with e2 _
   subst e2
   exact ⟨.row gs.length gs.flatten,k1,⟨gs,rfl,hl,hg⟩⟩
  ·cases ht
 | s =>
  split at ht <;> first | (injection ht with ht; cases ht; done) | skip
  ·rename_i hu
   obtain ⟨s,rfl⟩:=okWide_string hu hv
   obtain ⟨l,rfl,hl⟩:=h2
   simp only [zac] at h1
   obtain ⟨y,ys,e,k1,k2⟩:=h1
   subst k2
   have e2:[Value.string s]=[y]:=e
   injection e2 with e2 _
   subst e2
   exact ⟨.s l,k1,⟨l,rfl,hl⟩⟩
  ·split at ht
   ·injection ht with ht; cases ht
   split at ht
   ·cases hq:trTs P (trT P 19) 0 _ with
    | none => rw [hq] at ht; cases ht
    | some q => rw [hq] at ht; injection ht with ht; cases ht
   ·cases ht
  ·split at ht
   ·cases hq:trT P 19 _ with
    | none => rw [hq] at ht; cases ht
    | some q => rw [hq] at ht; injection ht with ht; cases ht
   ·cases ht
  ·cases ht
 | b =>
  split at ht <;> first | (injection ht with ht; cases ht; done) | skip
  ·rename_i hu
   obtain ⟨s,rfl⟩:=okWide_bool hu hv
   obtain ⟨l,rfl⟩:=h2
   simp only [zac] at h1
   obtain ⟨y,ys,e,k1,k2⟩:=h1
   subst k2
   have e2:[Value.bool s]=[y]:=e
   injection e2 with e2 _
   subst e2
   exact ⟨.b l,k1,⟨l,rfl⟩⟩
  ·split at ht
   ·injection ht with ht; cases ht
   split at ht
   ·cases hq:trTs P (trT P 19) 0 _ with
    | none => rw [hq] at ht; cases ht
    | some q => rw [hq] at ht; injection ht with ht; cases ht
   ·cases ht
  ·split at ht
   ·cases hq:trT P 19 _ with
    | none => rw [hq] at ht; cases ht
    | some q => rw [hq] at ht; injection ht with ht; cases ht
   ·cases ht
  ·cases ht
 | i k =>
  split at ht <;> first | (injection ht with ht; cases ht; done) | skip
  ·rename_i k' hu
   injection ht with ht; injection ht with ht; subst ht
   obtain ⟨s,rfl⟩:=okWide_int hu hv
   obtain ⟨l,rfl,hl⟩:=h2
   simp only [zac] at h1
   obtain ⟨y,ys,e,k1,k2⟩:=h1
   subst k2
   have e2:[Value.int _ s]=[y]:=e
   injection e2 with e2 _
   subst e2
   exact ⟨.i _ l,k1,⟨l,rfl,hl⟩⟩
  ·split at ht
   ·injection ht with ht; cases ht
   split at ht
   ·cases hq:trTs P (trT P 19) 0 _ with
    | none => rw [hq] at ht; cases ht
    | some q => rw [hq] at ht; injection ht with ht; cases ht
   ·cases ht
  ·split at ht
   ·cases hq:trT P 19 _ with
    | none => rw [hq] at ht; cases ht
    | some q => rw [hq] at ht; injection ht with ht; cases ht
   ·cases ht
  ·cases ht
theorem open_args (hI:∀ g o v,w.cell? ⟨g,o,none⟩=some v → I g o v) (hspa:∀ b,spare b=true) {r:Reach} {b0:Nat}:∀ (ts:List TypeId) (tts:List TT) (vs:List Value) (ds:List (DataW H)) (ps:List MemPlace),ts.mapM (trT P 20)=some tts → (∀ (j:Nat) t v,ts[j]? = some t → vs[j]? = some v → Value.okWide P w r b0 t v) → DataW.TrodAll enc P w base spare held ts vs ds ps → (∀ n ∈ DataW.weightsEach P ts ds,n ≤ reachBytes) → ∃ xs,zac G I xs vs ∧ ShAs tts xs
 | [],tts,vs,ds,ps,ht,hv,h,hwt => by
  simp at ht; subst ht
  obtain ⟨rfl,_,_⟩:=trodAll_nil h
  exact ⟨[],zac.nil,rfl⟩
 | t :: ts,tts,vs,ds,ps,ht,hv,h,hwt => by
  simp only [List.mapM_cons,Option.bind_eq_bind,Option.pure_def] at ht
  cases h1:trT P 20 t with
  | none => simp [h1] at ht
  | some tt =>
   cases h2:ts.mapM (trT P 20) with
   | none => simp [h1,h2] at ht
   | some tts' =>
    simp [h1,h2] at ht
    subst ht
    obtain ⟨v,vs',d,ds',p,q,rfl,rfl,rfl,k1,k2⟩:=trodAll_cons h
    obtain ⟨x,x1,x2⟩:=open_arg (G:=G) (I:=I) hI hspa h1 (hv 0 t v rfl rfl) k1 (fun n hn => hwt n (by simp only [DataW.weightsEach,List.mem_append]; exact .inl hn))
    obtain ⟨xs,y1,y2⟩:=open_args hI hspa ts tts' vs' ds' q h2 (fun j t v hj hv' => hv (j + 1) t v (by simpa using hj) (by simpa using hv')) k2 (fun n hn => hwt n (by simp only [DataW.weightsEach,List.mem_append]; exact .inr hn))
    exact ⟨x :: xs,zac.cons x1 y1,⟨x,xs,rfl,x2,y2⟩⟩
theorem zbF (hl:laidOutB P=true) {W W':World} {sp':Nat → Bool}:∀ (ts:List TypeId) (vs:List Value) (ds:List (DataW H)) (ps:List MemPlace),(∀ t ∈ ts,P.readableRec t=true ∧ t < P.types.size) → DataW.TrodAll enc P W 0 (fun _ => true) true ts vs ds ps → Below W.heap.size W W' → (∀ p ∈ ps,p.block < W.heap.size) → (∀ p ∈ ps,sp' p.block=true) → DataW.TrodAll enc P W' 0 sp' true ts vs ds ps
 | [],vs,ds,ps,hr,h,hb,hlt,hs => by
  obtain ⟨rfl,rfl,rfl⟩:=trodAll_nil h
  exact trodAll_mk0
 | t :: ts,vs,ds,ps,hr,h,hb,hlt,hs => by
  obtain ⟨v,vs',d,ds',p,q,rfl,rfl,rfl,k1,k2⟩:=trodAll_cons h
  have h1:=hr t (List.mem_cons_self ..)
  exact trodAll_cons_mk (WideElems.Trod_stays hl h1.1 h1.2 k1 (fun x hx => hb.same (hlt x (List.mem_append_left _ hx))) (fun x hx => hs x (List.mem_append_left _ hx)))
   (zbF hl ts vs' ds' q (fun t ht => hr t (List.mem_cons_of_mem _ ht)) k2 hb (fun x hx => hlt x (List.mem_append_right _ hx)) (fun x hx => hs x (List.mem_append_right _ hx)))
end
theorem post_true {H:Type} {enc:TypeId × Value → H} {P:Program} {f:Func} {s:ChangeSpec} {apart fresh handsOn again:Bool} {W W':World} {args:Array Value} {ds gs:List (DataW H)} {before:List MemPlace}
  (hl:laidOutB P=true) (hts:∀ t ∈ f.params.toList,P.readableRec t=true ∧ t < P.types.size) {tb:TypeId} (hrt:f.resultTypes=#[tb]) (hub:P.underlying tb=some .bool) (hsv:s.vars=[])
  (hW:DataW.Whole enc P f.params.toList s.vars apart W args.toList ds gs before) (hfn:s.fn H (ds ++ gs)={ results:=[.lit (.bool true)],args:=ds }) (hb:Below W.heap.size W W'):s.post enc P f apart fresh handsOn again W args (.bool true) W':=by
 have hlt:∀ p ∈ before,p.block < W.heap.size:=fun p hp => hW.lt p hp
 have hold:∀ p ∈ before,(fun b => decide (b < W.heap.size)) p.block=true:=fun p hp => by simpa using hlt p hp
 have hW':=hW
 obtain ⟨p,q,hA,hV,rfl,hz,hn⟩:=hW'
 rw [hsv] at hV
 have hvars:gs=[] ∧ q=[]:=by
  cases gs with
  | nil => exact ⟨rfl,hV⟩
  | cons g gs => exact hV.elim
 obtain ⟨rfl,rfl⟩:=hvars
 simp only [List.append_nil] at *
 have hres:∀ (b:Nat) (sp:Nat → Bool) (hd:Bool),DataW.TrodAll enc P W' b sp hd f.resultTypes.toList ((Value.bool true).resultList f.resultTypes.size) (s.fn H ds).results []:=by
  intro b sp hd
  rw [hfn,hrt]
  exact trodAll_cons_mk (shut_bool hub _) trodAll_mk0
 have hargs:∀ sp:Nat → Bool,(∀ x ∈ p,sp x.block=true) → DataW.TrodAll enc P W' 0 sp true f.params.toList args.toList (s.fn H ds).args p:=by
  intro sp hsp
  rw [hfn]
  exact zbF hl _ _ _ _ hts hA hb hlt hsp
 have hvs:∀ sp:Nat → Bool,DataW.TrodVars enc P W' sp s.vars (s.fn H ds).vars []:=by
  intro sp
  rw [hsv,hfn]; rfl
 refine ⟨ds,[],p,[],p,[],hW,by simpa using hres _ _ _,by simpa using hargs _ hold,by simpa using hvs _,World.keptBut_mono (fun x hx => ⟨hx,?_⟩) (hb.frame (· ∈ p)),fun _ => ?_⟩
 ·exact Or.inr (Or.inl hx)
 ·refine ⟨?_,_,_,([] ++ p) ++ [],⟨[] ++ p,[],trodAll_append (by simpa using hargs _ (fun _ _ => rfl)) (by simpa using hres _ _ _),by simpa using hvs _,rfl,?_,?_⟩,?_⟩
  ·intro j t r hj hr
   rw [hrt] at hj hr
   cases j with
   | zero =>
    simp at hj; subst hj
    have:r=.bool true:=by simpa [Value.resultList] using hr.symm
    subst this
    exact okWide_bool_mk hub _
   | succ j => simp at hj
  ·intro b off hp
   have hin:MemPlace.cell b off ∈ p:=by simpa using hp
   rw [hb.frozen (hlt _ hin)]
   exact hz b off hin
  ·intro ha
   simpa using hn ha
  ·intro x hx _
   simpa using hx
section
variable {H:Type} {enc:TypeId × Value → H}
end
end Go.Proofs.YtoefobpnkoifhaaGreatDoor.Sx
namespace Go.Proofs.YtoefobpnkoifhaaGreatDoor
open Go.RowKit Sx
theorem zbQ {P:Program} {w w':World} {name:String} {k:IntKind} {zs:List Int} (h:Lib.TabIs P w name k zs) (hk:∀ k,k < w.heap.size → w'.heap[k]? = w.heap[k]?):Lib.TabIs P w' name k zs:=by
 unfold Lib.TabIs World.var? at *
 cases hg:P.globalNamed name with
 | none => simp [hg] at h
 | some g =>
  simp only [hg,Option.bind_some] at h ⊢
  have hlt:g < w.heap.size:=by
   rcases Nat.lt_or_ge g w.heap.size with h' | h'
   ·exact h'
   ·rw [Array.getElem?_eq_none h'] at h; simp at h
  rw [hk g hlt]
  exact h
instance tabsN : Tabs Tryz.prog := ⟨fun w => w.ShapedOpen Tryz.prog ∧ Lib.TabIs Tryz.prog w "internal/strconv.uint64pow10" .u64 Lib.pow10Tab, fun _ _ h hk _ => ⟨zck h.1 hk, zbQ h.2 hk⟩⟩
instance tabsN_shp:Shp Tryz.prog:=⟨fun _ h => h.1⟩
instance tabsN_pow:Pow Tryz.prog:=⟨fun _ h => h.2⟩
end Go.Proofs.YtoefobpnkoifhaaGreatDoor
namespace Go.Proofs.YtoefobpnkoifhaaGreatDoor
/-! ## A chunk -/
/-! ## Digits -/
/-! ## The form with chunks of one size -/
/-! ## What is cut off -/
end Go.Proofs.YtoefobpnkoifhaaGreatDoor
namespace Go.Proofs.YtoefobpnkoifhaaGreatDoor
end Go.Proofs.YtoefobpnkoifhaaGreatDoor
namespace Go.Proofs.YtoefobpnkoifhaaGreatDoor
open Go.RowKit Sx
class Brn (P:Program) [Tabs P]:Prop where
 br:∀ w:World,Tabs.T (P:=P) w → w.cell? ⟨5,15,none⟩=some (.int .u8 4)
section
variable [Tabs Tryz.prog] [Brn Tryz.prog] {objs:List OB} {K:List OB → AV → Prop}
end
end Go.Proofs.YtoefobpnkoifhaaGreatDoor
namespace Go.Proofs.YtoefobpnkoifhaaGreatDoor
open Go.RowKit Sx
def brnT:List Int:=[0,1,56,2,57,49,28,3,61,58,42,50,38,29,17,4,62,47,59,36,45,43,51,22,53,39,33,30,24,18,12,5,63,55,48,27,60,41,37,16,46,35,44,21,52,32,23,11,54,26,40,15,34,20,31,10,25,14,19,9,13,8,7,6]
theorem brn_of {w : World} (h : Lib.TabIs Tryz.prog w "math/bits.deBruijn64tab" .u8 brnT) : w.cell? ⟨5, 15, none⟩ = some (.int .u8 4) := h.cell (by kernel_rfl) 15 (by decide)
instance (priority := high) tabsB : Tabs Tryz.prog := ⟨fun w => w.ShapedOpen Tryz.prog ∧ Lib.TabIs Tryz.prog w "internal/strconv.uint64pow10" .u64 Lib.pow10Tab ∧ Lib.TabIs Tryz.prog w "math/bits.deBruijn64tab" .u8 brnT, fun _ _ h hk _ => ⟨zck h.1 hk, zbQ h.2.1 hk, zbQ h.2.2 hk⟩⟩
instance (priority:=high) tabsB_shp:Shp Tryz.prog:=⟨fun _ h => h.1⟩
instance (priority:=high) tabsB_pow:Pow Tryz.prog:=⟨fun _ h => h.2.1⟩
instance (priority:=high) tabsB_brn:Brn Tryz.prog:=⟨fun _ h => brn_of h.2.2⟩
end Go.Proofs.YtoefobpnkoifhaaGreatDoor
