/- The texts that the proofs of these statements reach, in their order, as few files. -/
import Derived.ProofKit
import Derived.OpenShut
import Derived.ShutString
import Derived.Carry
import Derived.WideKeyArgs
import Derived.SizedLaws
import Derived.KernelRfl
import Derived.Test.YthmdohgkmdkeeaaGreatDoorProg
import Derived.Test.YthmdohgkmdkeeaaGreatDoorJp5
set_option linter.unusedVariables false
set_option linter.unusedSimpArgs false
set_option maxRecDepth 100000
namespace Go.Proofs.YthmdohgkmdkeeaaGreatDoor
open Go.RowKit Sx
section
attribute [local irreducible] run
mutual
/-- a JSON value, cell for cell -/
def zap:JV → List AV
 | .mk k t ks its => [.i .i64 k,.s t,.row ks.length (ks.map .s),.row its.length (zaj its)]
def zaj:List JV → List AV
 | [] => []
 | v :: l => zap v ++ zaj l
end
def JV.kind:JV → Int | .mk k _ _ _ => k
def JV.text:JV → List UInt8 | .mk _ t _ _ => t
def JV.keys:JV → List (List UInt8) | .mk _ _ ks _ => ks
def JV.items:JV → List JV | .mk _ _ _ its => its
theorem zaN (v:JV):zap v=[.i .i64 v.kind,.s v.text,.row v.keys.length (v.keys.map .s),.row v.items.length (zaj v.items)]:=by cases v; rw [zap]; rfl
theorem zaB:zaj []=[]:=by rw [zaj]
theorem zaJ (v:JV) (l:List JV):zaj (v :: l)=zap v ++ zaj l:=by rw [zaj]
theorem zdV (v:JV):(zap v).length=4:=by rw [zaN]; rfl
theorem zby (l:List JV):(zaj l).length=l.length * 4:=by
 induction l with
 | nil => rw [zaB]; rfl
 | cons v l ih => rw [zaJ,List.length_append,zdV,ih,List.length_cons]; omega
theorem zdh (a b:List JV):zaj (a ++ b)=zaj a ++ zaj b:=by
 induction a with
 | nil => rw [zaB]; rfl
 | cons v l ih => rw [List.cons_append,zaJ,zaJ,ih,List.append_assoc]
theorem jc_at:∀ {l:List JV} {i:Nat} (hi:i < l.length),((zaj l).drop (i * 4)).take 4=zap l[i]
 | a :: l,0,hi => by
  rw [zaJ,Nat.zero_mul,List.drop_zero]
  exact List.take_left' (zdV a)
 | a :: l,i + 1,hi => by
  rw [zaJ,show (i + 1) * 4=4 + i * 4 by omega,← List.drop_drop,List.drop_left' (zdV a)]
  simpa using jc_at (l:=l) (i:=i) (by simpa using hi)
theorem zdg (l:List (List UInt8)):zar (l.map AV.s)=true:=by
 induction l with
 | nil => rfl
 | cons a l ih => simp [zar,AV.plain,ih]
theorem zhC (a b:List AV):zar (a ++ b)=(zar a && zar b):=by
 induction a with
 | nil => simp [zar]
 | cons x a ih => simp [zar,ih,Bool.and_assoc]
mutual
theorem zfQ:∀ v:JV,zar (zap v)=true
 | .mk k t ks its => by
  rw [zap]
  simp only [zar,AV.plain,zdg,zdE its,Bool.and_self]
theorem zdE:∀ l:List JV,zar (zaj l)=true
 | [] => by rw [zaj]; rfl
 | v :: l => by rw [zaj,zhC,zfQ v,zdE l]; rfl
end
mutual
/-- equal field by field -/
def zc7:JV → JV → Bool
 | .mk k t ks its,.mk k' t' ks' its' => decide (k=k') && (decide (t=t') && (decide (ks=ks') && zbI its its'))
def zbI:List JV → List JV → Bool
 | [],[] => true
 | v :: l,w :: m => zc7 v w && zbI l m
 | _,_ => false
end
mutual
theorem ze1:∀ v,zc7 v v=true
 | .mk k t ks its => by rw [zc7,zet its]; simp
theorem zet:∀ l,zbI l l=true
 | [] => by rw [zbI]
 | v :: l => by rw [zbI,ze1 v,zet l]; rfl
end
mutual
/-- how many values there are in a value -/
def JV.size:JV → Nat
 | .mk _ _ _ its => JV.sizes its + 1
def JV.sizes:List JV → Nat
 | [] => 0
 | v :: l => JV.size v + JV.sizes l
end
theorem zkf:∀ {l:List JV} {i:Nat} (hi:i < l.length),JV.size l[i] ≤ JV.sizes l
 | a :: l,0,hi => by rw [JV.sizes]; simp
 | a :: l,i + 1,hi => by
  rw [JV.sizes]
  have:=zkf (l:=l) (i:=i) (by simpa using hi)
  simp only [List.getElem_cons_succ]
  omega
theorem zke {v:JV} {i:Nat} (hi:i < v.items.length):JV.size v.items[i] < JV.size v:=by
 cases v with
 | mk k t ks its =>
  have:=zkf (l:=its) (i:=i) hi
  rw [JV.size.eq_def (.mk k t ks its)]
  show JV.size its[i] < _
  simp only
  omega
def zau {α:Type} (L:List (Nat × α)) (o:List α):Prop:=(L.map (·.1)).Nodup ∧ ∀ x ∈ L,o[x.1]? = some x.2
theorem zau.get {α:Type} {L:List (Nat × α)} {o:List α} (h:zau L o) {i:Nat} {x:α} (hx:(i,x) ∈ L):o[i]? = some x:=h.2 _ hx
theorem zau.perm {α:Type} {L L':List (Nat × α)} {o:List α} (h:zau L o) (p:L.Perm L'):zau L' o :=
 ⟨(p.map _).nodup_iff.1 h.1,fun x hx => h.2 x (p.mem_iff.2 hx)⟩
theorem zau.sub {α:Type} {L L':List (Nat × α)} {o:List α} (h:zau L o) (p:L'.Sublist L):zau L' o :=
 ⟨(p.map _).nodup h.1,fun x hx => h.2 x (p.subset hx)⟩
theorem zau.set {α:Type} {A B:List (Nat × α)} {o:List α} {i:Nat} {x:α} (y:α) (h:zau (A ++ (i,x) :: B) o):zau (A ++ (i,y) :: B) (o.set i y):=by
 obtain ⟨h1,h2⟩:=h
 simp only [List.map_append,List.map_cons] at h1
 have hi:o[i]? = some x:=h2 (i,x) (by simp)
 have hlt:=(List.getElem?_eq_some_iff.1 hi).1
 have hne:∀ z ∈ A ++ B,z.1 ≠ i:=by
  intro z hz e
  rw [List.nodup_append] at h1
  obtain ⟨n1,n2,n3⟩:=h1
  rcases List.mem_append.1 hz with hz | hz
  ·exact n3 z.1 (List.mem_map_of_mem hz) i (by simp) e
  ·rw [List.nodup_cons] at n2
   exact n2.1 (e ▸ List.mem_map_of_mem hz)
 refine ⟨by simpa only [List.map_append,List.map_cons] using h1,fun z hz => ?_⟩
 rcases List.mem_append.1 hz with hz | hz
 ·rw [List.getElem?_set_ne (hne z (List.mem_append_left _ hz)).symm]
  exact h2 z (List.mem_append_left _ hz)
 ·rcases List.mem_cons.1 hz with rfl | hz
  ·exact List.getElem?_set_self hlt
  ·rw [List.getElem?_set_ne (hne z (List.mem_append_right _ hz)).symm]
   exact h2 z (List.mem_append_right _ (List.mem_cons_of_mem _ hz))
theorem zau.lt {α:Type} {L:List (Nat × α)} {o:List α} (h:zau L o) {i:Nat} {x:α} (hx:(i,x) ∈ L):i < o.length:=(List.getElem?_eq_some_iff.1 (h.get hx)).1
theorem zau.app {α:Type} {L:List (Nat × α)} {o:List α} (h:zau L o) (more:List α):zau L (o ++ more) :=
 ⟨h.1,fun x hx => by rw [List.getElem?_append_left (h.lt (i:=x.1) (x:=x.2) hx)]; exact h.2 x hx⟩
theorem zau.new {α:Type} {L:List (Nat × α)} {o:List α} (h:zau L o) (x:α):zau ((o.length,x) :: L) (o ++ [x]):=by
 refine ⟨?_,fun z hz => ?_⟩
 ·rw [List.map_cons,List.nodup_cons]
  refine ⟨fun hm => ?_,h.1⟩
  obtain ⟨z,hz,e⟩:=List.mem_map.1 hm
  have:=h.lt (i:=z.1) (x:=z.2) hz
  simp only at e
  omega
 ·rcases List.mem_cons.1 hz with rfl | hz
  ·simp
  ·exact (h.app [x]).2 z hz
theorem zau.mapset {α:Type} {L:List (Nat × α)} {o:List α} {b:Nat} {x d:α} (f:α → α) (h:zau ((b,x) :: L) o) (hf:∀ z ∈ L,f z.2=z.2):zau L ((o.map f).set b d):=by
 obtain ⟨h1,h2⟩:=h
 rw [List.map_cons,List.nodup_cons] at h1
 refine ⟨h1.2,fun z hz => ?_⟩
 have hne:¬ b=z.1:=fun e => h1.1 (by show b ∈ _; rw [e]; exact List.mem_map_of_mem hz)
 rw [List.getElem?_set_ne hne,List.getElem?_map,h2 z (List.mem_cons_of_mem _ hz),Option.map_some,hf z hz]
theorem jweak {P:Program} [Tabs P] {f:FuncId} {args args':List AV} {objs:List OB} {K:List OB → AV → Prop} (h:∀ G I ys,zag G I args ys → zag G I args' ys) (hc:zad P f args' objs K):zad P f args objs K :=
 fun C _ G I w hin hm ys hd => hc C G I w hin hm ys (h G I ys hd)
theorem zdD {G:Gh} {I:Imm} {y:Value} (h:Den G I .nil y):Den G I (.row 0 []) y:=by
 simp only [Den] at h ⊢
 exact ⟨none,0,[],h,⟨Nat.le_refl _,fun ad h => by cases h⟩,zag.nil,by simp,by simp⟩
def zj9 (b gen n:Nat) (xs:List AV):AV → AV
 | .agg cs => .agg (cs.map (zbw b gen n xs))
 | x => zbw b gen n xs x
theorem zi8 {G:Gh} {I:Imm} {objs:List OB} {w:World} (hm:MemOk G I objs w) {b E sz gen n:Nat} {xs:List AV} (hb:objs[b]? = some (.orow E sz gen n xs)) (x:AV) (y:Value) (h:Den G I x y):Den (zgD G b gen) (zjO I G b w) (zj9 b gen n xs x) y:=by
 cases x with
 | agg cs =>
  simp only [Den,zj9] at h ⊢
  obtain ⟨ys,h1,h2,h3⟩:=h
  exact ⟨ys,h1,zf0 hm hb _ _ h2,h3⟩
 | _ => exact zmo hm hb _ _ h
theorem zgZ {G:Gh} {I:Imm} {objs:List OB} {w:World} (hm:MemOk G I objs w) {b E sz gen n:Nat} {xs:List AV} (hb:objs[b]? = some (.orow E sz gen n xs)):∀ (l:List AV) (ys:List Value),zag G I l ys → zag (zgD G b gen) (zjO I G b w) (l.map (zj9 b gen n xs)) ys
 | [],ys,h => by simpa [zag] using h
 | x :: l,ys,h => by
  simp only [zag] at h
  obtain ⟨y,ys',rfl,h1,h2⟩:=h
  exact zag.cons (zi8 hm hb x y h1) (zgZ hm hb l ys' h2)
theorem zeO {P:Program} [Tabs P] {f:FuncId} {args:List AV} {objs:List OB} {K:List OB → AV → Prop} {b E sz gen n:Nat} {xs:List AV} (hb:objs[b]? = some (.orow E sz gen n xs)) (hc:zad P f (args.map (zj9 b gen n xs)) (zkV objs b gen n xs) K):zad P f args objs K:=by
 intro C _ G I w hin hm ys hd
 obtain ⟨v',vs,m1,m2,m3,m4,m5⟩:=hm.row b E sz gen n xs hb
 have hG:=zfG m1
 have hI:Imm.le I (zjO I G b w):=fun _ _ _ h => .inl h
 obtain ⟨hin',hm'⟩:=zlk (P:=P) hb hin hm
 refine (hc C _ _ w hin' hm' ys (zgZ hm hb _ _ hd)).mono ?_
 rintro e w' ⟨y,objs',r,G',I',he,hk,h1,h2,h3,h4,hy⟩
 exact ⟨y,objs',r,G',I',he,hk,hG.trans h1,fun g o v h => h2 g o v (hI g o v h),h3,h4,hy⟩
theorem zcm {b gen n:Nat} {xs:List AV} {x:AV} (h:x.plain=true):zbw b gen n xs x=x:=by
 cases x <;> first | rfl | (simp [AV.plain] at h)
end
end Go.Proofs.YthmdohgkmdkeeaaGreatDoor
namespace Go.Proofs.YthmdohgkmdkeeaaGreatDoor.Sx
open Go.RowKit Go.WideShapes Go.ChangeShapes Go.ChangeAt
inductive TT where
 | s
 | b
 | i (k:IntKind)
 | st (ts:List TT)
 | sl (t:TT)
 | rv
inductive RV where
 | mk (k:Int) (t:List UInt8) (ks:List (List UInt8)) (its:List RV)
mutual
def ze6:RV → List AV
 | .mk k t ks its => [.i .i64 k,.s t,.row ks.length (ks.map .s),.row its.length (zeA its)]
def zeA:List RV → List AV
 | [] => []
 | v :: l => ze6 v ++ zeA l
end
mutual
def RVok:RV → Prop
 | .mk k t ks its => (Lit.int .i64 k).wf=true ∧ t.length ≤ 140737488351232 ∧ ks.length ≤ 140737488351232 ∧ (∀ k ∈ ks,k.length ≤ 140737488351232) ∧ its.length ≤ 140737488351232 ∧ zmO its
def zmO:List RV → Prop
 | [] => True
 | v :: l => RVok v ∧ zmO l
end
mutual
def ShT:TT → List AV → Prop
 | .s,xs => ∃ l:List UInt8,xs=[.s l] ∧ l.length ≤ 140737488351232
 | .b,xs => ∃ b,xs=[.b b]
 | .i k,xs => ∃ n,xs=[.i k n] ∧ (Lit.int k n).wf=true
 | .st ts,xs => ShTs ts xs
 | .sl t,xs => ∃ gs:List (List AV),xs=[.row gs.length gs.flatten] ∧ gs.length ≤ 140737488351232 ∧ ∀ g ∈ gs,ShT t g
 | .rv,xs => ∃ r:RV,xs=ze6 r ∧ RVok r
def ShTs:List TT → List AV → Prop
 | [],xs => xs=[]
 | t :: ts,xs => ∃ a b,xs=a ++ b ∧ ShT t a ∧ ShTs ts b
end
def ShA:TT → AV → Prop
 | .st ts,x => ∃ cs,x=.agg cs ∧ ShTs ts cs
 | .rv,x => ∃ r:RV,x=.agg (ze6 r) ∧ RVok r
 | t,x => ShT t [x]
def ShAs:List TT → List AV → Prop
 | [],xs => xs=[]
 | t :: ts,xs => ∃ x ys,xs=x :: ys ∧ ShA t x ∧ ShAs ts ys
def trTs (P:Program) (rc:TypeId → Option TT):Nat → List Field → Option (List TT)
 | o,[] => some []
 | o,f :: fs => match rc f.type,trTs P rc (o + P.cellsOf f.type) fs with
  | some t,some ts => if f.offset=o then some (t :: ts) else none
  | _,_ => none
def zeM (P:Program):List Field → Nat
 | [] => 0
 | f :: fs => P.cellsOf f.type + zeM P fs
def isRV (P:Program) (t:TypeId):List Field → Bool
 | [a,b,c,d] => (a.offset == 0 && b.offset == 1 && c.offset == 2 && d.offset == 3) && (P.cellsOf t == 4 && P.cellsOf a.type == 1 && P.cellsOf b.type == 1 && P.cellsOf c.type == 1 && P.cellsOf d.type == 1) && decide (0 < P.bytesOf t) && (match P.underlying a.type,P.underlying b.type,P.underlying c.type,P.underlying d.type with
  | some (.int .i64),some .string,some (.slice e),some (.slice f) => f == t && P.cellsOf e == 1 && decide (0 < P.bytesOf e) && (match P.underlying e with | some .string => true | _ => false)
  | _,_,_,_ => false)
 | _ => false
def trT (P:Program):Nat → TypeId → Option TT
 | 0,_ => none
 | d + 1,t => match P.underlying t with
  | some .string => some .s
  | some .bool => some .b
  | some (.int k) => some (.i k)
  | some (.struct fs) => if isRV P t fs.toList=true then some .rv else if P.cellsOf t=zeM P fs.toList then (trTs P (trT P d) 0 fs.toList).map .st else none
  | some (.slice e) => if 0 < P.cellsOf e ∧ 0 < P.bytesOf e then (trT P d e).map .sl else none
  | _ => none
theorem zcK {H:Type} {P:Program} {e:TypeId}:∀ {ds:List (DataW H)} {d:DataW H},d ∈ ds → ∀ n ∈ d.weights P e,n ∈ DataW.weightsAll P e ds
 | [],d,hd,n,hn => by cases hd
 | d0 :: ds,d,hd,n,hn => by
  simp only [DataW.weightsAll,List.mem_append]
  rcases List.mem_cons.1 hd with rfl | hd
  ·exact .inl hn
  ·exact .inr (zcK hd n hn)
theorem zh5 {w:World} {G:Gh} {I:Imm} {t:TT} (a:Addr) (c:Nat) (hI:∀ g o v,w.cell? ⟨g,o,none⟩=some v → I g o v):∀ k:Nat,
  (∀ i,i < k → ∃ (g:List AV) (ys:List Value),ys.length=c ∧ (∀ j,j < c → w.cell? ((a.add (i * c)).add j)=ys[j]?) ∧ zag G I g ys ∧ ShT t g ∧ ∀ u ∈ ys,u.oneCell'=true) →
  ∃ (gs:List (List AV)) (ys:List Value),gs.length=k ∧ ys.length=k * c ∧ zag G I gs.flatten ys ∧ (∀ g ∈ gs,ShT t g) ∧ (∀ u ∈ ys,u.oneCell'=true) ∧ ∀ j,j < k * c → w.cell? (a.add j)=ys[j]?
 | 0,_ => ⟨[],[],rfl,by simp,zag.nil,by simp,by simp,fun j hj => by simp at hj⟩
 | k + 1,h => by
  obtain ⟨gs,ys,h1,h2,h3,h4,h5,h6⟩:=zh5 a c hI k (fun i hi => h i (by omega))
  obtain ⟨g,zs,k1,k2,k3,k4,k5⟩:=h k (by omega)
  have hm:(k + 1) * c=k * c + c:=Nat.succ_mul k c
  refine ⟨gs ++ [g],ys ++ zs,by simp [h1],by rw [List.length_append,h2,k1,hm],?_,?_,?_,?_⟩
  ·rw [List.flatten_append,List.flatten_cons,List.flatten_nil,List.append_nil]
   exact zag.append h3 k3
  ·intro x hx
   rcases List.mem_append.1 hx with hx | hx
   ·exact h4 x hx
   ·rw [List.mem_singleton] at hx; subst hx; exact k4
  ·intro u hu
   rcases List.mem_append.1 hu with hu | hu
   ·exact h5 u hu
   ·exact k5 u hu
  ·intro j hj
   by_cases hjk:j < k * c
   ·rw [h6 j hjk,List.getElem?_append_left (by omega)]
   ·have:=k2 (j - k * c) (by omega)
    rw [Addr.add_add,show k * c + (j - k * c)=j by omega] at this
    rw [this,List.getElem?_append_right (by omega),h2]
theorem add_flat {a:Addr} {j:Nat} (ha:a.spot=none):a.add j=⟨a.block,a.off + j,none⟩:=by
 cases a
 simp only at ha
 subst ha
 unfold Addr.add
 split
 ·rename_i h; subst h; rfl
 ·rfl
section
variable {H:Type} {enc:TypeId × Value → H} {P:Program} {w:World} {base:Nat} {spare:Nat → Bool} {held:Bool} {G:Gh} {I:Imm}
theorem ze8 (d:Nat) (ih:∀ (t:TypeId) (tt:TT) (fuel:Nat) (cs:List Value) (x:DataW H × List MemPlace),trT P d t=some tt → DataW.trod enc P w base spare held fuel t cs=some x → (∀ n ∈ x.1.weights P t,n ≤ reachBytes) → ∃ xs,zag G I xs cs ∧ ShT tt xs ∧ ∀ u ∈ cs,u.oneCell'=true) (n:Nat) :
  ∀ (fs:List Field) (ts:List TT) (o:Nat) (cs:List Value),trTs P (trT P d) o fs=some ts → cs.length=o + zeM P fs → (∀ f ∈ fs,∃ x,DataW.trod enc P w base spare held n f.type ((cs.drop f.offset).take (P.cellsOf f.type))=some x ∧ ∀ m ∈ x.1.weights P f.type,m ≤ reachBytes) →
   ∃ xs,zag G I xs (cs.drop o) ∧ ShTs ts xs ∧ ∀ u ∈ cs.drop o,u.oneCell'=true
 | [],ts,o,cs,ht,hl,hf => by
  simp only [trTs,Option.some.injEq] at ht; subst ht
  have:cs.drop o=[]:=List.drop_eq_nil_of_le (by simp [zeM] at hl; omega)
  rw [this]
  exact ⟨[],zag.nil,rfl,by simp⟩
 | f :: fs,ts,o,cs,ht,hl,hf => by
  simp only [trTs] at ht
  split at ht
  ·rename_i t ts' h1 h2
   split at ht
   ·rename_i ho
    injection ht with ht; subst ht
    obtain ⟨x,hx,hxw⟩:=hf f (List.mem_cons_self ..)
    rw [ho] at hx
    obtain ⟨xs,k1,k2,k3⟩:=ih _ _ _ _ _ h1 hx hxw
    simp only [zeM] at hl
    obtain ⟨ys,m1,m2,m3⟩:=ze8 d ih n fs ts' (o + P.cellsOf f.type) cs h2 (by omega) (fun f' hf' => hf f' (List.mem_cons_of_mem _ hf'))
    have e:cs.drop o=(cs.drop o).take (P.cellsOf f.type) ++ cs.drop (o + P.cellsOf f.type):=by
     rw [← List.drop_drop,List.take_append_drop]
    refine ⟨xs ++ ys,?_,?_,?_⟩
    ·rw [e]; exact zag.append k1 m1
    ·exact ⟨xs,ys,rfl,k2,m2⟩
    ·rw [e]; intro u hu
     rcases List.mem_append.1 hu with hu | hu
     ·exact k3 u hu
     ·exact m3 u hu
   ·cases ht
  ·cases ht
theorem zdT (hI:∀ g o v,w.cell? ⟨g,o,none⟩=some v → I g o v) (hspa:∀ b,spare b=true) {t e:TypeId} {te:TT} {fuel:Nat} {cs:List Value} {x:DataW H × List MemPlace} (hu:P.underlying t=some (.slice e)) (hc:0 < P.cellsOf e ∧ 0 < P.bytesOf e)
  (ih:∀ (n:Nat) (ys:List Value) (x:DataW H × List MemPlace),n < fuel → DataW.trod enc P w base spare held n e ys=some x → (∀ n ∈ x.1.weights P e,n ≤ reachBytes) → ∃ g,zag G I g ys ∧ ShT te g ∧ ∀ u ∈ ys,u.oneCell'=true)
  (h:DataW.trod enc P w base spare held fuel t cs=some x) (hwt:∀ n ∈ x.1.weights P t,n ≤ reachBytes):∃ xs,zag G I xs cs ∧ ShT (.sl te) xs ∧ ∀ u ∈ cs,u.oneCell'=true:=by
 rcases DataW.trod_slice hu h with ⟨rfl,rfl⟩ | ⟨a,len,cap,elems,rest,n,hfu,rfl,rfl,hb,hl,hm,hlen,hel,hsr,_⟩
 ·exact ⟨[.row 0 []],zag.cons (by simp only [Den]; exact ⟨none,0,[],rfl,⟨Nat.le_refl _,fun ad h => by cases h⟩,zag.nil,by simp,by simp⟩) zag.nil,⟨[],rfl,by simp,by simp⟩,by simp; rfl⟩
 ·have hw2:(elems.length + rest.length) * P.bytesOf e ≤ reachBytes:=by
   have:=hwt ((elems.map (·.1)).length + (rest.map (·.1)).length |> (· * P.bytesOf e)) (by simp [DataW.weights,hu])
   simpa using this
  have hel2:elems.length ≤ 140737488351232:=by
   have h1:elems.length * 1 ≤ (elems.length + rest.length) * P.bytesOf e:=Nat.mul_le_mul (by omega) hc.2
   have:reachBytes=140737488351232:=rfl
   omega
  have hel3:∀ i,i < len → ∃ (g:List AV) (ys:List Value),ys.length=P.cellsOf e ∧ (∀ j,j < P.cellsOf e → w.cell? ((a.add (i * P.cellsOf e)).add j)=ys[j]?) ∧ zag G I g ys ∧ ShT te g ∧ ∀ u ∈ ys,u.oneCell'=true:=by
   intro i hi
   have h1:=hel i hi
   have hil:i < elems.length:=by omega
   rw [List.getElem?_eq_getElem hil,Option.bind_eq_some_iff] at h1
   obtain ⟨ys,y1,y2⟩:=h1
   obtain ⟨_,z1,z2⟩:=World.cells?_some y1
   obtain ⟨g,g1,g2,g3⟩:=ih n ys _ (by omega) y2 (fun m hm => hwt m (by
    simp only [DataW.weights,hu,List.mem_cons,List.mem_append]
    exact .inr (.inl (zcK (List.mem_map.2 ⟨_,List.getElem_mem hil,rfl⟩) m hm))))
   exact ⟨g,ys,z1,z2,g1,g2,g3⟩
  obtain ⟨gs,ys,k1,k2,k3,k4,k5,k6⟩:=zh5 (G:=G) a (P.cellsOf e) hI len hel3
  have hsp0:cap ≠ 0 → a.spot=none:=by
   intro hcap
   by_cases hl0:0 < len
   ·have hp:0 < len * P.cellsOf e:=Nat.mul_pos hl0 hc.1
    have h2:=k6 0 hp
    rw [List.getElem?_eq_getElem (by omega)] at h2
    have:=World.cell?_spot h2
    simpa [Addr.add] using this
   ·have hr:=(hsr (hspa _)).2 0 (by omega)
    have hrl:=(hsr (hspa _)).1
    rw [List.getElem?_eq_getElem (by omega),Option.bind_eq_some_iff] at hr
    obtain ⟨zs,y1,_⟩:=hr
    obtain ⟨_,z1,z2⟩:=World.cells?_some y1
    have h2:=z2 0 hc.1
    rw [List.getElem?_eq_getElem (by omega)] at h2
    have:=World.cell?_spot h2
    have hl1:len=0:=by omega
    subst hl1
    simpa [Addr.add] using this
  refine ⟨[.row gs.length gs.flatten],zag.cons ?_ zag.nil,⟨gs,rfl,by omega,k4⟩,by simp; rfl⟩
  simp only [Den]
  refine ⟨some a,cap,ys,by rw [k1],⟨by omega,fun ad h hc0 => by injection h with h; subst h; exact hsp0 hc0⟩,k3,k5,fun j u hj => ?_⟩
  have hjl:=(List.getElem?_eq_some_iff.1 hj).1
  have hlp:len ≠ 0:=by rintro rfl; rw [k2,Nat.zero_mul] at hjl; omega
  have hs:=hsp0 (by omega)
  refine ⟨a.block,a.off,by cases a; simp only at hs; subst hs; rfl,hI _ _ _ ?_⟩
  have h2:=k6 j (k2 ▸ hjl)
  rw [add_flat hs] at h2
  rw [h2,hj]
theorem isRV_of {t:TypeId} {fs:List Field} (h:isRV P t fs=true):∃ a b c d e,fs=[a,b,c,d] ∧ (a.offset=0 ∧ b.offset=1 ∧ c.offset=2 ∧ d.offset=3) ∧ (P.cellsOf t=4 ∧ P.cellsOf a.type=1 ∧ P.cellsOf b.type=1 ∧ P.cellsOf c.type=1 ∧ P.cellsOf d.type=1) ∧ 0 < P.bytesOf t ∧
  P.underlying a.type=some (.int .i64) ∧ P.underlying b.type=some .string ∧ P.underlying c.type=some (.slice e) ∧ P.underlying d.type=some (.slice t) ∧ P.cellsOf e=1 ∧ 0 < P.bytesOf e ∧ P.underlying e=some .string:=by
 unfold isRV at h
 split at h
 ·rename_i a b c d
  simp only [Bool.and_eq_true,beq_iff_eq,decide_eq_true_eq] at h
  obtain ⟨⟨⟨h1,h2⟩,h3⟩,h4⟩:=h
  split at h4
  ·rename_i e f u1 u2 u3 u4
   simp only [Bool.and_eq_true,beq_iff_eq,decide_eq_true_eq] at h4
   obtain ⟨⟨⟨k1,k2⟩,k3⟩,k4⟩:=h4
   subst k1
   split at k4
   ·rename_i u5
    exact ⟨a,b,c,d,e,rfl,⟨h1.1.1.1,h1.1.1.2,h1.1.2,h1.2⟩,⟨h2.1.1.1.1,h2.1.1.1.2,h2.1.1.2,h2.1.2,h2.2⟩,h3,u1,u2,u3,u4,k2,k3,u5⟩
   ·cases k4
  ·cases h4
 ·cases h
theorem zkj:∀ gs:List (List AV),(∀ g ∈ gs,ShT .s g) → ∃ ks:List (List UInt8),gs.flatten=ks.map .s ∧ ks.length=gs.length ∧ ∀ k ∈ ks,k.length ≤ 140737488351232
 | [],_ => ⟨[],rfl,rfl,by simp⟩
 | g :: gs,h => by
  obtain ⟨ks,h1,h2,h3⟩:=zkj gs (fun g hg => h g (List.mem_cons_of_mem _ hg))
  obtain ⟨l,hl,hl2⟩:=h g (List.mem_cons_self ..)
  refine ⟨l :: ks,by rw [List.flatten_cons,hl,h1]; rfl,by simp [h2],fun k hk => ?_⟩
  rcases List.mem_cons.1 hk with rfl | hk
  ·exact hl2
  ·exact h3 k hk
theorem zh4:∀ gs:List (List AV),(∀ g ∈ gs,ShT .rv g) → ∃ rs:List RV,gs.flatten=zeA rs ∧ rs.length=gs.length ∧ zmO rs
 | [],_ => ⟨[],by rw [zeA]; rfl,rfl,by rw [zmO]; trivial⟩
 | g :: gs,h => by
  obtain ⟨rs,h1,h2,h3⟩:=zh4 gs (fun g hg => h g (List.mem_cons_of_mem _ hg))
  obtain ⟨r,hr,hr2⟩:=h g (List.mem_cons_self ..)
  exact ⟨r :: rs,by rw [List.flatten_cons,hr,h1,zeA],by simp [h2],by rw [zmO]; exact ⟨hr2,h3⟩⟩
theorem open_rv (hI:∀ g o v,w.cell? ⟨g,o,none⟩=some v → I g o v) (hspa:∀ b,spare b=true) {t:TypeId} {fs:Array Field} (hu:P.underlying t=some (.struct fs)) (hrv:isRV P t fs.toList=true):∀ (m fuel:Nat) (cs:List Value) (x:DataW H × List MemPlace),fuel < m → DataW.trod enc P w base spare held fuel t cs=some x → (∀ n ∈ x.1.weights P t,n ≤ reachBytes) → ∃ xs,zag G I xs cs ∧ ShT .rv xs ∧ ∀ u ∈ cs,u.oneCell'=true:=by
 intro m
 induction m with
 | zero => intro fuel cs x hm; omega
 | succ m ih =>
  intro fuel cs x hm h hwt
  obtain ⟨a,b,c,d,e,hfs,⟨o1,o2,o3,o4⟩,⟨c0,c1,c2,c3,c4⟩,hb,u1,u2,u3,u4,e1,e2,e3⟩:=isRV_of hrv
  obtain ⟨xs,n,hfu,rfl,hlen,hxl,hf⟩:=DataW.trod_struct hu h
  have hsz:fs.size=4:=by rw [← Array.length_toList,hfs]; rfl
  have gf:∀ j,fs[j]? = [a,b,c,d][j]?:=fun j => by rw [← hfs,Array.getElem?_toList]
  have hall:∀ (j:Nat) (f:Field),[a,b,c,d][j]? = some f → ∃ x,DataW.trod enc P w base spare held n f.type ((cs.drop f.offset).take (P.cellsOf f.type))=some x ∧ ∀ m ∈ x.1.weights P f.type,m ≤ reachBytes:=by
   intro j f hj
   have h1:=hf j f (by rw [gf]; exact hj)
   have hjl:j < xs.length:=by
    rw [hxl,hsz]
    exact (List.getElem?_eq_some_iff.1 hj).1
   rw [List.getElem?_eq_getElem hjl] at h1
   refine ⟨_,h1,fun m hm => hwt m ?_⟩
   have hj2:(fs.toList.map (·.type))[j]? = some f.type:=by rw [List.getElem?_map,hfs,hj]; rfl
   have:=DataW.weights_mem_each hj2 (show (xs.map (·.1))[j]? = some xs[j].1 by rw [List.getElem?_map,List.getElem?_eq_getElem hjl]; rfl) m hm
   simpa [DataW.weights,hu] using this
  obtain ⟨xa,ha,wa⟩:=hall 0 a rfl
  obtain ⟨xb,hb',wb⟩:=hall 1 b rfl
  obtain ⟨xc,hc',wc⟩:=hall 2 c rfl
  obtain ⟨xd,hd',wd⟩:=hall 3 d rfl
  rw [o1,c1] at ha
  rw [o2,c2] at hb'
  rw [o3,c3] at hc'
  rw [o4,c4] at hd'
  rw [c0] at hlen
  obtain ⟨v0,v1,v2,v3,rfl⟩:∃ v0 v1 v2 v3,cs=[v0,v1,v2,v3]:=by
   match cs,hlen with
   | [v0,v1,v2,v3],_ => exact ⟨v0,v1,v2,v3,rfl⟩
  simp only [List.drop_zero,List.drop_succ_cons,List.take_succ_cons,List.take_zero] at ha hb' hc' hd'
  obtain ⟨i0,r0,_,w0⟩:=DataW.trod_int u1 ha
  injection r0 with r0 _
  obtain ⟨s0,r1,rx1,_⟩:=DataW.trod_string u2 hb'
  injection r1 with r1 _
  subst r0 r1
  obtain ⟨ys2,d2,⟨g2,q2,l2,m2⟩,oc2⟩:=zdT (te:=.s) (G:=G) (I:=I) hI hspa u3 ⟨by omega,e2⟩ (fun n' ys y hn' hy hyw => by
   obtain ⟨s,rfl,rfl,hs⟩:=DataW.trod_string e3 hy
   exact ⟨[.s s.data.toList],zag.cons (by simp [Den]) zag.nil,⟨_,rfl,hyw _ (by simp [DataW.weights])⟩,by simp; rfl⟩) hc' wc
  obtain ⟨ys3,d3,⟨g3,q3,l3,m3⟩,oc3⟩:=zdT (te:=.rv) (G:=G) (I:=I) hI hspa u4 ⟨by omega,hb⟩ (fun n' ys y hn' hy hyw => ih n' ys y (by omega) hy hyw) hd' wd
  subst q2 q3
  obtain ⟨ks,k1,k2,k3⟩:=zkj g2 m2
  obtain ⟨rs,j1,j2,j3⟩:=zh4 g3 m3
  refine ⟨ze6 (.mk i0 s0.data.toList ks rs),?_,⟨_,rfl,?_⟩,?_⟩
  ·rw [ze6,k2,j2,← k1,← j1]
   exact zag.cons (by simp [Den]) (zag.cons (by simp [Den]) (zag.append d2 d3))
  ·rw [RVok]
   refine ⟨w0,?_,by omega,k3,by omega,j3⟩
   subst rx1
   exact wb _ (by simp [DataW.weights])
  ·intro u hu'
   simp only [List.mem_cons,List.not_mem_nil,or_false] at hu'
   rcases hu' with rfl | rfl | rfl | rfl
   ·rfl
   ·rfl
   ·exact oc2 _ (by simp)
   ·exact oc3 _ (by simp)
theorem zk7 (hI:∀ g o v,w.cell? ⟨g,o,none⟩=some v → I g o v) (hspa:∀ b,spare b=true):∀ (d:Nat) (t:TypeId) (tt:TT) (fuel:Nat) (cs:List Value) (x:DataW H × List MemPlace),trT P d t=some tt → DataW.trod enc P w base spare held fuel t cs=some x → (∀ n ∈ x.1.weights P t,n ≤ reachBytes) → ∃ xs,zag G I xs cs ∧ ShT tt xs ∧ ∀ u ∈ cs,u.oneCell'=true:=by
 intro d
 induction d with
 | zero => intro t tt fuel cs x ht; simp [trT] at ht
 | succ d ih =>
  intro t tt fuel cs x ht h hwt
  simp only [trT] at ht
  split at ht
  ·rename_i hu
   injection ht with ht; subst ht
   obtain ⟨s,rfl,rfl,hs⟩:=DataW.trod_string hu h
   refine ⟨[.s s.data.toList],zag.cons (by simp [Den]) zag.nil,⟨_,rfl,?_⟩,by simp; rfl⟩
   exact hwt _ (by simp [DataW.weights])
  ·rename_i hu
   injection ht with ht; subst ht
   obtain ⟨b,rfl,_⟩:=DataW.trod_bool hu h
   exact ⟨[.b b],zag.cons (by simp [Den]) zag.nil,⟨_,rfl⟩,by simp; rfl⟩
  ·rename_i k hu
   injection ht with ht; subst ht
   obtain ⟨n,rfl,_,hw⟩:=DataW.trod_int hu h
   exact ⟨[.i k n],zag.cons (by simp [Den]) zag.nil,⟨_,rfl,hw⟩,by simp; rfl⟩
  ·rename_i fs hu
   split at ht
   ·rename_i hrv
    injection ht with ht; subst ht
    exact open_rv hI hspa hu hrv (fuel + 1) fuel cs x (by omega) h hwt
   split at ht
   ·rename_i hc
    cases hts:trTs P (trT P d) 0 fs.toList with
    | none => rw [hts] at ht; cases ht
    | some ts =>
     rw [hts] at ht; injection ht with ht; subst ht
     obtain ⟨xs,n,_,rfl,hlen,hxl,hf⟩:=DataW.trod_struct hu h
     have hall:∀ f ∈ fs.toList,∃ x,DataW.trod enc P w base spare held n f.type ((cs.drop f.offset).take (P.cellsOf f.type))=some x ∧ ∀ m ∈ x.1.weights P f.type,m ≤ reachBytes:=by
      intro f hfm
      obtain ⟨j,hj⟩:=List.mem_iff_getElem?.1 hfm
      have h1:=hf j f (by simpa using hj)
      have hjl:j < xs.length:=by
       rw [hxl]
       have:=(List.getElem?_eq_some_iff.1 hj).1
       simpa using this
      rw [List.getElem?_eq_getElem hjl] at h1
      refine ⟨_,h1,fun m hm => hwt m ?_⟩
      have hj2:(fs.toList.map (·.type))[j]? = some f.type:=by rw [List.getElem?_map,hj]; rfl
      have:=DataW.weights_mem_each hj2 (show (xs.map (·.1))[j]? = some xs[j].1 by rw [List.getElem?_map,List.getElem?_eq_getElem hjl]; rfl) m hm
      simpa [DataW.weights,hu] using this
     obtain ⟨ys,k1,k2,k3⟩:=ze8 d ih n fs.toList ts 0 cs hts (by rw [hlen,hc]; omega) hall
     exact ⟨ys,by simpa using k1,k2,by simpa using k3⟩
   ·cases ht
  ·rename_i e hu
   split at ht
   ·rename_i hc
    cases hte:trT P d e with
    | none => rw [hte] at ht; cases ht
    | some te =>
     rw [hte] at ht; injection ht with ht; subst ht
     exact zdT hI hspa hu hc (fun n ys y _ hy hyw => ih e te n ys y hte hy hyw) h hwt
   ·cases ht
  ·cases ht
theorem open_arg (hI:∀ g o v,w.cell? ⟨g,o,none⟩=some v → I g o v) (hspa:∀ b,spare b=true) {r:Reach} {b0:Nat} {t:TypeId} {tt:TT} {v:Value} {dd:DataW H} {ps:List MemPlace} (ht:trT P 20 t=some tt) (hv:Value.okWide P w r b0 t v) (h:DataW.Trod enc P w base spare held t v dd ps) (hwt:∀ n ∈ dd.weights P t,n ≤ reachBytes):∃ x,Den G I x v ∧ ShA tt x:=by
 obtain ⟨fuel,hf⟩:=h
 obtain ⟨xs,h1,h2,h3⟩:=zk7 hI hspa 20 t tt fuel _ _ ht hf hwt
 have ht':=ht
 unfold trT at ht
 cases tt with
 | st ts =>
  split at ht <;> first | (injection ht with ht; cases ht; done) | skip
  ·rename_i fs hu
   obtain ⟨cs,rfl,_⟩:=okWide_struct hu hv
   refine ⟨.agg xs,?_,⟨xs,rfl,h2⟩⟩
   simp only [Den]
   exact ⟨cs.toList,by simp,h1,h3⟩
  ·split at ht
   ·cases hq:trT P 19 _ with
    | none => rw [hq] at ht; cases ht
    | some q => rw [hq] at ht; injection ht with ht; cases ht
   ·cases ht
  ·cases ht
 | rv =>
  split at ht <;> first | (injection ht with ht; cases ht; done) | skip
  ·rename_i fs hu
   obtain ⟨cs,rfl,_⟩:=okWide_struct hu hv
   obtain ⟨r,rfl,hr⟩:=h2
   refine ⟨.agg (ze6 r),?_,⟨r,rfl,hr⟩⟩
   simp only [Den]
   exact ⟨cs.toList,by simp,h1,h3⟩
  ·split at ht
   ·cases hq:trT P 19 _ with
    | none => rw [hq] at ht; cases ht
    | some q => rw [hq] at ht; injection ht with ht; cases ht
   ·cases ht
  ·cases ht
 | sl t =>
  split at ht <;> first | (injection ht with ht; cases ht; done) | skip
  ·split at ht
   ·injection ht with ht; cases ht
   split at ht
   ·cases hq:trTs P (trT P 19) 0 _ with
    | none => rw [hq] at ht; cases ht
    | some q => rw [hq] at ht; injection ht with ht; cases ht
   ·cases ht
  ·rename_i e hu
   obtain ⟨a,len,cap,rfl⟩:=okWide_slice hu hv
   obtain ⟨gs,rfl,hl,hg⟩:=h2
   simp only [zag] at h1
   obtain ⟨y,ys,e1,k1,k2⟩:=h1
   subst k2
   have e2:[Value.slice a len cap]=[y]:=e1
   injection e2 with e2 _
   subst e2
   exact ⟨.row gs.length gs.flatten,k1,⟨gs,rfl,hl,hg⟩⟩
  ·cases ht
 | s =>
  split at ht <;> first | (injection ht with ht; cases ht; done) | skip
  ·rename_i hu
   obtain ⟨s,rfl⟩:=okWide_string hu hv
   obtain ⟨l,rfl,hl⟩:=h2
   simp only [zag] at h1
   obtain ⟨y,ys,e,k1,k2⟩:=h1
   subst k2
   have e2:[Value.string s]=[y]:=e
   injection e2 with e2 _
   subst e2
   exact ⟨.s l,k1,⟨l,rfl,hl⟩⟩
  ·split at ht
   ·injection ht with ht; cases ht
   split at ht
   ·cases hq:trTs P (trT P 19) 0 _ with
    | none => rw [hq] at ht; cases ht
    | some q => rw [hq] at ht; injection ht with ht; cases ht
   ·cases ht
  ·split at ht
   ·cases hq:trT P 19 _ with
    | none => rw [hq] at ht; cases ht
    | some q => rw [hq] at ht; injection ht with ht; cases ht
   ·cases ht
  ·cases ht
 | b =>
  split at ht <;> first | (injection ht with ht; cases ht; done) | skip
  ·rename_i hu
   obtain ⟨s,rfl⟩:=okWide_bool hu hv
   obtain ⟨l,rfl⟩:=h2
   simp only [zag] at h1
   obtain ⟨y,ys,e,k1,k2⟩:=h1
   subst k2
   have e2:[Value.bool s]=[y]:=e
   injection e2 with e2 _
   subst e2
   exact ⟨.b l,k1,⟨l,rfl⟩⟩
  ·split at ht
   ·injection ht with ht; cases ht
   split at ht
   ·cases hq:trTs P (trT P 19) 0 _ with
    | none => rw [hq] at ht; cases ht
    | some q => rw [hq] at ht; injection ht with ht; cases ht
   ·cases ht
  ·split at ht
   ·cases hq:trT P 19 _ with
    | none => rw [hq] at ht; cases ht
    | some q => rw [hq] at ht; injection ht with ht; cases ht
   ·cases ht
  ·cases ht
 | i k =>
  split at ht <;> first | (injection ht with ht; cases ht; done) | skip
  ·rename_i k' hu
   injection ht with ht; injection ht with ht; subst ht
   obtain ⟨s,rfl⟩:=okWide_int hu hv
   obtain ⟨l,rfl,hl⟩:=h2
   simp only [zag] at h1
   obtain ⟨y,ys,e,k1,k2⟩:=h1
   subst k2
   have e2:[Value.int _ s]=[y]:=e
   injection e2 with e2 _
   subst e2
   exact ⟨.i _ l,k1,⟨l,rfl,hl⟩⟩
  ·split at ht
   ·injection ht with ht; cases ht
   split at ht
   ·cases hq:trTs P (trT P 19) 0 _ with
    | none => rw [hq] at ht; cases ht
    | some q => rw [hq] at ht; injection ht with ht; cases ht
   ·cases ht
  ·split at ht
   ·cases hq:trT P 19 _ with
    | none => rw [hq] at ht; cases ht
    | some q => rw [hq] at ht; injection ht with ht; cases ht
   ·cases ht
  ·cases ht
theorem open_args (hI:∀ g o v,w.cell? ⟨g,o,none⟩=some v → I g o v) (hspa:∀ b,spare b=true) {r:Reach} {b0:Nat}:∀ (ts:List TypeId) (tts:List TT) (vs:List Value) (ds:List (DataW H)) (ps:List MemPlace),ts.mapM (trT P 20)=some tts → (∀ (j:Nat) t v,ts[j]? = some t → vs[j]? = some v → Value.okWide P w r b0 t v) → DataW.TrodAll enc P w base spare held ts vs ds ps → (∀ n ∈ DataW.weightsEach P ts ds,n ≤ reachBytes) → ∃ xs,zag G I xs vs ∧ ShAs tts xs
 | [],tts,vs,ds,ps,ht,hv,h,hwt => by
  simp at ht; subst ht
  obtain ⟨rfl,_,_⟩:=trodAll_nil h
  exact ⟨[],zag.nil,rfl⟩
 | t :: ts,tts,vs,ds,ps,ht,hv,h,hwt => by
  simp only [List.mapM_cons,Option.bind_eq_bind,Option.pure_def] at ht
  cases h1:trT P 20 t with
  | none => simp [h1] at ht
  | some tt =>
   cases h2:ts.mapM (trT P 20) with
   | none => simp [h1,h2] at ht
   | some tts' =>
    simp [h1,h2] at ht
    subst ht
    obtain ⟨v,vs',d,ds',p,q,rfl,rfl,rfl,k1,k2⟩:=trodAll_cons h
    obtain ⟨x,x1,x2⟩:=open_arg (G:=G) (I:=I) hI hspa h1 (hv 0 t v rfl rfl) k1 (fun n hn => hwt n (by simp only [DataW.weightsEach,List.mem_append]; exact .inl hn))
    obtain ⟨xs,y1,y2⟩:=open_args hI hspa ts tts' vs' ds' q h2 (fun j t v hj hv' => hv (j + 1) t v (by simpa using hj) (by simpa using hv')) k2 (fun n hn => hwt n (by simp only [DataW.weightsEach,List.mem_append]; exact .inr hn))
    exact ⟨x :: xs,zag.cons x1 y1,⟨x,xs,rfl,x2,y2⟩⟩
theorem zdt (hl:laidOutB P=true) {W W':World} {sp':Nat → Bool}:∀ (ts:List TypeId) (vs:List Value) (ds:List (DataW H)) (ps:List MemPlace),(∀ t ∈ ts,P.readableRec t=true ∧ t < P.types.size) → DataW.TrodAll enc P W 0 (fun _ => true) true ts vs ds ps → Below W.heap.size W W' → (∀ p ∈ ps,p.block < W.heap.size) → (∀ p ∈ ps,sp' p.block=true) → DataW.TrodAll enc P W' 0 sp' true ts vs ds ps
 | [],vs,ds,ps,hr,h,hb,hlt,hs => by
  obtain ⟨rfl,rfl,rfl⟩:=trodAll_nil h
  exact trodAll_mk0
 | t :: ts,vs,ds,ps,hr,h,hb,hlt,hs => by
  obtain ⟨v,vs',d,ds',p,q,rfl,rfl,rfl,k1,k2⟩:=trodAll_cons h
  have h1:=hr t (List.mem_cons_self ..)
  exact trodAll_cons_mk (WideElems.Trod_stays hl h1.1 h1.2 k1 (fun x hx => hb.same (hlt x (List.mem_append_left _ hx))) (fun x hx => hs x (List.mem_append_left _ hx)))
   (zdt hl ts vs' ds' q (fun t ht => hr t (List.mem_cons_of_mem _ ht)) k2 hb (fun x hx => hlt x (List.mem_append_right _ hx)) (fun x hx => hs x (List.mem_append_right _ hx)))
end
theorem post_true {H:Type} {enc:TypeId × Value → H} {P:Program} {f:Func} {s:ChangeSpec} {apart fresh handsOn again:Bool} {W W':World} {args:Array Value} {ds gs:List (DataW H)} {before:List MemPlace}
  (hl:laidOutB P=true) (hts:∀ t ∈ f.params.toList,P.readableRec t=true ∧ t < P.types.size) {tb:TypeId} (hrt:f.resultTypes=#[tb]) (hub:P.underlying tb=some .bool) (hsv:s.vars=[])
  (hW:DataW.Whole enc P f.params.toList s.vars apart W args.toList ds gs before) (hfn:s.fn H (ds ++ gs)={ results:=[.lit (.bool true)],args:=ds }) (hb:Below W.heap.size W W'):s.post enc P f apart fresh handsOn again W args (.bool true) W':=by
 have hlt:∀ p ∈ before,p.block < W.heap.size:=fun p hp => hW.lt p hp
 have hold:∀ p ∈ before,(fun b => decide (b < W.heap.size)) p.block=true:=fun p hp => by simpa using hlt p hp
 have hW':=hW
 obtain ⟨p,q,hA,hV,rfl,hz,hn⟩:=hW'
 rw [hsv] at hV
 have hvars:gs=[] ∧ q=[]:=by
  cases gs with
  | nil => exact ⟨rfl,hV⟩
  | cons g gs => exact hV.elim
 obtain ⟨rfl,rfl⟩:=hvars
 simp only [List.append_nil] at *
 have hres:∀ (b:Nat) (sp:Nat → Bool) (hd:Bool),DataW.TrodAll enc P W' b sp hd f.resultTypes.toList ((Value.bool true).resultList f.resultTypes.size) (s.fn H ds).results []:=by
  intro b sp hd
  rw [hfn,hrt]
  exact trodAll_cons_mk (shut_bool hub _) trodAll_mk0
 have hargs:∀ sp:Nat → Bool,(∀ x ∈ p,sp x.block=true) → DataW.TrodAll enc P W' 0 sp true f.params.toList args.toList (s.fn H ds).args p:=by
  intro sp hsp
  rw [hfn]
  exact zdt hl _ _ _ _ hts hA hb hlt hsp
 have hvs:∀ sp:Nat → Bool,DataW.TrodVars enc P W' sp s.vars (s.fn H ds).vars []:=by
  intro sp
  rw [hsv,hfn]; rfl
 refine ⟨ds,[],p,[],p,[],hW,by simpa using hres _ _ _,by simpa using hargs _ hold,by simpa using hvs _,World.keptBut_mono (fun x hx => ⟨hx,?_⟩) (hb.frame (· ∈ p)),fun _ => ?_⟩
 ·exact Or.inr (Or.inl hx)
 ·refine ⟨?_,_,_,([] ++ p) ++ [],⟨[] ++ p,[],trodAll_append (by simpa using hargs _ (fun _ _ => rfl)) (by simpa using hres _ _ _),by simpa using hvs _,rfl,?_,?_⟩,?_⟩
  ·intro j t r hj hr
   rw [hrt] at hj hr
   cases j with
   | zero =>
    simp at hj; subst hj
    have:r=.bool true:=by simpa [Value.resultList] using hr.symm
    subst this
    exact okWide_bool_mk hub _
   | succ j => simp at hj
  ·intro b off hp
   have hin:MemPlace.cell b off ∈ p:=by simpa using hp
   rw [hb.frozen (hlt _ hin)]
   exact hz b off hin
  ·intro ha
   simpa using hn ha
  ·intro x hx _
   simpa using hx
section
variable {H:Type} {enc:TypeId × Value → H}
end
end Go.Proofs.YthmdohgkmdkeeaaGreatDoor.Sx
namespace Go.Proofs.YthmdohgkmdkeeaaGreatDoor
open Nat renaming reduceAdd → z6, reduceSub → z7, reduceLeDiff → z8, reduceLT → j4, reduceMul → j5, reduceEqDiff → j6
open Int renaming reduceToNat → j7, reduceAdd → j8, reduceSub → j9, reduceMul → x0, reduceNeg → x3, reduceLT → x4, reduceLE → x5, reduceEq → x6, reduceNe → x7
open Go.RowKit Sx
section
attribute [local irreducible] run
mutual
def JOk:JV → Prop
 | .mk k t ks its => (Lit.int .i64 k).wf=true ∧ t.length ≤ 140737488351232 ∧ ks.length ≤ 140737488351232 ∧ (∀ k ∈ ks,k.length ≤ 140737488351232) ∧ its.length ≤ 140737488351232 ∧ JsOk its
def JsOk:List JV → Prop
 | [] => True
 | v :: l => JOk v ∧ JsOk l
end
theorem zlO:∀ {l:List JV} (h:JsOk l) {i:Nat} (hi:i < l.length),JOk l[i]
 | a :: l,h,0,hi => by rw [JsOk] at h; exact h.1
 | a :: l,h,i + 1,hi => by rw [JsOk] at h; exact zlO h.2 (by simpa using hi)
theorem JOk.its {v:JV} (h:JOk v) {i:Nat} (hi:i < v.items.length):JOk v.items[i]:=by
 cases v with
 | mk k t ks its => rw [JOk] at h; exact zlO h.2.2.2.2.2 hi
theorem JOk.lens {v:JV} (h:JOk v):v.keys.length ≤ 140737488351232 ∧ v.items.length ≤ 140737488351232 ∧ v.text.length ≤ 140737488351232 ∧ ∀ k ∈ v.keys,k.length ≤ 140737488351232:=by
 cases v with
 | mk k t ks its => rw [JOk] at h; exact ⟨h.2.2.1,h.2.2.2.2.1,h.2.1,h.2.2.2.1⟩
mutual
/-- not too many keys and items, wherever -/
def JBd:JV → Prop
 | .mk k t ks its => ks.length ≤ 1099511627780 ∧ its.length ≤ 1099511627776 ∧ zdp its
def zdp:List JV → Prop
 | [] => True
 | v :: l => JBd v ∧ zdp l
end
theorem zlQ:∀ {l:List JV},(∀ (i:Nat) (h:i < l.length),JBd l[i]) → zdp l
 | [],_ => by rw [zdp]; trivial
 | v :: l,h => by
  rw [zdp]
  exact ⟨h 0 (by simp),zlQ fun i hi => by have:=h (i + 1) (by simpa using hi); simpa only [List.getElem_cons_succ] using this⟩
theorem zlR:∀ {l:List JV} (h:zdp l) {i:Nat} (hi:i < l.length),JBd l[i]
 | a :: l,h,0,hi => by rw [zdp] at h; exact h.1
 | a :: l,h,i + 1,hi => by rw [zdp] at h; exact zlR h.2 (by simpa using hi)
theorem JBd.lens {v:JV} (h:JBd v):v.keys.length ≤ 1099511627780 ∧ v.items.length ≤ 1099511627776:=by
 cases v; rw [JBd] at h; exact ⟨h.1,h.2.1⟩
theorem JBd.its {v:JV} (h:JBd v) {i:Nat} (hi:i < v.items.length):JBd v.items[i]:=by
 cases v with
 | mk k t ks its => rw [JBd] at h; exact zlR h.2.2 hi
theorem JBd.of {v:JV} (h1:v.keys.length ≤ 1099511627780) (h2:v.items.length ≤ 1099511627776) (h3:∀ (i:Nat) (h:i < v.items.length),JBd v.items[i]):JBd v:=by
 cases v; rw [JBd]; exact ⟨h1,h2,zlQ h3⟩
theorem zcy (v w:JV):zc7 v w=(decide (v.kind=w.kind) && (decide (v.text=w.text) && (decide (v.keys=w.keys) && zbI v.items w.items))):=by
 cases v; cases w; rw [zc7]; rfl
theorem ze0:∀ {l m:List JV},l.length ≠ m.length → zbI l m=false
 | [],[],h => absurd rfl h
 | [],_ :: _,_ => by rw [zbI]; all_goals simp
 | _ :: _,[],_ => by rw [zbI]; all_goals simp
 | v :: l,w :: m,h => by rw [zbI,ze0 (l:=l) (m:=m) (by simpa using h)]; simp
theorem zgn:∀ {l m:List JV} {i:Nat} (h1:i < l.length) (h2:i < m.length),zc7 l[i] m[i]=false → zbI l m=false
 | v :: l,w :: m,0,_,_,h => by rw [zbI]; simp only [List.getElem_cons_zero] at h; rw [h]; rfl
 | v :: l,w :: m,i + 1,h1,h2,h => by
  rw [zbI,zgn (l:=l) (m:=m) (i:=i) (by simpa using h1) (by simpa using h2) (by simpa using h)]; simp
theorem zeZ:∀ {l m:List JV},l.length=m.length → (∀ (i:Nat) (h1:i < l.length) (h2:i < m.length),zc7 l[i] m[i]=true) → zbI l m=true
 | [],[],_,_ => by rw [zbI]
 | [],_ :: _,h,_ => by simp at h
 | _ :: _,[],h,_ => by simp at h
 | v :: l,w :: m,h,k => by
  rw [zbI,zeZ (l:=l) (m:=m) (by simpa using h) (fun i h1 h2 => by have:=k (i + 1) (by simpa using h1) (by simpa using h2); simp only [List.getElem_cons_succ] at this; exact this)]
  have:=k 0 (by simp) (by simp)
  simp only [List.getElem_cons_zero] at this
  rw [this]; rfl
mutual
/-- no slice too long, wherever -/
def JLn:JV → Prop
 | .mk k t ks its => ks.length ≤ 140737488351232 ∧ its.length ≤ 140737488351232 ∧ zmP its
def zmP:List JV → Prop
 | [] => True
 | v :: l => JLn v ∧ zmP l
end
mutual
theorem JOk.ln:∀ {v:JV},JOk v → JLn v
 | .mk k t ks its,h => by rw [JOk] at h; rw [JLn]; exact ⟨h.2.2.1,h.2.2.2.2.1,JsOk.ln h.2.2.2.2.2⟩
theorem JsOk.ln:∀ {l:List JV},JsOk l → zmP l
 | [],_ => by rw [zmP]; trivial
 | v :: l,h => by rw [JsOk] at h; rw [zmP]; exact ⟨JOk.ln h.1,JsOk.ln h.2⟩
end
mutual
theorem JBd.ln:∀ {v:JV},JBd v → JLn v
 | .mk k t ks its,h => by rw [JBd] at h; rw [JLn]; exact ⟨by omega,by omega,zdp.ln h.2.2⟩
theorem zdp.ln:∀ {l:List JV},zdp l → zmP l
 | [],_ => by rw [zmP]; trivial
 | v :: l,h => by rw [zdp] at h; rw [zmP]; exact ⟨JBd.ln h.1,zdp.ln h.2⟩
end
theorem zlP:∀ {l:List JV} (h:zmP l) {i:Nat} (hi:i < l.length),JLn l[i]
 | a :: l,h,0,hi => by rw [zmP] at h; exact h.1
 | a :: l,h,i + 1,hi => by rw [zmP] at h; exact zlP h.2 (by simpa using hi)
theorem JLn.its {v:JV} (h:JLn v) {i:Nat} (hi:i < v.items.length):JLn v.items[i]:=by
 cases v with
 | mk k t ks its => rw [JLn] at h; exact zlP h.2.2 hi
theorem JLn.lens {v:JV} (h:JLn v):v.keys.length ≤ 140737488351232 ∧ v.items.length ≤ 140737488351232:=by
 cases v with
 | mk k t ks its => rw [JLn] at h; exact ⟨h.1,h.2.1⟩
section
variable [Tabs Tryz.prog]
theorem same14_l:∀ (m:Nat) (v w:JV),v.size < m → JLn v → ∀ {objs:List OB} {K:List OB → AV → Prop},K objs (.b (zc7 v w)) → zad Tryz.prog 11 [.agg (zap v),.agg (zap w)] objs K:=by
 intro m
 induction m with
 | zero => intro v w h; omega
 | succ m ih =>
  intro v w hm hv objs K hk
  obtain ⟨l1,l2⟩:=hv.lens
  refine zbs is_ref14_Same (by simp only [zar,AV.plain,zfQ,Bool.and_self]) fun C _ => ?_
  rw [c_ref14_Same]
  refine zab fun Y hY => ?_
  simp only [sxZ,z6,z7,z8,j4,j5,j6,j7,j8,j9,x0,x3,x4,x5,x6,x7,reduceCtorEq,↓reduceIte]
  have e0:OB.box 26 (zap v)=OB.box 26 [.i .i64 v.kind,.s v.text,.row v.keys.length (v.keys.map .s),.row v.items.length (zaj v.items)]:=by rw [zaN]
  have e1:OB.box 26 (zap w)=OB.box 26 [.i .i64 w.kind,.s w.text,.row w.keys.length (w.keys.map .s),.row w.items.length (zaj w.items)]:=by rw [zaN]
  rw [e0,e1]
  subst hY
  refine zab fun Y hY => ?_
  have no:zc7 v w=false → K objs (.b false):=fun h => by rw [h] at hk; exact hk
  by_cases c1:v.kind=w.kind
  rotate_left
  ·simp only [sxZ,z6,z7,z8,j4,j5,j6,j7,j8,j9,x0,x3,x4,x5,x6,x7,reduceCtorEq,↓reduceIte,c1,decide_false,Bool.not_false]
   exact no (by rw [zcy,decide_eq_false c1]; rfl)
  by_cases c2:v.text=w.text
  rotate_left
  ·simp only [sxZ,z6,z7,z8,j4,j5,j6,j7,j8,j9,x0,x3,x4,x5,x6,x7,reduceCtorEq,↓reduceIte,c1,c2,decide_false,decide_true,Bool.not_false,Bool.not_true]
   exact no (by rw [zcy,decide_eq_false c2]; simp)
  by_cases c3:v.items.length=w.items.length
  rotate_left
  ·have c3':¬ (v.items.length:Int)=w.items.length:=by omega
   simp only [sxZ,z6,z7,z8,j4,j5,j6,j7,j8,j9,x0,x3,x4,x5,x6,x7,reduceCtorEq,↓reduceIte,c1,c2,c3',decide_false,decide_true,Bool.not_false,Bool.not_true]
   exact no (by rw [zcy,ze0 c3]; simp)
  by_cases c4:v.keys.length=w.keys.length
  rotate_left
  ·have c4':¬ (v.keys.length:Int)=w.keys.length:=by omega
   simp only [sxZ,z6,z7,z8,j4,j5,j6,j7,j8,j9,x0,x3,x4,x5,x6,x7,reduceCtorEq,↓reduceIte,c1,c2,c3,c4',decide_false,decide_true,Bool.not_false,Bool.not_true]
   exact no (by rw [zcy,decide_eq_false (p:=v.keys=w.keys) (fun h => c4 (by rw [h]))]; simp)
  simp only [sxZ,z6,z7,z8,j4,j5,j6,j7,j8,j9,x0,x3,x4,x5,x6,x7,reduceCtorEq,↓reduceIte,c1,c2,c3,c4,decide_false,decide_true,Bool.not_false,Bool.not_true]
  subst hY
  refine zab fun Y hY => ?_
  simp only [sxZ,z6,z7,z8,j4,j5,j6,j7,j8,j9,x0,x3,x4,x5,x6,x7,reduceCtorEq,↓reduceIte]
  have q1:v.items.length=w.items.length:=c3
  have q2:v.keys.length=w.keys.length:=c4
  refine za6 (fun n o tm => ∃ i:Nat,i ≤ w.items.length ∧ n=w.items.length - i ∧ o=[OB.box 26 [.i .i64 w.kind,.s w.text,.row w.keys.length (v.keys.map .s),.row w.items.length (zaj v.items)],OB.box 26 [.i .i64 w.kind,.s w.text,.row w.keys.length (w.keys.map .s),.row w.items.length (zaj w.items)]] ∧ (∀ (j:Nat) (h1:j < v.items.length) (h2:j < w.items.length),j < i → zc7 v.items[j] w.items[j]=true) ∧ tm.length=74 ∧ tm[2]? = some (.p 0 0) ∧ tm[3]? = some (.p 1 0) ∧ tm[38]? = some (.row w.items.length (zaj v.items)) ∧ tm[39]? = some (.i .i64 (w.items.length:Int)) ∧ tm[40]? = some (.i .i64 (i:Int))) w.items.length ⟨0,Nat.zero_le _,rfl,rfl,fun j _ _ h => by omega,rfl,rfl,rfl,rfl,rfl,rfl⟩ ?_
  rintro n _ tm ⟨i,hi,rfl,rfl,hall,hlen,t2,t3,t38,t39,t40⟩
  refine zab fun Z hZ => ?_
  by_cases hlt:(i:Int) < (w.items.length:Int)
  ·have hw':i < w.items.length:=by omega
   have hv':i < v.items.length:=by omega
   have jv:=jc_at hv'
   have jw:=jc_at hw'
   have jvl:=zby v.items
   have jwl:=zby w.items
   have hit:=hv.its hv'
   have hsz:=zke hv'
   have hcall:=fun {objs:List OB} {K:List OB → AV → Prop} (h:K objs (.b (zc7 v.items[i] w.items[i]))) => ih v.items[i] w.items[i] (by omega) hit (objs:=objs) (K:=K) h
   simp only [sxZ,z6,z7,z8,j4,j5,j6,j7,j8,j9,x0,x3,x4,x5,x6,x7,reduceCtorEq,↓reduceIte,List.getElem?_set,hlen,t2,t3,t38,t39,t40,hlt]
   subst hZ
   refine zab fun Z hZ => ?_
   simp only [sxZ,z6,z7,z8,j4,j5,j6,j7,j8,j9,x0,x3,x4,x5,x6,x7,reduceCtorEq,↓reduceIte,List.getElem?_set,hlen]
   subst hZ
   refine zab fun W hW => ?_
   rw [zcO]
   refine zab fun Z hZ => ?_
   simp only [sxZ,z6,z7,z8,j4,j5,j6,j7,j8,j9,x0,x3,x4,x5,x6,x7,reduceCtorEq,↓reduceIte,List.getElem?_set,hlen,t40]
   subst hZ
   refine zab fun Z hZ => ?_
   simp only [sxZ,z6,z7,z8,j4,j5,j6,j7,j8,j9,x0,x3,x4,x5,x6,x7,reduceCtorEq,↓reduceIte,List.getElem?_set,hlen,t2,t3,jv,jw]
   refine ⟨⟨by omega,by omega,by omega⟩,by omega,⟨by omega,by omega,by omega⟩,by omega,?_⟩
   refine zgM (hcall ⟨rfl,rfl⟩) ?_
   have hno:=zgn hv' hw'
   have hall2:zc7 v.items[i] w.items[i]=true → ∀ (j:Nat) (h1:j < v.items.length) (h2:j < w.items.length),j < i + 1 → zc7 v.items[j] w.items[j]=true:=by
    intro hs j h1 h2 hj
    by_cases e:j=i
    ·subst e; exact hs
    ·exact hall j h1 h2 (by omega)
   generalize zc7 v.items[i] w.items[i]=sm at hno hall2
   simp only [sxZ,z6,z7,z8,j4,j5,j6,j7,j8,j9,x0,x3,x4,x5,x6,x7,reduceCtorEq,↓reduceIte,List.getElem?_set,hlen,t2,t3]
   subst hZ
   cases sm with
   | false =>
    simp only [sxZ,z6,z7,z8,j4,j5,j6,j7,j8,j9,x0,x3,x4,x5,x6,x7,reduceCtorEq,↓reduceIte,List.getElem?_set,hlen,Bool.not_false,Bool.not_true]
    exact no (by rw [zcy,hno rfl]; simp)
   | true =>
    simp only [sxZ,z6,z7,z8,j4,j5,j6,j7,j8,j9,x0,x3,x4,x5,x6,x7,reduceCtorEq,↓reduceIte,List.getElem?_set,hlen,Bool.not_false,Bool.not_true]
    subst hW
    simp only [sxZ,z6,z7,z8,j4,j5,j6,j7,j8,j9,x0,x3,x4,x5,x6,x7,reduceCtorEq,↓reduceIte,List.getElem?_set,hlen,t2,t3,t38,t39,t40]
    exact ⟨by omega,w.items.length - (i + 1),by omega,i + 1,by omega,rfl,hall2 rfl,rfl⟩
  simp only [sxZ,z6,z7,z8,j4,j5,j6,j7,j8,j9,x0,x3,x4,x5,x6,x7,reduceCtorEq,↓reduceIte,List.getElem?_set,hlen,t2,t3,t38,t39,t40,hlt]
  subst hZ
  simp only [sxZ,z6,z7,z8,j4,j5,j6,j7,j8,j9,x0,x3,x4,x5,x6,x7,reduceCtorEq,↓reduceIte,List.getElem?_set,hlen,t2,t3,t38,t39,t40,hlt]
  refine zbO (fun t => t.length=74 ∧ t[2]? = some (.p 0 0) ∧ t[3]? = some (.p 1 0)) ?_ ?_
  ·simp only [sxZ,z6,z7,z8,j4,j5,j6,j7,j8,j9,x0,x3,x4,x5,x6,x7,reduceCtorEq,↓reduceIte,List.length_set,List.getElem?_set,hlen,t2,t3,and_self]
  have hyes:zbI v.items w.items=true:=zeZ c3 fun j h1 h2 => hall j h1 h2 (by omega)
  clear hlen t2 t3 t38 t39 t40 hlt
  rintro tm ⟨hlen,t2,t3⟩
  subst hY
  refine zab fun Y hY => ?_
  simp only [sxZ,z6,z7,z8,j4,j5,j6,j7,j8,j9,x0,x3,x4,x5,x6,x7,reduceCtorEq,↓reduceIte,List.getElem?_set,hlen,t2,t3]
  refine za6 (fun n o tm => ∃ i:Nat,i ≤ w.keys.length ∧ n=w.keys.length - i ∧ o=[OB.box 26 [.i .i64 w.kind,.s w.text,.row w.keys.length (v.keys.map .s),.row w.items.length (zaj v.items)],OB.box 26 [.i .i64 w.kind,.s w.text,.row w.keys.length (w.keys.map .s),.row w.items.length (zaj w.items)]] ∧ (∀ j:Nat,j < i → v.keys[j]? = w.keys[j]?) ∧ tm.length=74 ∧ tm[2]? = some (.p 0 0) ∧ tm[3]? = some (.p 1 0) ∧ tm[58]? = some (.i .i64 (w.keys.length:Int)) ∧ tm[59]? = some (.i .i64 (i:Int))) w.keys.length ⟨0,Nat.zero_le _,rfl,rfl,fun j h => by omega,?_⟩ ?_
  ·simp only [sxZ,z6,z7,z8,j4,j5,j6,j7,j8,j9,x0,x3,x4,x5,x6,x7,reduceCtorEq,↓reduceIte,List.length_set,List.getElem?_set,hlen,t2,t3,Int.cast_ofNat_Int,and_self]
  clear hlen t2 t3 hall hi i
  rintro n _ tm ⟨i,hi,rfl,rfl,hall,hlen,t2,t3,t58,t59⟩
  refine zab fun Z hZ => ?_
  by_cases hlt:(i:Int) < (w.keys.length:Int)
  ·have hw':i < w.keys.length:=by omega
   have hv':i < v.keys.length:=by omega
   have kv:(v.keys.map AV.s)[i * 1]? = some (.s v.keys[i]):=by rw [Nat.mul_one,List.getElem?_map,List.getElem?_eq_getElem hv']; rfl
   have kw:(w.keys.map AV.s)[i * 1]? = some (.s w.keys[i]):=by rw [Nat.mul_one,List.getElem?_map,List.getElem?_eq_getElem hw']; rfl
   have hne:¬ v.keys[i]=w.keys[i] → ¬ v.keys=w.keys:=fun h e => h (by simp only [e])
   have hall2:v.keys[i]=w.keys[i] → ∀ j:Nat,j < i + 1 → v.keys[j]? = w.keys[j]?:=by
    intro hs j hj
    by_cases e:j=i
    ·subst e; rw [List.getElem?_eq_getElem hv',List.getElem?_eq_getElem hw',hs]
    ·exact hall j (by omega)
   generalize v.keys[i]=x at kv hne hall2
   generalize w.keys[i]=y at kw hne hall2
   simp only [sxZ,z6,z7,z8,j4,j5,j6,j7,j8,j9,x0,x3,x4,x5,x6,x7,reduceCtorEq,↓reduceIte,List.getElem?_set,hlen,t2,t3,t58,t59,hlt]
   subst hZ
   refine zab fun Z hZ => ?_
   simp only [sxZ,z6,z7,z8,j4,j5,j6,j7,j8,j9,x0,x3,x4,x5,x6,x7,reduceCtorEq,↓reduceIte,List.getElem?_set,hlen]
   subst hZ
   refine zab fun W hW => ?_
   rw [zcO]
   refine zab fun Z hZ => ?_
   simp only [sxZ,z6,z7,z8,j4,j5,j6,j7,j8,j9,x0,x3,x4,x5,x6,x7,reduceCtorEq,↓reduceIte,List.getElem?_set,hlen,t59]
   subst hZ
   refine zab fun Z hZ => ?_
   simp only [sxZ,z6,z7,z8,j4,j5,j6,j7,j8,j9,x0,x3,x4,x5,x6,x7,reduceCtorEq,↓reduceIte,List.getElem?_set,hlen,t2,t3,kv,kw,List.length_map]
   refine ⟨⟨by omega,by omega,by omega⟩,⟨by omega,by omega,by omega⟩,?_⟩
   subst hZ
   by_cases c5:x=y
   rotate_left
   ·simp only [sxZ,z6,z7,z8,j4,j5,j6,j7,j8,j9,x0,x3,x4,x5,x6,x7,reduceCtorEq,↓reduceIte,List.getElem?_set,hlen,c5,decide_false,decide_true,Bool.not_false,Bool.not_true]
    exact no (by rw [zcy,decide_eq_false (hne c5)]; simp)
   ·simp only [sxZ,z6,z7,z8,j4,j5,j6,j7,j8,j9,x0,x3,x4,x5,x6,x7,reduceCtorEq,↓reduceIte,List.getElem?_set,hlen,c5,decide_false,decide_true,Bool.not_false,Bool.not_true]
    subst hW
    simp only [sxZ,z6,z7,z8,j4,j5,j6,j7,j8,j9,x0,x3,x4,x5,x6,x7,reduceCtorEq,↓reduceIte,List.getElem?_set,hlen,t2,t3,t58,t59]
    exact ⟨by omega,w.keys.length - (i + 1),by omega,i + 1,by omega,rfl,hall2 c5,rfl⟩
  simp only [sxZ,z6,z7,z8,j4,j5,j6,j7,j8,j9,x0,x3,x4,x5,x6,x7,reduceCtorEq,↓reduceIte,List.getElem?_set,hlen,t2,t3,t58,t59,hlt]
  subst hZ
  subst hY
  simp only [sxZ,z6,z7,z8,j4,j5,j6,j7,j8,j9,x0,x3,x4,x5,x6,x7,reduceCtorEq,↓reduceIte,List.getElem?_set,hlen,t2,t3,t58,t59,hlt]
  have hkeys:v.keys=w.keys:=List.ext_getElem? fun j => by
   by_cases h:j < i
   ·exact hall j h
   ·rw [List.getElem?_eq_none (by omega),List.getElem?_eq_none (by omega)]
  have:zc7 v w=true:=by rw [zcy,hyes,decide_eq_true c1,decide_eq_true c2,decide_eq_true hkeys]; rfl
  rw [← this]
  exact hk
end
end
end Go.Proofs.YthmdohgkmdkeeaaGreatDoor
namespace Go.Proofs.YthmdohgkmdkeeaaGreatDoor
open Go.RowKit Sx
section
attribute [local irreducible] run
theorem zfR:∀ {a b:List JV},zdp a → zdp b → zdp (a ++ b)
 | [],b,_,hb => hb
 | v :: l,b,ha,hb => by
  rw [zdp] at ha
  rw [List.cons_append,zdp]
  exact ⟨ha.1,zfR ha.2 hb⟩
theorem zbE (k:Int) (t:List UInt8):JBd (.mk k t [] []):=by rw [JBd]; exact ⟨by simp,by simp,by rw [zdp]; trivial⟩
def BdV (val:Rs → Tk → JV × Rs):Prop:=∀ ρ t,JBd (val ρ t).1
theorem zii {s:List UInt8} {val:Rs → Tk → JV × Rs} (hv:BdV val):∀ (n:Nat) (ρ:Rs) (t:Tk) (acc:List JV),zdp acc → zdp (zbq s val n ρ t acc).1 ∧ (zbq s val n ρ t acc).1.length ≤ acc.length + n
 | 0,ρ,t,acc,h => ⟨h,Nat.le_refl acc.length⟩
 | n + 1,ρ,t,acc,h => by
  rw [zbq]
  split
  ·exact ⟨h,by show acc.length ≤ _; omega⟩
  dsimp only
  have h1:=hv ρ t
  generalize val ρ t=a at h1 ⊢
  have h2:zdp (acc ++ [a.1]):=zfR h (by rw [zdp,zdp]; exact ⟨h1,trivial⟩)
  split
  ·exact ⟨h2,by simp only [List.length_append,List.length_cons,List.length_nil]; omega⟩
  ·obtain ⟨h3,h4⟩:=zii hv n (zac s (zaF (zac s a.2).2 (zac s a.2).1 44)).2 (zac s (zaF (zac s a.2).2 (zac s a.2).1 44)).1 (acc ++ [a.1]) h2
   refine ⟨h3,Nat.le_trans h4 ?_⟩
   simp only [List.length_append,List.length_cons,List.length_nil]; omega
theorem zh7 {s:List UInt8} {val:Rs → Tk → JV × Rs} (hv:BdV val):∀ (n:Nat) (ρ:Rs) (t:Tk) (ks:List (List UInt8)) (its:List JV),zdp its → zdp (za5 s val n ρ t ks its).1.2 ∧ (za5 s val n ρ t ks its).1.2.length ≤ its.length + n ∧ (za5 s val n ρ t ks its).1.1.length ≤ ks.length + n
 | 0,ρ,t,ks,its,h => ⟨h,Nat.le_refl its.length,Nat.le_refl ks.length⟩
 | n + 1,ρ,t,ks,its,h => by
  rw [za5]
  split
  ·exact ⟨h,by show its.length ≤ _; omega,by show ks.length ≤ _; omega⟩
  dsimp only
  generalize zac s (ze5 ρ t ks)=a
  generalize zac s (zaF a.2 a.1 58)=b
  have h1:=hv b.2 b.1
  generalize val b.2 b.1=v at h1 ⊢
  have h2:zdp (its ++ [v.1]):=zfR h (by rw [zdp,zdp]; exact ⟨h1,trivial⟩)
  generalize zac s v.2=c
  split
  ·exact ⟨h2,by simp only [List.length_append,List.length_cons,List.length_nil]; omega,by simp only [List.length_append,List.length_cons,List.length_nil]; omega⟩
  ·generalize zac s (zaF c.2 c.1 44)=d
   obtain ⟨h3,h4,h5⟩:=zh7 hv n d.2 d.1 (ks ++ [t.2.1]) (its ++ [v.1]) h2
   refine ⟨h3,Nat.le_trans h4 ?_,Nat.le_trans h5 ?_⟩
   ·simp only [List.length_append,List.length_cons,List.length_nil]; omega
   ·simp only [List.length_append,List.length_cons,List.length_nil]; omega
theorem zev {s:List UInt8} (hs:s.length ≤ 1048576):∀ (f d:Nat),BdV (fun ρ t => zao s f ρ t d)
 | 0,d => fun ρ t => zbE _ _
 | f + 1,d => fun ρ t => by
  dsimp only
  rw [zao]
  split
  ·exact zbE _ _
  split
  ·exact zbE _ _
  split
  ·exact zbE _ _
  split
  ·exact zbE _ _
  split
  ·unfold zdq
   dsimp only
   split
   ·exact zbE _ _
   ·obtain ⟨h1,h2⟩:=zii (s:=s) (zev hs f (d + 1)) (s.length + 2) (zac s (zaK ρ t)).2 (zac s (zaK ρ t)).1 [] (by rw [zdp]; trivial)
    rw [JBd]
    refine ⟨by simp,?_,h1⟩
    simp only [List.length_nil] at h2
    omega
  split
  ·unfold zdv
   dsimp only
   split
   ·exact zbE _ _
   ·obtain ⟨h1,h2,h3⟩:=zh7 (s:=s) (zev hs f (d + 1)) (s.length + 2) (zac s (zaK ρ t)).2 (zac s (zaK ρ t)).1 [] [] (by rw [zdp]; trivial)
    rw [JBd]
    simp only [List.length_nil] at h2 h3
    refine ⟨?_,?_,h1⟩
    ·show (za5 s _ _ _ _ [] []).1.1.length ≤ _; omega
    ·show (za5 s _ _ _ _ [] []).1.2.length ≤ _; omega
  split
  ·exact zbE _ _
  ·exact zbE _ _
theorem zkp {s:List UInt8} (hs:s.length ≤ 1048576):JBd (zaX s).1:=by
 unfold zaX
 rw [if_neg (by omega)]
 dsimp only
 generalize hρ:(if (zac s (zao s 65 (zac s rs0).2 (zac s rs0).1 0).2).2.fail=0 ∧ ¬ (zac s (zao s 65 (zac s rs0).2 (zac s rs0).1 0).2).1.1=1 then zay (zac s (zao s 65 (zac s rs0).2 (zac s rs0).1 0).2).2 (zac s (zao s 65 (zac s rs0).2 (zac s rs0).1 0).2).1.2.2 140 else (zac s (zao s 65 (zac s rs0).2 (zac s rs0).1 0).2).2)=ρ
 by_cases c:¬ ρ.fail=0
 ·rw [if_pos c]; exact zbE _ _
 ·rw [if_neg c]; exact zev hs 65 0 _ _
theorem zdd (ρ:Rs) (a e:Int):(zay ρ a e).nodes=ρ.nodes:=by unfold zay; split <;> rfl
theorem za1 (s:List UInt8) (ρ:Rs):(zac s ρ).2.nodes=ρ.nodes:=by
 unfold zac
 split
 ·rfl
 split
 ·exact zdd _ _ _
 ·rfl
theorem zdN (ρ:Rs) (t:Tk) (c:UInt8):(zaF ρ t c).nodes=ρ.nodes:=by
 unfold zaF
 split
 ·exact zdd _ _ _
 ·rfl
theorem rkey_n (ρ:Rs) (t:Tk) (ks:List (List UInt8)):(ze5 ρ t ks).nodes=ρ.nodes:=by
 unfold ze5
 dsimp only
 split <;> split <;> simp only [zdd]
theorem rcount_n (ρ:Rs) (t:Tk):(zaK ρ t).nodes=ρ.nodes + 1:=by
 unfold zaK
 dsimp only
 generalize hx:(if t.1=4 ∧ ¬ (zbo t.2.1).1=0 then zay ρ t.2.2 (zbo t.2.1).1 else ρ)=x
 have h:x.nodes=ρ.nodes:=by
  rw [← hx]
  split
  ·exact zdd _ _ _
  ·rfl
 by_cases c:20000 < x.nodes + 1
 ·rw [if_pos c,zdd]; show x.nodes + 1=_; omega
 ·rw [if_neg c]; show x.nodes + 1=_; omega
def MonV (val:Rs → Tk → JV × Rs):Prop:=∀ ρ t,ρ.nodes ≤ (val ρ t).2.nodes
theorem zkR {s:List UInt8} {val:Rs → Tk → JV × Rs} (hv:MonV val):∀ (n:Nat) (ρ:Rs) (t:Tk) (acc:List JV),ρ.nodes ≤ (zbq s val n ρ t acc).2.nodes
 | 0,ρ,t,acc => Nat.le_refl _
 | n + 1,ρ,t,acc => by
  rw [zbq]
  split
  ·exact Nat.le_refl _
  dsimp only
  have h1:=hv ρ t
  generalize val ρ t=a at h1 ⊢
  split
  ·rw [za1]; exact h1
  ·have h2:=zkR (s:=s) hv n (zac s (zaF (zac s a.2).2 (zac s a.2).1 44)).2 (zac s (zaF (zac s a.2).2 (zac s a.2).1 44)).1 (acc ++ [a.1])
   rw [za1,zdN,za1] at h2
   omega
theorem zkr {s:List UInt8} {val:Rs → Tk → JV × Rs} (hv:MonV val):∀ (n:Nat) (ρ:Rs) (t:Tk) (ks:List (List UInt8)) (its:List JV),ρ.nodes ≤ (za5 s val n ρ t ks its).2.nodes
 | 0,ρ,t,ks,its => Nat.le_refl _
 | n + 1,ρ,t,ks,its => by
  rw [za5]
  split
  ·exact Nat.le_refl _
  dsimp only
  have e1:=za1 s (ze5 ρ t ks)
  rw [rkey_n] at e1
  generalize zac s (ze5 ρ t ks)=a at e1 ⊢
  have e2:=za1 s (zaF a.2 a.1 58)
  rw [zdN] at e2
  generalize zac s (zaF a.2 a.1 58)=b at e2 ⊢
  have h1:=hv b.2 b.1
  generalize val b.2 b.1=v at h1 ⊢
  have e3:=za1 s v.2
  generalize zac s v.2=c at e3 ⊢
  split
  ·show _ ≤ c.2.nodes; omega
  ·have e4:=za1 s (zaF c.2 c.1 44)
   rw [zdN] at e4
   generalize zac s (zaF c.2 c.1 44)=d at e4 ⊢
   have h2:=zkr (s:=s) hv n d.2 d.1 (ks ++ [t.2.1]) (its ++ [v.1])
   omega
theorem zfB (s:List UInt8):∀ (f d:Nat),MonV (fun ρ t => zao s f ρ t d) ∧ ∀ ρ t,0 < f → (zao s f ρ t d).2.fail=0 → ρ.nodes + 1 ≤ (zao s f ρ t d).2.nodes
 | 0,d => ⟨fun ρ t => Nat.le_refl _,fun ρ t h => absurd h (Nat.lt_irrefl 0)⟩
 | f + 1,d => by
  have hm:=(zfB s f (d + 1)).1
  have key:∀ ρ t,((zao s (f + 1) ρ t d).2.nodes=ρ.nodes ∧ ¬ (zao s (f + 1) ρ t d).2.fail=0) ∨ ρ.nodes + 1 ≤ (zao s (f + 1) ρ t d).2.nodes:=by
   intro ρ t
   rw [zao]
   by_cases c0:ρ.fail=0
   rotate_left
   ·rw [if_pos c0]; exact .inl ⟨rfl,c0⟩
   rw [if_neg (fun h => h c0)]
   have hst:∀ a e:Int,¬ e=0 → (zay ρ a e).nodes=ρ.nodes ∧ ¬ (zay ρ a e).fail=0:=fun a e he => ⟨zdd _ _ _,by unfold zay; rw [if_pos c0]; exact he⟩
   split
   ·exact .inl (hst _ _ (by decide))
   split
   ·exact .inl (hst _ _ (by decide))
   have hc:=rcount_n ρ t
   split
   ·right; show _ ≤ (zaK ρ t).nodes; omega
   split
   ·right
    unfold zdq
    dsimp only
    split
    ·rw [za1]; omega
    ·have h:=zkR (s:=s) hm (s.length + 2) (zac s (zaK ρ t)).2 (zac s (zaK ρ t)).1 []
     rw [za1] at h
     show _ ≤ (zbq s _ _ _ _ []).2.nodes
     omega
   split
   ·right
    unfold zdv
    dsimp only
    split
    ·rw [za1]; omega
    ·have h:=zkr (s:=s) hm (s.length + 2) (zac s (zaK ρ t)).2 (zac s (zaK ρ t)).1 [] []
     rw [za1] at h
     show _ ≤ (za5 s _ _ _ _ [] []).2.nodes
     omega
   split
   ·right; show _ ≤ (zaK ρ t).nodes; omega
   ·right; show _ ≤ (zaK ρ t).nodes; omega
  refine ⟨fun ρ t => ?_,fun ρ t _ hf => ?_⟩
  ·rcases key ρ t with h | h
   ·exact Nat.le_of_eq h.1.symm
   ·show ρ.nodes ≤ (zao s (f + 1) ρ t d).2.nodes; omega
  ·rcases key ρ t with h | h
   ·exact absurd hf h.2
   ·exact h
end
end Go.Proofs.YthmdohgkmdkeeaaGreatDoor
namespace Go.Proofs.YthmdohgkmdkeeaaGreatDoor
open Go.RowKit Sx
section
attribute [local irreducible] run
structure WfM (σ:Ms) (a:Nat):Prop where
 top:(σ.st=1 ∨ σ.st=2 ∨ σ.st=3 ∨ σ.st=4 ∨ σ.st=5) → σ.stk ≠ []
 obj:(σ.st=2 ∨ σ.st=3 ∨ σ.st=4) → ∀ f r,σ.stk=f :: r → f.obj=true
 len:∀ f ∈ σ.stk,f.ks.length ≤ a ∧ f.its.length ≤ a
 deep:σ.stk.length ≤ 64
 few:σ.nodes ≤ 20000
theorem wf0 (a:Nat):WfM ms0 a:=⟨fun h => by simp [ms0] at h,fun h => by simp [ms0] at h,fun f h => by simp [ms0] at h,by simp [ms0],by simp [ms0]⟩
theorem wf_add {σ:Ms} {a:Nat} (v:JV) (hl:∀ f ∈ σ.stk,f.ks.length ≤ a ∧ f.its.length ≤ a) (hd:σ.stk.length ≤ 64) (hn:σ.nodes ≤ 20000):WfM (zc8 σ v) (a + 1):=by
 unfold zc8
 split
 ·exact ⟨fun h => by simp at h,fun h => by simp at h,fun f h => by simp at h,by simp,hn⟩
 ·rename_i f r hs
  rw [hs] at hl hd
  refine ⟨fun _ => by simp,fun h => by simp at h,fun f' h => ?_,by simpa using hd,hn⟩
  rcases List.mem_cons.1 h with rfl | h
  ·have:=hl f (by simp)
   simp only [List.length_append,List.length_cons,List.length_nil]
   omega
  ·have:=hl f' (by simp [h])
   omega
theorem zft {σ:Ms} {a:Nat} (h:WfM σ a):WfM (zcW σ) (a + 1):=by
 unfold zcW
 split
 ·exact ⟨h.top,h.obj,fun f hf => by have:=h.len f hf; omega,h.deep,h.few⟩
 ·rename_i f r hs
  refine wf_add _ (fun f' hf => h.len f' (by rw [hs]; exact List.mem_cons_of_mem _ hf)) ?_ h.few
  have:=h.deep
  rw [hs,List.length_cons] at this
  show r.length ≤ 64
  omega
theorem zhZ {σ:Ms} {a:Nat} {t:Tk} (h:WfM σ a) (h0:(zaZ σ t).1=0):WfM (zaZ σ t).2 (a + 1):=by
 unfold zaZ at h0 ⊢
 by_cases c0:vkE t=0
 ·rw [if_pos c0] at h0; cases h0
 rw [if_neg c0] at h0 ⊢
 by_cases c1:vkE t=6 ∨ vkE t=7
 ·rw [if_pos c1] at h0 ⊢
  by_cases c2:64 ≤ σ.stk.length
  ·rw [if_pos c2] at h0; cases h0
  rw [if_neg c2] at h0 ⊢
  by_cases c3:20000 ≤ σ.nodes
  ·rw [if_pos c3] at h0; cases h0
  rw [if_neg c3]
  unfold zbP
  refine ⟨fun _ => by simp,fun hs f r hr => ?_,fun f hf => ?_,by simp; omega,by show σ.nodes + 1 ≤ _; omega⟩
  ·injection hr with hr _
   subst hr
   cases hb:decide (vkE t=7)
   ·simp [hb] at hs
   ·rfl
  ·rcases List.mem_cons.1 hf with rfl | hf
   ·simp
   ·have:=h.len f hf; omega
 ·rw [if_neg c1] at h0 ⊢
  by_cases c2:¬ (zhj t).1=0
  ·rw [if_pos c2] at h0; exact absurd h0 c2
  rw [if_neg c2] at h0 ⊢
  by_cases c3:20000 ≤ σ.nodes
  ·rw [if_pos c3] at h0; cases h0
  rw [if_neg c3]
  exact wf_add _ h.len h.deep (by show σ.nodes + 1 ≤ _; omega)
theorem wf_key {σ:Ms} {a:Nat} {t:Tk} (h:WfM σ a) (ho:∀ f r,σ.stk=f :: r → f.obj=true) (h0:(zhA σ t).1=0):WfM (zhA σ t).2 (a + 1):=by
 unfold zhA at h0 ⊢
 split
 ·rename_i hs; rw [hs] at h0; cases h0
 ·rename_i f r hs
  rw [hs] at h0
  simp only at h0
  by_cases c1:¬ t.1=3
  ·rw [if_pos c1] at h0; cases h0
  rw [if_neg c1] at h0 ⊢
  by_cases c2:t.2.1 ∈ f.ks
  ·rw [if_pos c2] at h0; cases h0
  rw [if_neg c2]
  have hd:=h.deep
  rw [hs] at hd
  refine ⟨fun _ => by simp,fun _ f' r' hr => ?_,fun f' hf => ?_,by simpa using hd,h.few⟩
  ·injection hr with hr _
   subst hr
   exact ho f r hs
  ·rcases List.mem_cons.1 hf with rfl | hf
   ·have:=h.len f (by rw [hs]; simp)
    simp only [List.length_append,List.length_cons,List.length_nil]
    omega
   ·have:=h.len f' (by rw [hs]; exact List.mem_cons_of_mem _ hf)
    omega
theorem wf_take {σ:Ms} {a:Nat} {t:Tk} (h:WfM σ a) (h0:(zaC σ t).1=0):WfM (zaC σ t).2 (a + 1):=by
 have more:∀ f ∈ σ.stk,f.ks.length ≤ a + 1 ∧ f.its.length ≤ a + 1:=fun f hf => by have:=h.len f hf; omega
 unfold zaC at h0 ⊢
 by_cases c0:σ.st=0
 ·rw [if_pos c0] at h0 ⊢; exact zhZ h h0
 rw [if_neg c0] at h0 ⊢
 by_cases c1:σ.st=1
 ·rw [if_pos c1] at h0 ⊢
  by_cases d:zeG σ t=true
  ·rw [if_pos d]; exact zft h
  ·rw [if_neg d] at h0 ⊢; exact zhZ h h0
 rw [if_neg c1] at h0 ⊢
 by_cases c3:σ.st=3
 ·rw [if_pos c3] at h0 ⊢
  by_cases d:zeG σ t=true
  ·rw [if_pos d]; exact zft h
  ·rw [if_neg d] at h0 ⊢; exact wf_key h (h.obj (.inr (.inl c3))) h0
 rw [if_neg c3] at h0 ⊢
 by_cases c2:σ.st=2
 ·rw [if_pos c2] at h0 ⊢; exact wf_key h (h.obj (.inl c2)) h0
 rw [if_neg c2] at h0 ⊢
 by_cases c4:σ.st=4
 ·rw [if_pos c4] at h0 ⊢
  by_cases d:isP t 58=true
  ·rw [if_pos d]
   exact ⟨fun h => by simp at h,fun h => by simp at h,more,h.deep,h.few⟩
  ·rw [if_neg d] at h0; cases h0
 rw [if_neg c4] at h0 ⊢
 by_cases c5:σ.st=5
 ·rw [if_pos c5] at h0 ⊢
  have hne:=h.top (by omega)
  unfold onM at h0 ⊢
  split
  ·rename_i hs; exact absurd hs hne
  ·rename_i f r hs
   rw [hs] at h0
   simp only at h0
   by_cases d:zeG σ t=true
   ·rw [if_pos d]; exact zft h
   rw [if_neg d] at h0 ⊢
   by_cases d2:isP t 44=false
   ·rw [if_pos d2] at h0; cases h0
   rw [if_neg d2]
   refine ⟨fun _ => hne,fun hst f' r' hr => ?_,more,h.deep,h.few⟩
   rw [hs] at hr
   injection hr with hr _
   subst hr
   cases hb:f.obj
   ·simp [hb] at hst
   ·rfl
 rw [if_neg c5] at h0 ⊢
 by_cases c6:σ.st=6
 ·rw [if_pos c6] at h0 ⊢
  by_cases d:t.1=1
  ·rw [if_pos d]
   exact ⟨fun h => by simp at h,fun h => by simp at h,more,h.deep,h.few⟩
  ·rw [if_neg d] at h0; cases h0
 ·rw [if_neg c6] at h0; cases h0
end
end Go.Proofs.YthmdohgkmdkeeaaGreatDoor
namespace Go.Proofs.YthmdohgkmdkeeaaGreatDoor
open Nat renaming reduceAdd → z6, reduceSub → z7, reduceLeDiff → z8, reduceLT → j4, reduceMul → j5, reduceEqDiff → j6
open Int renaming reduceToNat → j7, reduceAdd → j8, reduceSub → j9, reduceMul → x0, reduceNeg → x3, reduceLT → x4, reduceLE → x5, reduceEq → x6, reduceNe → x7
open Go.RowKit Sx
section
attribute [local irreducible] run
def tkC (t:Tk):List AV:=[.i .i64 t.1,.s t.2.1,.i .i64 t.2.2]
def zcM (t:Tk):AV:=.agg (tkC t)
def SlO (E sz n:Nat) (xs:List AV) (X:AV) (L:List (Nat × OB)):Prop :=
 (n=0 ∧ xs=[] ∧ X=.nil ∧ L=[]) ∨ ∃ b g,X=.orow b g ∧ L=[(b,.orow E sz g n xs)]
def MpO (f:Fr) (X:AV) (L:List (Nat × OB)):Prop :=
 (f.obj=false ∧ X=.o (.map none) ∧ L=[]) ∨ (f.obj=true ∧ ∃ b,X=.m b ∧ L=[(b,.mp (f.ks.map fun k => (k,AV.b true)))])
def kdF (f:Fr):Int:=if f.obj=true then 7 else 6
def FrO (f:Fr) (cs:List AV) (L:List (Nat × OB)):Prop :=
 ∃ kx ix mx Lk Li Lm,cs=[.i .i64 (kdF f),.s [],kx,ix,mx] ∧ SlO 9 1 f.ks.length (f.ks.map .s) kx Lk ∧ SlO 26 4 f.its.length (zaj f.its) ix Li ∧ MpO f mx Lm ∧ L=Lk ++ (Li ++ Lm)
def StkO (M:List (Nat × OB)):List Fr → List AV → List (Nat × OB) → Prop
 | [],cs,L => cs=[] ∧ L=M
 | f :: r,cs,L => ∃ c0 c1 L0 L1,FrO f c1 L1 ∧ StkO M r c0 L0 ∧ cs=c0 ++ c1 ∧ L=L1 ++ L0
theorem zkb {M:List (Nat × OB)}:∀ {S:List Fr} {cs:List AV} {L:List (Nat × OB)},StkO M S cs L → cs.length=S.length * 5
 | [],cs,L,h => by rw [h.1]; rfl
 | f :: r,cs,L,h => by
  obtain ⟨c0,c1,L0,L1,⟨_,_,_,_,_,_,rfl,_⟩,h2,rfl,_⟩:=h
  rw [List.length_append,zkb h2,List.length_cons]
  simp only [List.length_cons,List.length_nil]
  omega
def StX (M:List (Nat × OB)) (S:List Fr) (X:AV) (L:List (Nat × OB)):Prop :=
 (S=[] ∧ X=.nil ∧ L=M) ∨ ∃ r g cs L',X=.orow r g ∧ StkO M S cs L' ∧ L=(r,.orow 90 5 g S.length cs) :: L'
def prB (st:Int) (X:AV) (nodes:Nat) (r0 r1 r2 r3:AV):OB:=.box 49 [.i .i64 st,X,.i .i64 (nodes:Int),r0,r1,r2,r3]
def PrO (M:List (Nat × OB)) (p:Nat) (σ:Ms) (o:List OB):Prop :=
 ∃ X r0 r1 r2 r3 L,zau ((p,prB σ.st X σ.nodes r0 r1 r2 r3) :: L) o ∧ StX M σ.stk X L ∧ zar [r0,r1,r2,r3]=true ∧ ((σ.st=6 ∨ σ.st=7) → [r0,r1,r2,r3]=zap σ.root)
theorem zgE {M:List (Nat × OB)} {p:Nat} {σ:Ms} {f:Fr} {r:List Fr} {o:List OB} (hP:PrO M p σ o) (hs:σ.stk=f :: r):∃ (rr g:Nat) (r0 r1 r2 r3 kx ix mx:AV) (c0:List AV) (L0 Lk Li Lm:List (Nat × OB)),
  zau ((p,prB σ.st (.orow rr g) σ.nodes r0 r1 r2 r3) :: (rr,.orow 90 5 g (r.length + 1) (c0 ++ [.i .i64 (kdF f),.s [],kx,ix,mx])) :: (Lk ++ (Li ++ Lm) ++ L0)) o ∧
  SlO 9 1 f.ks.length (f.ks.map .s) kx Lk ∧ SlO 26 4 f.its.length (zaj f.its) ix Li ∧ MpO f mx Lm ∧ StkO M r c0 L0 ∧ c0.length=r.length * 5 ∧ zar [r0,r1,r2,r3]=true:=by
 obtain ⟨X,r0,r1,r2,r3,L,hO,hX,hpl,hr⟩:=hP
 rw [hs] at hX
 rcases hX with ⟨h,_⟩ | ⟨rr,g,cs,L',rfl,⟨c0,c1,L0,L1,⟨kx,ix,mx,Lk,Li,Lm,rfl,h1,h2,h3,rfl⟩,h4,rfl,rfl⟩,rfl⟩
 ·cases h
 ·exact ⟨rr,g,r0,r1,r2,r3,kx,ix,mx,c0,L0,Lk,Li,Lm,hO,h1,h2,h3,h4,zkb h4,hpl⟩
theorem zjx {M:List (Nat × OB)} {p:Nat} {st:Int} {nodes:Nat} {root:JV} {f:Fr} {r:List Fr} {o:List OB} {rr g:Nat} {r0 r1 r2 r3 kx ix mx:AV} {c0:List AV} {L0 Lk Li Lm:List (Nat × OB)}
  (hO:zau ((p,prB st (.orow rr g) nodes r0 r1 r2 r3) :: (rr,.orow 90 5 g (r.length + 1) (c0 ++ [.i .i64 (kdF f),.s [],kx,ix,mx])) :: (Lk ++ (Li ++ Lm) ++ L0)) o)
  (h1:SlO 9 1 f.ks.length (f.ks.map .s) kx Lk) (h2:SlO 26 4 f.its.length (zaj f.its) ix Li) (h3:MpO f mx Lm) (h4:StkO M r c0 L0) (hpl:zar [r0,r1,r2,r3]=true) (h5:¬ (st=6 ∨ st=7)):PrO M p ⟨st,f :: r,nodes,root⟩ o :=
 ⟨_,r0,r1,r2,r3,_,hO,.inr ⟨rr,g,_,_,rfl,⟨c0,_,L0,_,⟨kx,ix,mx,Lk,Li,Lm,rfl,h1,h2,h3,rfl⟩,h4,rfl,rfl⟩,rfl⟩,hpl,fun h => absurd h h5⟩
theorem pr_app {M:List (Nat × OB)} {p:Nat} {σ:Ms} {o:List OB} (hP:PrO M p σ o) (more:List OB):PrO M p σ (o ++ more):=by
 obtain ⟨X,r0,r1,r2,r3,L,hO,hX,hpl,hr⟩:=hP
 exact ⟨X,r0,r1,r2,r3,L,hO.app more,hX,hpl,hr⟩
theorem perm_inK {α:Type} (a b:List α) (x:α):(x :: (a ++ b)).Perm (a ++ x :: b):=List.perm_middle.symm
theorem zgk {M:List (Nat × OB)}:∀ {S:List Fr} {cs:List AV} {L:List (Nat × OB)},StkO M S cs L → ∃ A,L=A ++ M ∧ ∀ M',StkO M' S cs (A ++ M')
 | [],cs,L,h => ⟨[],by rw [h.2]; rfl,fun M' => ⟨h.1,rfl⟩⟩
 | f :: r,cs,L,h => by
  obtain ⟨c0,c1,L0,L1,h1,h2,rfl,rfl⟩:=h
  obtain ⟨A,rfl,hA⟩:=zgk h2
  exact ⟨L1 ++ A,by rw [List.append_assoc],fun M' => ⟨c0,c1,A ++ M',L1,h1,hA M',rfl,by rw [List.append_assoc]⟩⟩
theorem zka {M:List (Nat × OB)} {S:List Fr} {X:AV} {L:List (Nat × OB)} (h:StX M S X L):∃ A,L=A ++ M ∧ ∀ M',StX M' S X (A ++ M'):=by
 rcases h with ⟨h1,h2,h3⟩ | ⟨r,g,cs,L',h1,h2,h3⟩
 ·exact ⟨[],by rw [h3]; rfl,fun M' => .inl ⟨h1,h2,rfl⟩⟩
 ·obtain ⟨A,rfl,hA⟩:=zgk h2
  exact ⟨_ :: A,by rw [h3]; rfl,fun M' => .inr ⟨r,g,cs,A ++ M',h1,hA M',rfl⟩⟩
theorem zdA {M:List (Nat × OB)} {p:Nat} {σ:Ms} {o:List OB} (hP:PrO M p σ o):∃ B A,zau ((p,B) :: (A ++ M)) o ∧ ∀ M' o',zau ((p,B) :: (A ++ M')) o' → PrO M' p σ o':=by
 obtain ⟨X,r0,r1,r2,r3,L,hO,hX,hpl,hr⟩:=hP
 obtain ⟨A,rfl,hA⟩:=zka hX
 exact ⟨_,A,hO,fun M' o' h => ⟨X,r0,r1,r2,r3,_,h,hA M',hpl,hr⟩⟩
theorem zb2 {M:List (Nat × OB)} {p:Nat} {σ:Ms} {o:List OB} (hP:PrO M p σ o) {i:Nat} {x:OB} (h:(i,x) ∈ M):o[i]? = some x:=by
 obtain ⟨B,A,hO,_⟩:=zdA hP
 exact hO.get (by simp [h])
theorem pr_lt {M:List (Nat × OB)} {p:Nat} {σ:Ms} {o:List OB} (hP:PrO M p σ o) {i:Nat} {x:OB} (h:(i,x) ∈ M):i < o.length:=(List.getElem?_eq_some_iff.1 (zb2 hP h)).1
theorem zgF {M:List (Nat × OB)} {p:Nat} {σ:Ms} {o:List OB} (hP:PrO M p σ o) (x:OB):PrO ((o.length,x) :: M) p σ (o ++ [x]):=by
 obtain ⟨B,A,hO,hM⟩:=zdA hP
 exact hM _ _ ((hO.new x).perm (perm_inK (_ :: A) M _))
theorem zav {M:List (Nat × OB)} {z:Nat × OB} {p:Nat} {σ:Ms} {o:List OB} (hP:PrO (z :: M) p σ o):PrO M p σ o:=by
 obtain ⟨B,A,hO,hM⟩:=zdA hP
 exact hM _ _ (hO.sub (((List.sublist_cons_self z M).append_left A).cons_cons _))
theorem pr_set {M:List (Nat × OB)} {i p:Nat} {x:OB} {σ:Ms} {o:List OB} (hP:PrO ((i,x) :: M) p σ o) (y:OB):PrO ((i,y) :: M) p σ (o.set i y):=by
 obtain ⟨B,A,hO,hM⟩:=zdA hP
 exact hM _ _ (zau.set (A:=_ :: A) y hO)
theorem c5_at (c0 l:List AV) (n j:Nat) (h:c0.length=n * 5):(c0 ++ l)[n * 5 + j]? = l[j]?:=by
 rw [List.getElem?_append_right (by omega),show n * 5 + j - c0.length=j by omega]
theorem c5_at0 (c0 l:List AV) (n:Nat) (h:c0.length=n * 5):(c0 ++ l)[n * 5]? = l[0]?:=c5_at c0 l n 0 h
section
variable [Tabs Tryz.prog] {objs:List OB} {K:List OB → AV → Prop}
theorem zdF (t:Tk) (c:UInt8) (hk:K objs (.b (isP t c))):zad Tryz.prog 39 [zcM t,.s [c]] objs K:=by
 refine zbs is_jsondoc_isPunct rfl fun C _ => ?_
 unfold isP at hk
 by_cases c1:t.1=2
 ·by_cases c2:t.2.1=[c]
  ·simp only [c1,c2,decide_true,Bool.and_self] at hk
   simp only [c_jsondoc_isPunct,zcM,tkC,sxZ,z6,z7,z8,j4,j5,j6,j7,j8,j9,x0,x3,x4,x5,x6,x7,reduceCtorEq,↓reduceIte,c1,c2]
   exact hk
  ·simp only [c1,c2,decide_true,decide_false,Bool.and_false] at hk
   simp only [c_jsondoc_isPunct,zcM,tkC,sxZ,z6,z7,z8,j4,j5,j6,j7,j8,j9,x0,x3,x4,x5,x6,x7,reduceCtorEq,↓reduceIte,c1,c2]
   exact hk
 ·simp only [c1,decide_false,Bool.false_and] at hk
  simp only [c_jsondoc_isPunct,zcM,tkC,sxZ,z6,z7,z8,j4,j5,j6,j7,j8,j9,x0,x3,x4,x5,x6,x7,reduceCtorEq,↓reduceIte,c1]
  exact hk
theorem zhf (t:Tk) (hk:K objs (.i .i64 (vkE t))):zad Tryz.prog 60 [zcM t] objs K:=by
 have e:∀ (o:List OB) (K:List OB → AV → Prop) (c:UInt8),K o (.b (isP t c)) → zad Tryz.prog 39 [.agg [.i .i64 t.1,.s t.2.1,.i .i64 t.2.2],.s [c]] o K:=fun o K c h => zdF t c h
 refine zbs is_jsondoc_valueKind rfl fun C _ => ?_
 unfold vkE zel trueL ziN at hk
 rw [c_jsondoc_valueKind]
 refine zab fun Y hY => ?_
 simp only [zcM,tkC,sxZ,z6,z7,z8,j4,j5,j6,j7,j8,j9,x0,x3,x4,x5,x6,x7,reduceCtorEq,↓reduceIte]
 subst hY
 by_cases c1:t.1=3
 ·rw [if_pos c1] at hk
  simp only [sxZ,z6,z7,z8,j4,j5,j6,j7,j8,j9,x0,x3,x4,x5,x6,x7,reduceCtorEq,↓reduceIte,c1]
  exact hk
 rw [if_neg c1] at hk
 by_cases c2:t.1=4
 ·rw [if_pos c2] at hk
  simp only [sxZ,z6,z7,z8,j4,j5,j6,j7,j8,j9,x0,x3,x4,x5,x6,x7,reduceCtorEq,↓reduceIte,c1,c2]
  exact hk
 rw [if_neg c2] at hk
 simp only [sxZ,z6,z7,z8,j4,j5,j6,j7,j8,j9,x0,x3,x4,x5,x6,x7,reduceCtorEq,↓reduceIte,c1,c2]
 refine zak (e _ _ 91 ?_)
 cases c3:isP t 91
 rotate_left
 ·rw [if_pos c3] at hk
  simp only [sxZ,z6,z7,z8,j4,j5,j6,j7,j8,j9,x0,x3,x4,x5,x6,x7,reduceCtorEq,↓reduceIte]
  exact hk
 rw [if_neg (by rw [c3]; exact Bool.false_ne_true)] at hk
 simp only [sxZ,z6,z7,z8,j4,j5,j6,j7,j8,j9,x0,x3,x4,x5,x6,x7,reduceCtorEq,↓reduceIte]
 refine zak (e _ _ 123 ?_)
 cases c4:isP t 123
 rotate_left
 ·rw [if_pos c4] at hk
  simp only [sxZ,z6,z7,z8,j4,j5,j6,j7,j8,j9,x0,x3,x4,x5,x6,x7,reduceCtorEq,↓reduceIte]
  exact hk
 rw [if_neg (by rw [c4]; exact Bool.false_ne_true)] at hk
 by_cases c5:t.1=5
 rotate_left
 ·rw [if_pos c5] at hk
  simp only [sxZ,z6,z7,z8,j4,j5,j6,j7,j8,j9,x0,x3,x4,x5,x6,x7,reduceCtorEq,↓reduceIte,c5]
  exact hk
 rw [if_neg (fun h => h c5)] at hk
 by_cases c6:t.2.1=[116,114,117,101]
 ·rw [if_pos c6] at hk
  simp only [sxZ,z6,z7,z8,j4,j5,j6,j7,j8,j9,x0,x3,x4,x5,x6,x7,reduceCtorEq,↓reduceIte,c5,c6]
  exact hk
 rw [if_neg c6] at hk
 by_cases c7:t.2.1=[102,97,108,115,101]
 ·rw [if_pos c7] at hk
  have n1:¬ ([102,97,108,115,101]:List UInt8)=[116,114,117,101]:=by decide
  simp only [sxZ,z6,z7,z8,j4,j5,j6,j7,j8,j9,x0,x3,x4,x5,x6,x7,reduceCtorEq,↓reduceIte,c5,c7,n1]
  exact hk
 rw [if_neg c7] at hk
 simp only [sxZ,z6,z7,z8,j4,j5,j6,j7,j8,j9,x0,x3,x4,x5,x6,x7,reduceCtorEq,↓reduceIte,c5,c6,c7]
 exact hk
theorem zj4 {p r g n:Nat} {st:Int} {nodes:Nat} {r0 r1 r2 r3:AV} {cs:List AV} (hb:objs[p]? = some (prB st (.orow r g) nodes r0 r1 r2 r3)) (hr:objs[r]? = some (.orow 90 5 g (n + 1) cs)) (hn:n ≤ 1000000)
  (hk:K objs (.porow r g (n * 5))):zad Tryz.prog 64 [.p p 0] objs K:=by
 refine zbt is_jsondoc_parser_top fun C _ => ?_
 unfold prB at hb
 simp only [c_jsondoc_parser_top,sxZ,z6,z7,z8,j4,j5,j6,j7,j8,j9,x0,x3,x4,x5,x6,x7,reduceCtorEq,↓reduceIte,hb,hr]
 refine ⟨⟨by omega,by omega⟩,⟨by omega,by omega⟩,?_⟩
 rw [show ((n + 1:Nat):Int) - 1=(n:Int) by omega,Int.toNat_natCast]
 exact hk
theorem zeF {M:List (Nat × OB)} {p:Nat} {σ:Ms} {f:Fr} {r:List Fr} (hP:PrO M p σ objs) (hs:σ.stk=f :: r) (hd:r.length ≤ 1000000) (t:Tk) (hk:∀ o,PrO M p σ o → K o (.b (zeG σ t))):zad Tryz.prog 36 [.p p 0,zcM t] objs K:=by
 obtain ⟨rr,g,r0,r1,r2,r3,kx,ix,mx,c0,L0,Lk,Li,Lm,hO,h1,h2,h3,h4,h5,h6⟩:=zgE hP hs
 have hO1:=hO.new (.box 51 (tkC t))
 have hP1:=hk _ (pr_app hP [.box 51 (tkC t)])
 refine zbt is_jsondoc_parser_isClose fun C _ => ?_
 rw [c_jsondoc_parser_isClose]
 refine zab fun Y hY => ?_
 simp only [zcM,sxZ,z6,z7,z8,j4,j5,j6,j7,j8,j9,x0,x3,x4,x5,x6,x7,reduceCtorEq,↓reduceIte]
 generalize objs ++ [OB.box 51 (tkC t)]=o1 at hO1 hP1 ⊢
 have e0:=hO1.get (i:=objs.length) (x:=.box 51 (tkC t)) (by simp)
 have e1:=hO1.get (i:=p) (x:=prB σ.st (.orow rr g) σ.nodes r0 r1 r2 r3) (by simp)
 have e2:=hO1.get (i:=rr) (x:=.orow 90 5 g (r.length + 1) (c0 ++ [.i .i64 (kdF f),.s [],kx,ix,mx])) (by simp)
 have e3:=c5_at0 c0 [.i .i64 (kdF f),.s [],kx,ix,mx] r.length h5
 subst hY
 refine zab fun Y hY => ?_
 simp only [sxZ,z6,z7,z8,j4,j5,j6,j7,j8,j9,x0,x3,x4,x5,x6,x7,reduceCtorEq,↓reduceIte]
 refine zak (zj4 e1 e2 hd ?_)
 simp only [sxZ,z6,z7,z8,j4,j5,j6,j7,j8,j9,x0,x3,x4,x5,x6,x7,reduceCtorEq,↓reduceIte,e2,Nat.add_zero,e3]
 have ht:∀ c,zad Tryz.prog 39 [zcM t,.s [c]] o1 (fun o r => o=o1 ∧ r=.b (isP t c)):=fun c => zdF t c ⟨rfl,rfl⟩
 unfold zeG at hP1
 rw [hs] at hP1
 simp only at hP1
 unfold zcM tkC at ht
 unfold tkC at e0
 cases hf:f.obj
 ·simp only [hf,Bool.false_eq_true,if_false] at hP1
  have hkd:kdF f=6:=by unfold kdF; rw [hf]; rfl
  simp only [sxZ,z6,z7,z8,j4,j5,j6,j7,j8,j9,x0,x3,x4,x5,x6,x7,reduceCtorEq,↓reduceIte,hkd]
  subst hY
  simp only [sxZ,z6,z7,z8,j4,j5,j6,j7,j8,j9,x0,x3,x4,x5,x6,x7,reduceCtorEq,↓reduceIte,e0]
  refine zak ((ht 93).mono ?_)
  rintro o x ⟨rfl,rfl⟩
  simp only [sxZ,z6,z7,z8,j4,j5,j6,j7,j8,j9,x0,x3,x4,x5,x6,x7,reduceCtorEq,↓reduceIte]
  exact hP1
 ·simp only [hf,if_true] at hP1
  have hkd:kdF f=7:=by unfold kdF; rw [hf]; rfl
  simp only [sxZ,z6,z7,z8,j4,j5,j6,j7,j8,j9,x0,x3,x4,x5,x6,x7,reduceCtorEq,↓reduceIte,hkd,e0]
  refine zak ((ht 125).mono ?_)
  rintro o x ⟨rfl,rfl⟩
  simp only [sxZ,z6,z7,z8,j4,j5,j6,j7,j8,j9,x0,x3,x4,x5,x6,x7,reduceCtorEq,↓reduceIte]
  exact hP1
end
end
section
attribute [local irreducible] run
theorem zeq {α:Type} (a l ys:List α) (n j:Nat) (h:a.length=n):zaM (a ++ l) (n + j) ys=a ++ zaM l j ys:=by
 subst h
 unfold zaM
 rw [List.take_append,List.drop_append,List.take_of_length_le (by omega),List.drop_eq_nil_of_le (by omega),show a.length + j - a.length=j by omega,show a.length + j + ys.length - a.length=j + ys.length by omega]
 simp
theorem zjm {α:Type} (a l ys:List α) (n:Nat) (h:a.length=n) (h2:l.length=ys.length):zaM (a ++ l) n ys=a ++ ys:=by
 have:=zeq a l ys n 0 h
 rw [Nat.add_zero] at this
 rw [this]
 unfold zaM
 rw [List.take_zero,Nat.zero_add,← h2,List.drop_length]
 simp
theorem zcz {α:Type} (a b:List α) (x:α):(x :: (a ++ b)).Perm (a ++ x :: b):=List.perm_middle.symm
theorem sp3 {α:Type} (d0:List α) (n:Nat) (a b c d e x:α) (h:d0.length=n * 5):List.take (n * 5 + 3) (d0 ++ [a,b,c,d,e]) ++ [x] ++ List.drop (n * 5 + 3 + 1) (d0 ++ [a,b,c,d,e])=d0 ++ [a,b,c,x,e]:=zeq d0 [a,b,c,d,e] [x] (n * 5) 3 h
theorem sp2 {α:Type} (d0:List α) (n:Nat) (a b c d e x:α) (h:d0.length=n * 5):List.take (n * 5 + 2) (d0 ++ [a,b,c,d,e]) ++ [x] ++ List.drop (n * 5 + 2 + 1) (d0 ++ [a,b,c,d,e])=d0 ++ [a,b,x,d,e]:=zeq d0 [a,b,c,d,e] [x] (n * 5) 2 h
theorem spE {α:Type} (l:List α) (n:Nat) (a b c d e f g i:α) (h:l.length=n * 4):List.take (n * 4) (l ++ [a,b,c,d]) ++ [e,f,g,i] ++ List.drop (n * 4 + 4) (l ++ [a,b,c,d])=l ++ [e,f,g,i]:=zjm l [a,b,c,d] [e,f,g,i] (n * 4) h rfl
theorem own_move {L0 Lk Lm:List (Nat × OB)} {a b q x:Nat × OB} {o:List OB} (h:zau (x :: q :: a :: b :: (Lk ++ ([] ++ Lm) ++ L0)) o):zau (a :: b :: (Lk ++ ([x] ++ Lm) ++ L0)) o:=by
 have h1:=h.sub (L':=x :: a :: b :: (Lk ++ ([] ++ Lm) ++ L0)) ((List.sublist_cons_self _ _).cons_cons x)
 refine h1.perm ?_
 have:=zcz (a :: b :: Lk) (Lm ++ L0) x
 simpa using this
section
variable [Tabs Tryz.prog] {objs:List OB} {K:List OB → AV → Prop}
theorem add_k {M:List (Nat × OB)} {p:Nat} {σ:Ms} (hP:PrO M p σ objs) (v:JV) (hl:∀ f ∈ σ.stk,f.its.length ≤ 10000000) (hd:σ.stk.length ≤ 64) (hk:∀ o,PrO M p (zc8 σ v) o → K o (.tup [])):zad Tryz.prog 63 [.p p 0,.agg (zap v)] objs K:=by
 obtain ⟨c0,c1,c2,c3,hv⟩:∃ c0 c1 c2 c3,zap v=[c0,c1,c2,c3]:=⟨_,_,_,_,zaN v⟩
 obtain ⟨σst,stk,nodes,root⟩:=σ
 cases stk with
 | nil =>
  obtain ⟨X,r0,r1,r2,r3,L,hO,hX,hpl,hr⟩:=hP
  have hcp:zar [c0,c1,c2,c3]=true:=by rw [← hv]; exact zfQ v
  have hO1:=hO.new (.box 26 (zap v))
  refine zbt is_jsondoc_parser_add fun C _ => ?_
  rw [c_jsondoc_parser_add]
  refine zab fun Y hY => ?_
  simp only [sxZ,z6,z7,z8,j4,j5,j6,j7,j8,j9,x0,x3,x4,x5,x6,x7,reduceCtorEq,↓reduceIte]
  generalize objs ++ [OB.box 26 (zap v)]=o1 at hO1 ⊢
  have e0:=hO1.get (i:=objs.length) (x:=.box 26 (zap v)) (by simp)
  have e1:=hO1.get (i:=p) (x:=prB σst X nodes r0 r1 r2 r3) (by simp)
  have hO2:=(hO1.sub (List.sublist_cons_self _ _)).set (A:=[]) (prB 6 X nodes c0 c1 c2 c3)
  rw [hv] at e0
  subst hY
  have hXn:X=.nil ∨ ∃ rr g cs L',X=.orow rr g ∧ L=(rr,.orow 90 5 g 0 cs) :: L':=by
   rcases hX with ⟨_,h,_⟩ | ⟨rr,g,cs,L',h1,_,h2⟩
   ·exact .inl h
   ·exact .inr ⟨rr,g,cs,L',h1,h2⟩
  have fin:PrO M p (zc8 ⟨σst,[],nodes,root⟩ v) (o1.set p (prB 6 X nodes c0 c1 c2 c3)):=⟨X,c0,c1,c2,c3,L,hO2,hX,hcp,fun _ => hv.symm⟩
  have hfin:=hk _ fin
  unfold prB at e1 hfin
  have hlt:=hO1.lt (i:=p) (x:=prB σst X nodes r0 r1 r2 r3) (by simp)
  have lse:∀ x,(o1.set p x)[p]? = some x:=fun x => List.getElem?_set_self hlt
  rcases hXn with rfl | ⟨rr,g,cs,L',rfl,rfl⟩
  ·refine zab fun Y hY => ?_
   simp only [sxZ,z6,z7,z8,j4,j5,j6,j7,j8,j9,x0,x3,x4,x5,x6,x7,reduceCtorEq,↓reduceIte,e0,e1,lse,List.set_set]
   exact hfin
  ·have e2:=hO1.get (i:=rr) (x:=.orow 90 5 g 0 cs) (by simp)
   refine zab fun Y hY => ?_
   simp only [sxZ,z6,z7,z8,j4,j5,j6,j7,j8,j9,x0,x3,x4,x5,x6,x7,reduceCtorEq,↓reduceIte,e0,e1,e2,lse,List.set_set,Int.cast_ofNat_Int]
   exact hfin
 | cons f r =>
  obtain ⟨rr,g,r0,r1,r2,r3,kx,ix,mx,d0,L0,Lk,Li,Lm,hO,h1,h2,h3,h4,h5,h6⟩:=zgE hP rfl
  have hfl:=hl f (by simp)
  have hrl:r.length ≤ 63:=by simpa using hd
  have hO1:=hO.new (.box 26 (zap v))
  refine zbt is_jsondoc_parser_add fun C _ => ?_
  rw [c_jsondoc_parser_add]
  refine zab fun Y hY => ?_
  simp only [sxZ,z6,z7,z8,j4,j5,j6,j7,j8,j9,x0,x3,x4,x5,x6,x7,reduceCtorEq,↓reduceIte]
  generalize objs ++ [OB.box 26 (zap v)]=o1 at hO1 ⊢
  have e0:=hO1.get (i:=objs.length) (x:=.box 26 (zap v)) (by simp)
  have e1:=hO1.get (i:=p) (x:=prB σst (.orow rr g) nodes r0 r1 r2 r3) (by simp)
  have e2:=hO1.get (i:=rr) (x:=.orow 90 5 g (r.length + 1) (d0 ++ [.i .i64 (kdF f),.s [],kx,ix,mx])) (by simp)
  have hne:((r.length + 1:Nat):Int) ≠ 0:=by omega
  rw [hv] at e0
  subst hY
  refine zab fun Y hY => ?_
  have e1':=e1
  unfold prB at e1'
  simp only [sxZ,z6,z7,z8,j4,j5,j6,j7,j8,j9,x0,x3,x4,x5,x6,x7,reduceCtorEq,↓reduceIte,e0,e1',e2,hne]
  subst hY
  refine zab fun Y hY => ?_
  simp only [sxZ,z6,z7,z8,j4,j5,j6,j7,j8,j9,x0,x3,x4,x5,x6,x7,reduceCtorEq,↓reduceIte]
  refine zak (zj4 e1 e2 (by omega) ?_)
  simp only [sxZ,z6,z7,z8,j4,j5,j6,j7,j8,j9,x0,x3,x4,x5,x6,x7,reduceCtorEq,↓reduceIte]
  subst hY
  refine zab fun Y hY => ?_
  have k3:=c5_at d0 [.i .i64 (kdF f),.s [],kx,ix,mx] r.length 3 h5
  rcases h2 with ⟨z1,z2,rfl,rfl⟩ | ⟨bi,gi,rfl,rfl⟩
  ·have f0:f.its=[]:=List.eq_nil_of_length_eq_zero z1
   have hlt:=hO1.lt (i:=rr) (x:=.orow 90 5 g (r.length + 1) (d0 ++ [.i .i64 (kdF f),.s [],kx,.nil,mx])) (by simp)
   have hne2:¬ o1.length=rr:=by omega
   have gx:∀ x,(o1 ++ [x])[rr]? = some (.orow 90 5 g (r.length + 1) (d0 ++ [.i .i64 (kdF f),.s [],kx,.nil,mx])):=fun x => by rw [List.getElem?_append_left hlt]; exact e2
   simp only [sxZ,z6,z7,z8,j4,j5,j6,j7,j8,j9,x0,x3,x4,x5,x6,x7,reduceCtorEq,↓reduceIte,e0,e2,Nat.add_zero,k3,gn1,sn1,gx,hne2]
   rw [sp3 _ _ _ _ _ _ _ _ h5]
   refine ⟨by decide,by omega,?_⟩
   have hN:=hO1.new (.orow 26 4 0 1 [c0,c1,c2,c3])
   have hR:=hN.set (A:=[(o1.length,.orow 26 4 0 1 [c0,c1,c2,c3]),(objs.length,.box 26 (zap v)),(p,prB σst (.orow rr g) nodes r0 r1 r2 r3)]) (.orow 90 5 g (r.length + 1) (d0 ++ [.i .i64 (kdF f),.s [],kx,.orow o1.length 0,mx]))
   have hF:=hR.set (A:=[(o1.length,.orow 26 4 0 1 [c0,c1,c2,c3]),(objs.length,.box 26 (zap v))]) (prB 5 (.orow rr g) nodes r0 r1 r2 r3)
   have e5:=hR.get (i:=p) (x:=prB σst (.orow rr g) nodes r0 r1 r2 r3) (by simp)
   have hS:SlO 26 4 (f.its ++ [v]).length (zaj (f.its ++ [v])) (.orow o1.length 0) [(o1.length,.orow 26 4 0 1 [c0,c1,c2,c3])]:=.inr ⟨_,_,rfl,by rw [f0,List.nil_append,zaJ,zaB,hv]; rfl⟩
   have hfin:=hk _ (zjx (root:=root) (r:=r) (f:=⟨f.obj,f.ks,f.its ++ [v]⟩) (own_move hF) h1 hS h3 h4 h6 (by decide))
   unfold prB at e5 hfin
   generalize (o1 ++ [OB.orow 26 4 0 1 [c0,c1,c2,c3]]).set rr _=o2 at e5 hfin ⊢
   subst hY
   simp only [sxZ,z6,z7,z8,j4,j5,j6,j7,j8,j9,x0,x3,x4,x5,x6,x7,reduceCtorEq,↓reduceIte,e5]
   exact hfin
  ·have e4:=hO1.get (i:=bi) (x:=.orow 26 4 gi f.its.length (zaj f.its)) (by simp)
   have hlt:=hO1.lt (i:=rr) (x:=.orow 90 5 g (r.length + 1) (d0 ++ [.i .i64 (kdF f),.s [],kx,.orow bi gi,mx])) (by simp)
   have hlt4:=hO1.lt (i:=bi) (x:=.orow 26 4 gi f.its.length (zaj f.its)) (by simp)
   have hne2:¬ bi=rr:=by
    intro h
    have:=hO1.1
    simp only [List.map_cons,List.map_append,List.nodup_cons] at this
    exact this.2.2.1 (by simp [h])
   have hne3:¬ rr=bi:=fun h => hne2 h.symm
   have gs:∀ x,(o1.set bi x)[bi]? = some x:=fun x => List.getElem?_set_self hlt4
   have gx:∀ x,(o1.set bi x)[rr]? = some (.orow 90 5 g (r.length + 1) (d0 ++ [.i .i64 (kdF f),.s [],kx,.orow bi gi,mx])):=fun x => by rw [List.getElem?_set_ne hne2]; exact e2
   simp only [sxZ,z6,z7,z8,j4,j5,j6,j7,j8,j9,x0,x3,x4,x5,x6,x7,reduceCtorEq,↓reduceIte,e0,e2,e4,Nat.add_zero,k3,gs,gx,hne2,List.set_set]
   have hjl:=zby f.its
   rw [sp3 _ _ _ _ _ _ _ _ h5,spE _ _ _ _ _ _ _ _ _ _ hjl]
   refine ⟨⟨by omega,by omega⟩,⟨by omega,by omega⟩,by omega,by omega,?_⟩
   have hO1':zau (((objs.length,.box 26 (zap v)) :: (p,prB σst (.orow rr g) nodes r0 r1 r2 r3) :: (rr,.orow 90 5 g (r.length + 1) (d0 ++ [.i .i64 (kdF f),.s [],kx,.orow bi gi,mx])) :: Lk) ++ (bi,.orow 26 4 gi f.its.length (zaj f.its)) :: (Lm ++ L0)) o1:=hO1.perm (List.Perm.of_eq (by simp))
   have hN:=hO1'.set (.orow 26 4 (gi + 1) (f.its.length + 1) (zaj f.its ++ [c0,c1,c2,c3]))
   have hR:=hN.set (A:=[(objs.length,.box 26 (zap v)),(p,prB σst (.orow rr g) nodes r0 r1 r2 r3)]) (.orow 90 5 g (r.length + 1) (d0 ++ [.i .i64 (kdF f),.s [],kx,.orow bi (gi + 1),mx]))
   have hF:=(hR.set (A:=[(objs.length,.box 26 (zap v))]) (prB 5 (.orow rr g) nodes r0 r1 r2 r3)).sub (List.sublist_cons_self _ _)
   have e5:=hR.get (i:=p) (x:=prB σst (.orow rr g) nodes r0 r1 r2 r3) (by simp)
   have hS:SlO 26 4 (f.its ++ [v]).length (zaj (f.its ++ [v])) (.orow bi (gi + 1)) [(bi,.orow 26 4 (gi + 1) (f.its.length + 1) (zaj f.its ++ [c0,c1,c2,c3]))]:=.inr ⟨_,_,rfl,by rw [zdh,zaJ,zaB,hv,List.length_append]; rfl⟩
   have hF':zau ((p,prB 5 (.orow rr g) nodes r0 r1 r2 r3) :: (rr,.orow 90 5 g (r.length + 1) (d0 ++ [.i .i64 (kdF f),.s [],kx,.orow bi (gi + 1),mx])) :: (Lk ++ ([(bi,.orow 26 4 (gi + 1) (f.its.length + 1) (zaj f.its ++ [c0,c1,c2,c3]))] ++ Lm) ++ L0)) _:=hF.perm (List.Perm.of_eq (by simp))
   have hfin:=hk _ (zjx (root:=root) (r:=r) (f:=⟨f.obj,f.ks,f.its ++ [v]⟩) hF' h1 hS h3 h4 h6 (by decide))
   unfold prB at e5 hfin
   generalize (o1.set bi (OB.orow 26 4 (gi + 1) (f.its.length + 1) (zaj f.its ++ [c0,c1,c2,c3]))).set rr _=o2 at e5 hfin ⊢
   subst hY
   simp only [sxZ,z6,z7,z8,j4,j5,j6,j7,j8,j9,x0,x3,x4,x5,x6,x7,reduceCtorEq,↓reduceIte,e5]
   exact hfin
end
end
section
attribute [local irreducible] run
theorem zau.set0 {α:Type} {B:List (Nat × α)} {o:List α} {i:Nat} {x:α} (y:α) (h:zau ((i,x) :: B) o):zau ((i,y) :: B) (o.set i y):=zau.set (A:=[]) y h
theorem zau.set1 {α:Type} {a:Nat × α} {B:List (Nat × α)} {o:List α} {i:Nat} {x:α} (y:α) (h:zau (a :: (i,x) :: B) o):zau (a :: (i,y) :: B) (o.set i y):=zau.set (A:=[a]) y h
theorem zau.set2 {α:Type} {a b:Nat × α} {B:List (Nat × α)} {o:List α} {i:Nat} {x:α} (y:α) (h:zau (a :: b :: (i,x) :: B) o):zau (a :: b :: (i,y) :: B) (o.set i y):=zau.set (A:=[a,b]) y h
theorem zau.set3 {α:Type} {a b c:Nat × α} {B:List (Nat × α)} {o:List α} {i:Nat} {x:α} (y:α) (h:zau (a :: b :: c :: (i,x) :: B) o):zau (a :: b :: c :: (i,y) :: B) (o.set i y):=zau.set (A:=[a,b,c]) y h
theorem zau.set4 {α:Type} {a b c d:Nat × α} {B:List (Nat × α)} {o:List α} {i:Nat} {x:α} (y:α) (h:zau (a :: b :: c :: d :: (i,x) :: B) o):zau (a :: b :: c :: d :: (i,y) :: B) (o.set i y):=zau.set (A:=[a,b,c,d]) y h
theorem own_key1 {α:Type} {n m q p r:Nat × α} {A B:List (Nat × α)} {o:List α} (h:zau (n :: m :: q :: p :: r :: (A ++ B)) o):zau (p :: r :: ([n] ++ (A ++ [m]) ++ B)) o:=by
 have h1:=h.sub (L':=n :: m :: p :: r :: (A ++ B)) (((List.sublist_cons_self _ _).cons_cons m).cons_cons n)
 have h2:=h1.perm ((zcz (p :: r :: A) B m).cons n)
 have h3:=h2.perm (zcz [p,r] (A ++ m :: B) n)
 simpa using h3
theorem own_key2 {α:Type} {n m q p r:Nat × α} {A B:List (Nat × α)} {o:List α} (h:zau (m :: q :: p :: r :: n :: (A ++ B)) o):zau (p :: r :: ([n] ++ (A ++ [m]) ++ B)) o:=by
 have h1:=h.sub (L':=m :: p :: r :: n :: (A ++ B)) ((List.sublist_cons_self _ _).cons_cons m)
 have h2:=h1.perm (zcz (p :: r :: n :: A) B m)
 simpa using h2
theorem zau.ne {α:Type} {a b:Nat × α} {A B C:List (Nat × α)} {o:List α} (h:zau (A ++ a :: (B ++ b :: C)) o):a.1 ≠ b.1:=by
 have:=h.1
 simp only [List.map_append,List.map_cons] at this
 rw [List.nodup_append] at this
 obtain ⟨_,h2,_⟩:=this
 rw [List.nodup_cons] at h2
 intro e
 exact h2.1 (by rw [e]; simp)
theorem zgG {α:Type} {n c q p:Nat × α} {X:List (Nat × α)} {o:List α} (h:zau (n :: c :: q :: p :: X) o):zau (p :: n :: X) o :=
 (h.sub (L':=n :: p :: X) (((List.sublist_cons_self _ _).trans (List.sublist_cons_self _ _)).cons_cons n)).perm (List.Perm.swap _ _ _)
theorem c5_take {α:Type} (d0:List α) (n:Nat) (a b c d e:α) (h:d0.length=n * 5):List.take 4 (List.drop (n * 5) (d0 ++ [a,b,c,d,e]))=[a,b,c,d]:=by
 rw [List.drop_left' h]; rfl
theorem zkd (E sz:Nat):SlO E sz 0 [] .nil []:=.inl ⟨rfl,rfl,rfl,rfl⟩
theorem zkW {M:List (Nat × OB)} {p:Nat} {st:Int} {stk:List Fr} {nodes:Nat} {root:JV} {b:Bool} {o:List OB} {rr g:Nat} {r0 r1 r2 r3 mx:AV} {kk:Int} {cs:List AV} {L' Lm:List (Nat × OB)} {st':Int}
  (hO:zau ((p,prB st' (.orow rr g) nodes r0 r1 r2 r3) :: (rr,.orow 90 5 g (stk.length + 1) (cs ++ [.i .i64 kk,.s [],.nil,.nil,mx])) :: (Lm ++ L')) o) (hkk:(if b=true then (7:Int) else 6)=kk)
  (h3:MpO ⟨b,[],[]⟩ mx Lm) (h4:StkO M stk cs L') (hpl:zar [r0,r1,r2,r3]=true) (he:st'=st) (h5:¬ (st=6 ∨ st=7)):PrO M p ⟨st,⟨b,[],[]⟩ :: stk,nodes,root⟩ o:=by
 subst he hkk
 refine zjx (Lk:=[]) (Li:=[]) (Lm:=Lm) (L0:=L') (r:=stk) (f:=⟨b,[],[]⟩) hO (zkd _ _) ?_ h3 h4 hpl h5
 show SlO _ _ 0 (zaj []) .nil []
 rw [zaB]
 exact zkd _ _
theorem zlj {k:List UInt8}:∀ {l:List (List UInt8)},k ∈ l → zhb k (l.map fun k => (k,AV.b true))=some (.b true)
 | a :: l,h => by
  rw [List.map_cons]
  unfold zhb
  by_cases c:a=k
  ·simp [c]
  ·have h':k ∈ l:=(List.mem_cons.1 h).resolve_left (fun e => c e.symm)
   simp [c,zlj h']
theorem zis {k:List UInt8}:∀ {l:List (List UInt8)},¬ k ∈ l → zhb k (l.map fun k => (k,AV.b true))=none
 | [],h => rfl
 | a :: l,h => by
  rw [List.map_cons]
  unfold zhb
  simp only [List.mem_cons,not_or] at h
  have c:¬ a=k:=fun e => h.1 e.symm
  simp [c,zis h.2]
theorem zir {k:List UInt8}:∀ {l:List (List UInt8)},¬ k ∈ l → zha k (.b true) (l.map fun k => (k,AV.b true))=(l ++ [k]).map fun k => (k,AV.b true)
 | [],h => rfl
 | a :: l,h => by
  rw [List.map_cons]
  unfold zha
  simp only [List.mem_cons,not_or] at h
  have c:¬ a=k:=fun e => h.1 e.symm
  simp [c,zir h.2]
def zck (L:List (Nat × OB)):Prop:=∀ z ∈ L,∀ b g n xs,zen b g n xs z.2=z.2
theorem zcr {A B:List (Nat × OB)} (h:zck A) (k:zck B):zck (A ++ B):=fun z hz => (List.mem_append.1 hz).elim (h z) (k z)
theorem zer {E sz n:Nat} {xs:List AV} {X:AV} {L:List (Nat × OB)} (h:SlO E sz n xs X L):zck L:=by
 rcases h with ⟨_,_,_,rfl⟩ | ⟨b,g,_,rfl⟩
 ·intro z hz; cases hz
 ·intro z hz b' g' n' xs'
  rw [List.mem_singleton] at hz; subst hz; rfl
theorem zeD {f:Fr} {X:AV} {L:List (Nat × OB)} (h:MpO f X L):zck L:=by
 rcases h with ⟨_,_,rfl⟩ | ⟨_,b,_,rfl⟩
 ·intro z hz; cases hz
 ·intro z hz b' g' n' xs'
  rw [List.mem_singleton] at hz; subst hz; rfl
theorem zep {M:List (Nat × OB)} (hM:zck M):∀ {S:List Fr} {cs:List AV} {L:List (Nat × OB)},StkO M S cs L → zck L
 | [],cs,L,h => by rw [h.2]; exact hM
 | f :: r,cs,L,h => by
  obtain ⟨c0,c1,L0,L1,⟨_,_,_,_,_,_,_,h1,h2,h3,rfl⟩,h4,_,rfl⟩:=h
  exact zcr (zcr (zer h1) (zcr (zer h2) (zeD h3))) (zep hM h4)
theorem sub_i {b g n:Nat} {xs:List AV} (k:IntKind) (m:Int):zbw b g n xs (.i k m)=.i k m:=rfl
theorem sub_s {b g n:Nat} {xs:List AV} (l:List UInt8):zbw b g n xs (.s l)=.s l:=rfl
theorem sub_p {b g n:Nat} {xs:List AV} (q j:Nat):zbw b g n xs (.p q j)=.p q j:=rfl
theorem sub_row {b g n:Nat} {xs ys:List AV} (m:Nat):zbw b g n xs (.row m ys)=.row m ys:=rfl
theorem sub_self {b g n:Nat} {xs:List AV}:zbw b g n xs (.orow b g)=.row n xs:=by simp [zbw]
theorem sub_ne {b g n c h:Nat} {xs:List AV} (hc:¬ c=b):zbw b g n xs (.orow c h)=.orow c h:=by simp [zbw,hc]
theorem zj8 {st:Int} {rr g' nodes b g n:Nat} {xs:List AV} {r0 r1 r2 r3:AV} (hne:¬ rr=b) (hpl:zar [r0,r1,r2,r3]=true):zen b g n xs (prB st (.orow rr g') nodes r0 r1 r2 r3)=prB st (.orow rr g') nodes r0 r1 r2 r3:=by
 simp only [zar,Bool.and_eq_true] at hpl
 obtain ⟨p0,p1,p2,p3,_⟩:=hpl
 simp only [prB,zen,List.map_cons,List.map_nil,zcm p0,zcm p1,zcm p2,zcm p3,sub_i,sub_ne hne]
section
variable {P:Program} [Tabs P] {f:FuncId} {o:List OB} {K:List OB → AV → Prop} {p rr g st' nodes E sz n E' g' n' sz':Nat} {st k:Int} {txt:List UInt8} {xs cs ys:List AV} {X Y r0 r1 r2 r3:AV} {Lx L:List (Nat × OB)}
theorem weak4 {a b x y:AV} (hx:∀ G I v,Den G I x v → Den G I y v) (hc:zad P f [.p p 0,.agg [a,b,y,X]] o K):zad P f [.p p 0,.agg [a,b,x,X]] o K:=by
 refine jweak (fun G I ys h => ?_) hc
 simp only [zag,Den] at h ⊢
 obtain ⟨y0,l0,rfl,h0,y1,l1,rfl,⟨zs,rfl,⟨z0,m0,rfl,q0,z1,m1,rfl,q1,z2,m2,rfl,q2,q3⟩,hz⟩,h2⟩:=h
 exact ⟨_,_,rfl,h0,_,_,rfl,⟨_,rfl,⟨_,_,rfl,q0,_,_,rfl,q1,_,_,rfl,hx _ _ _ q2,q3⟩,hz⟩,h2⟩
theorem weak4' {a b x y:AV} (hx:∀ G I v,Den G I x v → Den G I y v) (hc:zad P f [.p p 0,.agg [a,b,X,y]] o K):zad P f [.p p 0,.agg [a,b,X,x]] o K:=by
 refine jweak (fun G I ys h => ?_) hc
 simp only [zag,Den] at h ⊢
 obtain ⟨y0,l0,rfl,h0,y1,l1,rfl,⟨zs,rfl,⟨z0,m0,rfl,q0,z1,m1,rfl,q1,z2,m2,rfl,q2,z3,m3,rfl,q3,q4⟩,hz⟩,h2⟩:=h
 exact ⟨_,_,rfl,h0,_,_,rfl,⟨_,rfl,⟨_,_,rfl,q0,_,_,rfl,q1,_,_,rfl,q2,_,_,rfl,hx _ _ _ q3,q4⟩,hz⟩,h2⟩
theorem pub_keys (h:SlO E sz n xs X Lx) (hO:zau ((p,prB st (.orow rr g) nodes r0 r1 r2 r3) :: (rr,.orow E' sz' g n' cs) :: (Lx ++ L)) o) (hL:zck L) (hpl:zar [r0,r1,r2,r3]=true) 
  (hY2:∀ b,Lx.map (·.1)=[b] → ∀ g n xs,zbw b g n xs Y=Y) (hk:∀ o',zau ((p,prB st (.orow rr g) nodes r0 r1 r2 r3) :: (rr,.orow E' sz' g n' cs) :: L) o' → zad P f [.p p 0,.agg [.i .i64 k,.s txt,.row n xs,Y]] o' K) :
  zad P f [.p p 0,.agg [.i .i64 k,.s txt,X,Y]] o K:=by
 rcases h with ⟨rfl,rfl,rfl,rfl⟩ | ⟨b,gb,rfl,rfl⟩
 ·exact weak4 (fun G I v hv => zdD hv) (hk _ hO)
 ·have hb:=hO.get (i:=b) (x:=.orow E sz gb n xs) (by simp)
  have hne:¬ rr=b:=hO.ne (A:=[_]) (B:=[]) (C:=L)
  refine zeO hb ?_
  have hp:zau ((b,.orow E sz gb n xs) :: (p,prB st (.orow rr g) nodes r0 r1 r2 r3) :: (rr,.orow E' sz' g n' cs) :: L) o:=hO.perm (zcz [_,_] L _).symm
  have e:=hk (zkV o b gb n xs) (hp.mapset (zen b gb n xs) (fun z hz => by
   rcases List.mem_cons.1 hz with rfl | hz
   ·exact zj8 hne hpl
   rcases List.mem_cons.1 hz with rfl | hz
   ·rfl
   ·exact hL z hz _ _ _ _))
  simp only [List.map_cons,List.map_nil,zj9,sub_i,sub_s,sub_p,sub_self,hY2 b rfl]
  exact e
theorem zkU {m:Nat} (h:SlO E sz n xs X Lx) (hO:zau ((p,prB st (.orow rr g) nodes r0 r1 r2 r3) :: (rr,.orow E' sz' g n' cs) :: (Lx ++ L)) o) (hL:zck L) (hpl:zar [r0,r1,r2,r3]=true)
  (hk:∀ o',zau ((p,prB st (.orow rr g) nodes r0 r1 r2 r3) :: (rr,.orow E' sz' g n' cs) :: L) o' → zad P f [.p p 0,.agg [.i .i64 k,.s txt,.row m ys,.row n xs]] o' K) :
  zad P f [.p p 0,.agg [.i .i64 k,.s txt,.row m ys,X]] o K:=by
 rcases h with ⟨rfl,rfl,rfl,rfl⟩ | ⟨b,gb,rfl,rfl⟩
 ·exact weak4' (fun G I v hv => zdD hv) (hk _ hO)
 ·have hb:=hO.get (i:=b) (x:=.orow E sz gb n xs) (by simp)
  have hne:¬ rr=b:=hO.ne (A:=[_]) (B:=[]) (C:=L)
  refine zeO hb ?_
  have hp:zau ((b,.orow E sz gb n xs) :: (p,prB st (.orow rr g) nodes r0 r1 r2 r3) :: (rr,.orow E' sz' g n' cs) :: L) o:=hO.perm (zcz [_,_] L _).symm
  have e:=hk (zkV o b gb n xs) (hp.mapset (zen b gb n xs) (fun z hz => by
   rcases List.mem_cons.1 hz with rfl | hz
   ·exact zj8 hne hpl
   rcases List.mem_cons.1 hz with rfl | hz
   ·rfl
   ·exact hL z hz _ _ _ _))
  simp only [List.map_cons,List.map_nil,zj9,sub_i,sub_s,sub_p,sub_self,sub_row]
  exact e
end
section
variable [Tabs Tryz.prog] {objs:List OB} {K:List OB → AV → Prop}
theorem open_k {M:List (Nat × OB)} {p:Nat} {σ:Ms} (hP:PrO M p σ objs) (b:Bool) (hd:σ.stk.length ≤ 64) (hk:∀ o,PrO M p ⟨if b=true then 3 else 1,⟨b,[],[]⟩ :: σ.stk,σ.nodes,σ.root⟩ o → K o (.tup [])) :
  zad Tryz.prog 62 [.p p 0,.agg [.i .i64 (if b=true then 7 else 6),.s [],.nil,.nil]] objs K:=by
 obtain ⟨σst,stk,nodes,root⟩:=σ
 obtain ⟨X,r0,r1,r2,r3,L,hO,hX,hpl,hr⟩:=hP
 simp only at hO hX hd hk
 generalize hkk:(if b=true then (7:Int) else 6)=kk
 generalize hss:(if b=true then (3:Int) else 1)=ss at hk
 have hO1:=hO.new (.box 26 [.i .i64 kk,.s [],.nil,.nil])
 refine zbt is_jsondoc_parser_open fun C _ => ?_
 rw [c_jsondoc_parser_open]
 refine zab fun Y hY => ?_
 simp only [sxZ,z6,z7,z8,j4,j5,j6,j7,j8,j9,x0,x3,x4,x5,x6,x7,reduceCtorEq,↓reduceIte]
 generalize objs ++ [OB.box 26 [.i .i64 kk,.s [],.nil,.nil]]=o1 at hO1 ⊢
 have e0:=hO1.get (i:=objs.length) (x:=.box 26 [.i .i64 kk,.s [],.nil,.nil]) (by simp)
 have hO2:=hO1.new (.box 90 [.i .i64 kk,.s [],.nil,.nil,.o (.map none)])
 subst hY
 refine zab fun Y hY => ?_
 simp only [sxZ,z6,z7,z8,j4,j5,j6,j7,j8,j9,x0,x3,x4,x5,x6,x7,reduceCtorEq,↓reduceIte,e0,gn1,sn1]
 generalize o1 ++ [OB.box 90 [.i .i64 kk,.s [],.nil,.nil,.o (.map none)]]=o2 at hO2 ⊢
 have hO3:=hO2.set2 (prB 1 X nodes r0 r1 r2 r3)
 have e1:=hO2.get (i:=p) (x:=prB σst X nodes r0 r1 r2 r3) (by simp)
 unfold prB at e1
 subst hY
 refine zab fun Y hY => ?_
 simp only [sxZ,z6,z7,z8,j4,j5,j6,j7,j8,j9,x0,x3,x4,x5,x6,x7,reduceCtorEq,↓reduceIte,e1]
 have fold1:OB.box 49 [.i .i64 1,X,.i .i64 (nodes:Int),r0,r1,r2,r3]=prB 1 X nodes r0 r1 r2 r3:=rfl
 rw [fold1]
 generalize o2.set p (prB 1 X nodes r0 r1 r2 r3)=o3 at hO3 ⊢
 subst hY
 refine zab fun Y hY => ?_
 have last:∀ (o4:List OB) (mx:AV) (Lm:List (Nat × OB)) (tm:List AV),zau ((o1.length,.box 90 [.i .i64 kk,.s [],.nil,.nil,mx]) :: (objs.length,.box 26 [.i .i64 kk,.s [],.nil,.nil]) :: (p,prB ss X nodes r0 r1 r2 r3) :: (Lm ++ L)) o4 → MpO ⟨b,[],[]⟩ mx Lm → tm.length=28 → tm[0]? = some (.p p 0) → tm[4]? = some (.p o1.length 0) → run Tryz.prog C [.code Y] o4 tm (endI [] K):=by
  intro o4 mx Lm tm h4 hM hlen t0 t4
  have hst:¬ (ss=6 ∨ ss=7):=by rw [← hss]; cases b <;> decide
  have f0:=h4.get (i:=o1.length) (x:=.box 90 [.i .i64 kk,.s [],.nil,.nil,mx]) (by simp)
  have f1:=h4.get (i:=p) (x:=prB ss X nodes r0 r1 r2 r3) (by simp)
  have flt:=h4.lt (i:=p) (x:=prB ss X nodes r0 r1 r2 r3) (by simp)
  unfold prB at f1
  subst hY
  rcases hX with ⟨rfl,rfl,rfl⟩ | ⟨rr,g,cs,L',rfl,hS,rfl⟩
  ·have fx:∀ x,(o4 ++ [x])[p]? = some (.box 49 [.i .i64 ss,.nil,.i .i64 (nodes:Int),r0,r1,r2,r3]):=fun x => by rw [List.getElem?_append_left flt]; exact f1
   simp only [sxZ,z6,z7,z8,j4,j5,j6,j7,j8,j9,x0,x3,x4,x5,x6,x7,reduceCtorEq,↓reduceIte,List.getElem?_set,hlen,t0,t4,f0,f1,fx]
   have hN:=(h4.new (.orow 90 5 0 1 [.i .i64 kk,.s [],.nil,.nil,mx])).set3 (prB ss (.orow o4.length 0) nodes r0 r1 r2 r3)
   exact hk _ (zkW (stk:=[]) (cs:=[]) (zgG hN) hkk hM ⟨rfl,rfl⟩ hpl rfl hst)
  ·have f2:=h4.get (i:=rr) (x:=.orow 90 5 g stk.length cs) (by simp)
   have hne2:¬ rr=p:=by
    intro h
    have:=h4.1
    simp only [List.map_cons,List.map_append,List.nodup_cons] at this
    exact this.2.2.1 (by simp [h])
   have fx:∀ x,(o4.set rr x)[p]? = some (.box 49 [.i .i64 ss,.orow rr g,.i .i64 (nodes:Int),r0,r1,r2,r3]):=fun x => by rw [List.getElem?_set_ne hne2]; exact f1
   simp only [sxZ,z6,z7,z8,j4,j5,j6,j7,j8,j9,x0,x3,x4,x5,x6,x7,reduceCtorEq,↓reduceIte,List.getElem?_set,hlen,t0,t4,f0,f1,f2,fx]
   refine ⟨⟨by omega,by omega⟩,?_⟩
   have hN:=((h4.perm (zcz (_ :: _ :: _ :: Lm) L' _).symm).set0 (.orow 90 5 (g + 1) (stk.length + 1) (cs ++ [.i .i64 kk,.s [],.nil,.nil,mx]))).set3 (prB ss (.orow rr (g + 1)) nodes r0 r1 r2 r3)
   exact hk _ (zkW (zgG hN) hkk hM hS hpl rfl hst)
 have g0:=hO3.get (i:=objs.length) (x:=.box 26 [.i .i64 kk,.s [],.nil,.nil]) (by simp)
 have g1:=hO3.get (i:=p) (x:=prB 1 X nodes r0 r1 r2 r3) (by simp)
 have g2:=hO3.get (i:=o1.length) (x:=.box 90 [.i .i64 kk,.s [],.nil,.nil,.o (.map none)]) (by simp)
 cases b
 ·have k6:kk=6:=hkk.symm
  have s1:ss=1:=hss.symm
  have d7:¬ kk=7:=by rw [k6]; decide
  simp only [sxZ,z6,z7,z8,j4,j5,j6,j7,j8,j9,x0,x3,x4,x5,x6,x7,reduceCtorEq,↓reduceIte,g0,d7]
  exact last _ _ [] _ (by rw [s1]; exact hO3) (.inl ⟨rfl,rfl,rfl⟩) rfl rfl rfl
 ·have k7:kk=7:=hkk.symm
  have s3:ss=3:=hss.symm
  have glt:=hO3.lt (i:=o1.length) (x:=.box 90 [.i .i64 kk,.s [],.nil,.nil,.o (.map none)]) (by simp)
  have gx:∀ x,(o3 ++ [x])[o1.length]? = some (.box 90 [.i .i64 kk,.s [],.nil,.nil,.o (.map none)]):=fun x => by rw [List.getElem?_append_left glt]; exact g2
  have hM:=hO3.new (.mp [])
  have hC:=hM.set1 (.box 90 [.i .i64 kk,.s [],.nil,.nil,.m o3.length])
  have hPp:=hC.set3 (prB 3 X nodes r0 r1 r2 r3)
  have k1:=hC.get (i:=p) (x:=prB 1 X nodes r0 r1 r2 r3) (by simp)
  unfold prB at k1
  refine zab fun Z hZ => ?_
  simp only [sxZ,z6,z7,z8,j4,j5,j6,j7,j8,j9,x0,x3,x4,x5,x6,x7,reduceCtorEq,↓reduceIte,g0,k7]
  subst hZ
  simp only [sxZ,z6,z7,z8,j4,j5,j6,j7,j8,j9,x0,x3,x4,x5,x6,x7,reduceCtorEq,↓reduceIte,gx]
  generalize (o3 ++ [OB.mp []]).set o1.length _=o5 at hC hPp k1 ⊢
  simp only [sxZ,z6,z7,z8,j4,j5,j6,j7,j8,j9,x0,x3,x4,x5,x6,x7,reduceCtorEq,↓reduceIte,k1]
  exact last _ _ [(o3.length,.mp [])] _ (by rw [s3]; exact hPp.perm (zcz [_,_,_] L _)) (.inr ⟨rfl,_,rfl,rfl⟩) rfl rfl rfl
theorem zhO {M:List (Nat × OB)} (hNB:zck M) {p:Nat} {σ:Ms} {f:Fr} {r:List Fr} (hP:PrO M p σ objs) (hs:σ.stk=f :: r) (h67:¬ (σ.st=6 ∨ σ.st=7)) (hl:∀ f ∈ σ.stk,f.its.length ≤ 10000000) (hd:σ.stk.length ≤ 64) (hk:∀ o,PrO M p (zcW σ) o → K o (.tup [])) :
  zad Tryz.prog 37 [.p p 0] objs K:=by
 obtain ⟨σst,stk,nodes,root⟩:=σ
 simp only at hs
 subst hs
 obtain ⟨rr,g,r0,r1,r2,r3,kx,ix,mx,d0,L0,Lk,Li,Lm,hO,h1,h2,h3,h4,h5,hpl⟩:=zgE hP rfl
 have hrl:r.length ≤ 63:=by simpa using hd
 refine zbt is_jsondoc_parser_close fun C _ => ?_
 rw [c_jsondoc_parser_close]
 refine zab fun Y hY => ?_
 have e1:=hO.get (i:=p) (x:=prB σst (.orow rr g) nodes r0 r1 r2 r3) (by simp)
 have e2:=hO.get (i:=rr) (x:=.orow 90 5 g (r.length + 1) (d0 ++ [.i .i64 (kdF f),.s [],kx,ix,mx])) (by simp)
 simp only [sxZ,z6,z7,z8,j4,j5,j6,j7,j8,j9,x0,x3,x4,x5,x6,x7,reduceCtorEq,↓reduceIte]
 refine zak (zj4 e1 e2 (by omega) ?_)
 simp only [sxZ,z6,z7,z8,j4,j5,j6,j7,j8,j9,x0,x3,x4,x5,x6,x7,reduceCtorEq,↓reduceIte,e2,Nat.add_zero,gn1,sn1,c5_take _ _ _ _ _ _ _ h5]
 refine ⟨by omega,?_⟩
 have hO1:=hO.new (.box 26 [.i .i64 (kdF f),.s [],kx,ix])
 generalize objs ++ [OB.box 26 [.i .i64 (kdF f),.s [],kx,ix]]=o1 at hO1 ⊢
 have g1:=hO1.get (i:=p) (x:=prB σst (.orow rr g) nodes r0 r1 r2 r3) (by simp)
 have g2:=hO1.get (i:=rr) (x:=.orow 90 5 g (r.length + 1) (d0 ++ [.i .i64 (kdF f),.s [],kx,ix,mx])) (by simp)
 have hne:¬ rr=p:=fun h => hO.ne (A:=[]) (B:=[]) h.symm
 have gx:∀ x,(o1.set rr x)[p]? = some (prB σst (.orow rr g) nodes r0 r1 r2 r3):=fun x => by rw [List.getElem?_set_ne hne]; exact g1
 have hO2:=(hO1.set2 (.orow 90 5 (g + 1) r.length d0)).set1 (prB σst (.orow rr (g + 1)) nodes r0 r1 r2 r3)
 unfold prB at g1 gx
 subst hY
 refine zab fun Y hY => ?_
 simp only [sxZ,z6,z7,z8,j4,j5,j6,j7,j8,j9,x0,x3,x4,x5,x6,x7,reduceCtorEq,↓reduceIte,g1,g2,gx]
 rw [show ((r.length + 1:Nat):Int) - 1=(r.length:Int) by omega,Int.toNat_natCast,List.take_left' h5]
 refine ⟨⟨by omega,by omega⟩,⟨by omega,by omega⟩,?_⟩
 have fold1:OB.box 49 [.i .i64 σst,.orow rr (g + 1),.i .i64 (nodes:Int),r0,r1,r2,r3]=prB σst (.orow rr (g + 1)) nodes r0 r1 r2 r3:=rfl
 rw [fold1]
 generalize (o1.set rr (OB.orow 90 5 (g + 1) r.length d0)).set p (prB σst (.orow rr (g + 1)) nodes r0 r1 r2 r3)=o2 at hO2 ⊢
 have e0:=hO2.get (i:=objs.length) (x:=.box 26 [.i .i64 (kdF f),.s [],kx,ix]) (by simp)
 subst hY
 simp only [sxZ,z6,z7,z8,j4,j5,j6,j7,j8,j9,x0,x3,x4,x5,x6,x7,reduceCtorEq,↓reduceIte,e0]
 refine zak ?_
 have hO3:zau ((p,prB σst (.orow rr (g + 1)) nodes r0 r1 r2 r3) :: (rr,.orow 90 5 (g + 1) r.length d0) :: (Lk ++ ((Li ++ Lm) ++ L0))) o2:=(hO2.sub (List.sublist_cons_self _ _)).perm (List.Perm.of_eq (by simp))
 refine pub_keys h1 hO3 (zcr (zcr (zer h2) (zeD h3)) (zep hNB h4)) hpl (fun b hb g n xs => ?_) fun o3 hO4 => ?_
 ·rcases h2 with ⟨_,_,rfl,_⟩ | ⟨bi,gi,rfl,rfl⟩
  ·rfl
  ·rcases h1 with ⟨_,_,_,rfl⟩ | ⟨bk,gk,_,rfl⟩
   ·cases hb
   ·simp only [List.map_cons,List.map_nil,List.cons.injEq,and_true] at hb
    subst hb
    exact sub_ne (fun h => hO3.ne (A:=[_,_]) (B:=[]) h.symm)
 have hO5:zau ((p,prB σst (.orow rr (g + 1)) nodes r0 r1 r2 r3) :: (rr,.orow 90 5 (g + 1) r.length d0) :: (Li ++ (Lm ++ L0))) o3:=hO4.perm (List.Perm.of_eq (by simp))
 refine zkU h2 hO5 (zcr (zeD h3) (zep hNB h4)) hpl fun o4 hO6 => ?_
 have hO7:zau ((p,prB σst (.orow rr (g + 1)) nodes r0 r1 r2 r3) :: (rr,.orow 90 5 (g + 1) r.length d0) :: L0) o4:=hO6.sub (((List.sublist_append_right Lm L0).cons_cons _).cons_cons _)
 have hP':PrO M p ⟨σst,r,nodes,root⟩ o4:=⟨_,r0,r1,r2,r3,_,hO7,.inr ⟨rr,g + 1,d0,L0,rfl,h4,rfl⟩,hpl,fun h => absurd h h67⟩
 have ha:=add_k (K:=fun o x => PrO M p (zcW ⟨σst,f :: r,nodes,root⟩) o ∧ x=.tup []) hP' f.val (fun f' hf => hl f' (List.mem_cons_of_mem _ hf)) (by show r.length ≤ 64; omega) (fun o ho => ⟨ho,rfl⟩)
 rw [Fr.val,zap] at ha
 refine ha.mono ?_
 rintro o x ⟨ho,rfl⟩
 simp only [sxZ,z6,z7,z8,j4,j5,j6,j7,j8,j9,x0,x3,x4,x5,x6,x7,reduceCtorEq,↓reduceIte]
 exact hk o ho
theorem zjg {M:List (Nat × OB)} {p:Nat} {σ:Ms} {f:Fr} {r:List Fr} (hP:PrO M p σ objs) (hs:σ.stk=f :: r) (hob:f.obj=true) (hl:f.ks.length ≤ 10000000) (hd:σ.stk.length ≤ 64) (t:Tk) (ht:t.2.1.length ≤ 140737488351232)
  (h0:(zhA σ t).1=0 → ∀ o,PrO M p (zhA σ t).2 o → K o (.i .i64 0)) (h1:¬ (zhA σ t).1=0 → ∀ o σ',PrO M p σ' o → K o (.i .i64 (zhA σ t).1)) :
  zad Tryz.prog 38 [.p p 0,zcM t] objs K:=by
 obtain ⟨σst,stk,nodes,root⟩:=σ
 simp only at hs
 subst hs
 obtain ⟨rr,g,r0,r1,r2,r3,kx,ix,mx,d0,L0,Lk,Li,Lm,hO,q1,q2,q3,q4,q5,hpl⟩:=zgE hP rfl
 have hrl:r.length ≤ 63:=by simpa using hd
 obtain ⟨_,_,_⟩ | ⟨_,bm,rfl,rfl⟩:=q3
 ·rename_i h _ _; rw [hob] at h; cases h
 have hO1:=hO.new (.box 51 (tkC t))
 have hPA:=pr_app hP [.box 51 (tkC t)]
 refine zbt is_jsondoc_parser_addKey fun C _ => ?_
 rw [c_jsondoc_parser_addKey]
 refine zab fun Y hY => ?_
 simp only [zcM,sxZ,z6,z7,z8,j4,j5,j6,j7,j8,j9,x0,x3,x4,x5,x6,x7,reduceCtorEq,↓reduceIte]
 generalize objs ++ [OB.box 51 (tkC t)]=o1 at hO1 hPA ⊢
 have e0:=hO1.get (i:=objs.length) (x:=.box 51 (tkC t)) (by simp)
 have e1:=hO1.get (i:=p) (x:=prB σst (.orow rr g) nodes r0 r1 r2 r3) (by simp)
 have e2:=hO1.get (i:=rr) (x:=.orow 90 5 g (r.length + 1) (d0 ++ [.i .i64 (kdF f),.s [],kx,ix,.m bm])) (by simp)
 have e3:=hO1.get (i:=bm) (x:=.mp (f.ks.map fun k => (k,AV.b true))) (by simp)
 unfold tkC at e0
 unfold zhA at h0 h1
 simp only at h0 h1
 subst hY
 by_cases c1:t.1=3
 rotate_left
 ·rw [if_pos c1] at h1
  simp only [sxZ,z6,z7,z8,j4,j5,j6,j7,j8,j9,x0,x3,x4,x5,x6,x7,reduceCtorEq,↓reduceIte,e0,c1]
  exact h1 (by simp) _ _ hPA
 rw [if_neg (fun h => h c1)] at h0 h1
 refine zab fun Y hY => ?_
 simp only [sxZ,z6,z7,z8,j4,j5,j6,j7,j8,j9,x0,x3,x4,x5,x6,x7,reduceCtorEq,↓reduceIte,e0,c1]
 subst hY
 refine zab fun Y hY => ?_
 simp only [sxZ,z6,z7,z8,j4,j5,j6,j7,j8,j9,x0,x3,x4,x5,x6,x7,reduceCtorEq,↓reduceIte]
 refine zak (zj4 e1 e2 (by omega) ?_)
 simp only [sxZ,z6,z7,z8,j4,j5,j6,j7,j8,j9,x0,x3,x4,x5,x6,x7,reduceCtorEq,↓reduceIte]
 subst hY
 refine zab fun Y hY => ?_
 have k4:=c5_at d0 [.i .i64 (kdF f),.s [],kx,ix,.m bm] r.length 4 q5
 by_cases c2:t.2.1 ∈ f.ks
 ·rw [if_pos c2] at h1
  simp only [sxZ,z6,z7,z8,j4,j5,j6,j7,j8,j9,x0,x3,x4,x5,x6,x7,reduceCtorEq,↓reduceIte,e0,e2,e3,k4,zlj c2]
  exact h1 (by simp) _ _ hPA
 rw [if_neg c2] at h0
 simp only [sxZ,z6,z7,z8,j4,j5,j6,j7,j8,j9,x0,x3,x4,x5,x6,x7,reduceCtorEq,↓reduceIte,e0,e2,e3,k4,zis c2]
 have ltm:=hO1.lt (i:=bm) (x:=.mp (f.ks.map fun k => (k,AV.b true))) (by simp)
 subst hY
 refine zab fun Y hY => ?_
 simp only [sxZ,z6,z7,z8,j4,j5,j6,j7,j8,j9,x0,x3,x4,x5,x6,x7,reduceCtorEq,↓reduceIte,e0,e2,e3,k4,zir c2]
 have hO1':zau ((bm,.mp (f.ks.map fun k => (k,AV.b true))) :: (objs.length,.box 51 (tkC t)) :: (p,prB σst (.orow rr g) nodes r0 r1 r2 r3) :: (rr,.orow 90 5 g (r.length + 1) (d0 ++ [.i .i64 (kdF f),.s [],kx,ix,.m bm])) :: (Lk ++ Li ++ L0)) o1 :=
  (hO1.perm (List.Perm.of_eq (by simp))).perm (zcz (_ :: _ :: _ :: (Lk ++ Li)) L0 _).symm
 have hO2:=hO1'.set0 (.mp ((f.ks ++ [t.2.1]).map fun k => (k,AV.b true)))
 generalize o1.set bm (OB.mp ((f.ks ++ [t.2.1]).map fun k => (k,AV.b true)))=o2 at hO2 ⊢
 clear e0 e1 e2 e3
 have e0:=hO2.get (i:=objs.length) (x:=.box 51 (tkC t)) (by simp)
 have e2:=hO2.get (i:=rr) (x:=.orow 90 5 g (r.length + 1) (d0 ++ [.i .i64 (kdF f),.s [],kx,ix,.m bm])) (by simp)
 have k2:=c5_at d0 [.i .i64 (kdF f),.s [],kx,ix,.m bm] r.length 2 q5
 have ltr:=hO2.lt (i:=rr) (x:=.orow 90 5 g (r.length + 1) (d0 ++ [.i .i64 (kdF f),.s [],kx,ix,.m bm])) (by simp)
 unfold tkC at e0
 subst hY
 refine zab fun Y hY => ?_
 rcases q1 with ⟨z1,z2,rfl,rfl⟩ | ⟨bk,gk,rfl,rfl⟩
 ·have f0:f.ks=[]:=List.eq_nil_of_length_eq_zero z1
  have gx:∀ x,(o2 ++ [x])[rr]? = some (.orow 90 5 g (r.length + 1) (d0 ++ [.i .i64 (kdF f),.s [],.nil,ix,.m bm])):=fun x => by rw [List.getElem?_append_left ltr]; exact e2
  simp only [sxZ,z6,z7,z8,j4,j5,j6,j7,j8,j9,x0,x3,x4,x5,x6,x7,reduceCtorEq,↓reduceIte,e0,e2,Nat.add_zero,k2,gx]
  rw [sp2 _ _ _ _ _ _ _ _ q5]
  refine ⟨by omega,?_⟩
  have hN:=(hO2.new (.orow 9 1 0 1 [.s t.2.1])).set4 (.orow 90 5 g (r.length + 1) (d0 ++ [.i .i64 (kdF f),.s [],.orow o2.length 0,ix,.m bm]))
  have hF:=hN.set3 (prB 4 (.orow rr g) nodes r0 r1 r2 r3)
  have e5:=hN.get (i:=p) (x:=prB σst (.orow rr g) nodes r0 r1 r2 r3) (by simp)
  have hS:SlO 9 1 (f.ks ++ [t.2.1]).length ((f.ks ++ [t.2.1]).map .s) (.orow o2.length 0) [(o2.length,.orow 9 1 0 1 [.s t.2.1])]:=.inr ⟨_,_,rfl,by rw [f0]; rfl⟩
  have hfin:=h0 rfl _ (zjx (root:=root) (r:=r) (f:=⟨f.obj,f.ks ++ [t.2.1],f.its⟩) (own_key1 hF) hS q2 (.inr ⟨hob,bm,rfl,rfl⟩) q4 hpl (by decide))
  unfold prB at e5 hfin
  generalize (o2 ++ [OB.orow 9 1 0 1 [.s t.2.1]]).set rr _=o3 at e5 hfin ⊢
  subst hY
  simp only [sxZ,z6,z7,z8,j4,j5,j6,j7,j8,j9,x0,x3,x4,x5,x6,x7,reduceCtorEq,↓reduceIte,e5]
  exact hfin
 ·have e4:=hO2.get (i:=bk) (x:=.orow 9 1 gk f.ks.length (f.ks.map .s)) (by simp)
  have hne:¬ bk=rr:=fun h => hO2.ne (A:=[_,_,_]) (B:=[]) h.symm
  have gx:∀ x,(o2.set bk x)[rr]? = some (.orow 90 5 g (r.length + 1) (d0 ++ [.i .i64 (kdF f),.s [],.orow bk gk,ix,.m bm])):=fun x => by rw [List.getElem?_set_ne hne]; exact e2
  simp only [sxZ,z6,z7,z8,j4,j5,j6,j7,j8,j9,x0,x3,x4,x5,x6,x7,reduceCtorEq,↓reduceIte,e0,e2,e4,Nat.add_zero,k2,gx]
  rw [sp2 _ _ _ _ _ _ _ _ q5]
  refine ⟨⟨by omega,by omega⟩,by omega,?_⟩
  have hN:=(zau.set4 (.orow 9 1 (gk + 1) (f.ks.length + 1) (f.ks.map .s ++ [.s t.2.1])) hO2).set3 (.orow 90 5 g (r.length + 1) (d0 ++ [.i .i64 (kdF f),.s [],.orow bk (gk + 1),ix,.m bm]))
  have hF:=hN.set2 (prB 4 (.orow rr g) nodes r0 r1 r2 r3)
  have e5:=hN.get (i:=p) (x:=prB σst (.orow rr g) nodes r0 r1 r2 r3) (by simp)
  have hS:SlO 9 1 (f.ks ++ [t.2.1]).length ((f.ks ++ [t.2.1]).map .s) (.orow bk (gk + 1)) [(bk,.orow 9 1 (gk + 1) (f.ks.length + 1) (f.ks.map .s ++ [.s t.2.1]))]:=.inr ⟨_,_,rfl,by rw [List.map_append,List.length_append]; rfl⟩
  have hfin:=h0 rfl _ (zjx (root:=root) (r:=r) (f:=⟨f.obj,f.ks ++ [t.2.1],f.its⟩) (own_key2 hF) hS q2 (.inr ⟨hob,bm,rfl,rfl⟩) q4 hpl (by decide))
  unfold prB at e5 hfin
  generalize (o2.set bk (OB.orow 9 1 (gk + 1) (f.ks.length + 1) (f.ks.map .s ++ [.s t.2.1]))).set rr _=o3 at e5 hfin ⊢
  subst hY
  simp only [sxZ,z6,z7,z8,j4,j5,j6,j7,j8,j9,x0,x3,x4,x5,x6,x7,reduceCtorEq,↓reduceIte,e5]
  exact hfin
end
end
section
attribute [local irreducible] run
theorem pr_len {M:List (Nat × OB)} {stk:List Fr} {X:AV} {L:List (Nat × OB)} (hX:StX M stk X L):(X=.nil ∧ stk=[]) ∨ ∃ rr g cs,X=.orow rr g ∧ (rr,OB.orow 90 5 g stk.length cs) ∈ L:=by
 rcases hX with ⟨h1,h2,_⟩ | ⟨rr,g,cs,L',h1,_,h2⟩
 ·exact .inl ⟨h2,h1⟩
 ·exact .inr ⟨rr,g,cs,h1,by rw [h2]; simp⟩
theorem zeW {b g n:Nat} {xs:List AV}:∀ {l:List AV},zar l=true → l.map (zbw b g n xs)=l
 | [],_ => rfl
 | x :: l,h => by
  simp only [zar,Bool.and_eq_true] at h
  rw [List.map_cons,zcm h.1,zeW h.2]
theorem zbU {M:List (Nat × OB)} {i:Nat} {T:TypeId} {cs:List AV} (h:zar cs=true) (hM:zck M):zck ((i,.box T cs) :: M):=by
 intro z hz b g n xs
 rcases List.mem_cons.1 hz with rfl | hz
 ·simp only [zen,zeW h]
 ·exact hM z hz b g n xs
def zaw (t:Tk):OB:=.box 51 (tkC t)
section
variable [Tabs Tryz.prog] [Pow Tryz.prog] {objs:List OB} {K:List OB → AV → Prop} {M:List (Nat × OB)}
omit [Pow Tryz.prog] in
theorem goOn_k (hNB:zck M) {p:Nat} {σ:Ms} {f:Fr} {r:List Fr} (hP:PrO M p σ objs) (hs:σ.stk=f :: r) (h67:¬ (σ.st=6 ∨ σ.st=7)) (hl:∀ f ∈ σ.stk,f.its.length ≤ 10000000) (hd:σ.stk.length ≤ 64) (t:Tk)
  (h0:(onM σ t).1=0 → ∀ o,PrO M p (onM σ t).2 o → K o (.i .i64 0)) (h1:¬ (onM σ t).1=0 → ∀ o σ',PrO M p σ' o → K o (.i .i64 (onM σ t).1)) :
  zad Tryz.prog 40 [.p p 0,zcM t] objs K:=by
 have hrl:r.length ≤ 63:=by rw [hs] at hd; simpa using hd
 have hP1:=zgF hP (zaw t)
 have hq:∀ o,zad Tryz.prog 39 [.agg [.i .i64 t.1,.s t.2.1,.i .i64 t.2.2],.s [44]] o (fun o' r => o'=o ∧ r=.b (isP t 44)):=fun o => zdF t 44 ⟨rfl,rfl⟩
 refine zbt is_jsondoc_parser_goOn fun C _ => ?_
 rw [c_jsondoc_parser_goOn]
 refine zab fun Y hY => ?_
 simp only [zcM,sxZ,z6,z7,z8,j4,j5,j6,j7,j8,j9,x0,x3,x4,x5,x6,x7,reduceCtorEq,↓reduceIte]
 have fold0:OB.box 51 (tkC t)=zaw t:=rfl
 rw [fold0]
 generalize objs ++ [zaw t]=o1 at hP1 ⊢
 have e0:=zb2 hP1 (i:=objs.length) (x:=zaw t) (by simp)
 unfold zaw tkC at e0
 unfold onM at h0 h1
 rw [hs] at h0 h1
 simp only at h0 h1
 subst hY
 refine zab fun Y hY => ?_
 simp only [sxZ,z6,z7,z8,j4,j5,j6,j7,j8,j9,x0,x3,x4,x5,x6,x7,reduceCtorEq,↓reduceIte,e0]
 refine zak (zeF hP1 hs (by omega) t fun o2 ho => ?_)
 have hNB':zck ((objs.length,zaw t) :: M):=zbU rfl hNB
 cases hc:zeG σ t
 rotate_left
 ·rw [if_pos hc] at h0
  simp only [sxZ,z6,z7,z8,j4,j5,j6,j7,j8,j9,x0,x3,x4,x5,x6,x7,reduceCtorEq,↓reduceIte]
  refine zak (zhO hNB' ho hs h67 hl hd fun o3 ho3 => ?_)
  simp only [sxZ,z6,z7,z8,j4,j5,j6,j7,j8,j9,x0,x3,x4,x5,x6,x7,reduceCtorEq,↓reduceIte]
  subst hY
  simp only [sxZ,z6,z7,z8,j4,j5,j6,j7,j8,j9,x0,x3,x4,x5,x6,x7,reduceCtorEq,↓reduceIte]
  exact h0 rfl _ (zav ho3)
 rw [if_neg (by rw [hc]; exact Bool.false_ne_true)] at h0 h1
 have e2:=zb2 ho (i:=objs.length) (x:=zaw t) (by simp)
 unfold zaw tkC at e2
 simp only [sxZ,z6,z7,z8,j4,j5,j6,j7,j8,j9,x0,x3,x4,x5,x6,x7,reduceCtorEq,↓reduceIte,e2]
 refine zak ((hq o2).mono ?_)
 rintro o3 x ⟨rfl,rfl⟩
 cases hp:isP t 44
 ·rw [if_pos hp] at h1
  simp only [sxZ,z6,z7,z8,j4,j5,j6,j7,j8,j9,x0,x3,x4,x5,x6,x7,reduceCtorEq,↓reduceIte]
  exact h1 (by simp) _ _ (zav ho)
 rw [if_neg (by rw [hp]; exact Bool.noConfusion)] at h0
 obtain ⟨rr,g,r0,r1,r2,r3,kx,ix,mx,d0,L0,Lk,Li,Lm,hO,q1,q2,q3,q4,q5,hpl⟩:=zgE ho hs
 have f1:=hO.get (i:=p) (x:=prB σ.st (.orow rr g) σ.nodes r0 r1 r2 r3) (by simp)
 have f2:=hO.get (i:=rr) (x:=.orow 90 5 g (r.length + 1) (d0 ++ [.i .i64 (kdF f),.s [],kx,ix,mx])) (by simp)
 have k0:=c5_at0 d0 [.i .i64 (kdF f),.s [],kx,ix,mx] r.length q5
 simp only [sxZ,z6,z7,z8,j4,j5,j6,j7,j8,j9,x0,x3,x4,x5,x6,x7,reduceCtorEq,↓reduceIte]
 refine zak (zj4 f1 f2 (by omega) ?_)
 have hfin:∀ s':Int,s'=(if f.obj=true then 2 else 0) → K (o3.set p (prB s' (.orow rr g) σ.nodes r0 r1 r2 r3)) (.i .i64 0):=by
  intro s' hs'
  refine h0 rfl _ (zav (z:=(objs.length,zaw t)) ?_)
  rw [← hs']
  exact zjx (hO.set0 (prB s' (.orow rr g) σ.nodes r0 r1 r2 r3)) q1 q2 q3 q4 hpl (by rw [hs']; split <;> decide)
 have hkd:=show kdF f=if f.obj=true then 7 else 6 from rfl
 unfold prB at f1 hfin
 subst hY
 cases hb:f.obj
 ·have hk6:kdF f=6:=by rw [hkd,hb]; rfl
  rw [hk6] at f2 k0
  simp only [sxZ,z6,z7,z8,j4,j5,j6,j7,j8,j9,x0,x3,x4,x5,x6,x7,reduceCtorEq,↓reduceIte,f1,f2,Nat.add_zero,k0]
  exact hfin 0 (by rw [hb]; rfl)
 ·have hk7:kdF f=7:=by rw [hkd,hb]; rfl
  rw [hk7] at f2 k0
  simp only [sxZ,z6,z7,z8,j4,j5,j6,j7,j8,j9,x0,x3,x4,x5,x6,x7,reduceCtorEq,↓reduceIte,f1,f2,Nat.add_zero,k0]
  exact hfin 2 (by rw [hb]; rfl)
def zcu:SCode:=match c_jsondoc_parser_begin with
 | .seq _ (.seq _ (.seq _ (.seq _ r))) => r
 | _ => .skip
def zh0 (k:Int) (x:List UInt8):OB:=.box 26 [.i .i64 k,.s x,.nil,.nil]
omit [Pow Tryz.prog] in
theorem zbR (hNB:zck M) {p q q':Nat} {σst:Int} {stk:List Fr} {nodes:Nat} {root:JV} {o:List OB} {tm:List AV} {k:Int} {x:List UInt8} {t:Tk} {C:Cx} [On Tryz.prog C] (hP:PrO ((q,zh0 k x) :: (q',zaw t) :: M) p ⟨σst,stk,nodes,root⟩ o)
  (h67:¬ (σst=6 ∨ σst=7)) (hl:∀ f ∈ stk,f.its.length ≤ 10000000) (hd:stk.length ≤ 64) (hn:nodes ≤ 20000) (hlen:tm.length=75) (t0:tm[0]? = some (.p p 0)) (t5:tm[5]? = some (.p q 0)) (c:Bool) (t6:tm[6]? = some (.b c))
  (hc:c=true → x=[] ∧ (k=6 ∨ k=7)) (hk:if 20000 ≤ nodes then ∀ o σ',PrO M p σ' o → K o (.i .i64 142) else if c=true then ∀ o,PrO M p (zbP ⟨σst,stk,nodes,root⟩ (decide (k=7))) o → K o (.i .i64 0) else ∀ o,PrO M p (zc8 ⟨σst,stk,nodes + 1,root⟩ (.mk k x [] [])) o → K o (.i .i64 0)) :
  run Tryz.prog C [.code zcu] o tm (endI [.tmp 4] K):=by
 obtain ⟨X,r0,r1,r2,r3,L,hO,hX,hpl,hr⟩:=id hP
 simp only at hO hX hr
 have e1:=hO.get (i:=p) (x:=prB σst X nodes r0 r1 r2 r3) (by simp)
 unfold prB at e1
 have hb:zcu=zcu:=rfl
 conv at hb => rhs; simp only [zcu,c_jsondoc_parser_begin]
 rw [hb]
 clear hb
 refine zab fun Y hY => ?_
 by_cases c1:20000 ≤ nodes
 ·rw [if_pos c1] at hk
  have c2:(20000:Int) ≤ (nodes:Int):=by omega
  simp only [sxZ,z6,z7,z8,j4,j5,j6,j7,j8,j9,x0,x3,x4,x5,x6,x7,reduceCtorEq,↓reduceIte,List.getElem?_set,hlen,t0,e1,c2]
  exact hk _ _ (zav (zav hP))
 rw [if_neg c1] at hk
 have c2:¬ (20000:Int) ≤ (nodes:Int):=by omega
 simp only [sxZ,z6,z7,z8,j4,j5,j6,j7,j8,j9,x0,x3,x4,x5,x6,x7,reduceCtorEq,↓reduceIte,List.getElem?_set,hlen,t0,e1,c2]
 subst hY
 refine zab fun Y hY => ?_
 simp only [sxZ,z6,z7,z8,j4,j5,j6,j7,j8,j9,x0,x3,x4,x5,x6,x7,reduceCtorEq,↓reduceIte,List.getElem?_set,hlen,t0,e1]
 refine ⟨by omega,?_⟩
 have hO2:=hO.set0 (prB σst X (nodes + 1) r0 r1 r2 r3)
 have fold1:OB.box 49 [.i .i64 σst,X,.i .i64 ((nodes:Int) + 1),r0,r1,r2,r3]=prB σst X (nodes + 1) r0 r1 r2 r3:=rfl
 rw [fold1]
 have hP2:PrO ((q,zh0 k x) :: (q',zaw t) :: M) p ⟨σst,stk,nodes + 1,root⟩ (o.set p (prB σst X (nodes + 1) r0 r1 r2 r3)):=⟨X,r0,r1,r2,r3,L,hO2,hX,hpl,hr⟩
 generalize o.set p (prB σst X (nodes + 1) r0 r1 r2 r3)=o2 at hP2 ⊢
 have e2:=zb2 hP2 (i:=q) (x:=zh0 k x) (by simp)
 have hNB2:zck ((q,zh0 k x) :: (q',zaw t) :: M):=zbU rfl (zbU rfl hNB)
 unfold zh0 at e2
 subst hY
 refine zab fun Y hY => ?_
 cases c
 ·rw [if_neg Bool.false_ne_true] at hk
  simp only [sxZ,z6,z7,z8,j4,j5,j6,j7,j8,j9,x0,x3,x4,x5,x6,x7,reduceCtorEq,↓reduceIte,List.getElem?_set,hlen,t0,t5,t6,e2]
  refine zak ?_
  refine weak4 (fun G I v hv => zdD hv) (weak4' (fun G I v hv => zdD hv) ?_)
  have ha:=add_k (K:=fun o y => PrO ((q,zh0 k x) :: (q',zaw t) :: M) p (zc8 ⟨σst,stk,nodes + 1,root⟩ (.mk k x [] [])) o ∧ y=.tup []) hP2 (.mk k x [] []) hl hd (fun o ho => ⟨ho,rfl⟩)
  rw [zap,zaB] at ha
  refine ha.mono ?_
  rintro o3 y ⟨ho,rfl⟩
  simp only [sxZ,z6,z7,z8,j4,j5,j6,j7,j8,j9,x0,x3,x4,x5,x6,x7,reduceCtorEq,↓reduceIte,List.getElem?_set,hlen]
  subst hY
  simp only [sxZ,z6,z7,z8,j4,j5,j6,j7,j8,j9,x0,x3,x4,x5,x6,x7,reduceCtorEq,↓reduceIte,List.getElem?_set,hlen]
  exact hk _ (zav (zav ho))
 ·rw [if_pos rfl] at hk
  obtain ⟨rfl,hk67⟩:=hc rfl
  simp only [sxZ,z6,z7,z8,j4,j5,j6,j7,j8,j9,x0,x3,x4,x5,x6,x7,reduceCtorEq,↓reduceIte,List.getElem?_set,hlen,t0,t5,t6,e2]
  have ha:=open_k (K:=fun o y => PrO ((q,zh0 k []) :: (q',zaw t) :: M) p (zbP ⟨σst,stk,nodes,root⟩ (decide (k=7))) o ∧ y=.tup []) hP2 (decide (k=7)) hd (fun o ho => ⟨ho,rfl⟩)
  rw [show (if decide (k=7)=true then (7:Int) else 6)=k by rcases hk67 with rfl | rfl <;> rfl] at ha
  refine zak (ha.mono ?_)
  rintro o3 y ⟨ho,rfl⟩
  simp only [sxZ,z6,z7,z8,j4,j5,j6,j7,j8,j9,x0,x3,x4,x5,x6,x7,reduceCtorEq,↓reduceIte,List.getElem?_set,hlen]
  subst hY
  simp only [sxZ,z6,z7,z8,j4,j5,j6,j7,j8,j9,x0,x3,x4,x5,x6,x7,reduceCtorEq,↓reduceIte,List.getElem?_set,hlen]
  exact hk _ (zav (zav ho))
theorem zmC (hNB:zck M) {p:Nat} {σ:Ms} (hP:PrO M p σ objs) (h67:¬ (σ.st=6 ∨ σ.st=7)) (hl:∀ f ∈ σ.stk,f.its.length ≤ 10000000) (hd:σ.stk.length ≤ 64) (hn:σ.nodes ≤ 20000) (t:Tk) (ht:t.2.1.length ≤ 140737488351232)
  (h0:(zaZ σ t).1=0 → ∀ o,PrO M p (zaZ σ t).2 o → K o (.i .i64 0)) (h1:¬ (zaZ σ t).1=0 → ∀ o σ',PrO M p σ' o → K o (.i .i64 (zaZ σ t).1)) :
  zad Tryz.prog 35 [.p p 0,zcM t] objs K:=by
 obtain ⟨σst,stk,nodes,root⟩:=σ
 have hP1:=zgF hP (zaw t)
 refine zbt is_jsondoc_parser_begin fun C _ => ?_
 rw [c_jsondoc_parser_begin]
 refine zab fun Y hY => ?_
 simp only [zcM,sxZ,z6,z7,z8,j4,j5,j6,j7,j8,j9,x0,x3,x4,x5,x6,x7,reduceCtorEq,↓reduceIte]
 have fold0:OB.box 51 (tkC t)=zaw t:=rfl
 rw [fold0]
 generalize objs ++ [zaw t]=o1 at hP1 ⊢
 have e0:=zb2 hP1 (i:=objs.length) (x:=zaw t) (by simp)
 have hP2:=zgF hP1 (zh0 (vkE t) [])
 unfold zaw tkC at e0
 subst hY
 refine zab fun Y hY => ?_
 simp only [sxZ,z6,z7,z8,j4,j5,j6,j7,j8,j9,x0,x3,x4,x5,x6,x7,reduceCtorEq,↓reduceIte,e0]
 refine zak (zhf t ?_)
 simp only [sxZ,z6,z7,z8,j4,j5,j6,j7,j8,j9,x0,x3,x4,x5,x6,x7,reduceCtorEq,↓reduceIte,gn1,sn1]
 have fold1:OB.box 26 [.i .i64 (vkE t),.s [],.nil,.nil]=zh0 (vkE t) []:=rfl
 rw [fold1]
 generalize o1 ++ [zh0 (vkE t) []]=o2 at hP2 ⊢
 have e1:=zb2 hP2 (i:=o1.length) (x:=zh0 (vkE t) []) (by simp)
 have e2:=zb2 hP2 (i:=objs.length) (x:=zaw t) (by simp)
 unfold zh0 at e1
 unfold zaw tkC at e2
 subst hY
 refine zab fun Y hY => ?_
 simp only at h67 hl hd hn
 obtain ⟨X,r0,r1,r2,r3,L,hO,hX,hpl,hr⟩:=id hP2
 have e3:=hO.get (i:=p) (x:=prB σst X nodes r0 r1 r2 r3) (by simp)
 unfold prB at e3
 simp only at hX
 have hXl:=pr_len hX
 have leafK:∀ (k:Int) (x:List UInt8),vkE t=k → ¬ k=0 → ¬ (k=6 ∨ k=7) → zhj t=(0,x) → if 20000 ≤ nodes then ∀ o σ',PrO M p σ' o → K o (.i .i64 142) else if false=true then ∀ o,PrO M p (zbP ⟨σst,stk,nodes,root⟩ (decide (k=7))) o → K o (.i .i64 0) else ∀ o,PrO M p (zc8 ⟨σst,stk,nodes + 1,root⟩ (.mk k x [] [])) o → K o (.i .i64 0):=by
  intro k x hk hk0 hk67 hx
  unfold zaZ at h0 h1
  rw [hk,if_neg hk0,if_neg hk67,hx] at h0 h1
  simp only [not_true_eq_false,if_false] at h0 h1
  split
  ·rename_i c
   rw [if_pos c] at h1
   exact h1 (by simp)
  ·rename_i c
   rw [if_neg c] at h0
   rw [if_neg Bool.false_ne_true]
   exact h0 rfl
 rcases zjY t with hv | hv | hv | hv | hv | hv | hv | hv
 ·rw [hv] at e1
  have hb:zaZ ⟨σst,stk,nodes,root⟩ t=(140,⟨σst,stk,nodes,root⟩):=by unfold zaZ; rw [if_pos hv]
  rw [hb] at h1
  simp only [sxZ,z6,z7,z8,j4,j5,j6,j7,j8,j9,x0,x3,x4,x5,x6,x7,reduceCtorEq,↓reduceIte,e1]
  subst hY
  refine zab fun Y hY => ?_
  simp only [sxZ,z6,z7,z8,j4,j5,j6,j7,j8,j9,x0,x3,x4,x5,x6,x7,reduceCtorEq,↓reduceIte,e1]
  exact h1 (by simp) _ _ (zav (zav hP2))
 ·rw [hv] at e1 hP2
  simp only [sxZ,z6,z7,z8,j4,j5,j6,j7,j8,j9,x0,x3,x4,x5,x6,x7,reduceCtorEq,↓reduceIte,e1]
  subst hY
  refine zab fun Y hY => ?_
  simp only [sxZ,z6,z7,z8,j4,j5,j6,j7,j8,j9,x0,x3,x4,x5,x6,x7,reduceCtorEq,↓reduceIte,e1]
  obtain rfl:Y=zcu:=hY
  exact zbR hNB hP2 h67 hl hd hn rfl rfl rfl false rfl (fun h => by cases h) (leafK 1 [] hv (by decide) (by decide) (by unfold zhj; rw [hv]; rfl))
 ·rw [hv] at e1 hP2
  simp only [sxZ,z6,z7,z8,j4,j5,j6,j7,j8,j9,x0,x3,x4,x5,x6,x7,reduceCtorEq,↓reduceIte,e1]
  subst hY
  refine zab fun Y hY => ?_
  simp only [sxZ,z6,z7,z8,j4,j5,j6,j7,j8,j9,x0,x3,x4,x5,x6,x7,reduceCtorEq,↓reduceIte,e1]
  obtain rfl:Y=zcu:=hY
  exact zbR hNB hP2 h67 hl hd hn rfl rfl rfl false rfl (fun h => by cases h) (leafK 2 [] hv (by decide) (by decide) (by unfold zhj; rw [hv]; rfl))
 ·rw [hv] at e1 hP2
  simp only [sxZ,z6,z7,z8,j4,j5,j6,j7,j8,j9,x0,x3,x4,x5,x6,x7,reduceCtorEq,↓reduceIte,e1]
  subst hY
  refine zab fun Y hY => ?_
  simp only [sxZ,z6,z7,z8,j4,j5,j6,j7,j8,j9,x0,x3,x4,x5,x6,x7,reduceCtorEq,↓reduceIte,e1]
  obtain rfl:Y=zcu:=hY
  exact zbR hNB hP2 h67 hl hd hn rfl rfl rfl false rfl (fun h => by cases h) (leafK 3 [] hv (by decide) (by decide) (by unfold zhj; rw [hv]; rfl))
 ·rw [hv] at e1 hP2
  simp only [sxZ,z6,z7,z8,j4,j5,j6,j7,j8,j9,x0,x3,x4,x5,x6,x7,reduceCtorEq,↓reduceIte,e1]
  subst hY
  refine zab fun Y hY => ?_
  simp only [sxZ,z6,z7,z8,j4,j5,j6,j7,j8,j9,x0,x3,x4,x5,x6,x7,reduceCtorEq,↓reduceIte,e1,e2]
  refine zak (number_e t.2.1 ht ?_)
  have hx:zhj t=zbo t.2.1:=by unfold zhj; rw [if_pos hv]
  by_cases c1:(zbo t.2.1).1=0
  ·simp only [sxZ,z6,z7,z8,j4,j5,j6,j7,j8,j9,x0,x3,x4,x5,x6,x7,reduceCtorEq,↓reduceIte,c1,e1]
   obtain rfl:Y=zcu:=hY
   exact zbR hNB (pr_set hP2 (zh0 4 (zbo t.2.1).2)) h67 hl hd hn rfl rfl rfl false rfl (fun h => by cases h) (leafK 4 _ hv (by decide) (by decide) (by rw [hx]; exact Prod.ext c1 rfl))
  ·have hb:zaZ ⟨σst,stk,nodes,root⟩ t=((zbo t.2.1).1,⟨σst,stk,nodes,root⟩):=by unfold zaZ; rw [hv,if_neg (by decide),if_neg (by decide),hx,if_pos c1]
   rw [hb] at h1
   simp only [sxZ,z6,z7,z8,j4,j5,j6,j7,j8,j9,x0,x3,x4,x5,x6,x7,reduceCtorEq,↓reduceIte,c1]
   exact h1 c1 _ _ (zav (zav hP2))
 ·rw [hv] at e1 hP2
  simp only [sxZ,z6,z7,z8,j4,j5,j6,j7,j8,j9,x0,x3,x4,x5,x6,x7,reduceCtorEq,↓reduceIte,e1]
  subst hY
  refine zab fun Y hY => ?_
  simp only [sxZ,z6,z7,z8,j4,j5,j6,j7,j8,j9,x0,x3,x4,x5,x6,x7,reduceCtorEq,↓reduceIte,e1,e2]
  obtain rfl:Y=zcu:=hY
  exact zbR hNB (pr_set hP2 (zh0 5 t.2.1)) h67 hl hd hn rfl rfl rfl false rfl (fun h => by cases h) (leafK 5 _ hv (by decide) (by decide) (by unfold zhj; rw [hv]; rfl))
 ·rw [hv] at e1 hP2
  unfold zaZ at h0 h1
  rw [hv,if_neg (by decide),if_pos (by decide)] at h0 h1
  simp only at h0 h1
  rcases hXl with ⟨rfl,rfl⟩ | ⟨rr,g,cs,rfl,hmem⟩
  ·simp only [sxZ,z6,z7,z8,j4,j5,j6,j7,j8,j9,x0,x3,x4,x5,x6,x7,reduceCtorEq,↓reduceIte,e1]
   subst hY
   refine zab fun Y hY => ?_
   simp only [sxZ,z6,z7,z8,j4,j5,j6,j7,j8,j9,x0,x3,x4,x5,x6,x7,reduceCtorEq,↓reduceIte,e1,e3]
   obtain rfl:Y=zcu:=hY
   refine zbR hNB hP2 h67 hl hd hn rfl rfl rfl true rfl (fun h => ⟨rfl,by decide⟩) ?_
   rw [if_neg (by decide)] at h0 h1
   split
   ·rename_i c
    rw [if_pos c] at h1
    exact h1 (by simp)
   ·rename_i c
    rw [if_neg c] at h0
    rw [if_pos rfl]
    exact h0 rfl
  ·have e4:=hO.get (i:=rr) (x:=.orow 90 5 g stk.length cs) (by simp [hmem])
   simp only [sxZ,z6,z7,z8,j4,j5,j6,j7,j8,j9,x0,x3,x4,x5,x6,x7,reduceCtorEq,↓reduceIte,e1]
   subst hY
   refine zab fun Y hY => ?_
   by_cases c1:64 ≤ stk.length
   ·rw [if_pos c1] at h1
    have c2:(64:Int) ≤ (stk.length:Int):=by omega
    simp only [sxZ,z6,z7,z8,j4,j5,j6,j7,j8,j9,x0,x3,x4,x5,x6,x7,reduceCtorEq,↓reduceIte,e1,e3,e4,c2]
    exact h1 (by simp) _ _ (zav (zav hP2))
   rw [if_neg c1] at h0 h1
   have c2:¬ (64:Int) ≤ (stk.length:Int):=by omega
   simp only [sxZ,z6,z7,z8,j4,j5,j6,j7,j8,j9,x0,x3,x4,x5,x6,x7,reduceCtorEq,↓reduceIte,e1,e3,e4,c2]
   obtain rfl:Y=zcu:=hY
   refine zbR hNB hP2 h67 hl hd hn rfl rfl rfl true rfl (fun h => ⟨rfl,by decide⟩) ?_
   split
   ·rename_i c
    rw [if_pos c] at h1
    exact h1 (by simp)
   ·rename_i c
    rw [if_neg c] at h0
    rw [if_pos rfl]
    exact h0 rfl
 ·rw [hv] at e1 hP2
  unfold zaZ at h0 h1
  rw [hv,if_neg (by decide),if_pos (by decide)] at h0 h1
  simp only at h0 h1
  rcases hXl with ⟨rfl,rfl⟩ | ⟨rr,g,cs,rfl,hmem⟩
  ·simp only [sxZ,z6,z7,z8,j4,j5,j6,j7,j8,j9,x0,x3,x4,x5,x6,x7,reduceCtorEq,↓reduceIte,e1]
   subst hY
   refine zab fun Y hY => ?_
   simp only [sxZ,z6,z7,z8,j4,j5,j6,j7,j8,j9,x0,x3,x4,x5,x6,x7,reduceCtorEq,↓reduceIte,e1,e3]
   obtain rfl:Y=zcu:=hY
   refine zbR hNB hP2 h67 hl hd hn rfl rfl rfl true rfl (fun h => ⟨rfl,by decide⟩) ?_
   rw [if_neg (by decide)] at h0 h1
   split
   ·rename_i c
    rw [if_pos c] at h1
    exact h1 (by simp)
   ·rename_i c
    rw [if_neg c] at h0
    rw [if_pos rfl]
    exact h0 rfl
  ·have e4:=hO.get (i:=rr) (x:=.orow 90 5 g stk.length cs) (by simp [hmem])
   simp only [sxZ,z6,z7,z8,j4,j5,j6,j7,j8,j9,x0,x3,x4,x5,x6,x7,reduceCtorEq,↓reduceIte,e1]
   subst hY
   refine zab fun Y hY => ?_
   by_cases c1:64 ≤ stk.length
   ·rw [if_pos c1] at h1
    have c2:(64:Int) ≤ (stk.length:Int):=by omega
    simp only [sxZ,z6,z7,z8,j4,j5,j6,j7,j8,j9,x0,x3,x4,x5,x6,x7,reduceCtorEq,↓reduceIte,e1,e3,e4,c2]
    exact h1 (by simp) _ _ (zav (zav hP2))
   rw [if_neg c1] at h0 h1
   have c2:¬ (64:Int) ≤ (stk.length:Int):=by omega
   simp only [sxZ,z6,z7,z8,j4,j5,j6,j7,j8,j9,x0,x3,x4,x5,x6,x7,reduceCtorEq,↓reduceIte,e1,e3,e4,c2]
   obtain rfl:Y=zcu:=hY
   refine zbR hNB hP2 h67 hl hd hn rfl rfl rfl true rfl (fun h => ⟨rfl,by decide⟩) ?_
   split
   ·rename_i c
    rw [if_pos c] at h1
    exact h1 (by simp)
   ·rename_i c
    rw [if_neg c] at h0
    rw [if_pos rfl]
    exact h0 rfl
theorem take_k (hNB:zck M) {p a:Nat} {σ:Ms} (hP:PrO M p σ objs) (hw:WfM σ a) (ha:a ≤ 10000000) (h7:¬ σ.st=7) (t:Tk) (ht:t.2.1.length ≤ 140737488351232)
  (h0:(zaC σ t).1=0 → ∀ o,PrO M p (zaC σ t).2 o → K o (.i .i64 0)) (h1:¬ (zaC σ t).1=0 → ∀ o σ',PrO M p σ' o → K o (.i .i64 (zaC σ t).1)) :
  zad Tryz.prog 22 [.p p 0,zcM t] objs K:=by
 have hl:∀ f ∈ σ.stk,f.its.length ≤ 10000000:=fun f hf => by have:=(hw.len f hf).2; omega
 have hlk:∀ f ∈ σ.stk,f.ks.length ≤ 10000000:=fun f hf => by have:=(hw.len f hf).1; omega
 have hd:=hw.deep
 have hn:=hw.few
 have hP1:=zgF hP (zaw t)
 have hNB':zck ((objs.length,zaw t) :: M):=zbU rfl hNB
 have hq:∀ o,zad Tryz.prog 39 [.agg [.i .i64 t.1,.s t.2.1,.i .i64 t.2.2],.s [58]] o (fun o' r => o'=o ∧ r=.b (isP t 58)):=fun o => zdF t 58 ⟨rfl,rfl⟩
 refine zbt is_jsondoc_parser_take fun C _ => ?_
 rw [c_jsondoc_parser_take]
 refine zab fun Y hY => ?_
 simp only [zcM,sxZ,z6,z7,z8,j4,j5,j6,j7,j8,j9,x0,x3,x4,x5,x6,x7,reduceCtorEq,↓reduceIte]
 have fold0:OB.box 51 (tkC t)=zaw t:=rfl
 rw [fold0]
 generalize objs ++ [zaw t]=o1 at hP1 ⊢
 have e0:=zb2 hP1 (i:=objs.length) (x:=zaw t) (by simp)
 unfold zaw tkC at e0
 obtain ⟨X,r0,r1,r2,r3,L,hO,hX,hpl,hr⟩:=id hP1
 have e1:=hO.get (i:=p) (x:=prB σ.st X σ.nodes r0 r1 r2 r3) (by simp)
 unfold prB at e1
 unfold zaC at h0 h1
 have setst:∀ s':Int,¬ (s'=6 ∨ s'=7) ∨ (s'=7 ∧ σ.st=6) → PrO M p ⟨s',σ.stk,σ.nodes,σ.root⟩ (o1.set p (.box 49 [.i .i64 s',X,.i .i64 (σ.nodes:Int),r0,r1,r2,r3])):=fun s' hs' =>
  zav (z:=(objs.length,zaw t)) ⟨X,r0,r1,r2,r3,L,hO.set0 (prB s' X σ.nodes r0 r1 r2 r3),hX,hpl,fun h => by
   rcases hs' with h' | ⟨_,h'⟩
   ·exact absurd h h'
   ·exact hr (.inl h')⟩
 subst hY
 refine zab fun Y hY => ?_
 by_cases c0:σ.st=0
 ·rw [if_pos c0] at h0 h1
  simp only [sxZ,z6,z7,z8,j4,j5,j6,j7,j8,j9,x0,x3,x4,x5,x6,x7,reduceCtorEq,↓reduceIte,e0,e1,c0]
  refine zak (zmC hNB' hP1 (by omega) hl hd hn t ht (fun h o ho => ?_) (fun h o σ' ho => ?_))
  ·simp only [sxZ,z6,z7,z8,j4,j5,j6,j7,j8,j9,x0,x3,x4,x5,x6,x7,reduceCtorEq,↓reduceIte]
   exact h0 h _ (zav ho)
  ·simp only [sxZ,z6,z7,z8,j4,j5,j6,j7,j8,j9,x0,x3,x4,x5,x6,x7,reduceCtorEq,↓reduceIte]
   exact h1 h _ _ (zav ho)
 rw [if_neg c0] at h0 h1
 have key3:σ.st=1 ∨ σ.st=3 → ∃ f r,σ.stk=f :: r:=fun h => by
  have:=hw.top (by omega)
  cases hs:σ.stk with
  | nil => exact absurd hs this
  | cons f r => exact ⟨f,r,rfl⟩
 by_cases c1:σ.st=1
 ·rw [if_pos c1] at h0 h1
  obtain ⟨f,r,hs⟩:=key3 (.inl c1)
  have hrl:r.length ≤ 63:=by rw [hs] at hd; simpa using hd
  simp only [sxZ,z6,z7,z8,j4,j5,j6,j7,j8,j9,x0,x3,x4,x5,x6,x7,reduceCtorEq,↓reduceIte,e0,e1,c0,c1]
  refine zak (zeF hP1 hs (by omega) t fun o2 ho => ?_)
  cases hc:zeG σ t
  rotate_left
  ·rw [if_pos hc] at h0
   simp only [sxZ,z6,z7,z8,j4,j5,j6,j7,j8,j9,x0,x3,x4,x5,x6,x7,reduceCtorEq,↓reduceIte]
   refine zak (zhO hNB' ho hs (by omega) hl hd fun o3 ho3 => ?_)
   simp only [sxZ,z6,z7,z8,j4,j5,j6,j7,j8,j9,x0,x3,x4,x5,x6,x7,reduceCtorEq,↓reduceIte]
   exact h0 rfl _ (zav ho3)
  rw [if_neg (by rw [hc]; exact Bool.false_ne_true)] at h0 h1
  have g0:=zb2 ho (i:=objs.length) (x:=zaw t) (by simp)
  unfold zaw tkC at g0
  obtain ⟨X',u0,u1,u2,u3,L',hO',_,_,_⟩:=id ho
  have g1:=hO'.get (i:=p) (x:=prB σ.st X' σ.nodes u0 u1 u2 u3) (by simp)
  unfold prB at g1
  simp only [sxZ,z6,z7,z8,j4,j5,j6,j7,j8,j9,x0,x3,x4,x5,x6,x7,reduceCtorEq,↓reduceIte,g0,g1,c1]
  refine zak (zmC hNB' ho (by omega) hl hd hn t ht (fun h o ho => ?_) (fun h o σ' ho => ?_))
  ·simp only [sxZ,z6,z7,z8,j4,j5,j6,j7,j8,j9,x0,x3,x4,x5,x6,x7,reduceCtorEq,↓reduceIte]
   exact h0 h _ (zav ho)
  ·simp only [sxZ,z6,z7,z8,j4,j5,j6,j7,j8,j9,x0,x3,x4,x5,x6,x7,reduceCtorEq,↓reduceIte]
   exact h1 h _ _ (zav ho)
 rw [if_neg c1] at h0 h1
 by_cases c3:σ.st=3
 ·rw [if_pos c3] at h0 h1
  obtain ⟨f,r,hs⟩:=key3 (.inr c3)
  have hrl:r.length ≤ 63:=by rw [hs] at hd; simpa using hd
  simp only [sxZ,z6,z7,z8,j4,j5,j6,j7,j8,j9,x0,x3,x4,x5,x6,x7,reduceCtorEq,↓reduceIte,e0,e1,c0,c1,c3]
  refine zak (zeF hP1 hs (by omega) t fun o2 ho => ?_)
  cases hc:zeG σ t
  rotate_left
  ·rw [if_pos hc] at h0
   simp only [sxZ,z6,z7,z8,j4,j5,j6,j7,j8,j9,x0,x3,x4,x5,x6,x7,reduceCtorEq,↓reduceIte]
   refine zak (zhO hNB' ho hs (by omega) hl hd fun o3 ho3 => ?_)
   simp only [sxZ,z6,z7,z8,j4,j5,j6,j7,j8,j9,x0,x3,x4,x5,x6,x7,reduceCtorEq,↓reduceIte]
   exact h0 rfl _ (zav ho3)
  rw [if_neg (by rw [hc]; exact Bool.false_ne_true)] at h0 h1
  have g0:=zb2 ho (i:=objs.length) (x:=zaw t) (by simp)
  unfold zaw tkC at g0
  obtain ⟨X',u0,u1,u2,u3,L',hO',_,_,_⟩:=id ho
  have g1:=hO'.get (i:=p) (x:=prB σ.st X' σ.nodes u0 u1 u2 u3) (by simp)
  unfold prB at g1
  simp only [sxZ,z6,z7,z8,j4,j5,j6,j7,j8,j9,x0,x3,x4,x5,x6,x7,reduceCtorEq,↓reduceIte,g0,g1,c1,c3]
  refine zak (zjg ho hs (hw.obj (by omega) f r hs) (hlk f (by rw [hs]; simp)) hd t ht (fun h o ho => ?_) (fun h o σ' ho => ?_))
  ·simp only [sxZ,z6,z7,z8,j4,j5,j6,j7,j8,j9,x0,x3,x4,x5,x6,x7,reduceCtorEq,↓reduceIte]
   exact h0 h _ (zav ho)
  ·simp only [sxZ,z6,z7,z8,j4,j5,j6,j7,j8,j9,x0,x3,x4,x5,x6,x7,reduceCtorEq,↓reduceIte]
   exact h1 h _ _ (zav ho)
 rw [if_neg c3] at h0 h1
 by_cases c2:σ.st=2
 ·rw [if_pos c2] at h0 h1
  obtain ⟨f,r,hs⟩:∃ f r,σ.stk=f :: r:=by
   have:=hw.top (by omega)
   cases hs:σ.stk with
   | nil => exact absurd hs this
   | cons f r => exact ⟨f,r,rfl⟩
  simp only [sxZ,z6,z7,z8,j4,j5,j6,j7,j8,j9,x0,x3,x4,x5,x6,x7,reduceCtorEq,↓reduceIte,e0,e1,c2]
  refine zak (zjg hP1 hs (hw.obj (by omega) f r hs) (hlk f (by rw [hs]; simp)) hd t ht (fun h o ho => ?_) (fun h o σ' ho => ?_))
  ·simp only [sxZ,z6,z7,z8,j4,j5,j6,j7,j8,j9,x0,x3,x4,x5,x6,x7,reduceCtorEq,↓reduceIte]
   exact h0 h _ (zav ho)
  ·simp only [sxZ,z6,z7,z8,j4,j5,j6,j7,j8,j9,x0,x3,x4,x5,x6,x7,reduceCtorEq,↓reduceIte]
   exact h1 h _ _ (zav ho)
 rw [if_neg c2] at h0 h1
 by_cases c4:σ.st=4
 ·rw [if_pos c4] at h0 h1
  simp only [sxZ,z6,z7,z8,j4,j5,j6,j7,j8,j9,x0,x3,x4,x5,x6,x7,reduceCtorEq,↓reduceIte,e0,e1,c4]
  refine zak ((hq o1).mono ?_)
  rintro o3 x ⟨rfl,rfl⟩
  cases hp:isP t 58
  ·rw [if_neg (by rw [hp]; exact Bool.false_ne_true)] at h1
   simp only [sxZ,z6,z7,z8,j4,j5,j6,j7,j8,j9,x0,x3,x4,x5,x6,x7,reduceCtorEq,↓reduceIte]
   subst hY
   simp only [sxZ,z6,z7,z8,j4,j5,j6,j7,j8,j9,x0,x3,x4,x5,x6,x7,reduceCtorEq,↓reduceIte]
   exact h1 (by simp) _ _ (zav hP1)
  ·rw [if_pos hp] at h0
   simp only [sxZ,z6,z7,z8,j4,j5,j6,j7,j8,j9,x0,x3,x4,x5,x6,x7,reduceCtorEq,↓reduceIte,e1]
   exact h0 rfl _ (setst 0 (.inl (by decide)))
 rw [if_neg c4] at h0 h1
 by_cases c5:σ.st=5
 ·rw [if_pos c5] at h0 h1
  obtain ⟨f,r,hs⟩:∃ f r,σ.stk=f :: r:=by
   have:=hw.top (by omega)
   cases hs:σ.stk with
   | nil => exact absurd hs this
   | cons f r => exact ⟨f,r,rfl⟩
  simp only [sxZ,z6,z7,z8,j4,j5,j6,j7,j8,j9,x0,x3,x4,x5,x6,x7,reduceCtorEq,↓reduceIte,e0,e1,c5]
  refine zak (goOn_k hNB' hP1 hs (by omega) hl hd t (fun h o ho => ?_) (fun h o σ' ho => ?_))
  ·simp only [sxZ,z6,z7,z8,j4,j5,j6,j7,j8,j9,x0,x3,x4,x5,x6,x7,reduceCtorEq,↓reduceIte]
   exact h0 h _ (zav ho)
  ·simp only [sxZ,z6,z7,z8,j4,j5,j6,j7,j8,j9,x0,x3,x4,x5,x6,x7,reduceCtorEq,↓reduceIte]
   exact h1 h _ _ (zav ho)
 rw [if_neg c5] at h0 h1
 by_cases c6:σ.st=6
 ·rw [if_pos c6] at h0 h1
  by_cases c7:t.1=1
  ·rw [if_pos c7] at h0
   simp only [sxZ,z6,z7,z8,j4,j5,j6,j7,j8,j9,x0,x3,x4,x5,x6,x7,reduceCtorEq,↓reduceIte,e0,e1,c6,c7]
   exact h0 rfl _ (setst 7 (.inr ⟨rfl,c6⟩))
  ·rw [if_neg c7] at h1
   simp only [sxZ,z6,z7,z8,j4,j5,j6,j7,j8,j9,x0,x3,x4,x5,x6,x7,reduceCtorEq,↓reduceIte,e0,e1,c6,c7]
   subst hY
   simp only [sxZ,z6,z7,z8,j4,j5,j6,j7,j8,j9,x0,x3,x4,x5,x6,x7,reduceCtorEq,↓reduceIte]
   exact h1 (by simp) _ _ (zav hP1)
 rw [if_neg c6] at h1
 simp only [sxZ,z6,z7,z8,j4,j5,j6,j7,j8,j9,x0,x3,x4,x5,x6,x7,reduceCtorEq,↓reduceIte,e0,e1,c0,c1,c2,c3,c4,c5,c6]
 subst hY
 simp only [sxZ,z6,z7,z8,j4,j5,j6,j7,j8,j9,x0,x3,x4,x5,x6,x7,reduceCtorEq,↓reduceIte]
 exact h1 (by simp) _ _ (zav hP1)
end
end
section
attribute [local irreducible] run
theorem WfM.mono {σ:Ms} {a b:Nat} (h:WfM σ a) (hab:a ≤ b):WfM σ b:=⟨h.top,h.obj,fun f hf => by have:=h.len f hf; omega,h.deep,h.few⟩
theorem zeE {t:Tk} (h:t.1=1) (c:UInt8):isP t c=false:=by simp [isP,h]
theorem take_end {σ:Ms} {t:Tk} (h:t.1=1) (h0:(zaC σ t).1=0):(zaC σ t).2.st=7:=by
 have hv:vkE t=0:=by
  have h1:=zeE h 91
  have h2:=zeE h 123
  simp [vkE,h,h1,h2]
 have hb:(zaZ σ t).1=140:=by unfold zaZ; rw [if_pos hv]
 have hcl:zeG σ t=false:=by
  unfold zeG
  split
  ·rfl
  ·exact zeE h _
 have hky:¬ (zhA σ t).1=0:=by
  unfold zhA
  split
  ·simp
  ·rw [if_pos (by omega)]; simp
 have hon:¬ (onM σ t).1=0:=by
  unfold onM
  split
  ·simp
  ·rw [hcl,zeE h]; simp
 unfold zaC at h0 ⊢
 rw [hcl,zeE h] at h0 ⊢
 simp only [Bool.false_eq_true,if_false] at h0 ⊢
 by_cases c0:σ.st=0
 ·rw [if_pos c0] at h0; rw [hb] at h0; cases h0
 rw [if_neg c0] at h0 ⊢
 by_cases c1:σ.st=1
 ·rw [if_pos c1] at h0; rw [hb] at h0; cases h0
 rw [if_neg c1] at h0 ⊢
 by_cases c3:σ.st=3
 ·rw [if_pos c3] at h0; exact absurd h0 hky
 rw [if_neg c3] at h0 ⊢
 by_cases c2:σ.st=2
 ·rw [if_pos c2] at h0; exact absurd h0 hky
 rw [if_neg c2] at h0 ⊢
 by_cases c4:σ.st=4
 ·rw [if_pos c4] at h0; cases h0
 rw [if_neg c4] at h0 ⊢
 by_cases c5:σ.st=5
 ·rw [if_pos c5] at h0; exact absurd h0 hon
 rw [if_neg c5] at h0 ⊢
 by_cases c6:σ.st=6
 ·rw [if_pos c6,if_pos h]
 ·rw [if_neg c6] at h0; cases h0
theorem jres {P:Program} [Tabs P] {f:FuncId} {args:List AV} {objs:List OB} {K:List OB → AV → Prop} (r':AV) (hc:zad P f args objs (fun o r => (∀ G I y,Den G I r y → Den G I r' y) ∧ K o r')):zad P f args objs K:=by
 intro C _ G I w hin hm ys hd
 refine (hc C G I w hin hm ys hd).mono ?_
 rintro e w' ⟨y,objs',r,G',I',he,⟨hr,hk⟩,h1,h2,h3,h4,hy⟩
 exact ⟨y,objs',r',G',I',he,hk,h1,h2,h3,h4,hr _ _ _ hy⟩
def zvC:List AV:=[.i .i64 0,.s [],.nil,.nil]
def zcA (R:JV × Int × Int):AV:=.tup [.agg (zap R.1),.i .i64 R.2.1,.i .i64 R.2.2]
theorem den_zv {a e:Int} {G:Gh} {I:Imm} {y:Value} (h:Den G I (.tup [.agg zvC,.i .i64 a,.i .i64 e]) y):Den G I (zcA (jvZ,a,e)) y:=by
 unfold zcA jvZ
 rw [zap,zaB]
 unfold zvC at h
 simp only [zag,Den] at h ⊢
 obtain ⟨ys,h1,y0,l0,rfl,⟨zs,rfl,⟨z0,m0,rfl,q0,z1,m1,rfl,q1,z2,m2,rfl,q2,z3,m3,rfl,q3,q4⟩,hz⟩,h2⟩:=h
 refine ⟨_,h1,_,_,rfl,⟨_,rfl,⟨_,_,rfl,q0,_,_,rfl,q1,_,_,rfl,?_,_,_,rfl,?_,q4⟩,hz⟩,h2⟩
 ·exact ⟨none,0,[],q2,⟨Nat.le_refl _,fun ad h => by cases h⟩,rfl,by simp,by simp⟩
 ·exact ⟨none,0,[],q3,⟨Nat.le_refl _,fun ad h => by cases h⟩,rfl,by simp,by simp⟩
section
variable [Tabs Tryz.prog] [Pow Tryz.prog] [Utf Tryz.prog] {objs:List OB} {K:List OB → AV → Prop}
theorem zfS (s:List UInt8) (hs:s.length ≤ 140737488351232) (hk:K objs (zcA (zaX s))):zad Tryz.prog 9 [.s s] objs K:=by
 refine jres (zcA (zaX s)) ?_
 refine zbs is_jsondoc_Parse rfl fun C _ => ?_
 have fin:∀ {o:List OB} {a e:Int},zaX s=(jvZ,a,e) → ((∀ G I y,Den G I (.tup [.agg zvC,.i .i64 a,.i .i64 e]) y → Den G I (zcA (zaX s)) y) ∧ K objs (zcA (zaX s))):=fun {o a e} h => ⟨fun G I y hy => by rw [h]; exact den_zv hy,hk⟩
 rw [c_jsondoc_Parse]
 refine zab fun Y hY => ?_
 simp only [sxZ,z6,z7,z8,j4,j5,j6,j7,j8,j9,x0,x3,x4,x5,x6,x7,reduceCtorEq,↓reduceIte]
 subst hY
 refine zab fun Y hY => ?_
 by_cases c1:(1048576:Int) < s.length
 ·simp only [sxZ,z6,z7,z8,j4,j5,j6,j7,j8,j9,x0,x3,x4,x5,x6,x7,reduceCtorEq,↓reduceIte,c1]
  exact fin (o:=[]) (by unfold zaX; rw [if_pos (by omega)])
 have hs':s.length ≤ 1048576:=by omega
 simp only [sxZ,z6,z7,z8,j4,j5,j6,j7,j8,j9,x0,x3,x4,x5,x6,x7,reduceCtorEq,↓reduceIte,c1]
 subst hY
 refine zab fun Y hY => ?_
 simp only [sxZ,z6,z7,z8,j4,j5,j6,j7,j8,j9,x0,x3,x4,x5,x6,x7,reduceCtorEq,↓reduceIte]
 subst hY
 refine zab fun Y hY => ?_
 simp only [sxZ,z6,z7,z8,j4,j5,j6,j7,j8,j9,x0,x3,x4,x5,x6,x7,reduceCtorEq,↓reduceIte]
 subst hY
 refine zab fun Y hY => ?_
 simp only [sxZ,z6,z7,z8,j4,j5,j6,j7,j8,j9,x0,x3,x4,x5,x6,x7,reduceCtorEq,↓reduceIte]
 have hNB:zck [(0,OB.box 26 zvC)]:=zbU rfl (fun z hz => by cases hz)
 have last:∀ (σ:Ms) (a:Nat) (o:List OB) (tm:List AV),PrO [(0,.box 26 zvC)] 1 σ o → σ.st=7 → MRes s 0 ms0 (σ.root,(a:Int),0) → tm.length=42 → tm[2]? = some (.p 0 0) → tm[5]? = some (.p 1 0) → tm[6]? = some (.i .i64 (a:Int)) →
   run Tryz.prog C [.code Y] o tm (endK [.celln 2 4,.tmp 3,.tmp 4] fun r => (∀ G I y,Den G I r y → Den G I (zcA (zaX s)) y) ∧ K objs (zcA (zaX s))):=by
  intro σ a o tm hP h7 hR hlen t2 t5 t6
  have e:=zfJ hs' hR
  obtain ⟨X,r0,r1,r2,r3,L,hO,hX,hpl,hr⟩:=id hP
  have hroot:=hr (.inr h7)
  have g0:=zb2 hP (i:=0) (x:=.box 26 zvC) (by simp)
  have g1:=hO.get (i:=1) (x:=prB σ.st X σ.nodes r0 r1 r2 r3) (by simp)
  have hlt:=pr_lt hP (i:=0) (x:=.box 26 zvC) (by simp)
  have gs:∀ x,(o.set 0 x)[0]? = some x:=fun x => List.getElem?_set_self hlt
  unfold prB at g1
  unfold zvC at g0
  subst hY
  simp only [sxZ,z6,z7,z8,j4,j5,j6,j7,j8,j9,x0,x3,x4,x5,x6,x7,reduceCtorEq,↓reduceIte,List.getElem?_set,hlen,t2,t5,t6,g0,g1,gs]
  rw [zaN] at hroot
  injection hroot with q0 hroot
  injection hroot with q1 hroot
  injection hroot with q2 hroot
  injection hroot with q3 _
  subst q0 q1 q2 q3
  simp only [pub,AV.plain,zdg,zdE,sxZ,z6,z7,z8,j4,j5,j6,j7,j8,j9,x0,x3,x4,x5,x6,x7,reduceCtorEq,↓reduceIte]
  refine ⟨fun G I y hy => ?_,hk⟩
  rw [← e,zcA,zaN]
  exact hy
 refine za6 (fun n o tm => ∃ (σ:Ms) (a c:Nat),n=(if σ.st=7 then 0 else s.length - a + 1) ∧ PrO [(0,.box 26 zvC)] 1 σ o ∧ WfM σ c ∧ a ≤ s.length ∧ (σ.st=7 ∨ c ≤ a) ∧ (∀ R,MRes s a σ R → MRes s 0 ms0 R) ∧
   tm.length=42 ∧ tm[0]? = some (.s s) ∧ tm[2]? = some (.p 0 0) ∧ tm[5]? = some (.p 1 0) ∧ tm[6]? = some (.i .i64 (a:Int))) (s.length + 1) ⟨ms0,0,0,by rw [if_neg (by decide),Nat.sub_zero],?_,wf0 0,Nat.zero_le _,.inr (Nat.le_refl _),fun R h => h,rfl,rfl,rfl,rfl,rfl⟩ ?_
 ·exact ⟨.nil,.i .i64 0,.s [],.nil,.nil,[(0,.box 26 zvC)],⟨by simp,fun x hx => by
   simp only [List.mem_cons,List.not_mem_nil,or_false] at hx
   rcases hx with rfl | rfl <;> rfl⟩,.inl ⟨rfl,rfl,rfl⟩,rfl,fun h => by rcases h with h | h <;> cases h⟩
 rintro n o tm ⟨σ,a,c,rfl,hP,hw,hal,hca,hM,hlen,t0,t2,t5,t6⟩
 obtain ⟨X,r0,r1,r2,r3,L,hO,hX,hpl,hr⟩:=id hP
 have e1:=hO.get (i:=1) (x:=prB σ.st X σ.nodes r0 r1 r2 r3) (by simp)
 unfold prB at e1
 refine zab fun Z hZ => ?_
 by_cases c7:σ.st=7
 ·simp only [sxZ,z6,z7,z8,j4,j5,j6,j7,j8,j9,x0,x3,x4,x5,x6,x7,reduceCtorEq,↓reduceIte,List.getElem?_set,hlen,t5,e1,c7]
  refine last σ a o _ hP c7 (hM _ (.fin c7)) ?_ ?_ ?_ ?_
  all_goals simp only [List.length_set,List.getElem?_set,hlen,t2,t5,t6,Nat.reduceEqDiff,if_false,reduceIte]
 simp only [sxZ,z6,z7,z8,j4,j5,j6,j7,j8,j9,x0,x3,x4,x5,x6,x7,reduceCtorEq,↓reduceIte,List.getElem?_set,hlen,t5,e1,c7]
 have hca:c ≤ a:=hca.resolve_left c7
 subst hZ
 have hN:=zfO (s:=s) (a:=(a:Int)) (by omega)
 rw [zcO]
 refine zab fun Z hZ => ?_
 simp only [sxZ,z6,z7,z8,j4,j5,j6,j7,j8,j9,x0,x3,x4,x5,x6,x7,reduceCtorEq,↓reduceIte,List.getElem?_set,hlen,t0,t6]
 refine zak (zj5 s a hs ?_)
 unfold zfa
 have f1:∀ x y z,OB.box 51 [.i .i64 x,.s y,.i .i64 z]=zaw (x,y,z):=fun _ _ _ => rfl
 simp only [sxZ,z6,z7,z8,j4,j5,j6,j7,j8,j9,x0,x3,x4,x5,x6,x7,reduceCtorEq,↓reduceIte,List.getElem?_set,hlen,gn1,sn1]
 rw [f1]
 have hP1:=zgF hP (zaw (zaA s (a:Int)).1)
 have hR0:¬ (zaA s (a:Int)).2.2=0 → zaX s=(jvZ,(a:Int),(zaA s (a:Int)).2.2):=fun he => (zfJ hs' (hM _ (.tok c7 he))).symm
 have hR1:(zaA s (a:Int)).2.2=0 → ¬ (zaC σ (zaA s (a:Int)).1).1=0 → zaX s=(jvZ,(zaA s (a:Int)).1.2.2,(zaC σ (zaA s (a:Int)).1).1):=fun he ht => (zfJ hs' (hM _ (.bad c7 he ht))).symm
 have hR2:(zaA s (a:Int)).2.2=0 → (zaC σ (zaA s (a:Int)).1).1=0 → ∀ R,MRes s (zaA s (a:Int)).2.1 (zaC σ (zaA s (a:Int)).1).2 R → MRes s 0 ms0 R:=fun he ht R hR => hM _ (.step c7 he ht hR)
 have hend:=fun h1 h2 => take_end (σ:=σ) (t:=(zaA s (a:Int)).1) h1 h2
 generalize o ++ [zaw (zaA s (a:Int)).1]=o1 at hP1 ⊢
 generalize zaA s (a:Int)=N at hN hP1 hR0 hR1 hR2 hend ⊢
 obtain ⟨T,to,e⟩:=N
 simp only at hN hP1 hR0 hR1 hR2 hend ⊢
 subst hZ
 refine zab fun Z hZ => ?_
 by_cases c2:e=0
 rotate_left
 ·have h2:=zb2 hP1 (i:=0) (x:=.box 26 zvC) (by simp)
  have hlt:=pr_lt hP1 (i:=0) (x:=.box 26 zvC) (by simp)
  have gs:∀ x,(o1.set 0 x)[0]? = some x:=fun x => List.getElem?_set_self hlt
  unfold zvC at h2
  simp only [sxZ,z6,z7,z8,j4,j5,j6,j7,j8,j9,x0,x3,x4,x5,x6,x7,reduceCtorEq,↓reduceIte,List.getElem?_set,hlen,t2,t6,c2,h2,gs]
  exact fin (o:=[]) (hR0 c2)
 subst c2
 obtain ⟨⟨n1,n2,n3,n4⟩,n5,n6,n7,n8,n9⟩:=hN rfl
 simp only [sxZ,z6,z7,z8,j4,j5,j6,j7,j8,j9,x0,x3,x4,x5,x6,x7,reduceCtorEq,↓reduceIte,List.getElem?_set,hlen]
 refine zbO (fun t => t.length=42 ∧ t[0]? = some (.s s) ∧ t[2]? = some (.p 0 0) ∧ t[5]? = some (.p 1 0) ∧ t[7]? = some (.p o.length 0) ∧ t[8]? = some (.i .i64 to)) ?_ ?_
 ·simp only [sxZ,z6,z7,z8,j4,j5,j6,j7,j8,j9,x0,x3,x4,x5,x6,x7,reduceCtorEq,↓reduceIte,List.length_set,List.getElem?_set,hlen,t0,t2,t5,and_self]
 clear t0 t2 t5 t6 hlen
 rintro tm ⟨hlen,t0,t2,t5,t7,t8⟩
 have h7:=zb2 hP1 (i:=o.length) (x:=zaw T) (by simp)
 have hNB1:zck [(o.length,zaw T),(0,OB.box 26 zvC)]:=zbU rfl hNB
 unfold zaw tkC at h7
 subst hZ
 refine zab fun Z hZ => ?_
 refine zab fun Z2 hZ2 => ?_
 simp only [sxZ,z6,z7,z8,j4,j5,j6,j7,j8,j9,x0,x3,x4,x5,x6,x7,reduceCtorEq,↓reduceIte,List.getElem?_set,hlen,t5,t7,h7]
 refine zak (take_k hNB1 hP1 hw (by omega) c7 T (by omega) (fun he o2 ho => ?_) (fun he o2 σ' ho => ?_))
 ·simp only [sxZ,z6,z7,z8,j4,j5,j6,j7,j8,j9,x0,x3,x4,x5,x6,x7,reduceCtorEq,↓reduceIte,List.getElem?_set,hlen]
  subst hZ2
  simp only [sxZ,z6,z7,z8,j4,j5,j6,j7,j8,j9,x0,x3,x4,x5,x6,x7,reduceCtorEq,↓reduceIte,List.getElem?_set,hlen]
  subst hZ
  simp only [sxZ,z6,z7,z8,j4,j5,j6,j7,j8,j9,x0,x3,x4,x5,x6,x7,reduceCtorEq,↓reduceIte,List.getElem?_set,hlen,t8]
  obtain ⟨b,rfl⟩:=Int.eq_ofNat_of_zero_le (show 0 ≤ to by omega)
  have hw2:=wf_take hw he
  have hdec:(if (zaC σ T).2.st=7 then 0 else s.length - b + 1) < s.length - a + 1 ∧ ((zaC σ T).2.st=7 ∨ c + 1 ≤ b):=by
   by_cases hT:T.1=1
   ·have:=hend hT he
    rw [if_pos this]
    exact ⟨by omega,.inl this⟩
   ·have:=n3 hT
    constructor
    ·split <;> omega
    ·exact .inr (by omega)
  refine ⟨_,hdec.1,_,b,c + 1,rfl,zav ho,hw2,by omega,hdec.2,hR2 rfl he,?_⟩
  simp only [sxZ,z6,z7,z8,j4,j5,j6,j7,j8,j9,x0,x3,x4,x5,x6,x7,reduceCtorEq,↓reduceIte,List.length_set,List.getElem?_set,hlen,t0,t2,t5,and_self]
 ·have hx:=hR1 rfl he
  simp only [sxZ,z6,z7,z8,j4,j5,j6,j7,j8,j9,x0,x3,x4,x5,x6,x7,reduceCtorEq,↓reduceIte,List.getElem?_set,hlen]
  have g7:=zb2 ho (i:=o.length) (x:=zaw T) (by simp)
  have g0:=zb2 ho (i:=0) (x:=.box 26 zvC) (by simp)
  have hlt:=pr_lt ho (i:=0) (x:=.box 26 zvC) (by simp)
  have gs:∀ x,(o2.set 0 x)[0]? = some x:=fun x => List.getElem?_set_self hlt
  have hne:¬ o.length=0:=fun h => by
   obtain ⟨B,A,hB,_⟩:=zdA hP1
   exact hB.ne (A:=_ :: A) (B:=[]) h
  unfold zaw tkC at g7
  unfold zvC at g0
  subst hZ2
  simp only [sxZ,z6,z7,z8,j4,j5,j6,j7,j8,j9,x0,x3,x4,x5,x6,x7,reduceCtorEq,↓reduceIte,List.getElem?_set,hlen,he,t2,t7,g7,g0,gs,hne]
  exact fin (o:=[]) hx
end
end
section
attribute [local irreducible] run
def zaG (s:List UInt8) (ρ:Rs):OB:=.box 57 [.s s,.i .i64 ρ.pos,.i .i64 (ρ.nodes:Int),.i .i64 ρ.fail,.i .i64 ρ.wh]
section
variable [Tabs Tryz.prog] {objs:List OB} {K:List OB → AV → Prop} {L:List (Nat × OB)} {p:Nat} {s:List UInt8} {ρ:Rs}
theorem zex (t:Tk) (c:UInt8) (hk:K objs (.b (isP t c))):zad Tryz.prog 41 [zcM t,.s [c]] objs K:=by
 refine zbs is_ref14_is rfl fun C _ => ?_
 unfold isP at hk
 by_cases c1:t.1=2
 ·by_cases c2:t.2.1=[c]
  ·simp only [c1,c2,decide_true,Bool.and_self] at hk
   simp only [c_ref14_is,zcM,tkC,sxZ,z6,z7,z8,j4,j5,j6,j7,j8,j9,x0,x3,x4,x5,x6,x7,reduceCtorEq,↓reduceIte,c1,c2]
   exact hk
  ·simp only [c1,c2,decide_true,decide_false,Bool.and_false] at hk
   simp only [c_ref14_is,zcM,tkC,sxZ,z6,z7,z8,j4,j5,j6,j7,j8,j9,x0,x3,x4,x5,x6,x7,reduceCtorEq,↓reduceIte,c1,c2]
   exact hk
 ·simp only [c1,decide_false,Bool.false_and] at hk
  simp only [c_ref14_is,zcM,tkC,sxZ,z6,z7,z8,j4,j5,j6,j7,j8,j9,x0,x3,x4,x5,x6,x7,reduceCtorEq,↓reduceIte,c1]
  exact hk
theorem rword_k (l:List UInt8) (hk:K objs (.i .i64 (zel l))):zad Tryz.prog 43 [.s l] objs K:=by
 refine zbs is_ref14_word rfl fun C _ => ?_
 unfold zel trueL ziN at hk
 by_cases c1:l=[116,114,117,101]
 ·rw [if_pos c1] at hk
  simp only [c_ref14_word,sxZ,z6,z7,z8,j4,j5,j6,j7,j8,j9,x0,x3,x4,x5,x6,x7,reduceCtorEq,↓reduceIte,c1]
  exact hk
 rw [if_neg c1] at hk
 by_cases c2:l=[102,97,108,115,101]
 ·rw [if_pos c2] at hk
  have n1:¬ ([102,97,108,115,101]:List UInt8)=[116,114,117,101]:=by decide
  simp only [c_ref14_word,sxZ,z6,z7,z8,j4,j5,j6,j7,j8,j9,x0,x3,x4,x5,x6,x7,reduceCtorEq,↓reduceIte,c2,n1]
  exact hk
 ·rw [if_neg c2] at hk
  simp only [c_ref14_word,sxZ,z6,z7,z8,j4,j5,j6,j7,j8,j9,x0,x3,x4,x5,x6,x7,reduceCtorEq,↓reduceIte,c1,c2]
  exact hk
theorem zb1 (hO:zau ((p,zaG s ρ) :: L) objs) (a e:Int) (hk:∀ o,zau ((p,zaG s (zay ρ a e)) :: L) o → K o (.tup [])):zad Tryz.prog 25 [.p p 0,.i .i64 a,.i .i64 e] objs K:=by
 refine zbt is_ref14_parser_stop fun C _ => ?_
 have e1:=hO.get (i:=p) (x:=zaG s ρ) (by simp)
 have hlt:=hO.lt (i:=p) (x:=zaG s ρ) (by simp)
 have gs:∀ x,(objs.set p x)[p]? = some x:=fun x => List.getElem?_set_self hlt
 unfold zaG at e1
 unfold zay at hk
 by_cases c1:ρ.fail=0
 ·rw [if_pos c1] at hk
  simp only [c_ref14_parser_stop,sxZ,z6,z7,z8,j4,j5,j6,j7,j8,j9,x0,x3,x4,x5,x6,x7,reduceCtorEq,↓reduceIte,e1,c1,gs,List.set_set]
  exact hk _ (hO.set0 _)
 ·rw [if_neg c1] at hk
  simp only [c_ref14_parser_stop,sxZ,z6,z7,z8,j4,j5,j6,j7,j8,j9,x0,x3,x4,x5,x6,x7,reduceCtorEq,↓reduceIte,e1,c1]
  exact hk _ hO
theorem zcd [Utf Tryz.prog] (hs:s.length ≤ 140737488351232) (hO:zau ((p,zaG s ρ) :: L) objs) (hk:∀ o,zau ((p,zaG s (zac s ρ).2) :: L) o → K o (zcM (zac s ρ).1)):zad Tryz.prog 24 [.p p 0] objs K:=by
 refine zbt is_ref14_parser_next fun C _ => ?_
 have hO1:=hO.new (.box 51 [.i .i64 0,.s [],.i .i64 0])
 have e1:=hO1.get (i:=p) (x:=zaG s ρ) (by simp)
 unfold zaG at e1
 unfold zac at hk
 rw [c_ref14_parser_next]
 refine zab fun Y hY => ?_
 simp only [sxZ,z6,z7,z8,j4,j5,j6,j7,j8,j9,x0,x3,x4,x5,x6,x7,reduceCtorEq,↓reduceIte]
 have hlen:objs.length < (objs ++ [OB.box 51 [.i .i64 0,.s [],.i .i64 0]]).length:=by simp
 generalize hq:objs.length=q at hO1 hlen ⊢
 generalize objs ++ [OB.box 51 [.i .i64 0,.s [],.i .i64 0]]=o1 at hO1 e1 hlen ⊢
 have e0:=hO1.get (i:=q) (x:=.box 51 [.i .i64 0,.s [],.i .i64 0]) (by simp)
 have gs:∀ x,(o1.set q x)[q]? = some x:=fun x => List.getElem?_set_self hlen
 subst hY
 refine zab fun Y hY => ?_
 by_cases c1:ρ.fail=0
 rotate_left
 ·rw [if_pos c1] at hk
  simp only [sxZ,z6,z7,z8,j4,j5,j6,j7,j8,j9,x0,x3,x4,x5,x6,x7,reduceCtorEq,↓reduceIte,e1,c1,e0,gs]
  exact hk _ ((hO1.set0 (.box 51 [.i .i64 0,.s [],.i .i64 0])).sub (List.sublist_cons_self _ _))
 rw [if_neg (fun h => h c1)] at hk
 simp only [sxZ,z6,z7,z8,j4,j5,j6,j7,j8,j9,x0,x3,x4,x5,x6,x7,reduceCtorEq,↓reduceIte,e1,c1]
 subst hY
 refine zab fun Y hY => ?_
 have hne:¬ p=o1.length:=fun h => by
  have:=hO1.lt (i:=p) (x:=zaG s ρ) (by simp)
  omega
 simp only [sxZ,z6,z7,z8,j4,j5,j6,j7,j8,j9,x0,x3,x4,x5,x6,x7,reduceCtorEq,↓reduceIte,e1]
 refine kpcall (zjr s ρ.pos hs rfl) rfl rfl ?_
 generalize zaA s ρ.pos=N at hk ⊢
 obtain ⟨T,to,e⟩:=N
 simp only at hk
 unfold zfa
 simp only [sxZ,z6,z7,z8,j4,j5,j6,j7,j8,j9,x0,x3,x4,x5,x6,x7,reduceCtorEq,↓reduceIte,gn1,sn1,hne]
 have f1:∀ x y z,OB.box 51 [.i .i64 x,.s y,.i .i64 z]=zaw (x,y,z):=fun _ _ _ => rfl
 rw [f1]
 have hO2:=hO1.new (zaw T)
 have g0:=hO2.get (i:=o1.length) (x:=zaw T) (by simp)
 have g1:=hO2.get (i:=p) (x:=zaG s ρ) (by simp)
 have g2:=hO2.get (i:=q) (x:=.box 51 [.i .i64 0,.s [],.i .i64 0]) (by simp)
 have hq2:=hO2.lt (i:=q) (x:=.box 51 [.i .i64 0,.s [],.i .i64 0]) (by simp)
 generalize o1 ++ [zaw T]=o2 at hO2 g0 g1 g2 hq2 ⊢
 unfold zaw tkC at g0
 unfold zaG at g1
 have gs2:∀ x,(o2.set q x)[q]? = some x:=fun x => List.getElem?_set_self hq2
 subst hY
 refine zab fun Y hY => ?_
 by_cases c2:e=0
 rotate_left
 ·rw [if_pos c2] at hk
  simp only [sxZ,z6,z7,z8,j4,j5,j6,j7,j8,j9,x0,x3,x4,x5,x6,x7,reduceCtorEq,↓reduceIte,c2,g1]
  refine zak (zb1 (L:=(o1.length,zaw T) :: (q,.box 51 [.i .i64 0,.s [],.i .i64 0]) :: L) (hO2.perm (List.Perm.trans (List.Perm.cons _ (List.Perm.swap _ _ _)) (List.Perm.swap _ _ _))) ρ.pos e fun o ho => ?_)
  have k2:=ho.get (i:=q) (x:=.box 51 [.i .i64 0,.s [],.i .i64 0]) (by simp)
  have kq:=ho.lt (i:=q) (x:=.box 51 [.i .i64 0,.s [],.i .i64 0]) (by simp)
  have gs3:∀ x,(o.set q x)[q]? = some x:=fun x => List.getElem?_set_self kq
  simp only [sxZ,z6,z7,z8,j4,j5,j6,j7,j8,j9,x0,x3,x4,x5,x6,x7,reduceCtorEq,↓reduceIte,k2,gs3]
  exact hk _ ((zau.set2 (.box 51 [.i .i64 0,.s [],.i .i64 0]) ho).sub (((List.sublist_cons_self _ _).trans (List.sublist_cons_self _ _)).cons_cons _))
 subst c2
 rw [if_neg (fun h => h rfl)] at hk
 have hne2:¬ p=q:=fun h => hO2.ne (A:=[_]) (B:=[]) h.symm
 have hne3:¬ p=o1.length:=fun h => hO2.ne (A:=[]) (B:=[_]) h.symm
 have gx0:∀ x,(o2.set p x)[o1.length]? = some (.box 51 [.i .i64 T.1,.s T.2.1,.i .i64 T.2.2]):=fun x => by rw [List.getElem?_set_ne hne3]; exact g0
 have gx2:∀ x,(o2.set p x)[q]? = some (.box 51 [.i .i64 0,.s [],.i .i64 0]):=fun x => by rw [List.getElem?_set_ne hne2]; exact g2
 have gx3:∀ x y,((o2.set p x).set q y)[q]? = some y:=fun x y => List.getElem?_set_self (by rw [List.length_set]; exact hq2)
 simp only [sxZ,z6,z7,z8,j4,j5,j6,j7,j8,j9,x0,x3,x4,x5,x6,x7,reduceCtorEq,↓reduceIte]
 subst hY
 simp only [sxZ,z6,z7,z8,j4,j5,j6,j7,j8,j9,x0,x3,x4,x5,x6,x7,reduceCtorEq,↓reduceIte,g1,gx0,gx2,gx3]
 have hF:=(zau.set1 (zaw T) (zau.set2 (zaG s ⟨to,ρ.nodes,ρ.fail,ρ.wh⟩) hO2)).sub (L':=(p,zaG s ⟨to,ρ.nodes,ρ.fail,ρ.wh⟩) :: L) ((List.sublist_cons_self _ _).trans (List.sublist_cons_self _ _))
 exact hk _ hF
end
end
end Go.Proofs.YthmdohgkmdkeeaaGreatDoor
namespace Go.Proofs.YthmdohgkmdkeeaaGreatDoor
open Go.RowKit Sx
section
attribute [local irreducible] run
def zvB:OB:=.box 26 [.i .i64 0,.s [],.nil,.nil]
def jvB (k:Int) (X Y:AV):OB:=.box 26 [.i .i64 k,.s [],X,Y]
def zaH (L:List (Nat × OB)):Prop:=∀ z ∈ L,∀ b g n xs,(∀ y ∈ L,y.1 ≠ b) → zen b g n xs z.2=z.2
theorem zdL {b g n:Nat} {xs:List AV}:∀ {l:List AV},zar l=true → l.map (zbw b g n xs)=l
 | [],_ => rfl
 | x :: l,h => by
  simp only [zar,Bool.and_eq_true] at h
  rw [List.map_cons,zcm h.1,zdL h.2]
theorem zhN {z:Nat × OB} {L:List (Nat × OB)} (h:zaH L) (hz:∀ b g n xs,(∀ y ∈ z :: L,y.1 ≠ b) → zen b g n xs z.2=z.2):zaH (z :: L):=by
 intro y hy b g n xs hb
 rcases List.mem_cons.1 hy with rfl | hy
 ·exact hz b g n xs hb
 ·exact h y hy b g n xs fun y hy => hb y (List.mem_cons_of_mem _ hy)
theorem zcV {i:Nat} {T:Nat} {cs:List AV} {L:List (Nat × OB)} (h:zaH L) (hp:zar cs=true):zaH ((i,.box T cs) :: L) :=
 zhN h fun b g n xs _ => by show OB.box T _=_; rw [zdL hp]
theorem zjH {E sz n:Nat} {xs:List AV} {X:AV} {R A B:List (Nat × OB)} (hs:SlO E sz n xs X R) (h:zaH (A ++ B)):zaH (A ++ (R ++ B)):=by
 intro y hy b g m ys hb
 have hAB:∀ y ∈ A ++ B,y.1 ≠ b:=fun y hy => hb y (by
  rcases List.mem_append.1 hy with h | h
  ·exact List.mem_append_left _ h
  ·exact List.mem_append_right _ (List.mem_append_right _ h))
 rcases List.mem_append.1 hy with hy | hy
 ·exact h y (List.mem_append_left _ hy) b g m ys hAB
 rcases List.mem_append.1 hy with hy | hy
 ·rcases hs with ⟨_,_,_,rfl⟩ | ⟨b',g',_,rfl⟩
  ·cases hy
  ·simp only [List.mem_cons,List.not_mem_nil,or_false] at hy
   subst hy; rfl
 ·exact h y (List.mem_append_right _ hy) b g m ys hAB
theorem zhm {E sz n:Nat} {xs:List AV} {X:AV} {R:List (Nat × OB)} (hs:SlO E sz n xs X R) {b g m:Nat} {ys:List AV} (hb:∀ y ∈ R,y.1 ≠ b):zbw b g m ys X=X:=by
 rcases hs with ⟨_,_,rfl,_⟩ | ⟨b',g',rfl,rfl⟩
 ·rfl
 ·exact if_neg (fun h => hb (b',.orow E sz g' n xs) (by simp) h.1)
def giv (n:Nat) (xs:List AV) (X:AV):Prop:=(n=0 ∧ xs=[] ∧ X=.nil) ∨ X=.row n xs
theorem zmq {n:Nat} {xs:List AV} {X:AV} (h:giv n xs X) {G:Gh} {I:Imm} {y:Value} (hd:Den G I X y):Den G I (.row n xs) y:=by
 rcases h with ⟨rfl,rfl,rfl⟩ | rfl
 ·exact zdD hd
 ·exact hd
section
variable {P:Program} [Tabs P] {f:FuncId} {args:List AV} {objs:List OB} {K:List OB → AV → Prop}
theorem zeN (hc:zad P f args objs (fun o r => K o r ∨ ∃ b E sz gen n xs,o[b]? = some (.orow E sz gen n xs) ∧ K (zkV o b gen n xs) (zj9 b gen n xs r))):zad P f args objs K:=by
 intro C _ G I w hin hm ys hd
 refine (hc C G I w hin hm ys hd).mono ?_
 rintro e w' ⟨y,objs',r,G',I',he,hk,h1,h2,h3,h4,hy⟩
 rcases hk with hk | ⟨b,E,sz,gen,n,xs,hb,hk⟩
 ·exact ⟨y,objs',r,G',I',he,hk,h1,h2,h3,h4,hy⟩
 ·obtain ⟨v',vs,m1,m2,m3,m4,m5⟩:=h4.row b E sz gen n xs hb
  obtain ⟨hin',hm'⟩:=zlk (P:=P) hb h3 h4
  exact ⟨y,_,_,_,_,he,hk,h1.trans (zfG m1),fun g o v h => .inl (h2 g o v h),hin',hm',zi8 h4 hb r y hy⟩
end
theorem zk3 {E sz n:Nat} {xs:List AV} {X:AV} {R A B:List (Nat × OB)} {o:List OB} (hs:SlO E sz n xs X R) (hO:zau (A ++ (R ++ B)) o) (hA:zaH (A ++ B)) :
  (R=[] ∧ giv n xs X) ∨ ∃ b g,X=.orow b g ∧ o[b]? = some (.orow E sz g n xs) ∧ zau (A ++ B) (zkV o b g n xs) ∧ ∀ y ∈ A ++ B,y.1 ≠ b:=by
 rcases hs with ⟨h1,h2,h3,rfl⟩ | ⟨b,g,rfl,rfl⟩
 ·exact .inl ⟨rfl,.inl ⟨h1,h2,h3⟩⟩
 ·right
  have hP:zau ((b,.orow E sz g n xs) :: (A ++ B)) o:=hO.perm (by simp)
  have hne:∀ y ∈ A ++ B,y.1 ≠ b:=by
   have:=hP.1
   rw [List.map_cons,List.nodup_cons] at this
   exact fun y hy e => this.1 (by show b ∈ _; rw [← e]; exact List.mem_map_of_mem hy)
  exact ⟨b,g,rfl,hP.get (by simp),hP.mapset (zen b g n xs) (fun z hz => hA z hz b g n xs hne),hne⟩
theorem zkM {P:Program} [Tabs P] {f:FuncId} {args:List AV} {objs:List OB} {K:List OB → AV → Prop} {E1 s1 E2 s2:Nat} (v:JV) {z:Nat × OB} {L:List (Nat × OB)} (hC:zaH (z :: L)) (hk:∀ o,zau (z :: L) o → K o (.agg (zap v)))
  (hc:zad P f args objs (fun o r => ∃ X R1 Y R2,SlO E1 s1 v.keys.length (v.keys.map .s) X R1 ∧ SlO E2 s2 v.items.length (zaj v.items) Y R2 ∧ zau (z :: (R1 ++ (R2 ++ L))) o ∧ r=.agg [.i .i64 v.kind,.s v.text,X,Y])):zad P f args objs K:=by
 refine jres (.agg (zap v)) ?_
 refine zeN ?_
 refine zeN ?_
 refine hc.mono ?_
 rintro o r ⟨X,R1,Y,R2,hX,hY,hO,rfl⟩
 have fin:∀ {X' Y':AV},giv v.keys.length (v.keys.map .s) X' → giv v.items.length (zaj v.items) Y' → ∀ G I y,Den G I (.agg [.i .i64 v.kind,.s v.text,X',Y']) y → Den G I (.agg (zap v)) y:=by
  intro X' Y' h1 h2 G I y hy
  rw [zaN]
  simp only [zag,Den] at hy ⊢
  obtain ⟨zs,rfl,⟨z0,m0,rfl,q0,z1,m1,rfl,q1,z2,m2,rfl,q2,z3,m3,rfl,q3,q4⟩,hz⟩:=hy
  exact ⟨_,rfl,⟨_,_,rfl,q0,_,_,rfl,q1,_,_,rfl,zmq h1 q2,_,_,rfl,zmq h2 q3,q4⟩,hz⟩
 have hC2:zaH ([z] ++ (R2 ++ L)):=zjH (A:=[z]) hY hC
 have step2:∀ (o:List OB) (X':AV),giv v.keys.length (v.keys.map .s) X' → zau ([z] ++ (R2 ++ L)) o →
   (((∀ G I y,Den G I (.agg [.i .i64 v.kind,.s v.text,X',Y]) y → Den G I (.agg (zap v)) y) ∧ K o (.agg (zap v))) ∨ ∃ b E sz gen n xs,o[b]? = some (.orow E sz gen n xs) ∧ (∀ G I y,Den G I (zj9 b gen n xs (.agg [.i .i64 v.kind,.s v.text,X',Y])) y → Den G I (.agg (zap v)) y) ∧ K (zkV o b gen n xs) (.agg (zap v))):=by
  intro o X' h1 hO
  rcases zk3 hY hO hC with ⟨rfl,h2⟩ | ⟨b,g,rfl,hb,hO2,hne⟩
  ·exact .inl ⟨fin h1 h2,hk _ hO⟩
  ·refine .inr ⟨b,_,_,g,_,_,hb,fun G I y hy => ?_,hk _ hO2⟩
   refine fin h1 (.inr rfl) G I y ?_
   have e1:zbw b g v.items.length (zaj v.items) (.orow b g)=.row v.items.length (zaj v.items):=if_pos ⟨rfl,rfl⟩
   have e2:zbw b g v.items.length (zaj v.items) X'=X':=by
    rcases h1 with ⟨_,_,rfl⟩ | rfl <;> rfl
   simp only [zj9,List.map_cons,List.map_nil,e1,e2] at hy
   exact hy
 rcases zk3 (A:=[z]) hX hO hC2 with ⟨rfl,h1⟩ | ⟨b,g,rfl,hb,hO2,hne⟩
 ·exact .inl (step2 o X h1 hO)
 ·refine .inr ⟨b,_,_,g,_,_,hb,?_⟩
  have h1:giv v.keys.length (v.keys.map .s) (.row v.keys.length (v.keys.map AV.s)):=.inr rfl
  have e1:zbw b g v.keys.length (v.keys.map .s) (.orow b g)=.row v.keys.length (v.keys.map .s):=if_pos ⟨rfl,rfl⟩
  have e2:zbw b g v.keys.length (v.keys.map .s) Y=Y:=zhm hY fun y hy => hne y (by simp [hy])
  have e3:zj9 b g v.keys.length (v.keys.map .s) (.agg [.i .i64 v.kind,.s v.text,.orow b g,Y])=.agg [.i .i64 v.kind,.s v.text,.row v.keys.length (v.keys.map .s),Y]:=by
   simp only [zj9,List.map_cons,List.map_nil,e1,e2]; rfl
  rw [e3]
  exact step2 _ _ h1 hO2
end
end Go.Proofs.YthmdohgkmdkeeaaGreatDoor
namespace Go.Proofs.YthmdohgkmdkeeaaGreatDoor
open Go.RowKit Sx
section
attribute [local irreducible] run
section
variable [Tabs Tryz.prog] {objs:List OB} {K:List OB → AV → Prop}
end
end
end Go.Proofs.YthmdohgkmdkeeaaGreatDoor
namespace Go.Proofs.YthmdohgkmdkeeaaGreatDoor
open Nat renaming reduceAdd → z6, reduceSub → z7, reduceLeDiff → z8, reduceLT → j4, reduceMul → j5, reduceEqDiff → j6
open Int renaming reduceToNat → j7, reduceAdd → j8, reduceSub → j9, reduceMul → x0, reduceNeg → x3, reduceLT → x4, reduceLE → x5, reduceEq → x6, reduceNe → x7
open Go.RowKit Sx
section
attribute [local irreducible] run
def vB14 (X Y:AV):OB:=.box 26 [.i .i64 7,.s [],X,Y]
section
variable [Tabs Tryz.prog] {objs:List OB} {K:List OB → AV → Prop} {L:List (Nat × OB)}
theorem zkO {X Y:AV} {R1 R2:List (Nat × OB)} (ks:List (List UInt8)) (its:List JV) (key:List UInt8) (hl:its.length=ks.length) (hlen0:ks.length ≤ 1000000) (hX:SlO 9 1 ks.length (ks.map .s) X R1) (hY:SlO 26 4 its.length (zaj its) Y R2) (hO:zau (R1 ++ (R2 ++ L)) objs)
  (h1:key ∈ ks → ∀ o w,zau (R1 ++ (R2 ++ L)) o → K o (.tup [.agg (zap w),.b true])) (h2:¬ key ∈ ks → ∀ o,zau (R1 ++ (R2 ++ L)) o → K o (.tup [.agg [.i .i64 0,.s [],.nil,.nil],.b false])):zad Tryz.prog 15 [.agg [.i .i64 7,.s [],X,Y],.s key] objs K:=by
 refine zbt is_ref14_Get fun C _ => ?_
 rw [c_ref14_Get]
 have hO2:=(hO.new (vB14 X Y)).new zvB
 unfold vB14 zvB at hO2
 refine zab fun Z hZ => ?_
 have flatX:X.flat=true:=by rcases hX with ⟨_,_,rfl,_⟩ | ⟨_,_,rfl,_⟩ <;> rfl
 have flatY:Y.flat=true:=by rcases hY with ⟨_,_,rfl,_⟩ | ⟨_,_,rfl,_⟩ <;> rfl
 have flatV:(AV.agg [.i .i64 7,.s [],X,Y]).flat=true:=by
  rcases hX with ⟨_,_,rfl,_⟩ | ⟨_,_,rfl,_⟩ <;> rcases hY with ⟨_,_,rfl,_⟩ | ⟨_,_,rfl,_⟩ <;> rfl
 simp only [sxZ,z6,z7,z8,j4,j5,j6,j7,j8,j9,x0,x3,x4,x5,x6,x7,reduceCtorEq,↓reduceIte,flatV]
 have elen:(objs ++ [OB.box 26 [.i .i64 7,.s [],X,Y]]).length=objs.length + 1:=by simp
 rw [elen] at hO2
 generalize objs.length=qv at hO2 ⊢
 generalize objs ++ [OB.box 26 [.i .i64 7,.s [],X,Y]] ++ [OB.box 26 [.i .i64 0,.s [],.nil,.nil]]=o at hO2 ⊢
 have e0:=hO2.get (i:=qv) (x:=.box 26 [.i .i64 7,.s [],X,Y]) (by simp)
 have e1:=hO2.get (i:=qv + 1) (x:=.box 26 [.i .i64 0,.s [],.nil,.nil]) (by simp)
 have gs:∀ x,(o.set (qv + 1) x)[qv + 1]? = some x:=fun x => List.getElem?_set_self (hO2.lt (i:=qv + 1) (x:=.box 26 [.i .i64 0,.s [],.nil,.nil]) (by simp))
 have fin:∀ x,zau (R1 ++ (R2 ++ L)) (o.set (qv + 1) x):=fun x => (zau.set (A:=[]) x hO2).sub ((List.sublist_cons_self _ _).trans (List.sublist_cons_self _ _))
 subst hZ
 refine zab fun Z hZ => ?_
 simp only [sxZ,z6,z7,z8,j4,j5,j6,j7,j8,j9,x0,x3,x4,x5,x6,x7,reduceCtorEq,↓reduceIte,e0,decide_true,Bool.not_true]
 subst hZ
 refine zab fun Z hZ => ?_
 refine zab fun W hW => ?_
 refine zaz (fun o' tm => o=o' ∧ tm.length=38 ∧ tm[1]? = some (.s key) ∧ tm[2]? = some (.p qv 0) ∧ tm[4]? = some (.p (qv + 1) 0) ∧ tm[13]? = some (.i .i64 (ks.length:Int)) ∧ tm[14]? = some (.i .i64 0)) ?_ ?_
 ·rcases id hX with ⟨z1,z2,rfl,_⟩ | ⟨b1,g1,rfl,rfl⟩
  ·simp only [sxZ,z6,z7,z8,j4,j5,j6,j7,j8,j9,x0,x3,x4,x5,x6,x7,reduceCtorEq,↓reduceIte,zaa,e0,z1,Int.cast_ofNat_Int,and_self]
  ·have eb1:=hO2.get (i:=b1) (x:=.orow 9 1 g1 ks.length (ks.map .s)) (by simp)
   simp only [sxZ,z6,z7,z8,j4,j5,j6,j7,j8,j9,x0,x3,x4,x5,x6,x7,reduceCtorEq,↓reduceIte,zaa,e0,eb1,and_self]
 rintro _ tm ⟨rfl,hlen,t1,t2,t4,t13,t14⟩
 subst hW
 rw [zcO]
 refine za6 (fun n o' tm => ∃ i:Nat,i ≤ ks.length ∧ n=ks.length - i ∧ o=o' ∧ (∀ j,j < i → ks[j]? ≠ some key) ∧ tm.length=38 ∧ tm[1]? = some (.s key) ∧ tm[2]? = some (.p qv 0) ∧ tm[4]? = some (.p (qv + 1) 0) ∧ tm[13]? = some (.i .i64 (ks.length:Int)) ∧ tm[14]? = some (.i .i64 (i:Int))) ks.length ⟨0,Nat.zero_le _,rfl,rfl,fun j h => by omega,hlen,t1,t2,t4,t13,t14⟩ ?_
 clear hlen t1 t2 t4 t13 t14
 rintro n _ tm ⟨i,hi,rfl,rfl,hall,hlen,t1,t2,t4,t13,t14⟩
 refine zab fun W hW => ?_
 by_cases hlt:(i:Int) < (ks.length:Int)
 ·have hi':i < ks.length:=by omega
  have hi2:i < its.length:=by omega
  rcases hX with ⟨z1,_⟩ | ⟨b1,g1,rfl,rfl⟩
  ·omega
  rcases hY with ⟨z1,_⟩ | ⟨b2,g2,rfl,rfl⟩
  ·omega
  have eb1:=hO2.get (i:=b1) (x:=.orow 9 1 g1 ks.length (ks.map .s)) (by simp)
  have eb2:=hO2.get (i:=b2) (x:=.orow 26 4 g2 its.length (zaj its)) (by simp)
  have kv:(ks.map AV.s)[i * 1]? = some (.s ks[i]):=by rw [Nat.mul_one,List.getElem?_map,List.getElem?_eq_getElem hi']; rfl
  have kv2:ks[i]? = some ks[i]:=List.getElem?_eq_getElem hi'
  have kv3:ks[i] ∈ ks:=List.getElem_mem hi'
  generalize ks[i]=x at kv kv2 kv3
  simp only [sxZ,z6,z7,z8,j4,j5,j6,j7,j8,j9,x0,x3,x4,x5,x6,x7,reduceCtorEq,↓reduceIte,List.getElem?_set,hlen,t1,t2,t4,t13,t14,hlt]
  subst hW
  refine zab fun W hW => ?_
  simp only [sxZ,z6,z7,z8,j4,j5,j6,j7,j8,j9,x0,x3,x4,x5,x6,x7,reduceCtorEq,↓reduceIte,List.getElem?_set,hlen]
  subst hW
  refine zab fun V hV => ?_
  rw [zcO]
  refine zab fun W hW => ?_
  simp only [sxZ,z6,z7,z8,j4,j5,j6,j7,j8,j9,x0,x3,x4,x5,x6,x7,reduceCtorEq,↓reduceIte,List.getElem?_set,hlen,t14]
  subst hW
  refine zab fun W hW => ?_
  by_cases c2:x=key
  ·have hlt2:(i:Int) < (its.length:Int):=by omega
   have jv:=jc_at hi2
   have jvl:=zby its
   have hw:=fun o ho => h1 (by rw [← c2]; exact kv3) o its[i] ho
   have hq:=zaN its[i]
   rw [hq] at jv
   simp only [sxZ,z6,z7,z8,j4,j5,j6,j7,j8,j9,x0,x3,x4,x5,x6,x7,reduceCtorEq,↓reduceIte,List.getElem?_set,hlen,t1,t2,e0,eb1,eb2,kv,List.length_map,c2,hlt2,decide_true]
   refine ⟨⟨by omega,by omega⟩,?_⟩
   subst hW
   simp only [sxZ,z6,z7,z8,j4,j5,j6,j7,j8,j9,x0,x3,x4,x5,x6,x7,reduceCtorEq,↓reduceIte,List.getElem?_set,hlen,t1,t2,t4,e0,e1,eb2,jv,gs]
   refine ⟨⟨by omega,by omega⟩,by omega,?_⟩
   rw [← hq]
   exact hw _ (fin _)
  ·simp only [sxZ,z6,z7,z8,j4,j5,j6,j7,j8,j9,x0,x3,x4,x5,x6,x7,reduceCtorEq,↓reduceIte,List.getElem?_set,hlen,t1,t2,e0,eb1,kv,List.length_map,c2,decide_false]
   refine ⟨⟨by omega,by omega⟩,?_⟩
   subst hW
   simp only [sxZ,z6,z7,z8,j4,j5,j6,j7,j8,j9,x0,x3,x4,x5,x6,x7,reduceCtorEq,↓reduceIte,List.getElem?_set,hlen,t1,t2,t4]
   subst hV
   simp only [sxZ,z6,z7,z8,j4,j5,j6,j7,j8,j9,x0,x3,x4,x5,x6,x7,reduceCtorEq,↓reduceIte,List.getElem?_set,hlen,t1,t2,t4,t13,t14]
   refine ⟨by omega,ks.length - (i + 1),by omega,i + 1,by omega,rfl,fun j hj => ?_,rfl⟩
   by_cases e:j=i
   ·subst e
    rw [kv2]; intro h; injection h with h; exact c2 h
   ·exact hall j (by omega)
 simp only [sxZ,z6,z7,z8,j4,j5,j6,j7,j8,j9,x0,x3,x4,x5,x6,x7,reduceCtorEq,↓reduceIte,List.getElem?_set,hlen,t1,t2,t4,t13,t14,hlt]
 subst hW
 subst hZ
 simp only [sxZ,z6,z7,z8,j4,j5,j6,j7,j8,j9,x0,x3,x4,x5,x6,x7,reduceCtorEq,↓reduceIte,List.getElem?_set,hlen,t1,t2,t4,t13,t14,hlt,e1,gs]
 refine h2 (fun h => ?_) _ (fin _)
 obtain ⟨j,hj⟩:=List.mem_iff_getElem?.1 h
 exact hall j (by have:=(List.getElem?_eq_some_iff.1 hj).1; omega) hj
end
end
section
attribute [local irreducible] run
theorem zhM {i:Nat} {T T':Nat} {cs cs':List AV} {L:List (Nat × OB)} (h:zaH ((i,.box T cs) :: L)) (hp:zar cs'=true):zaH ((i,.box T' cs') :: L):=by
 intro y hy b g n xs hb
 rcases List.mem_cons.1 hy with rfl | hy
 ·show OB.box T' _=_; rw [zdL hp]
 ·exact h y (List.mem_cons_of_mem _ hy) b g n xs fun y hy => by
   rcases List.mem_cons.1 hy with rfl | hy
   ·exact hb (i,.box T' cs') (by simp)
   ·exact hb y (List.mem_cons_of_mem _ hy)
theorem zeL {p:Nat} {s:List UInt8} {ρ ρ':Rs} {L:List (Nat × OB)} (h:zaH ((p,zaG s ρ) :: L)):zaH ((p,zaG s ρ') :: L):=zhM h rfl
theorem zfj {E1 s1 n1 E2 s2 n2:Nat} {x1 x2:List AV} {X Y:AV} {R1 R2 L:List (Nat × OB)} {p qt qv qr:Nat} {s:List UInt8} {ρ ρ':Rs} {T:Tk} {k:Int} (h1:SlO E1 s1 n1 x1 X R1) (h2:SlO E2 s2 n2 x2 Y R2) (h:zaH ((p,zaG s ρ) :: L)):zaH ((p,zaG s ρ') :: (qt,zaw T) :: (qv,jvB k X Y) :: (qr,zvB) :: (R1 ++ (R2 ++ L))):=by
 intro y hy b g m ys hb
 simp only [List.mem_cons,List.mem_append] at hy
 rcases hy with rfl | rfl | rfl | rfl | hy | hy | hy
 ·exact congrArg (OB.box _) (zdL rfl)
 ·exact congrArg (OB.box _) (zdL rfl)
 ·have q1:=zhm h1 (b:=b) (g:=g) (m:=m) (ys:=ys) fun y hy => hb y (by simp [hy])
  have q2:=zhm h2 (b:=b) (g:=g) (m:=m) (ys:=ys) fun y hy => hb y (by simp [hy])
  show OB.box _ _=_
  simp only [List.map_cons,List.map_nil,q1,q2]
  rfl
 ·exact congrArg (OB.box _) (zdL rfl)
 ·rcases h1 with ⟨_,_,_,rfl⟩ | ⟨b',g',_,rfl⟩
  ·cases hy
  ·simp only [List.mem_cons,List.not_mem_nil,or_false] at hy
   subst hy; rfl
 ·rcases h2 with ⟨_,_,_,rfl⟩ | ⟨b',g',_,rfl⟩
  ·cases hy
  ·simp only [List.mem_cons,List.not_mem_nil,or_false] at hy
   subst hy; rfl
 ·refine h y (List.mem_cons_of_mem _ hy) b g m ys fun z hz => ?_
  rcases List.mem_cons.1 hz with rfl | hz
  ·exact hb (p,zaG s ρ') (by simp)
  ·exact hb z (by simp [hz])
section
variable [Tabs Tryz.prog] [Utf Tryz.prog] {objs:List OB} {K:List OB → AV → Prop} {L:List (Nat × OB)} {p:Nat} {s:List UInt8} {ρ:Rs}
def ValK (s:List UInt8) (p:Nat) (d:Nat) (val:Rs → Tk → JV × Rs):Prop :=
 ∀ {objs:List OB} {K:List OB → AV → Prop} {L:List (Nat × OB)} {ρ:Rs} (t:Tk),GB s ρ → GT ρ t → t.2.1.length ≤ s.length → zaH ((p,zaG s ρ) :: L) → zau ((p,zaG s ρ) :: L) objs → (∀ o,zau ((p,zaG s (val ρ t).2) :: L) o → K o (.agg (zap (val ρ t).1))) → zad Tryz.prog 23 [.p p 0,zcM t,.i .i64 (d:Int)] objs K
omit [Tabs Tryz.prog] [Utf Tryz.prog] in
theorem zbp (h:GB s ρ):(zac s ρ).1.2.1.length ≤ s.length:=by
 unfold zac
 split
 ·exact Nat.zero_le _
 split
 ·exact Nat.zero_le _
 ·rename_i h1 h2
  have:=zfO (s:=s) h.p0 (by simpa using h2)
  exact this.2.1
theorem array_k {val:Rs → Tk → JV × Rs} {d:Nat} (hv:ValK s p d val) (hg:GV s val) (hn:∀ ρ t,(val ρ t).2.fail=0 → ρ.nodes + 1 ≤ (val ρ t).2.nodes) (hs:s.length ≤ 3000) (hB:GB s ρ) (hC:zaH ((p,zaG s ρ) :: L)) (hO:zau ((p,zaG s ρ) :: L) objs)
  (hk:∀ o,zau ((p,zaG s (zdq s val ρ).2) :: L) o → K o (.agg (zap (zdq s val ρ).1))):zad Tryz.prog 44 [.p p 0,.i .i64 (d:Int)] objs K:=by
 refine zkM (E1:=9) (s1:=1) (E2:=26) (s2:=4) (zdq s val ρ).1 (zeL hC) hk ?_
 refine zbt is_ref14_parser_array fun C _ => ?_
 have fin:∀ {o:List OB} {ρ':Rs} {acc:List JV} {X:AV} {R:List (Nat × OB)} {qt qv qr:Nat} {T V W:OB},zdq s val ρ=(.mk 6 [] [] acc,ρ') → SlO 26 4 acc.length (zaj acc) X R → zau ((p,zaG s ρ') :: (qt,T) :: (qv,V) :: (qr,W) :: (R ++ L)) o →
   ∃ X' R1 Y R2,SlO 9 1 (zdq s val ρ).1.keys.length ((zdq s val ρ).1.keys.map .s) X' R1 ∧ SlO 26 4 (zdq s val ρ).1.items.length (zaj (zdq s val ρ).1.items) Y R2 ∧ zau ((p,zaG s (zdq s val ρ).2) :: (R1 ++ (R2 ++ L))) (o.set qr (jvB 6 .nil X)) ∧ AV.agg [.i .i64 6,.s [],.nil,X]=.agg [.i .i64 (zdq s val ρ).1.kind,.s (zdq s val ρ).1.text,X',Y]:=by
  intro o ρ' acc X R qt qv qr T V W he hS hO
  rw [he]
  refine ⟨.nil,[],X,R,.inl ⟨rfl,rfl,rfl,rfl⟩,hS,?_,rfl⟩
  exact (zau.set (A:=[(p,zaG s ρ'),(qt,T),(qv,V)]) (jvB 6 .nil X) hO).sub ((((List.sublist_cons_self _ _).trans (List.sublist_cons_self _ _)).trans (List.sublist_cons_self _ _)).cons_cons _)
 rw [c_ref14_parser_array]
 refine zab fun Y hY => ?_
 simp only [sxZ,z6,z7,z8,j4,j5,j6,j7,j8,j9,x0,x3,x4,x5,x6,x7,reduceCtorEq,↓reduceIte]
 have hO1:=hO.new zvB
 unfold zvB at hO1
 generalize hqr:objs.length=qr at hO1 ⊢
 generalize objs ++ [OB.box 26 [.i .i64 0,.s [],.nil,.nil]]=o1 at hO1 ⊢
 subst hY
 refine zab fun Y hY => ?_
 simp only [sxZ,z6,z7,z8,j4,j5,j6,j7,j8,j9,x0,x3,x4,x5,x6,x7,reduceCtorEq,↓reduceIte,gn1,sn1]
 have hO2:=hO1.new (jvB 6 .nil .nil)
 unfold jvB at hO2
 generalize hqv:o1.length=qv at hO2 ⊢
 generalize o1 ++ [OB.box 26 [.i .i64 6,.s [],.nil,.nil]]=o2 at hO2 ⊢
 subst hY
 refine zab fun Y hY => ?_
 simp only [sxZ,z6,z7,z8,j4,j5,j6,j7,j8,j9,x0,x3,x4,x5,x6,x7,reduceCtorEq,↓reduceIte]
 have hO2':zau ((p,zaG s ρ) :: (qv,jvB 6 .nil .nil) :: (qr,zvB) :: L) o2:=hO2.perm ((List.Perm.cons _ (List.Perm.swap _ _ _)).trans (List.Perm.swap _ _ _))
 refine zak (zcd (by omega) hO2' fun o3 hO3 => ?_)
 have hB1:=za9 hB
 have hT1:=zbp hB
 have hrarr:zdq s val ρ=if isP (zac s ρ).1 93=true then (.mk 6 [] [] [],(zac s ρ).2) else (.mk 6 [] [] (zbq s val (s.length + 2) (zac s ρ).2 (zac s ρ).1 []).1,(zbq s val (s.length + 2) (zac s ρ).2 (zac s ρ).1 []).2):=rfl
 have hn0:=za1 s ρ
 generalize zac s ρ=N at hO3 hB1 hT1 hrarr hn0 ⊢
 obtain ⟨T,ρ1⟩:=N
 simp only at hO3 hB1 hT1 hrarr hn0 ⊢
 unfold zcM tkC
 simp only [sxZ,z6,z7,z8,j4,j5,j6,j7,j8,j9,x0,x3,x4,x5,x6,x7,reduceCtorEq,↓reduceIte,gn1,sn1]
 have f1:∀ x y z,OB.box 51 [.i .i64 x,.s y,.i .i64 z]=zaw (x,y,z):=fun _ _ _ => rfl
 rw [f1]
 have hO4:=hO3.new (zaw T)
 have hO4:zau ((p,zaG s ρ1) :: (o3.length,zaw T) :: (qv,jvB 6 .nil .nil) :: (qr,zvB) :: ([] ++ L)) (o3 ++ [zaw T]):=hO4.perm (List.Perm.swap _ _ _)
 generalize o3.length=qt at hO4 ⊢
 generalize o3 ++ [zaw (T.1,T.2.1,T.2.2)]=o4 at hO4 ⊢
 have st:∀ (o:List OB) (ρ':Rs) (T':Tk) (X:AV) (R:List (Nat × OB)),zau ((p,zaG s ρ') :: (qt,zaw T') :: (qv,jvB 6 .nil X) :: (qr,zvB) :: (R ++ L)) o → o[p]? = some (.box 57 [.s s,.i .i64 ρ'.pos,.i .i64 (ρ'.nodes:Int),.i .i64 ρ'.fail,.i .i64 ρ'.wh]) ∧ o[qt]? = some (.box 51 [.i .i64 T'.1,.s T'.2.1,.i .i64 T'.2.2]) ∧ o[qv]? = some (.box 26 [.i .i64 6,.s [],.nil,X]) ∧ o[qr]? = some (.box 26 [.i .i64 0,.s [],.nil,.nil]) ∧ (∀ x,(o.set qr x)[qr]? = some x) ∧ (∀ x,(o.set qt x)[qt]? = some x) ∧ (∀ x,(o.set qv x)[qv]? = some x) :=
  fun o ρ' T' X R h => ⟨h.get (by simp [zaG]),h.get (by simp [zaw,tkC]),h.get (by simp [jvB]),h.get (by simp [zvB]),fun x => List.getElem?_set_self (h.lt (i:=qr) (x:=zvB) (by simp)),fun x => List.getElem?_set_self (h.lt (i:=qt) (x:=zaw T') (by simp)),fun x => List.getElem?_set_self (h.lt (i:=qv) (x:=jvB 6 .nil X) (by simp))⟩
 subst hY
 refine zab fun Y hY => ?_
 obtain ⟨e1,e2,e3,e4,s1,s2,s3⟩:=st _ _ _ _ _ hO4
 simp only [sxZ,z6,z7,z8,j4,j5,j6,j7,j8,j9,x0,x3,x4,x5,x6,x7,reduceCtorEq,↓reduceIte,e2]
 refine zak (zex T 93 ?_)
 cases hcl:isP T 93 with
 | true =>
  rw [hcl,if_pos rfl] at hrarr
  simp only [sxZ,z6,z7,z8,j4,j5,j6,j7,j8,j9,x0,x3,x4,x5,x6,x7,reduceCtorEq,↓reduceIte,e3,e4,s1]
  exact fin hrarr (.inl ⟨rfl,by rw [zaB],rfl,rfl⟩) hO4
 | false =>
  rw [hcl,if_neg Bool.false_ne_true] at hrarr
  simp only [sxZ,z6,z7,z8,j4,j5,j6,j7,j8,j9,x0,x3,x4,x5,x6,x7,reduceCtorEq,↓reduceIte]
  subst hY
  refine zab fun Y hY => ?_
  clear e1 e2 e3 e4 s1 s2 s3
  have last:∀ (o:List OB) (ρ':Rs) (T':Tk) (acc:List JV) (X:AV) (R:List (Nat × OB)) (tm:List AV),zdq s val ρ=(.mk 6 [] [] acc,ρ') → SlO 26 4 acc.length (zaj acc) X R → zau ((p,zaG s ρ') :: (qt,zaw T') :: (qv,jvB 6 .nil X) :: (qr,zvB) :: (R ++ L)) o → True:=fun _ _ _ _ _ _ _ _ _ _ => trivial
  simp only [sxZ,z6,z7,z8,j4,j5,j6,j7,j8,j9,x0,x3,x4,x5,x6,x7,reduceCtorEq,↓reduceIte]
  refine za6 (fun n o tm => ∃ (i:Nat) (ρ':Rs) (T':Tk) (acc:List JV) (X:AV) (R:List (Nat × OB)),n=s.length + 2 - i ∧ acc.length=i ∧ zdq s val ρ=(.mk 6 [] [] (zbq s val n ρ' T' acc).1,(zbq s val n ρ' T' acc).2) ∧ GB s ρ' ∧ GT ρ' T' ∧ T'.2.1.length ≤ s.length ∧ (ρ'.fail=0 → i ≤ ρ'.nodes) ∧ SlO 26 4 acc.length (zaj acc) X R ∧ zau ((p,zaG s ρ') :: (qt,zaw T') :: (qv,jvB 6 .nil X) :: (qr,zvB) :: (R ++ L)) o ∧
    tm.length=49 ∧ tm[0]? = some (.p p 0) ∧ tm[1]? = some (.i .i64 (d:Int)) ∧ tm[4]? = some (.p qr 0) ∧ tm[5]? = some (.p qv 0) ∧ tm[6]? = some (.p qt 0)) (s.length + 2) ⟨0,ρ1,T,[],.nil,[],rfl,rfl,hrarr,hB1.1,hB1.2,hT1,fun _ => Nat.zero_le _,.inl ⟨rfl,by rw [zaB],rfl,rfl⟩,hO4,rfl,rfl,rfl,rfl,rfl,rfl⟩ ?_
  clear hO hO1 hO2 hO2' hO3 hO4 hrarr hB1 hT1 hcl hn0
  rintro n o tm ⟨i,ρ',T',acc,X,R,rfl,hi,hrarr,hGB,hGT,hTx,hnd,hS,hO,hlen,t0,t1,t4,t5,t6⟩
  obtain ⟨e1,e2,e3,e4,s1,s2,s3⟩:=st _ _ _ _ _ hO
  refine zab fun Z hZ => ?_
  by_cases c1:ρ'.fail=0
  rotate_left
  ·have he:zbq s val (s.length + 2 - i) ρ' T' acc=(acc,ρ'):=by
    cases s.length + 2 - i with
    | zero => rw [zbq]
    | succ m => rw [zbq,if_pos c1]
   rw [he] at hrarr
   simp only [sxZ,z6,z7,z8,j4,j5,j6,j7,j8,j9,x0,x3,x4,x5,x6,x7,reduceCtorEq,↓reduceIte,List.getElem?_set,hlen,t0,e1,c1]
   subst hZ
   subst hY
   simp only [sxZ,z6,z7,z8,j4,j5,j6,j7,j8,j9,x0,x3,x4,x5,x6,x7,reduceCtorEq,↓reduceIte,List.getElem?_set,hlen,t4,t5,e3,e4,s1]
   exact fin hrarr hS hO
  have hil:i ≤ s.length:=by
   have h1:=hnd c1
   have h2:=hGB.n0 c1
   have h3:=hGB.p1
   omega
  obtain ⟨m,hm⟩:∃ m,s.length + 2 - i=m + 1:=⟨s.length + 1 - i,by omega⟩
  rw [hm,zbq,if_neg (fun h => h c1)] at hrarr
  simp only at hrarr
  simp only [sxZ,z6,z7,z8,j4,j5,j6,j7,j8,j9,x0,x3,x4,x5,x6,x7,reduceCtorEq,↓reduceIte,List.getElem?_set,hlen,t0,e1,c1]
  subst hZ
  rw [zcO]
  refine zab fun Z hZ => ?_
  have hvc:=fun {objs:List OB} {K:List OB → AV → Prop} {L:List (Nat × OB)} (h1) (h2) (h3) => hv (objs:=objs) (K:=K) (L:=L) (ρ:=ρ') T' hGB hGT hTx h1 h2 h3
  have hg1:=hg ρ' T' hGB hGT
  have hn1:=hn ρ' T'
  generalize val ρ' T'=a at hvc hg1 hn1 hrarr
  obtain ⟨v,ρ2⟩:=a
  simp only at hvc hg1 hn1 hrarr
  obtain ⟨c0,c1',c2,c3,hcv⟩:∃ c0 c1 c2 c3,zap v=[c0,c1,c2,c3]:=⟨_,_,_,_,zaN v⟩
  have hCL:zaH ((p,zaG s ρ') :: (qt,zaw T') :: (qv,jvB 6 .nil X) :: (qr,zvB) :: (R ++ L)):=zfj (E1:=0) (s1:=0) (R1:=[]) (.inl ⟨rfl,rfl,rfl,rfl⟩) hS hC
  refine zaz (fun o tm => ∃ X' R',SlO 26 4 (acc ++ [v]).length (zaj (acc ++ [v])) X' R' ∧ zau ((p,zaG s ρ2) :: (qt,zaw T') :: (qv,jvB 6 .nil X') :: (qr,zvB) :: (R' ++ L)) o ∧ tm.length=49 ∧ tm[0]? = some (.p p 0) ∧ tm[1]? = some (.i .i64 (d:Int)) ∧ tm[4]? = some (.p qr 0) ∧ tm[5]? = some (.p qv 0) ∧ tm[6]? = some (.p qt 0)) ?_ ?_
  ·simp only [sxZ,z6,z7,z8,j4,j5,j6,j7,j8,j9,x0,x3,x4,x5,x6,x7,reduceCtorEq,↓reduceIte,List.getElem?_set,hlen,t0,t1,t5,t6,e2,e3]
   refine zak (hvc hCL hO fun o2 hO2 => ?_)
   obtain ⟨e1',e2',e3',e4',s1',s2',s3'⟩:=st _ _ _ _ _ hO2
   rw [hcv]
   rcases hS with ⟨z1,z2,rfl,rfl⟩ | ⟨b,g,rfl,rfl⟩
   ·have a0:acc=[]:=List.eq_nil_of_length_eq_zero z1
    have hlt:=hO2.lt (i:=qv) (x:=jvB 6 .nil .nil) (by simp)
    have hne:¬ o2.length=qv:=by omega
    have gx:∀ x,(o2 ++ [x])[qv]? = some (.box 26 [.i .i64 6,.s [],.nil,.nil]):=fun x => by rw [List.getElem?_append_left hlt]; exact e3'
    simp only [sxZ,z6,z7,z8,j4,j5,j6,j7,j8,j9,x0,x3,x4,x5,x6,x7,reduceCtorEq,↓reduceIte,List.getElem?_set,hlen,t0,t1,t5,t6,e2',e3',gn1,sn1,gx,hne,zaa,List.length_set,t4,and_self,and_true]
    have hN:=hO2.new (.orow 26 4 0 1 [c0,c1',c2,c3])
    have hR:=hN.set (A:=[(o2.length,OB.orow 26 4 0 1 [c0,c1',c2,c3]),(p,zaG s ρ2),(qt,zaw T')]) (jvB 6 .nil (.orow o2.length 0))
    refine ⟨_,[(o2.length,.orow 26 4 0 1 [c0,c1',c2,c3])],.inr ⟨_,_,rfl,by rw [a0,List.nil_append,zaJ,zaB,hcv]; rfl⟩,hR.perm ?_⟩
    exact List.perm_middle (l₁:=[(p,zaG s ρ2),(qt,zaw T'),(qv,jvB 6 .nil (.orow o2.length 0)),(qr,zvB)]).symm
   ·have e5:=hO2.get (i:=b) (x:=.orow 26 4 g acc.length (zaj acc)) (by simp)
    have hlt:=hO2.lt (i:=qv) (x:=jvB 6 .nil (.orow b g)) (by simp)
    have hlt4:=hO2.lt (i:=b) (x:=.orow 26 4 g acc.length (zaj acc)) (by simp)
    have hne:¬ b=qv:=by
     intro h
     have:=hO2.1
     simp only [List.map_cons,List.map_append,List.nodup_cons] at this
     exact this.2.2.1 (by simp [h])
    have gs:∀ x,(o2.set b x)[b]? = some x:=fun x => List.getElem?_set_self hlt4
    have gx:∀ x,(o2.set b x)[qv]? = some (.box 26 [.i .i64 6,.s [],.nil,.orow b g]):=fun x => by rw [List.getElem?_set_ne hne]; exact e3'
    have hjl:=zby acc
    simp only [sxZ,z6,z7,z8,j4,j5,j6,j7,j8,j9,x0,x3,x4,x5,x6,x7,reduceCtorEq,↓reduceIte,List.getElem?_set,hlen,t0,t1,t5,t6,e2',e3',e5,gs,gx,hne,zaa,List.length_set,t4,and_self,and_true]
    refine ⟨⟨by omega,by omega⟩,?_⟩
    have hN:=hO2.set (A:=[(p,zaG s ρ2),(qt,zaw T'),(qv,jvB 6 .nil (.orow b g)),(qr,zvB)]) (.orow 26 4 (g + 1) (acc.length + 1) (zaj acc ++ [c0,c1',c2,c3]))
    have hR:=hN.set (A:=[(p,zaG s ρ2),(qt,zaw T')]) (jvB 6 .nil (.orow b (g + 1)))
    exact ⟨_,[(b,.orow 26 4 (g + 1) (acc.length + 1) (zaj acc ++ [c0,c1',c2,c3]))],.inr ⟨_,_,rfl,by rw [zdh,zaJ,zaB,hcv]; rfl⟩,hR⟩
  ·clear hO hS hlen t0 t1 t4 t5 t6 e1 e2 e3 e4 s1 s2 s3 hCL hvc hv hg hn
   rintro o5 tm ⟨X',R',hS,hO5,hlen,t0,t1,t4,t5,t6⟩
   subst hZ
   refine zab fun Z hZ => ?_
   simp only [sxZ,z6,z7,z8,j4,j5,j6,j7,j8,j9,x0,x3,x4,x5,x6,x7,reduceCtorEq,↓reduceIte,List.getElem?_set,hlen,t0]
   refine zak (zcd (by omega) hO5 fun o6 hO6 => ?_)
   have hB2:=za9 hg1
   have hT2:=zbp hg1
   have hn2:=za1 s ρ2
   have hfz:=zam s ρ2
   generalize zac s ρ2=N at hO6 hB2 hT2 hn2 hfz hrarr ⊢
   obtain ⟨T2,ρ3⟩:=N
   simp only at hO6 hB2 hT2 hn2 hfz hrarr ⊢
   obtain ⟨e1,e2,e3,e4,s1,s2,s3⟩:=st _ _ _ _ _ hO6
   unfold zcM tkC
   simp only [sxZ,z6,z7,z8,j4,j5,j6,j7,j8,j9,x0,x3,x4,x5,x6,x7,reduceCtorEq,↓reduceIte,List.getElem?_set,hlen,t6,e2,s2]
   rw [f1]
   have hO7:=zau.set (A:=[(p,zaG s ρ3)]) (zaw T2) hO6
   have hO7:zau ((p,zaG s ρ3) :: (qt,zaw T2) :: (qv,jvB 6 .nil X') :: (qr,zvB) :: (R' ++ L)) (o6.set qt (zaw (T2.1,T2.2.1,T2.2.2))):=hO7
   generalize o6.set qt (zaw (T2.1,T2.2.1,T2.2.2))=o7 at hO7 ⊢
   refine zbO (fun t => t.length=49 ∧ t[0]? = some (.p p 0) ∧ t[1]? = some (.i .i64 (d:Int)) ∧ t[4]? = some (.p qr 0) ∧ t[5]? = some (.p qv 0) ∧ t[6]? = some (.p qt 0)) ?_ ?_
   ·simp only [sxZ,z6,z7,z8,j4,j5,j6,j7,j8,j9,x0,x3,x4,x5,x6,x7,reduceCtorEq,↓reduceIte,List.length_set,List.getElem?_set,hlen,t0,t1,t4,t5,t6,and_self]
   clear hO6 hO5 hlen t0 t1 t4 t5 t6 e1 e2 e3 e4 s1 s2 s3
   rintro tm ⟨hlen,t0,t1,t4,t5,t6⟩
   obtain ⟨e1,e2,e3,e4,s1,s2,s3⟩:=st _ _ _ _ _ hO7
   subst hZ
   refine zab fun Z hZ => ?_
   simp only [sxZ,z6,z7,z8,j4,j5,j6,j7,j8,j9,x0,x3,x4,x5,x6,x7,reduceCtorEq,↓reduceIte,List.getElem?_set,hlen,t6,e2]
   refine zak (zex T2 93 ?_)
   cases hcl:isP T2 93 with
   | true =>
    rw [hcl,if_pos rfl] at hrarr
    simp only [sxZ,z6,z7,z8,j4,j5,j6,j7,j8,j9,x0,x3,x4,x5,x6,x7,reduceCtorEq,↓reduceIte,List.getElem?_set,hlen,t4,t5,e3,e4,s1]
    exact fin hrarr hS hO7
   | false =>
    rw [hcl,if_neg Bool.false_ne_true] at hrarr
    simp only [sxZ,z6,z7,z8,j4,j5,j6,j7,j8,j9,x0,x3,x4,x5,x6,x7,reduceCtorEq,↓reduceIte,List.getElem?_set,hlen]
    subst hZ
    refine zab fun Z hZ => ?_
    refine zaz (fun o tm => zau ((p,zaG s (zaF ρ3 T2 44)) :: (qt,zaw T2) :: (qv,jvB 6 .nil X') :: (qr,zvB) :: (R' ++ L)) o ∧ tm.length=49 ∧ tm[0]? = some (.p p 0) ∧ tm[1]? = some (.i .i64 (d:Int)) ∧ tm[4]? = some (.p qr 0) ∧ tm[5]? = some (.p qv 0) ∧ tm[6]? = some (.p qt 0)) ?_ ?_
    ·refine zab fun W hW => ?_
     by_cases c3:ρ3.fail=0
     rotate_left
     ·have hw:zaF ρ3 T2 44=ρ3:=by unfold zaF; rw [if_neg (fun h => c3 h.1)]
      simp only [sxZ,z6,z7,z8,j4,j5,j6,j7,j8,j9,x0,x3,x4,x5,x6,x7,reduceCtorEq,↓reduceIte,List.getElem?_set,hlen,t0,e1,c3]
      subst hW
      simp only [sxZ,z6,z7,z8,j4,j5,j6,j7,j8,j9,x0,x3,x4,x5,x6,x7,reduceCtorEq,↓reduceIte,zaa,List.length_set,List.getElem?_set,hlen,t0,t1,t4,t5,t6,hw,and_self,and_true]
      exact hO7
     ·simp only [sxZ,z6,z7,z8,j4,j5,j6,j7,j8,j9,x0,x3,x4,x5,x6,x7,reduceCtorEq,↓reduceIte,List.getElem?_set,hlen,t0,t6,e1,e2,c3]
      refine zak (zex T2 44 ?_)
      cases h44:isP T2 44 with
      | true =>
       have hw:zaF ρ3 T2 44=ρ3:=by unfold zaF; rw [if_neg (fun h => by rw [h44] at h; cases h.2)]
       simp only [sxZ,z6,z7,z8,j4,j5,j6,j7,j8,j9,x0,x3,x4,x5,x6,x7,reduceCtorEq,↓reduceIte,List.getElem?_set,hlen]
       subst hW
       simp only [sxZ,z6,z7,z8,j4,j5,j6,j7,j8,j9,x0,x3,x4,x5,x6,x7,reduceCtorEq,↓reduceIte,zaa,List.length_set,List.getElem?_set,hlen,t0,t1,t4,t5,t6,hw,and_self,and_true]
       exact hO7
      | false =>
       have hw:zaF ρ3 T2 44=zay ρ3 T2.2.2 140:=by unfold zaF; rw [if_pos ⟨c3,h44⟩]
       simp only [sxZ,z6,z7,z8,j4,j5,j6,j7,j8,j9,x0,x3,x4,x5,x6,x7,reduceCtorEq,↓reduceIte,List.getElem?_set,hlen]
       subst hW
       simp only [sxZ,z6,z7,z8,j4,j5,j6,j7,j8,j9,x0,x3,x4,x5,x6,x7,reduceCtorEq,↓reduceIte,List.getElem?_set,hlen,t0,t6,e2]
       refine zak (zb1 hO7 T2.2.2 140 fun o8 hO8 => ?_)
       simp only [sxZ,z6,z7,z8,j4,j5,j6,j7,j8,j9,x0,x3,x4,x5,x6,x7,reduceCtorEq,↓reduceIte,zaa,List.length_set,List.getElem?_set,hlen,t0,t1,t4,t5,t6,hw,and_self,and_true]
       exact hO8
    ·clear hO7 hlen t0 t1 t4 t5 t6 e1 e2 e3 e4 s1 s2 s3
     rintro o8 tm ⟨hO8,hlen,t0,t1,t4,t5,t6⟩
     subst hZ
     have hB3:=zdW hB2.1 T2 44
     have hn3:=zdN ρ3 T2 44
     have hfz3:=za0 ρ3 T2 44
     generalize zaF ρ3 T2 44=ρ4 at hO8 hB3 hn3 hfz3 hrarr
     simp only [sxZ,z6,z7,z8,j4,j5,j6,j7,j8,j9,x0,x3,x4,x5,x6,x7,reduceCtorEq,↓reduceIte,List.getElem?_set,hlen,t0]
     refine zak (zcd (by omega) hO8 fun o9 hO9 => ?_)
     have hB4:=za9 hB3
     have hT4:=zbp hB3
     have hn4:=za1 s ρ4
     have hfz4:=zam s ρ4
     generalize zac s ρ4=N at hO9 hB4 hT4 hn4 hfz4 hrarr ⊢
     obtain ⟨T5,ρ5⟩:=N
     simp only at hO9 hB4 hT4 hn4 hfz4 hrarr ⊢
     obtain ⟨e1,e2,e3,e4,s1,s2,s3⟩:=st _ _ _ _ _ hO9
     unfold zcM tkC
     simp only [sxZ,z6,z7,z8,j4,j5,j6,j7,j8,j9,x0,x3,x4,x5,x6,x7,reduceCtorEq,↓reduceIte,List.getElem?_set,hlen,t6,e2,s2]
     rw [f1]
     have hO10:zau ((p,zaG s ρ5) :: (qt,zaw T5) :: (qv,jvB 6 .nil X') :: (qr,zvB) :: (R' ++ L)) (o9.set qt (zaw (T5.1,T5.2.1,T5.2.2))):=zau.set (A:=[(p,zaG s ρ5)]) (zaw T5) hO9
     generalize o9.set qt (zaw (T5.1,T5.2.1,T5.2.2))=o10 at hO10 ⊢
     refine ⟨m,by omega,i + 1,ρ5,T5,acc ++ [v],X',R',by omega,by rw [List.length_append,hi]; rfl,hrarr,hB4.1,hB4.2,hT4,fun hf => ?_,hS,hO10,?_⟩
     ·have q4:ρ4.fail=0:=by
       by_cases c:ρ4.fail=0
       ·exact c
       ·exact absurd ((hfz4 c).1.symm.trans hf) c
      have q3:ρ3.fail=0:=by
       by_cases c:ρ3.fail=0
       ·exact c
       ·exact absurd ((hfz3 c).1.symm.trans q4) c
      have q2:ρ2.fail=0:=by
       by_cases c:ρ2.fail=0
       ·exact c
       ·exact absurd ((hfz c).1.symm.trans q3) c
      have:=hn1 q2
      have:=hnd c1
      omega
     ·simp only [sxZ,z6,z7,z8,j4,j5,j6,j7,j8,j9,x0,x3,x4,x5,x6,x7,reduceCtorEq,↓reduceIte,List.length_set,List.getElem?_set,hlen,t0,t1,t4,t5,t6,and_self]
end
end
section
attribute [local irreducible] run
def SlP (ks:List (List UInt8)) (its:List JV) (X:AV) (R1:List (Nat × OB)) (Y:AV) (R2:List (Nat × OB)):Prop :=
 (ks=[] ∧ its=[] ∧ X=.nil ∧ R1=[] ∧ Y=.nil ∧ R2=[]) ∨ ∃ b1 g1 b2 g2,X=.orow b1 g1 ∧ R1=[(b1,.orow 9 1 g1 ks.length (ks.map .s))] ∧ Y=.orow b2 g2 ∧ R2=[(b2,.orow 26 4 g2 its.length (zaj its))]
theorem SlP.k {ks:List (List UInt8)} {its:List JV} {X Y:AV} {R1 R2:List (Nat × OB)} (h:SlP ks its X R1 Y R2):SlO 9 1 ks.length (ks.map .s) X R1:=by
 rcases h with ⟨rfl,rfl,rfl,rfl,rfl,rfl⟩ | ⟨b1,g1,b2,g2,rfl,rfl,rfl,rfl⟩
 ·exact .inl ⟨rfl,rfl,rfl,rfl⟩
 ·exact .inr ⟨_,_,rfl,rfl⟩
theorem SlP.i {ks:List (List UInt8)} {its:List JV} {X Y:AV} {R1 R2:List (Nat × OB)} (h:SlP ks its X R1 Y R2):SlO 26 4 its.length (zaj its) Y R2:=by
 rcases h with ⟨rfl,rfl,rfl,rfl,rfl,rfl⟩ | ⟨b1,g1,b2,g2,rfl,rfl,rfl,rfl⟩
 ·exact .inl ⟨rfl,zaB,rfl,rfl⟩
 ·exact .inr ⟨_,_,rfl,rfl⟩
theorem SlP.flat {ks:List (List UInt8)} {its:List JV} {X Y:AV} {R1 R2:List (Nat × OB)} (h:SlP ks its X R1 Y R2):X.flat=true ∧ Y.flat=true:=by
 rcases h with ⟨rfl,rfl,rfl,rfl,rfl,rfl⟩ | ⟨b1,g1,b2,g2,rfl,rfl,rfl,rfl⟩ <;> exact ⟨rfl,rfl⟩
section
variable [Tabs Tryz.prog] [Utf Tryz.prog] {objs:List OB} {K:List OB → AV → Prop} {L:List (Nat × OB)} {p:Nat} {s:List UInt8} {ρ:Rs}
theorem object_k {val:Rs → Tk → JV × Rs} {d:Nat} (hv:ValK s p d val) (hg:GV s val) (hn:∀ ρ t,(val ρ t).2.fail=0 → ρ.nodes + 1 ≤ (val ρ t).2.nodes) (hvz:zd2 val) (hs:s.length ≤ 3000) (hB:GB s ρ) (hC:zaH ((p,zaG s ρ) :: L)) (hO:zau ((p,zaG s ρ) :: L) objs)
  (hk:∀ o,zau ((p,zaG s (zdv s val ρ).2) :: L) o → K o (.agg (zap (zdv s val ρ).1))):zad Tryz.prog 45 [.p p 0,.i .i64 (d:Int)] objs K:=by
 refine zkM (E1:=9) (s1:=1) (E2:=26) (s2:=4) (zdv s val ρ).1 (zeL hC) hk ?_
 refine zbt is_ref14_parser_object fun C _ => ?_
 have fin:∀ {o:List OB} {ρ':Rs} {ks:List (List UInt8)} {its:List JV} {X Y:AV} {R1 R2:List (Nat × OB)} {qt qv qr:Nat} {T V W:OB},zdv s val ρ=(.mk 7 [] ks its,ρ') → SlP ks its X R1 Y R2 → zau ((p,zaG s ρ') :: (qt,T) :: (qv,V) :: (qr,W) :: (R1 ++ (R2 ++ L))) o →
   ∃ X' R1 Y' R2,SlO 9 1 (zdv s val ρ).1.keys.length ((zdv s val ρ).1.keys.map .s) X' R1 ∧ SlO 26 4 (zdv s val ρ).1.items.length (zaj (zdv s val ρ).1.items) Y' R2 ∧ zau ((p,zaG s (zdv s val ρ).2) :: (R1 ++ (R2 ++ L))) (o.set qr (jvB 7 X Y)) ∧ AV.agg [.i .i64 7,.s [],X,Y]=.agg [.i .i64 (zdv s val ρ).1.kind,.s (zdv s val ρ).1.text,X',Y']:=by
  intro o ρ' ks its X Y R1 R2 qt qv qr T V W he hS hO
  rw [he]
  refine ⟨X,R1,Y,R2,hS.k,hS.i,?_,rfl⟩
  exact (zau.set (A:=[(p,zaG s ρ'),(qt,T),(qv,V)]) (jvB 7 X Y) hO).sub ((((List.sublist_cons_self _ _).trans (List.sublist_cons_self _ _)).trans (List.sublist_cons_self _ _)).cons_cons _)
 rw [c_ref14_parser_object]
 refine zab fun Z0 hZ0 => ?_
 simp only [sxZ,z6,z7,z8,j4,j5,j6,j7,j8,j9,x0,x3,x4,x5,x6,x7,reduceCtorEq,↓reduceIte]
 have hO1:=hO.new zvB
 unfold zvB at hO1
 generalize hqr:objs.length=qr at hO1 ⊢
 generalize objs ++ [OB.box 26 [.i .i64 0,.s [],.nil,.nil]]=o1 at hO1 ⊢
 subst hZ0
 refine zab fun Z0 hZ0 => ?_
 simp only [sxZ,z6,z7,z8,j4,j5,j6,j7,j8,j9,x0,x3,x4,x5,x6,x7,reduceCtorEq,↓reduceIte,gn1,sn1]
 have hO2:=hO1.new (jvB 7 .nil .nil)
 unfold jvB at hO2
 generalize hqv:o1.length=qv at hO2 ⊢
 generalize o1 ++ [OB.box 26 [.i .i64 7,.s [],.nil,.nil]]=o2 at hO2 ⊢
 subst hZ0
 refine zab fun Z0 hZ0 => ?_
 simp only [sxZ,z6,z7,z8,j4,j5,j6,j7,j8,j9,x0,x3,x4,x5,x6,x7,reduceCtorEq,↓reduceIte]
 have hO2':zau ((p,zaG s ρ) :: (qv,jvB 7 .nil .nil) :: (qr,zvB) :: L) o2:=hO2.perm ((List.Perm.cons _ (List.Perm.swap _ _ _)).trans (List.Perm.swap _ _ _))
 refine zak (zcd (by omega) hO2' fun o3 hO3 => ?_)
 have hB1:=za9 hB
 have hT1:=zbp hB
 have hrobj:zdv s val ρ=if isP (zac s ρ).1 125=true then (.mk 7 [] [] [],(zac s ρ).2) else (.mk 7 [] (za5 s val (s.length + 2) (zac s ρ).2 (zac s ρ).1 [] []).1.1 (za5 s val (s.length + 2) (zac s ρ).2 (zac s ρ).1 [] []).1.2,(za5 s val (s.length + 2) (zac s ρ).2 (zac s ρ).1 [] []).2):=rfl
 generalize zac s ρ=N at hO3 hB1 hT1 hrobj ⊢
 obtain ⟨T,ρ1⟩:=N
 simp only at hO3 hB1 hT1 hrobj ⊢
 unfold zcM tkC
 simp only [sxZ,z6,z7,z8,j4,j5,j6,j7,j8,j9,x0,x3,x4,x5,x6,x7,reduceCtorEq,↓reduceIte,gn1,sn1]
 have f1:∀ x y z,OB.box 51 [.i .i64 x,.s y,.i .i64 z]=zaw (x,y,z):=fun _ _ _ => rfl
 rw [f1]
 have hO4:=hO3.new (zaw T)
 have hO4:zau ((p,zaG s ρ1) :: (o3.length,zaw T) :: (qv,jvB 7 .nil .nil) :: (qr,zvB) :: ([] ++ ([] ++ L))) (o3 ++ [zaw T]):=hO4.perm (List.Perm.swap _ _ _)
 generalize o3.length=qt at hO4 ⊢
 generalize o3 ++ [zaw (T.1,T.2.1,T.2.2)]=o4 at hO4 ⊢
 have st:∀ (o:List OB) (ρ':Rs) (T':Tk) (X:AV) (R1:List (Nat × OB)) (Y:AV) (R2:List (Nat × OB)),zau ((p,zaG s ρ') :: (qt,zaw T') :: (qv,jvB 7 X Y) :: (qr,zvB) :: (R1 ++ (R2 ++ L))) o → o[p]? = some (.box 57 [.s s,.i .i64 ρ'.pos,.i .i64 (ρ'.nodes:Int),.i .i64 ρ'.fail,.i .i64 ρ'.wh]) ∧ o[qt]? = some (.box 51 [.i .i64 T'.1,.s T'.2.1,.i .i64 T'.2.2]) ∧ o[qv]? = some (.box 26 [.i .i64 7,.s [],X,Y]) ∧ o[qr]? = some (.box 26 [.i .i64 0,.s [],.nil,.nil]) ∧ (∀ x,(o.set qr x)[qr]? = some x) ∧ (∀ x,(o.set qt x)[qt]? = some x) ∧ (∀ x,(o.set qv x)[qv]? = some x) :=
  fun o ρ' T' X R1 Y R2 h => ⟨h.get (by simp [zaG]),h.get (by simp [zaw,tkC]),h.get (by simp [jvB]),h.get (by simp [zvB]),fun x => List.getElem?_set_self (h.lt (i:=qr) (x:=zvB) (by simp)),fun x => List.getElem?_set_self (h.lt (i:=qt) (x:=zaw T') (by simp)),fun x => List.getElem?_set_self (h.lt (i:=qv) (x:=jvB 7 X Y) (by simp))⟩
 subst hZ0
 refine zab fun Z0 hZ0 => ?_
 obtain ⟨e1,e2,e3,e4,s1,s2,s3⟩:=st _ _ _ _ _ _ _ hO4
 simp only [sxZ,z6,z7,z8,j4,j5,j6,j7,j8,j9,x0,x3,x4,x5,x6,x7,reduceCtorEq,↓reduceIte,e2]
 refine zak (zex T 125 ?_)
 cases hcl:isP T 125 with
 | true =>
  rw [hcl,if_pos rfl] at hrobj
  simp only [sxZ,z6,z7,z8,j4,j5,j6,j7,j8,j9,x0,x3,x4,x5,x6,x7,reduceCtorEq,↓reduceIte,e3,e4,s1]
  exact fin hrobj (.inl ⟨rfl,rfl,rfl,rfl,rfl,rfl⟩) hO4
 | false =>
  rw [hcl,if_neg Bool.false_ne_true] at hrobj
  simp only [sxZ,z6,z7,z8,j4,j5,j6,j7,j8,j9,x0,x3,x4,x5,x6,x7,reduceCtorEq,↓reduceIte]
  subst hZ0
  refine zab fun Z0 hZ0 => ?_
  clear e1 e2 e3 e4 s1 s2 s3
  simp only [sxZ,z6,z7,z8,j4,j5,j6,j7,j8,j9,x0,x3,x4,x5,x6,x7,reduceCtorEq,↓reduceIte]
  refine za6 (fun n o tm => ∃ (i:Nat) (ρ':Rs) (T':Tk) (ks:List (List UInt8)) (its:List JV) (X:AV) (R1:List (Nat × OB)) (Y:AV) (R2:List (Nat × OB)),n=s.length + 2 - i ∧ ks.length=i ∧ its.length=i ∧ zdv s val ρ=(.mk 7 [] (za5 s val n ρ' T' ks its).1.1 (za5 s val n ρ' T' ks its).1.2,(za5 s val n ρ' T' ks its).2) ∧ GB s ρ' ∧ T'.2.1.length ≤ s.length ∧ (ρ'.fail=0 → i ≤ ρ'.nodes) ∧ SlP ks its X R1 Y R2 ∧ zau ((p,zaG s ρ') :: (qt,zaw T') :: (qv,jvB 7 X Y) :: (qr,zvB) :: (R1 ++ (R2 ++ L))) o ∧
    tm.length=98 ∧ tm[0]? = some (.p p 0) ∧ tm[1]? = some (.i .i64 (d:Int)) ∧ tm[4]? = some (.p qr 0) ∧ tm[5]? = some (.p qv 0) ∧ tm[6]? = some (.p qt 0)) (s.length + 2) ⟨0,ρ1,T,[],[],.nil,[],.nil,[],rfl,rfl,rfl,hrobj,hB1.1,hT1,fun _ => Nat.zero_le _,.inl ⟨rfl,rfl,rfl,rfl,rfl,rfl⟩,hO4,rfl,rfl,rfl,rfl,rfl,rfl⟩ ?_
  clear hO hO1 hO2 hO2' hO3 hO4 hrobj hB1 hT1 hcl
  rintro n o tm ⟨i,ρ',T',ks,its,X,R1,Y,R2,rfl,hi,hi2,hrobj,hGB,hTx,hnd,hS,hO,hlen,t0,t1,t4,t5,t6⟩
  obtain ⟨e1,e2,e3,e4,s1,s2,s3⟩:=st _ _ _ _ _ _ _ hO
  refine zab fun Z hZ => ?_
  by_cases c1:ρ'.fail=0
  rotate_left
  ·have he:za5 s val (s.length + 2 - i) ρ' T' ks its=((ks,its),ρ'):=by
    cases s.length + 2 - i with
    | zero => rw [za5]
    | succ m => rw [za5,if_pos c1]
   rw [he] at hrobj
   simp only [sxZ,z6,z7,z8,j4,j5,j6,j7,j8,j9,x0,x3,x4,x5,x6,x7,reduceCtorEq,↓reduceIte,List.getElem?_set,hlen,t0,e1,c1]
   subst hZ
   subst hZ0
   simp only [sxZ,z6,z7,z8,j4,j5,j6,j7,j8,j9,x0,x3,x4,x5,x6,x7,reduceCtorEq,↓reduceIte,List.getElem?_set,hlen,t4,t5,e3,e4,s1,hS.flat.1,hS.flat.2]
   exact fin hrobj hS hO
  have hil:i ≤ s.length:=by
   have h1:=hnd c1
   have h2:=hGB.n0 c1
   have h3:=hGB.p1
   omega
  obtain ⟨m,hm⟩:∃ m,s.length + 2 - i=m + 1:=⟨s.length + 1 - i,by omega⟩
  rw [hm,za5,if_neg (fun h => h c1)] at hrobj
  simp only at hrobj
  simp only [sxZ,z6,z7,z8,j4,j5,j6,j7,j8,j9,x0,x3,x4,x5,x6,x7,reduceCtorEq,↓reduceIte,List.getElem?_set,hlen,t0,e1,c1]
  subst hZ
  rw [zcO]
  clear s1 s2 s3 e1 e4
  refine zab fun Z hZ => ?_
  have hk1:∀ t,t=ks → ze5 ρ' T' t=(if T'.2.1 ∈ ks then zay (if ¬ T'.1=3 then zay ρ' T'.2.2 140 else ρ') T'.2.2 143 else if ¬ T'.1=3 then zay ρ' T'.2.2 140 else ρ'):=fun t h => by rw [h]; rfl
  have hk1:=hk1 ks rfl
  have hGk:=gb_key hGB T' ks
  have hnk:=rkey_n ρ' T' ks
  generalize hρa:(if ¬ T'.1=3 then zay ρ' T'.2.2 140 else ρ')=ρa at hk1
  refine zaz (fun o tm => zau ((p,zaG s ρa) :: (qt,zaw T') :: (qv,jvB 7 X Y) :: (qr,zvB) :: (R1 ++ (R2 ++ L))) o ∧ tm.length=98 ∧ tm[0]? = some (.p p 0) ∧ tm[1]? = some (.i .i64 (d:Int)) ∧ tm[4]? = some (.p qr 0) ∧ tm[5]? = some (.p qv 0) ∧ tm[6]? = some (.p qt 0)) ?_ ?_
  ·refine zab fun W hW => ?_
   by_cases c3:T'.1=3
   ·rw [if_neg (fun h => h c3)] at hρa
    subst hρa
    simp only [sxZ,z6,z7,z8,j4,j5,j6,j7,j8,j9,x0,x3,x4,x5,x6,x7,reduceCtorEq,↓reduceIte,List.getElem?_set,hlen,t6,e2,c3]
    subst hW
    simp only [sxZ,z6,z7,z8,j4,j5,j6,j7,j8,j9,x0,x3,x4,x5,x6,x7,reduceCtorEq,↓reduceIte,zaa,List.length_set,List.getElem?_set,hlen,t0,t1,t4,t5,t6,and_self,and_true]
    exact hO
   ·rw [if_pos c3] at hρa
    simp only [sxZ,z6,z7,z8,j4,j5,j6,j7,j8,j9,x0,x3,x4,x5,x6,x7,reduceCtorEq,↓reduceIte,List.getElem?_set,hlen,t6,e2,c3]
    subst hW
    simp only [sxZ,z6,z7,z8,j4,j5,j6,j7,j8,j9,x0,x3,x4,x5,x6,x7,reduceCtorEq,↓reduceIte,List.getElem?_set,hlen,t0,t6,e2]
    refine zak (zb1 hO T'.2.2 140 fun o8 hO8 => ?_)
    rw [hρa] at hO8
    simp only [sxZ,z6,z7,z8,j4,j5,j6,j7,j8,j9,x0,x3,x4,x5,x6,x7,reduceCtorEq,↓reduceIte,zaa,List.length_set,List.getElem?_set,hlen,t0,t1,t4,t5,t6,and_self,and_true]
    exact hO8
  clear hO hlen t0 t1 t4 t5 t6 e2 e3
  rintro oa tm ⟨hO,hlen,t0,t1,t4,t5,t6⟩
  subst hZ
  refine zab fun Z hZ => ?_
  refine zaz (fun o tm => zau ((p,zaG s (ze5 ρ' T' ks)) :: (qt,zaw T') :: (qv,jvB 7 X Y) :: (qr,zvB) :: (R1 ++ (R2 ++ L))) o ∧ tm.length=98 ∧ tm[0]? = some (.p p 0) ∧ tm[1]? = some (.i .i64 (d:Int)) ∧ tm[4]? = some (.p qr 0) ∧ tm[5]? = some (.p qv 0) ∧ tm[6]? = some (.p qt 0)) ?_ ?_
  ·obtain ⟨e1,e2,e3,e4,s1,s2,s3⟩:=st _ _ _ _ _ _ _ hO
   refine zab fun W hW => ?_
   have hPerm:((p,zaG s ρa) :: (qt,zaw T') :: (qv,jvB 7 X Y) :: (qr,zvB) :: (R1 ++ (R2 ++ L))).Perm (R1 ++ (R2 ++ ((p,zaG s ρa) :: (qt,zaw T') :: (qv,jvB 7 X Y) :: (qr,zvB) :: L))):=by
    have h0:∀ (A B C:List (Nat × OB)),(A ++ (B ++ C)).Perm (B ++ (A ++ C)):=fun A B C => by
     rw [← List.append_assoc,← List.append_assoc]
     exact List.Perm.append_right C List.perm_append_comm
    refine (h0 [(p,zaG s ρa),(qt,zaw T'),(qv,jvB 7 X Y),(qr,zvB)] R1 (R2 ++ L)).trans ?_
    exact List.Perm.append_left R1 (h0 [(p,zaG s ρa),(qt,zaw T'),(qv,jvB 7 X Y),(qr,zvB)] R2 L)
   simp only [sxZ,z6,z7,z8,j4,j5,j6,j7,j8,j9,x0,x3,x4,x5,x6,x7,reduceCtorEq,↓reduceIte,List.getElem?_set,hlen,t5,t6,e2,e3]
   refine zak (zkO ks its T'.2.1 (by omega) (by omega) hS.k hS.i (hO.perm hPerm) (fun hm o w ho => ?_) (fun hm o ho => ?_))
   ·have ho:=ho.perm hPerm.symm
    rw [if_pos hm] at hk1
    rw [zaN]
    simp only [sxZ,z6,z7,z8,j4,j5,j6,j7,j8,j9,x0,x3,x4,x5,x6,x7,reduceCtorEq,↓reduceIte,List.getElem?_set,hlen,gn1,sn1]
    have ho2:=ho.app [OB.box 26 [.i .i64 w.kind,.s w.text,.row w.keys.length (w.keys.map .s),.row w.items.length (zaj w.items)]]
    obtain ⟨e1',e2',e3',_,_,_,_⟩:=st _ _ _ _ _ _ _ ho2
    subst hW
    simp only [sxZ,z6,z7,z8,j4,j5,j6,j7,j8,j9,x0,x3,x4,x5,x6,x7,reduceCtorEq,↓reduceIte,List.getElem?_set,hlen,t0,t6,e2']
    refine zak (zb1 ho2 T'.2.2 143 fun o8 hO8 => ?_)
    rw [← hk1] at hO8
    simp only [sxZ,z6,z7,z8,j4,j5,j6,j7,j8,j9,x0,x3,x4,x5,x6,x7,reduceCtorEq,↓reduceIte,zaa,List.length_set,List.getElem?_set,hlen,t0,t1,t4,t5,t6,and_self,and_true]
    exact hO8
   ·have ho:=ho.perm hPerm.symm
    rw [if_neg hm] at hk1
    simp only [sxZ,z6,z7,z8,j4,j5,j6,j7,j8,j9,x0,x3,x4,x5,x6,x7,reduceCtorEq,↓reduceIte,List.getElem?_set,hlen,gn1,sn1]
    have ho2:=ho.app [OB.box 26 [.i .i64 0,.s [],.nil,.nil]]
    subst hW
    rw [← hk1] at ho2
    simp only [sxZ,z6,z7,z8,j4,j5,j6,j7,j8,j9,x0,x3,x4,x5,x6,x7,reduceCtorEq,↓reduceIte,zaa,List.length_set,List.getElem?_set,hlen,t0,t1,t4,t5,t6,and_self,and_true]
    exact ho2
  clear hO hlen t0 t1 t4 t5 t6 hk1 hρa
  generalize ze5 ρ' T' ks=ρk at hrobj hGk hnk
  rintro ob tm ⟨hO,hlen,t0,t1,t4,t5,t6⟩
  subst hZ
  refine zab fun Z hZ => ?_
  obtain ⟨e1,e2,e3,e4,s1,s2,s3⟩:=st _ _ _ _ _ _ _ hO
  simp only [sxZ,z6,z7,z8,j4,j5,j6,j7,j8,j9,x0,x3,x4,x5,x6,x7,reduceCtorEq,↓reduceIte,List.getElem?_set,hlen,t6,e2]
  refine zbO (fun tm => tm.length=98 ∧ tm[0]? = some (.p p 0) ∧ tm[1]? = some (.i .i64 (d:Int)) ∧ tm[4]? = some (.p qr 0) ∧ tm[5]? = some (.p qv 0) ∧ tm[6]? = some (.p qt 0) ∧ tm[9]? = some (.s T'.2.1)) ?_ ?_
  ·simp only [sxZ,z6,z7,z8,j4,j5,j6,j7,j8,j9,x0,x3,x4,x5,x6,x7,reduceCtorEq,↓reduceIte,List.length_set,List.getElem?_set,hlen,t0,t1,t4,t5,t6,and_self]
  clear hlen t0 t1 t4 t5 t6
  rintro tm ⟨hlen,t0,t1,t4,t5,t6,t9⟩
  subst hZ
  refine zab fun Z hZ => ?_
  refine zab fun W0 hW0 => ?_
  simp only [sxZ,z6,z7,z8,j4,j5,j6,j7,j8,j9,x0,x3,x4,x5,x6,x7,reduceCtorEq,↓reduceIte,List.getElem?_set,hlen,t0]
  refine zak (zcd (by omega) hO fun o6 hO6 => ?_)
  have hB_ρ2:=za9 hGk
  have hT_ρ2:=zbp hGk
  have hn_ρ2:=za1 s ρk
  have hz_ρ2:=zam s ρk
  generalize zac s ρk=N at hO6 hB_ρ2 hT_ρ2 hn_ρ2 hz_ρ2 hrobj ⊢
  obtain ⟨T2,ρ2⟩:=N
  simp only at hO6 hB_ρ2 hT_ρ2 hn_ρ2 hz_ρ2 hrobj ⊢
  obtain ⟨e1,e2,e3,e4,s1,s2,s3⟩:=st _ _ _ _ _ _ _ hO6
  unfold zcM tkC
  simp only [sxZ,z6,z7,z8,j4,j5,j6,j7,j8,j9,x0,x3,x4,x5,x6,x7,reduceCtorEq,↓reduceIte,List.getElem?_set,hlen,t6,e2,s2]
  rw [f1]
  have hO7:zau ((p,zaG s ρ2) :: (qt,zaw T2) :: (qv,jvB 7 X Y) :: (qr,zvB) :: (R1 ++ (R2 ++ L))) (o6.set qt (zaw (T2.1,T2.2.1,T2.2.2))):=zau.set (A:=[(p,zaG s ρ2)]) (zaw T2) hO6
  generalize o6.set qt (zaw (T2.1,T2.2.1,T2.2.2))=o7 at hO7 ⊢
  refine zbO (fun tm => tm.length=98 ∧ tm[0]? = some (.p p 0) ∧ tm[1]? = some (.i .i64 (d:Int)) ∧ tm[4]? = some (.p qr 0) ∧ tm[5]? = some (.p qv 0) ∧ tm[6]? = some (.p qt 0) ∧ tm[9]? = some (.s T'.2.1)) ?_ ?_
  ·simp only [sxZ,z6,z7,z8,j4,j5,j6,j7,j8,j9,x0,x3,x4,x5,x6,x7,reduceCtorEq,↓reduceIte,List.length_set,List.getElem?_set,hlen,t0,t1,t4,t5,t6,t9,and_self]
  clear hO6 hO hlen t0 t1 t4 t5 t6 t9 e1 e2 e3 e4 s1 s2 s3
  rintro tm ⟨hlen,t0,t1,t4,t5,t6,t9⟩
  have hO:=hO7
  clear hO7
  subst hW0
  refine zaz (fun o tm => zau ((p,zaG s (zaF ρ2 T2 58)) :: (qt,zaw T2) :: (qv,jvB 7 X Y) :: (qr,zvB) :: (R1 ++ (R2 ++ L))) o ∧ tm.length=98 ∧ tm[0]? = some (.p p 0) ∧ tm[1]? = some (.i .i64 (d:Int)) ∧ tm[4]? = some (.p qr 0) ∧ tm[5]? = some (.p qv 0) ∧ tm[6]? = some (.p qt 0) ∧ tm[9]? = some (.s T'.2.1)) ?_ ?_
  ·obtain ⟨e1,e2,e3,e4,s1,s2,s3⟩:=st _ _ _ _ _ _ _ hO
   refine zab fun W hW => ?_
   by_cases c3:ρ2.fail=0
   rotate_left
   ·have hw:zaF ρ2 T2 58=ρ2:=by unfold zaF; rw [if_neg (fun h => c3 h.1)]
    simp only [sxZ,z6,z7,z8,j4,j5,j6,j7,j8,j9,x0,x3,x4,x5,x6,x7,reduceCtorEq,↓reduceIte,List.getElem?_set,hlen,t0,e1,c3]
    subst hW
    simp only [sxZ,z6,z7,z8,j4,j5,j6,j7,j8,j9,x0,x3,x4,x5,x6,x7,reduceCtorEq,↓reduceIte,zaa,List.length_set,List.getElem?_set,hlen,t0,t1,t4,t5,t6,t9,hw,and_self,and_true]
    exact hO
   ·simp only [sxZ,z6,z7,z8,j4,j5,j6,j7,j8,j9,x0,x3,x4,x5,x6,x7,reduceCtorEq,↓reduceIte,List.getElem?_set,hlen,t0,t6,e1,e2,c3]
    refine zak (zex T2 58 ?_)
    cases h44:isP T2 58 with
    | true =>
     have hw:zaF ρ2 T2 58=ρ2:=by unfold zaF; rw [if_neg (fun h => by rw [h44] at h; cases h.2)]
     simp only [sxZ,z6,z7,z8,j4,j5,j6,j7,j8,j9,x0,x3,x4,x5,x6,x7,reduceCtorEq,↓reduceIte,List.getElem?_set,hlen]
     subst hW
     simp only [sxZ,z6,z7,z8,j4,j5,j6,j7,j8,j9,x0,x3,x4,x5,x6,x7,reduceCtorEq,↓reduceIte,zaa,List.length_set,List.getElem?_set,hlen,t0,t1,t4,t5,t6,t9,hw,and_self,and_true]
     exact hO
    | false =>
     have hw:zaF ρ2 T2 58=zay ρ2 T2.2.2 140:=by unfold zaF; rw [if_pos ⟨c3,h44⟩]
     simp only [sxZ,z6,z7,z8,j4,j5,j6,j7,j8,j9,x0,x3,x4,x5,x6,x7,reduceCtorEq,↓reduceIte,List.getElem?_set,hlen]
     subst hW
     simp only [sxZ,z6,z7,z8,j4,j5,j6,j7,j8,j9,x0,x3,x4,x5,x6,x7,reduceCtorEq,↓reduceIte,List.getElem?_set,hlen,t0,t6,e2]
     refine zak (zb1 hO T2.2.2 140 fun o8 hO8 => ?_)
     simp only [sxZ,z6,z7,z8,j4,j5,j6,j7,j8,j9,x0,x3,x4,x5,x6,x7,reduceCtorEq,↓reduceIte,zaa,List.length_set,List.getElem?_set,hlen,t0,t1,t4,t5,t6,t9,hw,and_self,and_true]
     exact hO8
  clear hO hlen t0 t1 t4 t5 t6 t9
  rintro oc tm ⟨hO,hlen,t0,t1,t4,t5,t6,t9⟩
  have hG3:=zdW hB_ρ2.1 T2 58
  have hn3:=zdN ρ2 T2 58
  have hz3:=za0 ρ2 T2 58
  generalize zaF ρ2 T2 58=ρ3 at hO hG3 hn3 hz3 hrobj
  subst hZ
  refine zab fun Z hZ => ?_
  simp only [sxZ,z6,z7,z8,j4,j5,j6,j7,j8,j9,x0,x3,x4,x5,x6,x7,reduceCtorEq,↓reduceIte,List.getElem?_set,hlen,t0]
  refine zak (zcd (by omega) hO fun o6 hO6 => ?_)
  have hB4:=za9 hG3
  have hT4:=zbp hG3
  have hn4:=za1 s ρ3
  have hz4:=zam s ρ3
  generalize zac s ρ3=N at hO6 hB4 hT4 hn4 hz4 hrobj ⊢
  obtain ⟨T4,ρ4⟩:=N
  simp only at hO6 hB4 hT4 hn4 hz4 hrobj ⊢
  have hvc:=fun {objs:List OB} {K:List OB → AV → Prop} {L:List (Nat × OB)} (h1) (h2) (h3) => hv (objs:=objs) (K:=K) (L:=L) (ρ:=ρ4) T4 hB4.1 hB4.2 hT4 h1 h2 h3
  have hg5:=hg ρ4 T4 hB4.1 hB4.2
  have hn5:=hn ρ4 T4
  have hz5:=hvz ρ4 T4
  generalize val ρ4 T4=a at hvc hg5 hn5 hz5 hrobj
  obtain ⟨v,ρ5⟩:=a
  simp only at hvc hg5 hn5 hz5 hrobj
  obtain ⟨c0,c1',c2,c3,hcv⟩:∃ c0 c1 c2 c3,zap v=[c0,c1,c2,c3]:=⟨_,_,_,_,zaN v⟩
  have hcf:(AV.agg [c0,c1',c2,c3]).flat=true:=by
   have:=zaN v
   rw [hcv] at this
   injection this with q0 this
   injection this with q1 this
   injection this with q2 this
   injection this with q3 _
   subst q0 q1 q2 q3
   rfl
  have hCL:zaH ((p,zaG s ρ4) :: (qt,zaw T2) :: (qv,jvB 7 X Y) :: (qr,zvB) :: (R1 ++ (R2 ++ L))):=zfj hS.k hS.i hC
  unfold zcM tkC
  simp only [sxZ,z6,z7,z8,j4,j5,j6,j7,j8,j9,x0,x3,x4,x5,x6,x7,reduceCtorEq,↓reduceIte,List.getElem?_set,hlen,t0,t1]
  refine zak (hvc hCL hO6 fun o7 hO7 => ?_)
  rw [hcv]
  simp only [sxZ,z6,z7,z8,j4,j5,j6,j7,j8,j9,x0,x3,x4,x5,x6,x7,reduceCtorEq,↓reduceIte,List.getElem?_set,hlen,gn1,sn1,hcf]
  have hO8:=hO7.new (.box 26 [c0,c1',c2,c3])
  generalize o7.length=qi at hO8 ⊢
  generalize o7 ++ [OB.box 26 [c0,c1',c2,c3]]=o8 at hO8 ⊢
  refine zbO (fun tm => tm.length=98 ∧ tm[0]? = some (.p p 0) ∧ tm[1]? = some (.i .i64 (d:Int)) ∧ tm[4]? = some (.p qr 0) ∧ tm[5]? = some (.p qv 0) ∧ tm[6]? = some (.p qt 0) ∧ tm[9]? = some (.s T'.2.1) ∧ tm[10]? = some (.p qi 0)) ?_ ?_
  ·simp only [sxZ,z6,z7,z8,j4,j5,j6,j7,j8,j9,x0,x3,x4,x5,x6,x7,reduceCtorEq,↓reduceIte,List.length_set,List.getElem?_set,hlen,t0,t1,t4,t5,t6,t9,and_self]
  clear hO hO6 hO7 hlen t0 t1 t4 t5 t6 t9
  rintro tm ⟨hlen,t0,t1,t4,t5,t6,t9,t10⟩
  subst hZ
  refine zab fun Z hZ => ?_
  have hO8p:zau ((p,zaG s ρ5) :: (qt,zaw T2) :: (qv,jvB 7 X Y) :: (qr,zvB) :: (R1 ++ (R2 ++ L))) o8:=hO8.sub (List.sublist_cons_self _ _)
  obtain ⟨e1,e2,e3,e4,s1,s2,s3⟩:=st _ _ _ _ _ _ _ hO8p
  have ei:=hO8.get (i:=qi) (x:=.box 26 [c0,c1',c2,c3]) (by simp)
  refine zaz (fun o tm => ∃ X' R1' Y' R2',SlP (ks ++ [T'.2.1]) (its ++ [v]) X' R1' Y' R2' ∧ zau ((p,zaG s ρ5) :: (qt,zaw T2) :: (qv,jvB 7 X' Y') :: (qr,zvB) :: (R1' ++ (R2' ++ L))) o ∧ tm.length=98 ∧ tm[0]? = some (.p p 0) ∧ tm[1]? = some (.i .i64 (d:Int)) ∧ tm[4]? = some (.p qr 0) ∧ tm[5]? = some (.p qv 0) ∧ tm[6]? = some (.p qt 0)) ?_ ?_
  ·rcases hS with ⟨z1,z2,rfl,rfl,rfl,rfl⟩ | ⟨b1,g1,b2,g2,rfl,rfl,rfl,rfl⟩
   ·have hlq:=(List.getElem?_eq_some_iff.1 e3).1
    have hli:=(List.getElem?_eq_some_iff.1 ei).1
    have n1:¬ qv=o8.length:=by omega
    have n2:¬ qi=o8.length:=by omega
    have h1:∀ x,(o8 ++ [x])[qv]? = some (.box 26 [.i .i64 7,.s [],.nil,.nil]):=fun x => by rw [List.getElem?_append_left hlq]; exact e3
    have h2:∀ x,(o8 ++ [x])[qi]? = some (.box 26 [c0,c1',c2,c3]):=fun x => by rw [List.getElem?_append_left hli]; exact ei
    have h3:∀ x y,(o8 ++ [x] ++ [y])[qv]? = some (.box 26 [.i .i64 7,.s [],.nil,.nil]):=fun x y => by rw [List.getElem?_append_left (by simp; omega)]; exact h1 x
    have h4:∀ x y z,((o8 ++ [x] ++ [y]).set qv z)[qv]? = some z:=fun x y z => List.getElem?_set_self (by simp; omega)
    subst z1 z2
    simp only [sxZ,z6,z7,z8,j4,j5,j6,j7,j8,j9,x0,x3,x4,x5,x6,x7,reduceCtorEq,↓reduceIte,List.getElem?_set,hlen,t5,t9,t10,e3,ei,gn1,sn1,h1,h2,h3,h4,n1,n2,zaa,List.length_set,List.set_set,t0,t1,t4,t6,and_self,and_true,not_false_eq_true,true_and]
    have hN:=(hO8p.new (.orow 9 1 0 1 [AV.s T'.2.1])).new (.orow 26 4 0 1 [c0,c1',c2,c3])
    have elen:(o8 ++ [OB.orow 9 1 0 1 [AV.s T'.2.1]]).length=o8.length + 1:=by simp
    rw [elen] at hN
    have hR:=hN.set (A:=[(o8.length + 1,OB.orow 26 4 0 1 [c0,c1',c2,c3]),(o8.length,OB.orow 9 1 0 1 [AV.s T'.2.1]),(p,zaG s ρ5),(qt,zaw T2)]) (jvB 7 (.orow o8.length 0) (.orow (o8.length + 1) 0))
    refine ⟨_,[(o8.length,OB.orow 9 1 0 1 [AV.s T'.2.1])],_,[(o8.length + 1,OB.orow 26 4 0 1 [c0,c1',c2,c3])],.inr ⟨_,_,_,_,rfl,rfl,rfl,by rw [zaJ,zaB,hcv]; rfl⟩,hR.perm ?_⟩
    refine (List.perm_append_comm (l₁:=[(o8.length + 1,OB.orow 26 4 0 1 [c0,c1',c2,c3]),(o8.length,OB.orow 9 1 0 1 [AV.s T'.2.1])]) (l₂:=[(p,zaG s ρ5),(qt,zaw T2),(qv,jvB 7 (.orow o8.length 0) (.orow (o8.length + 1) 0)),(qr,zvB)])).append_right L |>.trans ?_
    exact List.Perm.cons _ (List.Perm.cons _ (List.Perm.cons _ (List.Perm.cons _ (List.Perm.swap _ _ _))))
   ·have eb1:=hO8.get (i:=b1) (x:=.orow 9 1 g1 ks.length (ks.map .s)) (by simp)
    have eb2:=hO8.get (i:=b2) (x:=.orow 26 4 g2 its.length (zaj its)) (by simp)
    have hlq:=(List.getElem?_eq_some_iff.1 e3).1
    have hl1:=(List.getElem?_eq_some_iff.1 eb1).1
    have hl2:=(List.getElem?_eq_some_iff.1 eb2).1
    have hnd8:=hO8.1
    simp only [List.map_cons,List.map_append,List.map_nil,List.nodup_cons,List.cons_append,List.nil_append,List.mem_cons,List.mem_append,List.not_mem_nil,or_false,not_or] at hnd8
    have n1:¬ qv=b1:=hnd8.2.2.2.1.2.1
    have n2:¬ qi=b1:=hnd8.1.2.2.2.2.1
    have n3:¬ b1=b2:=hnd8.2.2.2.2.2.1.1
    have n4:¬ qv=b2:=hnd8.2.2.2.1.2.2.1
    have n1':¬ b1=qv:=fun h => n1 h.symm
    have n2':¬ b1=qi:=fun h => n2 h.symm
    have n4':¬ b2=qv:=fun h => n4 h.symm
    have h0:∀ x,(o8.set b1 x)[b1]? = some x:=fun x => List.getElem?_set_self hl1
    have h1:∀ x,(o8.set b1 x)[qv]? = some (.box 26 [.i .i64 7,.s [],.orow b1 g1,.orow b2 g2]):=fun x => by rw [List.getElem?_set_ne n1']; exact e3
    have h2:∀ x,(o8.set b1 x)[qi]? = some (.box 26 [c0,c1',c2,c3]):=fun x => by rw [List.getElem?_set_ne n2']; exact ei
    have h5:∀ x,(o8.set b1 x)[b2]? = some (.orow 26 4 g2 its.length (zaj its)):=fun x => by rw [List.getElem?_set_ne n3]; exact eb2
    have h3:∀ x y,((o8.set b1 x).set b2 y)[qv]? = some (.box 26 [.i .i64 7,.s [],.orow b1 g1,.orow b2 g2]):=fun x y => by rw [List.getElem?_set_ne n4']; exact h1 x
    have h4:∀ x y z,(((o8.set b1 x).set b2 y).set qv z)[qv]? = some z:=fun x y z => List.getElem?_set_self (by simp; omega)
    have hjl:=zby its
    simp only [sxZ,z6,z7,z8,j4,j5,j6,j7,j8,j9,x0,x3,x4,x5,x6,x7,reduceCtorEq,↓reduceIte,List.getElem?_set,hlen,t5,t9,t10,e3,ei,eb1,h0,h1,h2,h3,h4,h5,n1,n2,zaa,List.length_set,List.set_set,t0,t1,t4,t6,and_self,and_true,not_false_eq_true,true_and]
    refine ⟨⟨by omega,by omega⟩,⟨by omega,by omega⟩,?_⟩
    have hN:=hO8p.set (A:=[(p,zaG s ρ5),(qt,zaw T2),(qv,jvB 7 (.orow b1 g1) (.orow b2 g2)),(qr,zvB)]) (.orow 9 1 (g1 + 1) (ks.length + 1) (ks.map AV.s ++ [AV.s T'.2.1]))
    have hN:=hN.set (A:=[(p,zaG s ρ5),(qt,zaw T2),(qv,jvB 7 (.orow b1 g1) (.orow b2 g2)),(qr,zvB),(b1,OB.orow 9 1 (g1 + 1) (ks.length + 1) (ks.map AV.s ++ [AV.s T'.2.1]))]) (.orow 26 4 (g2 + 1) (its.length + 1) (zaj its ++ [c0,c1',c2,c3]))
    have hR:=hN.set (A:=[(p,zaG s ρ5),(qt,zaw T2)]) (jvB 7 (.orow b1 (g1 + 1)) (.orow b2 (g2 + 1)))
    exact ⟨_,[(b1,OB.orow 9 1 (g1 + 1) (ks.length + 1) (ks.map AV.s ++ [AV.s T'.2.1]))],_,[(b2,OB.orow 26 4 (g2 + 1) (its.length + 1) (zaj its ++ [c0,c1',c2,c3]))],.inr ⟨_,_,_,_,rfl,by rw [List.map_append,List.length_append]; rfl,rfl,by rw [zdh,zaJ,zaB,hcv,List.length_append]; rfl⟩,hR⟩
  clear hO8 hO8p hS hlen t0 t1 t4 t5 t6 t9 t10 e1 e2 e3 e4 s1 s2 s3 ei hCL hvc hv hg hn hcf hB hGB hTx
  rintro oc tm ⟨X',R1',Y',R2',hS,hO,hlen,t0,t1,t4,t5,t6⟩
  subst hZ
  refine zab fun Z hZ => ?_
  simp only [sxZ,z6,z7,z8,j4,j5,j6,j7,j8,j9,x0,x3,x4,x5,x6,x7,reduceCtorEq,↓reduceIte,List.getElem?_set,hlen,t0]
  refine zak (zcd (by omega) hO fun o6 hO6 => ?_)
  have hB_ρ6:=za9 hg5
  have hT_ρ6:=zbp hg5
  have hn_ρ6:=za1 s ρ5
  have hz_ρ6:=zam s ρ5
  generalize zac s ρ5=N at hO6 hB_ρ6 hT_ρ6 hn_ρ6 hz_ρ6 hrobj ⊢
  obtain ⟨T6,ρ6⟩:=N
  simp only at hO6 hB_ρ6 hT_ρ6 hn_ρ6 hz_ρ6 hrobj ⊢
  obtain ⟨e1,e2,e3,e4,s1,s2,s3⟩:=st _ _ _ _ _ _ _ hO6
  unfold zcM tkC
  simp only [sxZ,z6,z7,z8,j4,j5,j6,j7,j8,j9,x0,x3,x4,x5,x6,x7,reduceCtorEq,↓reduceIte,List.getElem?_set,hlen,t6,e2,s2]
  rw [f1]
  have hO7:zau ((p,zaG s ρ6) :: (qt,zaw T6) :: (qv,jvB 7 X' Y') :: (qr,zvB) :: (R1' ++ (R2' ++ L))) (o6.set qt (zaw (T6.1,T6.2.1,T6.2.2))):=zau.set (A:=[(p,zaG s ρ6)]) (zaw T6) hO6
  generalize o6.set qt (zaw (T6.1,T6.2.1,T6.2.2))=o7 at hO7 ⊢
  refine zbO (fun tm => tm.length=98 ∧ tm[0]? = some (.p p 0) ∧ tm[1]? = some (.i .i64 (d:Int)) ∧ tm[4]? = some (.p qr 0) ∧ tm[5]? = some (.p qv 0) ∧ tm[6]? = some (.p qt 0)) ?_ ?_
  ·simp only [sxZ,z6,z7,z8,j4,j5,j6,j7,j8,j9,x0,x3,x4,x5,x6,x7,reduceCtorEq,↓reduceIte,List.length_set,List.getElem?_set,hlen,t0,t1,t4,t5,t6,and_self]
  clear hO6 hO hlen t0 t1 t4 t5 t6 e1 e2 e3 e4 s1 s2 s3
  rintro tm ⟨hlen,t0,t1,t4,t5,t6⟩
  have hO:=hO7
  clear hO7
  subst hZ
  refine zab fun Z hZ => ?_
  obtain ⟨e1,e2,e3,e4,s1,s2,s3⟩:=st _ _ _ _ _ _ _ hO
  simp only [sxZ,z6,z7,z8,j4,j5,j6,j7,j8,j9,x0,x3,x4,x5,x6,x7,reduceCtorEq,↓reduceIte,List.getElem?_set,hlen,t6,e2]
  refine zak (zex T6 125 ?_)
  cases hcl:isP T6 125 with
  | true =>
   rw [hcl,if_pos rfl] at hrobj
   simp only [sxZ,z6,z7,z8,j4,j5,j6,j7,j8,j9,x0,x3,x4,x5,x6,x7,reduceCtorEq,↓reduceIte,List.getElem?_set,hlen,t4,t5,e3,e4,s1,hS.flat.1,hS.flat.2]
   exact fin hrobj hS hO
  | false =>
  rw [hcl,if_neg Bool.false_ne_true] at hrobj
  simp only [sxZ,z6,z7,z8,j4,j5,j6,j7,j8,j9,x0,x3,x4,x5,x6,x7,reduceCtorEq,↓reduceIte,List.getElem?_set,hlen]
  refine zbO (fun tm => tm.length=98 ∧ tm[0]? = some (.p p 0) ∧ tm[1]? = some (.i .i64 (d:Int)) ∧ tm[4]? = some (.p qr 0) ∧ tm[5]? = some (.p qv 0) ∧ tm[6]? = some (.p qt 0)) ?_ ?_
  ·simp only [sxZ,z6,z7,z8,j4,j5,j6,j7,j8,j9,x0,x3,x4,x5,x6,x7,reduceCtorEq,↓reduceIte,List.length_set,List.getElem?_set,hlen,t0,t1,t4,t5,t6,and_self]
  clear hlen t0 t1 t4 t5 t6 e1 e2 e3 e4 s1 s2 s3
  rintro tm ⟨hlen,t0,t1,t4,t5,t6⟩
  subst hZ
  refine zab fun Z hZ => ?_
  refine zaz (fun o tm => zau ((p,zaG s (zaF ρ6 T6 44)) :: (qt,zaw T6) :: (qv,jvB 7 X' Y') :: (qr,zvB) :: (R1' ++ (R2' ++ L))) o ∧ tm.length=98 ∧ tm[0]? = some (.p p 0) ∧ tm[1]? = some (.i .i64 (d:Int)) ∧ tm[4]? = some (.p qr 0) ∧ tm[5]? = some (.p qv 0) ∧ tm[6]? = some (.p qt 0)) ?_ ?_
  ·obtain ⟨e1,e2,e3,e4,s1,s2,s3⟩:=st _ _ _ _ _ _ _ hO
   refine zab fun W hW => ?_
   by_cases c3:ρ6.fail=0
   rotate_left
   ·have hw:zaF ρ6 T6 44=ρ6:=by unfold zaF; rw [if_neg (fun h => c3 h.1)]
    simp only [sxZ,z6,z7,z8,j4,j5,j6,j7,j8,j9,x0,x3,x4,x5,x6,x7,reduceCtorEq,↓reduceIte,List.getElem?_set,hlen,t0,e1,c3]
    subst hW
    simp only [sxZ,z6,z7,z8,j4,j5,j6,j7,j8,j9,x0,x3,x4,x5,x6,x7,reduceCtorEq,↓reduceIte,zaa,List.length_set,List.getElem?_set,hlen,t0,t1,t4,t5,t6,hw,and_self,and_true]
    exact hO
   ·simp only [sxZ,z6,z7,z8,j4,j5,j6,j7,j8,j9,x0,x3,x4,x5,x6,x7,reduceCtorEq,↓reduceIte,List.getElem?_set,hlen,t0,t6,e1,e2,c3]
    refine zak (zex T6 44 ?_)
    cases h44:isP T6 44 with
    | true =>
     have hw:zaF ρ6 T6 44=ρ6:=by unfold zaF; rw [if_neg (fun h => by rw [h44] at h; cases h.2)]
     simp only [sxZ,z6,z7,z8,j4,j5,j6,j7,j8,j9,x0,x3,x4,x5,x6,x7,reduceCtorEq,↓reduceIte,List.getElem?_set,hlen]
     subst hW
     simp only [sxZ,z6,z7,z8,j4,j5,j6,j7,j8,j9,x0,x3,x4,x5,x6,x7,reduceCtorEq,↓reduceIte,zaa,List.length_set,List.getElem?_set,hlen,t0,t1,t4,t5,t6,hw,and_self,and_true]
     exact hO
    | false =>
     have hw:zaF ρ6 T6 44=zay ρ6 T6.2.2 140:=by unfold zaF; rw [if_pos ⟨c3,h44⟩]
     simp only [sxZ,z6,z7,z8,j4,j5,j6,j7,j8,j9,x0,x3,x4,x5,x6,x7,reduceCtorEq,↓reduceIte,List.getElem?_set,hlen]
     subst hW
     simp only [sxZ,z6,z7,z8,j4,j5,j6,j7,j8,j9,x0,x3,x4,x5,x6,x7,reduceCtorEq,↓reduceIte,List.getElem?_set,hlen,t0,t6,e2]
     refine zak (zb1 hO T6.2.2 140 fun o8 hO8 => ?_)
     simp only [sxZ,z6,z7,z8,j4,j5,j6,j7,j8,j9,x0,x3,x4,x5,x6,x7,reduceCtorEq,↓reduceIte,zaa,List.length_set,List.getElem?_set,hlen,t0,t1,t4,t5,t6,hw,and_self,and_true]
     exact hO8
  clear hO hlen t0 t1 t4 t5 t6
  rintro oc tm ⟨hO,hlen,t0,t1,t4,t5,t6⟩
  have hG7:=zdW hB_ρ6.1 T6 44
  have hn7:=zdN ρ6 T6 44
  have hz7:=za0 ρ6 T6 44
  generalize zaF ρ6 T6 44=ρ7 at hO hG7 hn7 hz7 hrobj
  subst hZ
  simp only [sxZ,z6,z7,z8,j4,j5,j6,j7,j8,j9,x0,x3,x4,x5,x6,x7,reduceCtorEq,↓reduceIte,List.getElem?_set,hlen,t0]
  refine zak (zcd (by omega) hO fun o9 hO9 => ?_)
  have hB8:=za9 hG7
  have hT8:=zbp hG7
  have hn8:=za1 s ρ7
  have hz8:=zam s ρ7
  generalize zac s ρ7=N at hO9 hB8 hT8 hn8 hz8 hrobj ⊢
  obtain ⟨T8,ρ8⟩:=N
  simp only at hO9 hB8 hT8 hn8 hz8 hrobj ⊢
  obtain ⟨e1,e2,e3,e4,s1,s2,s3⟩:=st _ _ _ _ _ _ _ hO9
  unfold zcM tkC
  simp only [sxZ,z6,z7,z8,j4,j5,j6,j7,j8,j9,x0,x3,x4,x5,x6,x7,reduceCtorEq,↓reduceIte,List.getElem?_set,hlen,t6,e2,s2]
  rw [f1]
  have hO10:zau ((p,zaG s ρ8) :: (qt,zaw T8) :: (qv,jvB 7 X' Y') :: (qr,zvB) :: (R1' ++ (R2' ++ L))) (o9.set qt (zaw (T8.1,T8.2.1,T8.2.2))):=zau.set (A:=[(p,zaG s ρ8)]) (zaw T8) hO9
  generalize o9.set qt (zaw (T8.1,T8.2.1,T8.2.2))=o10 at hO10 ⊢
  have zz:∀ {a b:Rs},zgb a b → b.fail=0 → a.fail=0:=fun {a b} h hb => by
   by_cases c:a.fail=0
   ·exact c
   ·exact absurd ((h c).1.symm.trans hb) c
  refine ⟨m,by omega,i + 1,ρ8,T8,ks ++ [T'.2.1],its ++ [v],X',R1',Y',R2',by omega,by rw [List.length_append,hi]; rfl,by rw [List.length_append,hi2]; rfl,hrobj,hB8.1,hT8,fun hf => ?_,hS,hO10,?_⟩
  ·have q7:=zz hz8 hf
   have q6:=zz hz7 q7
   have q5:=zz hz_ρ6 q6
   have q4:=zz hz5 q5
   have:=hn5 q5
   have:=hnd c1
   omega
  ·simp only [sxZ,z6,z7,z8,j4,j5,j6,j7,j8,j9,x0,x3,x4,x5,x6,x7,reduceCtorEq,↓reduceIte,List.length_set,List.getElem?_set,hlen,t0,t1,t4,t5,t6,and_self]
end
end
section
attribute [local irreducible] run
theorem zjG {L L':List (Nat × OB)} (h:zaH L) (hm:∀ y,y ∈ L' ↔ y ∈ L):zaH L':=fun y hy b g n xs hb => h y ((hm y).1 hy) b g n xs fun z hz => hb z ((hm z).2 hz)
theorem zdX {x:Nat × OB} {i T:Nat} {cs:List AV} {L:List (Nat × OB)} (h:zaH (x :: L)) (hp:zar cs=true):zaH (x :: (i,.box T cs) :: L) :=
 zjG (zcV (i:=i) (T:=T) h hp) fun y => by simp only [List.mem_cons]; exact ⟨fun h => by rcases h with h | h | h <;> simp [h],fun h => by rcases h with h | h | h <;> simp [h]⟩
theorem den_leaf {k:Int} {x:List UInt8} {G:Gh} {I:Imm} {y:Value} (h:Den G I (.agg [.i .i64 k,.s x,.nil,.nil]) y):Den G I (.agg (zap (.mk k x [] []))) y:=by
 rw [zap,zaB]
 simp only [zag,Den] at h ⊢
 obtain ⟨zs,rfl,⟨z0,m0,rfl,q0,z1,m1,rfl,q1,z2,m2,rfl,q2,z3,m3,rfl,q3,q4⟩,hz⟩:=h
 refine ⟨_,rfl,⟨_,_,rfl,q0,_,_,rfl,q1,_,_,rfl,?_,_,_,rfl,?_,q4⟩,hz⟩
 ·exact ⟨none,0,[],q2,⟨Nat.le_refl _,fun ad h => by cases h⟩,rfl,by simp,by simp⟩
 ·exact ⟨none,0,[],q3,⟨Nat.le_refl _,fun ad h => by cases h⟩,rfl,by simp,by simp⟩
def Res (K:List OB → AV → Prop) (v:JV) (o:List OB) (r:AV):Prop:=(∀ G I y,Den G I r y → Den G I (.agg (zap v)) y) ∧ K o (.agg (zap v))
theorem zdx {K:List OB → AV → Prop} {k:Int} {x:List UInt8} {o:List OB} (h:K o (.agg (zap (.mk k x [] [])))):Res K (.mk k x [] []) o (.agg [.i .i64 k,.s x,.nil,.nil]):=⟨fun _ _ _ hy => den_leaf hy,h⟩
section
variable [Tabs Tryz.prog] [Utf Tryz.prog] {p:Nat} {s:List UInt8}
theorem value_k (hs:s.length ≤ 3000):∀ f d,f + d=65 → d ≤ 64 → ValK s p d (fun ρ t => zao s f ρ t d):=by
 intro f
 induction f with
 | zero => intro d hd hd2; omega
 | succ f ih =>
  intro d hd hd2
  unfold ValK
  intro objs K L ρ t hB hT hTx hC hO hk
  dsimp only at hk
  refine jres (.agg (zap (zao s (f + 1) ρ t d).1)) ?_
  show zad _ _ _ _ (Res K (zao s (f + 1) ρ t d).1)
  refine zbt is_ref14_parser_value fun C _ => ?_
  obtain ⟨k5,k4,kw,k6,k7,kw2⟩:=zjZ (t:=t)
  rw [c_ref14_parser_value]
  refine zab fun Z hZ => ?_
  unfold zcM tkC
  simp only [sxZ,z6,z7,z8,j4,j5,j6,j7,j8,j9,x0,x3,x4,x5,x6,x7,reduceCtorEq,↓reduceIte]
  have hO1:=(hO.new (zaw t)).new zvB
  have elen:(objs ++ [zaw t]).length=objs.length + 1:=by simp
  rw [elen] at hO1
  unfold zaw tkC zvB at hO1
  generalize objs.length=qt at hO1 ⊢
  generalize objs ++ [OB.box 51 [.i .i64 t.1,.s t.2.1,.i .i64 t.2.2]] ++ [OB.box 26 [.i .i64 0,.s [],.nil,.nil]]=o at hO1 ⊢
  have hO1:zau ((p,zaG s ρ) :: (qt,zaw t) :: (qt + 1,zvB) :: L) o:=hO1.perm ((List.reverse_perm [(p,zaG s ρ),(qt,zaw t),(qt + 1,zvB)]).append_right L)
  generalize qt + 1=qr at hO1 ⊢
  have fin:∀ (o:List OB) (ρ':Rs) (x:OB) (M:List (Nat × OB)),zau ((p,zaG s ρ') :: (qt,zaw t) :: (qr,zvB) :: (M ++ L)) o → zau ((p,zaG s ρ') :: L) (o.set qr x):=fun o ρ' x M h => (zau.set (A:=[(p,zaG s ρ'),(qt,zaw t)]) x h).sub ((((List.sublist_append_right M L).trans (List.sublist_cons_self _ _)).trans (List.sublist_cons_self _ _)).cons_cons _)
  have st:∀ (o:List OB) (ρ':Rs) (M:List (Nat × OB)),zau ((p,zaG s ρ') :: (qt,zaw t) :: (qr,zvB) :: (M ++ L)) o → o[p]? = some (.box 57 [.s s,.i .i64 ρ'.pos,.i .i64 (ρ'.nodes:Int),.i .i64 ρ'.fail,.i .i64 ρ'.wh]) ∧ o[qt]? = some (.box 51 [.i .i64 t.1,.s t.2.1,.i .i64 t.2.2]) ∧ o[qr]? = some (.box 26 [.i .i64 0,.s [],.nil,.nil]) ∧ (∀ x,(o.set qr x)[qr]? = some x) :=
   fun o ρ' M h => ⟨h.get (by simp [zaG]),h.get (by simp [zaw,tkC]),h.get (by simp [zvB]),fun x => List.getElem?_set_self (h.lt (i:=qr) (x:=zvB) (by simp))⟩
  have hO1:zau ((p,zaG s ρ) :: (qt,zaw t) :: (qr,zvB) :: ([] ++ L)) o:=hO1
  obtain ⟨e1,e2,e3,s1⟩:=st _ _ _ hO1
  subst hZ
  refine zab fun Z hZ => ?_
  refine zaz (fun o' tm => o=o' ∧ tm.length=117 ∧ tm[0]? = some (.p p 0) ∧ tm[2]? = some (.i .i64 (d:Int)) ∧ tm[4]? = some (.p qt 0) ∧ tm[6]? = some (.p qr 0) ∧ tm[7]? = some (.b (!decide (vkE t=0)))) ?_ ?_
  ·by_cases a3:t.1=3
   ·have hv:¬ vkE t=0:=by have:=k5.2 a3; omega
    simp only [sxZ,z6,z7,z8,j4,j5,j6,j7,j8,j9,x0,x3,x4,x5,x6,x7,reduceCtorEq,↓reduceIte,e2,a3,zaa,hv,decide_false,Bool.not_false,and_self]
   by_cases a4:t.1=4
   ·have hv:¬ vkE t=0:=by have:=k4.2 a4; omega
    simp only [sxZ,z6,z7,z8,j4,j5,j6,j7,j8,j9,x0,x3,x4,x5,x6,x7,reduceCtorEq,↓reduceIte,e2,a3,a4,zaa,hv,decide_false,Bool.not_false,and_self]
   by_cases a5:t.1=5
   ·have hv:¬ vkE t=0:=by have:=kw.2 a5; omega
    simp only [sxZ,z6,z7,z8,j4,j5,j6,j7,j8,j9,x0,x3,x4,x5,x6,x7,reduceCtorEq,↓reduceIte,e2,a3,a4,a5,zaa,hv,decide_false,Bool.not_false,and_self]
   simp only [sxZ,z6,z7,z8,j4,j5,j6,j7,j8,j9,x0,x3,x4,x5,x6,x7,reduceCtorEq,↓reduceIte,e2,a3,a4,a5]
   refine zak (zex t 91 ?_)
   cases h91:isP t 91 with
   | true =>
    have hv:¬ vkE t=0:=by have:=k6.2 h91; omega
    simp only [sxZ,z6,z7,z8,j4,j5,j6,j7,j8,j9,x0,x3,x4,x5,x6,x7,reduceCtorEq,↓reduceIte,zaa,hv,decide_false,Bool.not_false,and_self]
   | false =>
    simp only [sxZ,z6,z7,z8,j4,j5,j6,j7,j8,j9,x0,x3,x4,x5,x6,x7,reduceCtorEq,↓reduceIte,e2]
    refine zak (zex t 123 ?_)
    cases h123:isP t 123 with
    | true =>
     have hv:¬ vkE t=0:=by have:=k7.2 h123; omega
     simp only [sxZ,z6,z7,z8,j4,j5,j6,j7,j8,j9,x0,x3,x4,x5,x6,x7,reduceCtorEq,↓reduceIte,zaa,hv,decide_false,Bool.not_false,and_self]
    | false =>
     have hv:vkE t=0:=by
      have n5:¬ vkE t=5:=fun h => a3 (k5.1 h)
      have n4:¬ vkE t=4:=fun h => a4 (k4.1 h)
      have nw:¬ (vkE t=1 ∨ vkE t=2 ∨ vkE t=3):=fun h => a5 (kw.1 h)
      have n6:¬ vkE t=6:=fun h => by rw [k6.1 h] at h91; cases h91
      have n7:¬ vkE t=7:=fun h => by rw [k7.1 h] at h123; cases h123
      have:=zjY t
      omega
     simp only [sxZ,z6,z7,z8,j4,j5,j6,j7,j8,j9,x0,x3,x4,x5,x6,x7,reduceCtorEq,↓reduceIte,zaa,hv,decide_true,Bool.not_true,and_self]
  rintro o' tm ⟨rfl,hlen,t0,t2,t4,t6,t7⟩
  subst hZ
  refine zab fun Z hZ => ?_
  by_cases c0:ρ.fail=0
  rotate_left
  ·rw [zao,if_pos c0] at hk ⊢
   simp only [sxZ,z6,z7,z8,j4,j5,j6,j7,j8,j9,x0,x3,x4,x5,x6,x7,reduceCtorEq,↓reduceIte,List.getElem?_set,hlen,t0,t6,e1,e3,c0,s1]
   exact zdx (hk _ (fin _ _ _ _ hO1))
  rw [zao,if_neg (fun h => h c0)] at hk ⊢
  simp only [sxZ,z6,z7,z8,j4,j5,j6,j7,j8,j9,x0,x3,x4,x5,x6,x7,reduceCtorEq,↓reduceIte,List.getElem?_set,hlen,t0,e1,c0]
  subst hZ
  refine zab fun Z hZ => ?_
  by_cases cv:vkE t=0
  ·rw [if_pos cv] at hk ⊢
   simp only [cv,decide_true,Bool.not_true] at t7
   simp only [sxZ,z6,z7,z8,j4,j5,j6,j7,j8,j9,x0,x3,x4,x5,x6,x7,reduceCtorEq,↓reduceIte,List.getElem?_set,hlen,t0,t4,t7,e2]
   refine zak (zb1 hO1 t.2.2 140 fun o2 hO2 => ?_)
   obtain ⟨e1,e2,e3,s1⟩:=st _ _ _ hO2
   simp only [sxZ,z6,z7,z8,j4,j5,j6,j7,j8,j9,x0,x3,x4,x5,x6,x7,reduceCtorEq,↓reduceIte,List.getElem?_set,hlen,t6,e3,s1]
   exact zdx (hk _ (fin _ _ _ _ hO2))
  rw [if_neg cv] at hk ⊢
  simp only [cv,decide_false,Bool.not_false] at t7
  simp only [sxZ,z6,z7,z8,j4,j5,j6,j7,j8,j9,x0,x3,x4,x5,x6,x7,reduceCtorEq,↓reduceIte,List.getElem?_set,hlen,t7]
  subst hZ
  refine zab fun Z hZ => ?_
  by_cases c2:t.1=2 ∧ d=64
  ·rw [if_pos c2] at hk ⊢
   have c2b:(d:Int)=64:=by omega
   have c2a:=c2.1
   simp only [sxZ,z6,z7,z8,j4,j5,j6,j7,j8,j9,x0,x3,x4,x5,x6,x7,reduceCtorEq,↓reduceIte,List.getElem?_set,hlen,t0,t2,t4,e2,c2a,c2b]
   refine zak (zb1 hO1 t.2.2 141 fun o2 hO2 => ?_)
   obtain ⟨e1,e2,e3,s1⟩:=st _ _ _ hO2
   simp only [sxZ,z6,z7,z8,j4,j5,j6,j7,j8,j9,x0,x3,x4,x5,x6,x7,reduceCtorEq,↓reduceIte,List.getElem?_set,hlen,t6,e3,s1]
   exact zdx (hk _ (fin _ _ _ _ hO2))
  rw [if_neg c2] at hk ⊢
  refine zaz (fun o' tm => o=o' ∧ tm.length=117 ∧ tm[0]? = some (.p p 0) ∧ tm[2]? = some (.i .i64 (d:Int)) ∧ tm[4]? = some (.p qt 0) ∧ tm[6]? = some (.p qr 0)) ?_ ?_
  ·by_cases c2a:t.1=2
   ·have c2b:¬ (d:Int)=64:=fun h => c2 ⟨c2a,by omega⟩
    simp only [sxZ,z6,z7,z8,j4,j5,j6,j7,j8,j9,x0,x3,x4,x5,x6,x7,reduceCtorEq,↓reduceIte,List.getElem?_set,hlen,t0,t2,t4,t6,e2,c2a,c2b,zaa,List.length_set,and_self]
   ·simp only [sxZ,z6,z7,z8,j4,j5,j6,j7,j8,j9,x0,x3,x4,x5,x6,x7,reduceCtorEq,↓reduceIte,List.getElem?_set,hlen,t0,t2,t4,t6,e2,c2a,zaa,List.length_set,and_self]
  clear hlen t0 t2 t4 t6 t7
  rintro o' tm ⟨rfl,hlen,t0,t2,t4,t6⟩
  subst hZ
  refine zab fun Z hZ => ?_
  have hO2:=hO1.new (.box 26 [.i .i64 5,.s t.2.1,.nil,.nil])
  have hO2:zau ((p,zaG s ρ) :: (qt,zaw t) :: (qr,zvB) :: ([(o.length,.box 26 [.i .i64 5,.s t.2.1,.nil,.nil])] ++ L)) (o ++ [.box 26 [.i .i64 5,.s t.2.1,.nil,.nil]]):=hO2.perm (List.perm_middle (l₁:=[(p,zaG s ρ),(qt,zaw t),(qr,zvB)])).symm
  simp only [sxZ,z6,z7,z8,j4,j5,j6,j7,j8,j9,x0,x3,x4,x5,x6,x7,reduceCtorEq,↓reduceIte,List.getElem?_set,hlen,t4,e2,gn1,sn1]
  have hqv:¬ o.length=qt ∧ ¬ o.length=p:=by
   have h1:=hO1.lt (i:=qt) (x:=zaw t) (by simp)
   have h2:=hO1.lt (i:=p) (x:=zaG s ρ) (by simp)
   omega
  generalize o.length=qv at hO2 hqv ⊢
  generalize o ++ [OB.box 26 [.i .i64 5,.s t.2.1,.nil,.nil]]=o2 at hO2 ⊢
  refine zbO (fun tm => tm.length=117 ∧ tm[0]? = some (.p p 0) ∧ tm[2]? = some (.i .i64 (d:Int)) ∧ tm[4]? = some (.p qt 0) ∧ tm[6]? = some (.p qr 0) ∧ tm[8]? = some (.p qv 0)) ?_ ?_
  ·simp only [sxZ,z6,z7,z8,j4,j5,j6,j7,j8,j9,x0,x3,x4,x5,x6,x7,reduceCtorEq,↓reduceIte,List.length_set,List.getElem?_set,hlen,t0,t2,t4,t6,and_self]
  clear hlen t0 t2 t4 t6 e1 e2 e3 s1 hO1
  rintro tm ⟨hlen,t0,t2,t4,t6,t8⟩
  subst hZ
  refine zab fun Z hZ => ?_
  have hcnt:zaK ρ t=(if 20000 < (if t.1=4 ∧ ¬ (zbo t.2.1).1=0 then zay ρ t.2.2 (zbo t.2.1).1 else ρ).nodes + 1 then zay ⟨(if t.1=4 ∧ ¬ (zbo t.2.1).1=0 then zay ρ t.2.2 (zbo t.2.1).1 else ρ).pos,(if t.1=4 ∧ ¬ (zbo t.2.1).1=0 then zay ρ t.2.2 (zbo t.2.1).1 else ρ).nodes + 1,(if t.1=4 ∧ ¬ (zbo t.2.1).1=0 then zay ρ t.2.2 (zbo t.2.1).1 else ρ).fail,(if t.1=4 ∧ ¬ (zbo t.2.1).1=0 then zay ρ t.2.2 (zbo t.2.1).1 else ρ).wh⟩ t.2.2 142 else ⟨(if t.1=4 ∧ ¬ (zbo t.2.1).1=0 then zay ρ t.2.2 (zbo t.2.1).1 else ρ).pos,(if t.1=4 ∧ ¬ (zbo t.2.1).1=0 then zay ρ t.2.2 (zbo t.2.1).1 else ρ).nodes + 1,(if t.1=4 ∧ ¬ (zbo t.2.1).1=0 then zay ρ t.2.2 (zbo t.2.1).1 else ρ).fail,(if t.1=4 ∧ ¬ (zbo t.2.1).1=0 then zay ρ t.2.2 (zbo t.2.1).1 else ρ).wh⟩):=rfl
  have hxn:(if t.1=4 ∧ ¬ (zbo t.2.1).1=0 then zay ρ t.2.2 (zbo t.2.1).1 else ρ).nodes=ρ.nodes:=by
   split
   ·exact zdd _ _ _
   ·rfl
  generalize hx:(if t.1=4 ∧ ¬ (zbo t.2.1).1=0 then zay ρ t.2.2 (zbo t.2.1).1 else ρ)=x at hcnt hxn
  refine zaz (fun o tm => zau ((p,zaG s x) :: (qt,zaw t) :: (qr,zvB) :: ([(qv,.box 26 [.i .i64 (if t.1=4 then 4 else 5),.s (if t.1=4 then (zbo t.2.1).2 else t.2.1),.nil,.nil])] ++ L)) o ∧ tm.length=117 ∧ tm[0]? = some (.p p 0) ∧ tm[2]? = some (.i .i64 (d:Int)) ∧ tm[4]? = some (.p qt 0) ∧ tm[6]? = some (.p qr 0) ∧ tm[8]? = some (.p qv 0)) ?_ ?_
  ·obtain ⟨e1,e2,e3,s1⟩:=st _ _ _ hO2
   by_cases a4:t.1=4
   rotate_left
   ·rw [if_neg (fun h => a4 h.1)] at hx
    subst hx
    simp only [sxZ,z6,z7,z8,j4,j5,j6,j7,j8,j9,x0,x3,x4,x5,x6,x7,reduceCtorEq,↓reduceIte,List.getElem?_set,hlen,t0,t2,t4,t6,t8,e2,a4,zaa,List.length_set,and_self,and_true,if_false]
    exact hO2
   have eqv:=hO2.get (i:=qv) (x:=.box 26 [.i .i64 5,.s t.2.1,.nil,.nil]) (by simp)
   simp only [sxZ,z6,z7,z8,j4,j5,j6,j7,j8,j9,x0,x3,x4,x5,x6,x7,reduceCtorEq,↓reduceIte,List.getElem?_set,hlen,t4,e2,a4]
   refine zak (zkt t.2.1 (by omega) ?_)
   by_cases cn:(zbo t.2.1).1=0
   ·rw [if_neg (fun h => h.2 cn)] at hx
    subst hx
    simp only [sxZ,z6,z7,z8,j4,j5,j6,j7,j8,j9,x0,x3,x4,x5,x6,x7,reduceCtorEq,↓reduceIte,List.getElem?_set,hlen,t0,t2,t4,t6,t8,cn,eqv,zaa,List.length_set,and_self,and_true,if_pos]
    exact zau.set (A:=[(p,zaG s ρ),(qt,zaw t),(qr,zvB)]) (.box 26 [.i .i64 4,.s (zbo t.2.1).2,.nil,.nil]) hO2
   ·rw [if_pos ⟨a4,cn⟩] at hx
    simp only [sxZ,z6,z7,z8,j4,j5,j6,j7,j8,j9,x0,x3,x4,x5,x6,x7,reduceCtorEq,↓reduceIte,List.getElem?_set,hlen,t0,t4,e2,cn]
    refine zak (zb1 hO2 t.2.2 (zbo t.2.1).1 fun o3 hO3 => ?_)
    rw [hx] at hO3
    have eqv:=hO3.get (i:=qv) (x:=.box 26 [.i .i64 5,.s t.2.1,.nil,.nil]) (by simp)
    simp only [sxZ,z6,z7,z8,j4,j5,j6,j7,j8,j9,x0,x3,x4,x5,x6,x7,reduceCtorEq,↓reduceIte,List.getElem?_set,hlen,t0,t2,t4,t6,t8,eqv,zaa,List.length_set,and_self,and_true,if_pos]
    exact zau.set (A:=[(p,zaG s x),(qt,zaw t),(qr,zvB)]) (.box 26 [.i .i64 4,.s (zbo t.2.1).2,.nil,.nil]) hO3
  clear hlen t0 t2 t4 t6 t8 hO2 hx
  generalize hkk:(if t.1=4 then (4:Int) else 5)=kk
  generalize hxx:(if t.1=4 then (zbo t.2.1).2 else t.2.1)=xx
  rintro o3 tm ⟨hO3,hlen,t0,t2,t4,t6,t8⟩
  subst hZ
  refine zab fun Z hZ => ?_
  have f2:∀ b:Rs,OB.box 57 [.s s,.i .i64 b.pos,.i .i64 ((b.nodes:Int) + 1),.i .i64 b.fail,.i .i64 b.wh]=zaG s ⟨b.pos,b.nodes + 1,b.fail,b.wh⟩:=fun _ => rfl
  have hnb:=hB.n1
  refine zaz (fun o tm => zau ((p,zaG s (zaK ρ t)) :: (qt,zaw t) :: (qr,zvB) :: ([(qv,.box 26 [.i .i64 kk,.s xx,.nil,.nil])] ++ L)) o ∧ tm.length=117 ∧ tm[0]? = some (.p p 0) ∧ tm[2]? = some (.i .i64 (d:Int)) ∧ tm[4]? = some (.p qt 0) ∧ tm[6]? = some (.p qr 0) ∧ tm[8]? = some (.p qv 0)) ?_ ?_
  ·obtain ⟨e1,e2,e3,s1⟩:=st _ _ _ hO3
   refine zab fun W hW => ?_
   simp only [sxZ,z6,z7,z8,j4,j5,j6,j7,j8,j9,x0,x3,x4,x5,x6,x7,reduceCtorEq,↓reduceIte,List.getElem?_set,hlen,t0,e1]
   refine ⟨⟨by omega,by omega⟩,?_⟩
   rw [f2]
   have hO4:=zau.set (A:=[]) (zaG s ⟨x.pos,x.nodes + 1,x.fail,x.wh⟩) hO3
   have hO4:zau ((p,zaG s ⟨x.pos,x.nodes + 1,x.fail,x.wh⟩) :: (qt,zaw t) :: (qr,zvB) :: ([(qv,.box 26 [.i .i64 kk,.s xx,.nil,.nil])] ++ L)) (o3.set p (zaG s ⟨x.pos,x.nodes + 1,x.fail,x.wh⟩)):=hO4
   generalize o3.set p (zaG s ⟨x.pos,x.nodes + 1,x.fail,x.wh⟩)=o4 at hO4 ⊢
   obtain ⟨e1,e2,e3,s1⟩:=st _ _ _ hO4
   subst hW
   by_cases c7:20000 < x.nodes + 1
   ·rw [if_pos c7] at hcnt
    have c7':(20000:Int) < ((x.nodes + 1:Nat):Int):=by omega
    simp only [sxZ,z6,z7,z8,j4,j5,j6,j7,j8,j9,x0,x3,x4,x5,x6,x7,reduceCtorEq,↓reduceIte,List.getElem?_set,hlen,t0,t2,t4,t6,e1,e2,c7']
    refine zak (zb1 hO4 t.2.2 142 fun o5 hO5 => ?_)
    rw [← hcnt] at hO5
    simp only [sxZ,z6,z7,z8,j4,j5,j6,j7,j8,j9,x0,x3,x4,x5,x6,x7,reduceCtorEq,↓reduceIte,List.getElem?_set,hlen,t0,t2,t4,t6,t8,zaa,List.length_set,and_self,and_true]
    exact hO5
   ·rw [if_neg c7] at hcnt
    have c7':¬ (20000:Int) < ((x.nodes + 1:Nat):Int):=by omega
    rw [← hcnt] at hO4
    simp only [sxZ,z6,z7,z8,j4,j5,j6,j7,j8,j9,x0,x3,x4,x5,x6,x7,reduceCtorEq,↓reduceIte,List.getElem?_set,hlen,t0,t2,t4,t6,t8,e1,c7',zaa,List.length_set,and_self,and_true]
    exact hO4
  clear hO3 hlen t0 t2 t4 t6 t8 hcnt hxn x
  rintro o4 tm ⟨hO4,hlen,t0,t2,t4,t6,t8⟩
  have hGc:=ziL hB hT (vk_end cv) c0
  have hGv:GV s (fun ρ t => zao s f ρ t (d + 1)):=zeh s f (d + 1)
  generalize zaK ρ t=ρc at hO4 hGc hk ⊢
  obtain ⟨e1,e2,e3,s1⟩:=st _ _ _ hO4
  subst hZ
  refine zab fun Z hZ => ?_
  rw [zcO]
  have hCa:zaH ((p,zaG s ρc) :: (qt,zaw t) :: (qr,zvB) :: ([(qv,.box 26 [.i .i64 kk,.s xx,.nil,.nil])] ++ L)):=zdX (zdX (zdX (zeL hC) rfl) rfl) rfl
  by_cases a5:t.1=5
  ·rw [if_pos a5] at hk ⊢
   simp only [sxZ,z6,z7,z8,j4,j5,j6,j7,j8,j9,x0,x3,x4,x5,x6,x7,reduceCtorEq,↓reduceIte,List.getElem?_set,hlen,t4,e2,a5]
   refine zak (rword_k t.2.1 ?_)
   simp only [sxZ,z6,z7,z8,j4,j5,j6,j7,j8,j9,x0,x3,x4,x5,x6,x7,reduceCtorEq,↓reduceIte,List.getElem?_set,hlen,t6,e3,s1]
   exact zdx (hk _ (fin _ _ _ _ hO4))
  rw [if_neg a5] at hk ⊢
  simp only [sxZ,z6,z7,z8,j4,j5,j6,j7,j8,j9,x0,x3,x4,x5,x6,x7,reduceCtorEq,↓reduceIte,List.getElem?_set,hlen,t4,e2,a5]
  refine zak (zex t 91 ?_)
  cases h91:isP t 91 with
  | true =>
   have h2:=(zb7 h91).1
   have hd3:d < 64:=by
    rcases Nat.lt_or_ge d 64 with h | h
    ·exact h
    ·exact absurd ⟨h2,by omega⟩ c2
   have hval:ValK s p (d + 1) (fun ρ t => zao s f ρ t (d + 1)):=ih (d + 1) (by omega) (by omega)
   have hn1:=fun ρ t => (zfB s f (d + 1)).2 ρ t (by omega)
   rw [h91] at hk
   rw [if_pos rfl] at hk ⊢
   simp only [sxZ,z6,z7,z8,j4,j5,j6,j7,j8,j9,x0,x3,x4,x5,x6,x7,reduceCtorEq,↓reduceIte,List.getElem?_set,hlen,t0,t2]
   refine ⟨⟨by omega,by omega⟩,?_⟩
   rw [show ((d:Int) + 1)=((d + 1:Nat):Int) from rfl]
   refine zak (array_k hval hGv hn1 hs hGc hCa hO4 fun o9 hO9 => ?_)
   obtain ⟨e1,e2,e3,s1⟩:=st _ _ _ hO9
   generalize (zdq s (fun ρ t => zao s f ρ t (d + 1)) ρc).1=v at hk ⊢
   have hk2:=hk _ (fin _ _ (.box 26 (zap v)) _ hO9)
   have hjc:=zaN v
   rw [hjc] at hk2 ⊢
   simp only [sxZ,z6,z7,z8,j4,j5,j6,j7,j8,j9,x0,x3,x4,x5,x6,x7,reduceCtorEq,↓reduceIte,List.getElem?_set,hlen,t6,e3,s1]
   exact ⟨fun G I y hy => by rw [hjc]; exact hy,by rw [hjc]; exact hk2⟩
  | false =>
  rw [h91] at hk
  rw [if_neg Bool.false_ne_true] at hk ⊢
  simp only [sxZ,z6,z7,z8,j4,j5,j6,j7,j8,j9,x0,x3,x4,x5,x6,x7,reduceCtorEq,↓reduceIte,List.getElem?_set,hlen,t4,e2]
  refine zak (zex t 123 ?_)
  cases h123:isP t 123 with
  | true =>
   have h2:=(zb7 h123).1
   have hd3:d < 64:=by
    rcases Nat.lt_or_ge d 64 with h | h
    ·exact h
    ·exact absurd ⟨h2,by omega⟩ c2
   have hval:ValK s p (d + 1) (fun ρ t => zao s f ρ t (d + 1)):=ih (d + 1) (by omega) (by omega)
   have hn1:=fun ρ t => (zfB s f (d + 1)).2 ρ t (by omega)
   rw [h123] at hk
   rw [if_pos rfl] at hk ⊢
   simp only [sxZ,z6,z7,z8,j4,j5,j6,j7,j8,j9,x0,x3,x4,x5,x6,x7,reduceCtorEq,↓reduceIte,List.getElem?_set,hlen,t0,t2]
   refine ⟨⟨by omega,by omega⟩,?_⟩
   rw [show ((d:Int) + 1)=((d + 1:Nat):Int) from rfl]
   refine zak (object_k hval hGv hn1 (fun ρ t => zdc s f ρ t (d + 1)) hs hGc hCa hO4 fun o9 hO9 => ?_)
   obtain ⟨e1,e2,e3,s1⟩:=st _ _ _ hO9
   generalize (zdv s (fun ρ t => zao s f ρ t (d + 1)) ρc).1=v at hk ⊢
   have hk2:=hk _ (fin _ _ (.box 26 (zap v)) _ hO9)
   have hjc:=zaN v
   rw [hjc] at hk2 ⊢
   simp only [sxZ,z6,z7,z8,j4,j5,j6,j7,j8,j9,x0,x3,x4,x5,x6,x7,reduceCtorEq,↓reduceIte,List.getElem?_set,hlen,t6,e3,s1]
   exact ⟨fun G I y hy => by rw [hjc]; exact hy,by rw [hjc]; exact hk2⟩
  | false =>
  rw [h123] at hk
  rw [if_neg Bool.false_ne_true] at hk ⊢
  have eqv:=hO4.get (i:=qv) (x:=.box 26 [.i .i64 kk,.s xx,.nil,.nil]) (by simp)
  simp only [sxZ,z6,z7,z8,j4,j5,j6,j7,j8,j9,x0,x3,x4,x5,x6,x7,reduceCtorEq,↓reduceIte,List.getElem?_set,hlen]
  subst hZ
  simp only [sxZ,z6,z7,z8,j4,j5,j6,j7,j8,j9,x0,x3,x4,x5,x6,x7,reduceCtorEq,↓reduceIte,List.getElem?_set,hlen,t6,t8,eqv,e3,s1]
  have hkv:(if t.1=4 then (JV.mk 4 (zbo t.2.1).2 [] [],ρc) else (JV.mk 5 t.2.1 [] [],ρc))=(JV.mk kk xx [] [],ρc):=by
   rw [← hkk,← hxx]
   split <;> rfl
  rw [hkv] at hk ⊢
  exact zdx (hk _ (fin _ _ _ _ hO4))
end
end
end Go.Proofs.YthmdohgkmdkeeaaGreatDoor
namespace Go.Proofs.YthmdohgkmdkeeaaGreatDoor
open Go.RowKit Sx
section
attribute [local irreducible] run
theorem js_ex1:zaX [123,34,97,34,58,91,49,44,50,46,53,48,93,44,34,98,34,58,110,117,108,108,125]=(.mk 7 [] [[97],[98]] [.mk 6 [] [] [.mk 4 [49] [] [],.mk 4 [50,53,101,45,49] [] []],.mk 1 [] [] []],23,0):=by kernel_rfl
theorem js_ex2:zaX [123,34,97,34,58,49,44,34,97,34,58,50,125]=(jvZ,7,143):=by kernel_rfl
end
end Go.Proofs.YthmdohgkmdkeeaaGreatDoor
namespace Go.Proofs.YthmdohgkmdkeeaaGreatDoor
open Sx
end Go.Proofs.YthmdohgkmdkeeaaGreatDoor
namespace Go.Proofs.YthmdohgkmdkeeaaGreatDoor
open Nat renaming reduceAdd → z6, reduceSub → z7, reduceLeDiff → z8, reduceLT → j4, reduceMul → j5, reduceEqDiff → j6
open Int renaming reduceToNat → j7, reduceAdd → j8, reduceSub → j9, reduceMul → x0, reduceNeg → x3, reduceLT → x4, reduceLE → x5, reduceEq → x6, reduceNe → x7
open Go.RowKit Sx
section
attribute [local irreducible] run
section
variable [Tabs Tryz.prog] [Pow Tryz.prog] [Utf Tryz.prog] {objs:List OB} {K:List OB → AV → Prop}
theorem saneJs_k (hk:K objs (.b true)):zad Tryz.prog 8 [] objs K:=by
 refine zbs is_law14_sane rfl fun C _ => ?_
 rw [c_law14_sane]
 refine zab fun Y hY => ?_
 simp only [sxZ,z6,z7,z8,j4,j5,j6,j7,j8,j9,x0,x3,x4,x5,x6,x7,reduceCtorEq,↓reduceIte]
 subst hY
 refine zab fun Y hY => ?_
 simp only [sxZ,z6,z7,z8,j4,j5,j6,j7,j8,j9,x0,x3,x4,x5,x6,x7,reduceCtorEq,↓reduceIte]
 refine zak (zfS _ (by decide) ?_)
 rw [js_ex1]
 simp only [zcA,zap,zaj,List.map_cons,List.map_nil,List.length_cons,List.length_nil,List.cons_append,List.nil_append,sxZ,z6,z7,z8,j4,j5,j6,j7,j8,j9,x0,x3,x4,x5,x6,x7,reduceCtorEq,↓reduceIte]
 subst hY
 refine zab fun Y hY => ?_
 simp only [sxZ,z6,z7,z8,j4,j5,j6,j7,j8,j9,x0,x3,x4,x5,x6,x7,reduceCtorEq,↓reduceIte]
 refine zak (zfS _ (by decide) ?_)
 rw [js_ex2]
 simp only [zcA,jvZ,zap,zaj,List.map_cons,List.map_nil,List.length_cons,List.length_nil,List.cons_append,List.nil_append,sxZ,z6,z7,z8,j4,j5,j6,j7,j8,j9,x0,x3,x4,x5,x6,x7,reduceCtorEq,↓reduceIte]
 subst hY
 simp only [sxZ,z6,z7,z8,j4,j5,j6,j7,j8,j9,x0,x3,x4,x5,x6,x7,reduceCtorEq,↓reduceIte,Int.cast_ofNat_Int,decide_true]
 exact hk
end
end
section
attribute [local irreducible] run
section
variable [Tabs Tryz.prog] [Utf Tryz.prog] {objs:List OB} {K:List OB → AV → Prop}
theorem rParse_k (s:List UInt8) (hs:s.length ≤ 3000) (hk:K objs (zcA (zaX s))):zad Tryz.prog 10 [.s s] objs K:=by
 refine jres (zcA (zaX s)) ?_
 refine zbs is_ref14_Parse rfl fun C _ => ?_
 have hr:zaX s=(if 1048576 < s.length then (jvZ,0,142) else
   if ¬ (if (zac s (zao s 65 (zac s rs0).2 (zac s rs0).1 0).2).2.fail=0 ∧ ¬ (zac s (zao s 65 (zac s rs0).2 (zac s rs0).1 0).2).1.1=1 then zay (zac s (zao s 65 (zac s rs0).2 (zac s rs0).1 0).2).2 (zac s (zao s 65 (zac s rs0).2 (zac s rs0).1 0).2).1.2.2 140 else (zac s (zao s 65 (zac s rs0).2 (zac s rs0).1 0).2).2).fail=0 then (jvZ,(if (zac s (zao s 65 (zac s rs0).2 (zac s rs0).1 0).2).2.fail=0 ∧ ¬ (zac s (zao s 65 (zac s rs0).2 (zac s rs0).1 0).2).1.1=1 then zay (zac s (zao s 65 (zac s rs0).2 (zac s rs0).1 0).2).2 (zac s (zao s 65 (zac s rs0).2 (zac s rs0).1 0).2).1.2.2 140 else (zac s (zao s 65 (zac s rs0).2 (zac s rs0).1 0).2).2).wh,(if (zac s (zao s 65 (zac s rs0).2 (zac s rs0).1 0).2).2.fail=0 ∧ ¬ (zac s (zao s 65 (zac s rs0).2 (zac s rs0).1 0).2).1.1=1 then zay (zac s (zao s 65 (zac s rs0).2 (zac s rs0).1 0).2).2 (zac s (zao s 65 (zac s rs0).2 (zac s rs0).1 0).2).1.2.2 140 else (zac s (zao s 65 (zac s rs0).2 (zac s rs0).1 0).2).2).fail) else ((zao s 65 (zac s rs0).2 (zac s rs0).1 0).1,(s.length:Int),0)):=rfl
 rw [if_neg (by omega)] at hr
 have finE:∀ {a e:Int},zaX s=(jvZ,a,e) → ((∀ G I y,Den G I (.tup [.agg zvC,.i .i64 a,.i .i64 e]) y → Den G I (zcA (zaX s)) y) ∧ K objs (zcA (zaX s))):=fun {a e} h => ⟨fun G I y hy => by rw [h]; exact den_zv hy,hk⟩
 have c1:¬ (1048576:Int) < s.length:=by omega
 rw [c_ref14_Parse]
 refine zab fun Z hZ => ?_
 simp only [sxZ,z6,z7,z8,j4,j5,j6,j7,j8,j9,x0,x3,x4,x5,x6,x7,reduceCtorEq,↓reduceIte]
 subst hZ
 refine zab fun Z hZ => ?_
 simp only [sxZ,z6,z7,z8,j4,j5,j6,j7,j8,j9,x0,x3,x4,x5,x6,x7,reduceCtorEq,↓reduceIte,c1]
 subst hZ
 refine zab fun Z hZ => ?_
 simp only [sxZ,z6,z7,z8,j4,j5,j6,j7,j8,j9,x0,x3,x4,x5,x6,x7,reduceCtorEq,↓reduceIte]
 have hO:zau ((1,zaG s rs0) :: [(0,zvB)]) [zvB,zaG s rs0]:=⟨by simp,fun x hx => by
  simp only [List.mem_cons,List.not_mem_nil,or_false] at hx
  rcases hx with rfl | rfl <;> rfl⟩
 have hCn:zaH []:=fun y hy => by cases hy
 have hC:∀ ρ,zaH ((1,zaG s ρ) :: [(0,zvB)]):=fun ρ => zcV (zcV hCn rfl) rfl
 have hB:GB s rs0:=⟨by decide,by show (0:Int) ≤ _; omega,fun _ => by decide,by show (0:Int) ≤ _; omega⟩
 have f0:[OB.box 26 [.i .i64 0,.s [],.nil,.nil],OB.box 57 [.s s,.i .i64 0,.i .i64 0,.i .i64 0,.i .i64 0]]=[zvB,zaG s rs0]:=rfl
 rw [f0]
 generalize [zvB,zaG s rs0]=o0 at hO ⊢
 subst hZ
 refine zab fun Z hZ => ?_
 simp only [sxZ,z6,z7,z8,j4,j5,j6,j7,j8,j9,x0,x3,x4,x5,x6,x7,reduceCtorEq,↓reduceIte]
 refine zak (zcd (by omega) hO fun o1 hO1 => ?_)
 have hB1:=za9 hB
 have hT1:=zbp hB
 generalize zac s rs0=N at hO1 hB1 hT1 hr ⊢
 obtain ⟨T1,ρ1⟩:=N
 simp only at hO1 hB1 hT1 hr ⊢
 have hval:ValK s 1 0 (fun ρ t => zao s 65 ρ t 0):=value_k hs 65 0 rfl (by decide)
 have hvc:=fun {objs:List OB} {K:List OB → AV → Prop} {L:List (Nat × OB)} (h1) (h2) (h3) => hval (objs:=objs) (K:=K) (L:=L) (ρ:=ρ1) T1 hB1.1 hB1.2 hT1 h1 h2 h3
 have hg2:=zeh s 65 0 ρ1 T1 hB1.1 hB1.2
 simp only at hvc hg2
 generalize zao s 65 ρ1 T1 0=R at hvc hg2 hr
 obtain ⟨v,ρ2⟩:=R
 simp only at hvc hg2 hr
 unfold zcM tkC
 simp only [sxZ,z6,z7,z8,j4,j5,j6,j7,j8,j9,x0,x3,x4,x5,x6,x7,reduceCtorEq,↓reduceIte]
 refine zak (hvc (hC _) hO1 fun o2 hO2 => ?_)
 have hjc:=zaN v
 rw [hjc]
 simp only [sxZ,z6,z7,z8,j4,j5,j6,j7,j8,j9,x0,x3,x4,x5,x6,x7,reduceCtorEq,↓reduceIte,gn1,sn1]
 have hO3:=hO2.new (.box 26 (zap v))
 rw [hjc] at hO3
 have hO3:zau ((1,zaG s ρ2) :: (o2.length,.box 26 [.i .i64 v.kind,.s v.text,.row v.keys.length (v.keys.map .s),.row v.items.length (zaj v.items)]) :: [(0,zvB)]) (o2 ++ [.box 26 [.i .i64 v.kind,.s v.text,.row v.keys.length (v.keys.map .s),.row v.items.length (zaj v.items)]]):=hO3.perm (List.Perm.swap _ _ _)
 generalize o2.length=qv at hO3 ⊢
 generalize o2 ++ [OB.box 26 [.i .i64 v.kind,.s v.text,.row v.keys.length (v.keys.map .s),.row v.items.length (zaj v.items)]]=o3 at hO3 ⊢
 subst hZ
 refine zab fun Z hZ => ?_
 refine zab fun W hW => ?_
 simp only [sxZ,z6,z7,z8,j4,j5,j6,j7,j8,j9,x0,x3,x4,x5,x6,x7,reduceCtorEq,↓reduceIte]
 refine zak (zcd (by omega) hO3 fun o4 hO4 => ?_)
 generalize zac s ρ2=N at hO4 hr ⊢
 obtain ⟨T3,ρ3⟩:=N
 simp only at hO4 hr ⊢
 unfold zcM tkC
 simp only [sxZ,z6,z7,z8,j4,j5,j6,j7,j8,j9,x0,x3,x4,x5,x6,x7,reduceCtorEq,↓reduceIte,gn1,sn1]
 have f1:∀ x y z,OB.box 51 [.i .i64 x,.s y,.i .i64 z]=zaw (x,y,z):=fun _ _ _ => rfl
 rw [f1]
 have hO5:=hO4.new (zaw T3)
 have hO5:zau ((1,zaG s ρ3) :: (o4.length,zaw T3) :: (qv,.box 26 [.i .i64 v.kind,.s v.text,.row v.keys.length (v.keys.map .s),.row v.items.length (zaj v.items)]) :: [(0,zvB)]) (o4 ++ [zaw (T3.1,T3.2.1,T3.2.2)]):=hO5.perm (List.Perm.swap _ _ _)
 generalize o4.length=qt at hO5 ⊢
 generalize o4 ++ [zaw (T3.1,T3.2.1,T3.2.2)]=o5 at hO5 ⊢
 subst hW
 have e1:=hO5.get (i:=1) (x:=zaG s ρ3) (by simp)
 have e2:=hO5.get (i:=qt) (x:=zaw T3) (by simp)
 unfold zaG at e1
 unfold zaw tkC at e2
 generalize hρ:(if ρ3.fail=0 ∧ ¬ T3.1=1 then zay ρ3 T3.2.2 140 else ρ3)=ρ4 at hr
 refine zaz (fun o tm => zau ((1,zaG s ρ4) :: (qt,zaw T3) :: (qv,.box 26 [.i .i64 v.kind,.s v.text,.row v.keys.length (v.keys.map .s),.row v.items.length (zaj v.items)]) :: [(0,zvB)]) o ∧ tm.length=52 ∧ tm[0]? = some (.s s) ∧ tm[2]? = some (.p 0 0) ∧ tm[5]? = some (.p 1 0) ∧ tm[6]? = some (.p qv 0)) ?_ ?_
 ·by_cases c3:ρ3.fail=0
  ·by_cases c4:T3.1=1
   ·rw [if_neg (fun h => h.2 c4)] at hρ
    subst hρ
    simp only [sxZ,z6,z7,z8,j4,j5,j6,j7,j8,j9,x0,x3,x4,x5,x6,x7,reduceCtorEq,↓reduceIte,e1,e2,c3,c4,zaa,and_self,and_true]
    exact hO5
   ·rw [if_pos ⟨c3,c4⟩] at hρ
    simp only [sxZ,z6,z7,z8,j4,j5,j6,j7,j8,j9,x0,x3,x4,x5,x6,x7,reduceCtorEq,↓reduceIte,e1,e2,c3,c4]
    refine zak (zb1 hO5 T3.2.2 140 fun o6 hO6 => ?_)
    rw [hρ] at hO6
    simp only [sxZ,z6,z7,z8,j4,j5,j6,j7,j8,j9,x0,x3,x4,x5,x6,x7,reduceCtorEq,↓reduceIte,zaa,and_self,and_true]
    exact hO6
  ·rw [if_neg (fun h => c3 h.1)] at hρ
   subst hρ
   simp only [sxZ,z6,z7,z8,j4,j5,j6,j7,j8,j9,x0,x3,x4,x5,x6,x7,reduceCtorEq,↓reduceIte,e1,e2,c3,zaa,and_self,and_true]
   exact hO5
 clear hO5 e1 e2
 rintro o6 tm ⟨hO6,hlen,t0,t2,t5,t6⟩
 have e1:=hO6.get (i:=1) (x:=zaG s ρ4) (by simp)
 have e0:=hO6.get (i:=0) (x:=zvB) (by simp)
 have ev:=hO6.get (i:=qv) (x:=.box 26 [.i .i64 v.kind,.s v.text,.row v.keys.length (v.keys.map .s),.row v.items.length (zaj v.items)]) (by simp)
 have hlt:=(List.getElem?_eq_some_iff.1 e0).1
 have gs:∀ x,(o6.set 0 x)[0]? = some x:=fun x => List.getElem?_set_self hlt
 unfold zaG at e1
 unfold zvB at e0
 subst hZ
 refine zab fun Z hZ => ?_
 by_cases c5:ρ4.fail=0
 ·rw [if_neg (fun h => h c5)] at hr
  simp only [sxZ,z6,z7,z8,j4,j5,j6,j7,j8,j9,x0,x3,x4,x5,x6,x7,reduceCtorEq,↓reduceIte,List.getElem?_set,hlen,t5,e1,c5]
  subst hZ
  simp only [sxZ,z6,z7,z8,j4,j5,j6,j7,j8,j9,x0,x3,x4,x5,x6,x7,reduceCtorEq,↓reduceIte,List.getElem?_set,hlen,t0,t2,t6,e0,ev,gs]
  simp only [pub,AV.plain,zdg,zdE,sxZ,z6,z7,z8,j4,j5,j6,j7,j8,j9,x0,x3,x4,x5,x6,x7,reduceCtorEq,↓reduceIte]
  exact ⟨fun G I y hy => by rw [hr,zcA,hjc]; exact hy,hk⟩
 ·rw [if_pos c5] at hr
  simp only [sxZ,z6,z7,z8,j4,j5,j6,j7,j8,j9,x0,x3,x4,x5,x6,x7,reduceCtorEq,↓reduceIte,List.getElem?_set,hlen,t2,t5,e0,e1,c5,gs]
  exact finE hr
end
section
variable [Tabs Tryz.prog] [Pow Tryz.prog] [Utf Tryz.prog]
theorem jsondocParses_c (l0:List UInt8) (w0:l0.length ≤ 140737488351232):zad Tryz.prog 3 [.s l0] [] (fun _ r => r=.b true):=by
 refine zbs is_law14_JsondocParses rfl fun C _ => ?_
 rw [c_law14_JsondocParses]
 refine zab fun Y hY => ?_
 simp only [sxZ,z6,z7,z8,j4,j5,j6,j7,j8,j9,x0,x3,x4,x5,x6,x7,reduceCtorEq,↓reduceIte]
 subst hY
 refine zab fun Y hY => ?_
 simp only [sxZ,z6,z7,z8,j4,j5,j6,j7,j8,j9,x0,x3,x4,x5,x6,x7,reduceCtorEq,↓reduceIte]
 refine zak (saneJs_k ?_)
 simp only [sxZ,z6,z7,z8,j4,j5,j6,j7,j8,j9,x0,x3,x4,x5,x6,x7,reduceCtorEq,↓reduceIte,Bool.not_true]
 subst hY
 refine zab fun Y hY => ?_
 by_cases c1:(3000:Int) < l0.length
 ·simp only [sxZ,z6,z7,z8,j4,j5,j6,j7,j8,j9,x0,x3,x4,x5,x6,x7,reduceCtorEq,↓reduceIte,c1]
 have hl:l0.length ≤ 3000:=by omega
 simp only [sxZ,z6,z7,z8,j4,j5,j6,j7,j8,j9,x0,x3,x4,x5,x6,x7,reduceCtorEq,↓reduceIte,c1]
 subst hY
 refine zab fun Y hY => ?_
 have hP:=fun {objs:List OB} {K:List OB → AV → Prop} (h:K objs (zcA (zaX l0))) => zfS l0 w0 (objs:=objs) (K:=K) h
 have hR:=fun {objs:List OB} {K:List OB → AV → Prop} (h:K objs (zcA (zaX l0))) => rParse_k l0 hl (objs:=objs) (K:=K) h
 have hb:=zkp (s:=l0) (by omega)
 generalize zaX l0=R at hP hR hb
 obtain ⟨v,a,e⟩:=R
 simp only at hb
 have hsm:=fun {objs:List OB} {K:List OB → AV → Prop} (h:K objs (.b (zc7 v v))) => same14_l (v.size + 1) v v (Nat.lt_succ_self _) hb.ln (objs:=objs) (K:=K) h
 unfold zcA at hP hR
 simp only at hP hR
 rw [ze1] at hsm
 have hjc:=zaN v
 rw [hjc] at hP hR hsm
 simp only [sxZ,z6,z7,z8,j4,j5,j6,j7,j8,j9,x0,x3,x4,x5,x6,x7,reduceCtorEq,↓reduceIte]
 refine zak (hP ?_)
 simp only [sxZ,z6,z7,z8,j4,j5,j6,j7,j8,j9,x0,x3,x4,x5,x6,x7,reduceCtorEq,↓reduceIte]
 subst hY
 refine zab fun Y hY => ?_
 simp only [sxZ,z6,z7,z8,j4,j5,j6,j7,j8,j9,x0,x3,x4,x5,x6,x7,reduceCtorEq,↓reduceIte]
 refine zak (hR ?_)
 simp only [sxZ,z6,z7,z8,j4,j5,j6,j7,j8,j9,x0,x3,x4,x5,x6,x7,reduceCtorEq,↓reduceIte]
 subst hY
 simp only [sxZ,z6,z7,z8,j4,j5,j6,j7,j8,j9,x0,x3,x4,x5,x6,x7,reduceCtorEq,↓reduceIte,decide_true]
 refine zak (hsm ?_)
 simp only [sxZ,z6,z7,z8,j4,j5,j6,j7,j8,j9,x0,x3,x4,x5,x6,x7,reduceCtorEq,↓reduceIte]
end
end
end Go.Proofs.YthmdohgkmdkeeaaGreatDoor
namespace Go.Proofs.YthmdohgkmdkeeaaGreatDoor
open Go.RowKit Sx
theorem zc1 {P:Program} {w w':World} {name:String} {k:IntKind} {zs:List Int} (h:Lib.TabIs P w name k zs) (hk:∀ k,k < w.heap.size → w'.heap[k]? = w.heap[k]?):Lib.TabIs P w' name k zs:=by
 unfold Lib.TabIs World.var? at *
 cases hg:P.globalNamed name with
 | none => simp [hg] at h
 | some g =>
  simp only [hg,Option.bind_some] at h ⊢
  have hlt:g < w.heap.size:=by
   rcases Nat.lt_or_ge g w.heap.size with h' | h'
   ·exact h'
   ·rw [Array.getElem?_eq_none h'] at h; simp at h
  rw [hk g hlt]
  exact h
instance tabsN : Tabs Tryz.prog := ⟨fun w => w.ShapedOpen Tryz.prog ∧ Lib.TabIs Tryz.prog w "internal/strconv.uint64pow10" .u64 Lib.pow10Tab, fun _ _ h hk _ => ⟨zes h.1 hk, zc1 h.2 hk⟩⟩
instance tabsN_shp:Shp Tryz.prog:=⟨fun _ h => h.1⟩
instance tabsN_pow:Pow Tryz.prog:=⟨fun _ h => h.2⟩
end Go.Proofs.YthmdohgkmdkeeaaGreatDoor
namespace Go.Proofs.YthmdohgkmdkeeaaGreatDoor
open Go.RowKit Sx
theorem utabs_of {w : World} (h0 : Lib.TabIs Tryz.prog w "webfinger/utf8text.lengths" .i64 lensT) (h1 : Lib.TabIs Tryz.prog w "webfinger/utf8text.mosts" .i64 mostT) : UTabs w :=
 ⟨fun i hi => h0.cell (by kernel_rfl) i hi,fun i hi => h1.cell (by kernel_rfl) i hi⟩
instance (priority := high) tabsU : Tabs Tryz.prog := ⟨fun w => w.ShapedOpen Tryz.prog ∧ Lib.TabIs Tryz.prog w "internal/strconv.uint64pow10" .u64 Lib.pow10Tab ∧ Lib.TabIs Tryz.prog w "webfinger/utf8text.lengths" .i64 lensT ∧ Lib.TabIs Tryz.prog w "webfinger/utf8text.mosts" .i64 mostT, fun _ _ h hk _ => ⟨zes h.1 hk, zc1 h.2.1 hk, zc1 h.2.2.1 hk, zc1 h.2.2.2 hk⟩⟩
instance (priority:=high) tabsU_shp:Shp Tryz.prog:=⟨fun _ h => h.1⟩
instance (priority:=high) tabsU_pow:Pow Tryz.prog:=⟨fun _ h => h.2.1⟩
instance (priority:=high) tabsU_utf:Utf Tryz.prog:=⟨fun _ h => utabs_of h.2.2.1 h.2.2.2⟩
end Go.Proofs.YthmdohgkmdkeeaaGreatDoor
