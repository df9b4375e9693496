/- The texts that the proofs of these statements reach, in their order, as few files. -/
import Derived.KernelRfl
import Derived.Test.YthmdohgkmdkeeaaGreatDoorProg
import Derived.Test.YthmdohgkmdkeeaaGreatDoorSw6
set_option linter.unusedVariables false
set_option linter.unusedSimpArgs false
set_option maxRecDepth 100000
namespace Go.Proofs.YthmdohgkmdkeeaaGreatDoor
open Go.RowKit Sx
section
attribute [local irreducible] run
def ziT (c:UInt8):Bool:=zbp c [44,93,125,58,91,123,32,9,10,13,34]
def Dl (r:List UInt8):Prop:=∀ c,r[0]? = some c → ziT c=true
theorem dl_all:∀ n:Fin 256,ziT (UInt8.ofNat n.val)=true → zai (UInt8.ofNat n.val)=false ∧ zc6 (UInt8.ofNat n.val)=false:=by decide +kernel
theorem dl_no {c:UInt8} (h:ziT c=true):zai c=false ∧ zc6 c=false:=by
 have h3:=dl_all ⟨c.toNat,c.toNat_lt⟩
 simp only [UInt8.ofNat_toNat] at h3
 exact h3 h
theorem dl_nil:Dl []:=fun c h => by cases h
theorem zer {c:UInt8} {r:List UInt8} (h:ziT c=true):Dl (c :: r):=fun d hd => by
 simp only [List.getElem?_cons_zero,Option.some.injEq] at hd
 rw [← hd]; exact h
theorem dl_run {r:List UInt8} (h:Dl r):zaQ r=0:=by
 cases r with
 | nil => rfl
 | cons c t => unfold zaQ; rw [if_neg (by rw [(dl_no (h c rfl)).1]; exact Bool.false_ne_true)]
theorem dl_word {r:List UInt8} (h:Dl r):za7 r=0:=by
 cases r with
 | nil => rfl
 | cons c t => unfold za7; rw [if_neg (by rw [(dl_no (h c rfl)).2]; exact Bool.false_ne_true)]
theorem zl9 {r:List UInt8} (h:Dl r):∀ x:List UInt8,zaQ (x ++ r)=zaQ x
 | [] => dl_run h
 | c :: t => by
  rw [List.cons_append]
  unfold zaQ
  rw [zl9 h t]
theorem zfv {x r:List UInt8} (h:Dl r) {t:Nat} (ht:t ≤ x.length) {c:UInt8} (hc:ziT c=false):((x ++ r)[t]? = some c)=(x[t]? = some c):=by
 by_cases h1:t < x.length
 ·rw [List.getElem?_append_left h1]
 ·obtain rfl:t=x.length:=by omega
  rw [List.getElem?_append_right (Nat.le_refl _),Nat.sub_self,List.getElem?_eq_none (Nat.le_refl _)]
  refine propext ⟨fun h2 => ?_,fun h2 => by cases h2⟩
  rw [h c h2] at hc
  cases hc
theorem zgJ {x r:List UInt8} (h:Dl r) {t:Nat} (ht:t ≤ x.length):zaQ ((x ++ r).drop t)=zaQ (x.drop t):=by
 rw [List.drop_append_of_le_length ht,zl9 h]
theorem zjr (x:List UInt8):za0 x ≤ x.length:=by
 unfold za0
 split
 ·rename_i h; exact (List.getElem?_eq_some_iff.1 h).1
 ·exact Nat.zero_le _
theorem zjg (x:List UInt8):zaA x ≤ x.length:=by
 unfold zaA
 split
 ·rename_i h; exact (List.getElem?_eq_some_iff.1 h).1
 ·have h1:=zdy (x.drop (za0 x))
  have h2:=zjr x
  rw [List.length_drop] at h1
  omega
theorem frac_le (x:List UInt8) {t:Nat} (ht:t ≤ x.length):zby x t ≤ x.length:=by
 unfold zby
 split
 ·rename_i h; exact zaL x _ h.2
 ·exact ht
theorem zjV {x r:List UInt8} (h:Dl r):zc5 (x ++ r)=zc5 x:=by
 have e1:za0 (x ++ r)=za0 x:=by
  unfold za0
  simp only [zfv h (Nat.zero_le _) (show ziT 45=false from rfl)]
 have e2:zaA (x ++ r)=zaA x:=by
  unfold zaA
  rw [e1]
  simp only [zfv h (zjr x) (show ziT 48=false from rfl),zgJ h (zjr x)]
 have e3:∀ t,t ≤ x.length → zby (x ++ r) t=zby x t:=by
  intro t ht
  unfold zby
  simp only [zfv h ht (show ziT 46=false from rfl)]
  by_cases h1:x[t]? = some 46
  ·have h2:=(List.getElem?_eq_some_iff.1 h1).1
   rw [zgJ h (by omega)]
  ·rw [if_neg (fun k => h1 k.1),if_neg (fun k => h1 k.1)]
 have e4:∀ t,t ≤ x.length → ziZ (x ++ r) t=ziZ x t:=by
  intro t ht
  unfold ziZ
  simp only [zfv h ht (show ziT 101=false from rfl),zfv h ht (show ziT 69=false from rfl)]
  by_cases h1:x[t]? = some 101 ∨ x[t]? = some 69
  ·have h2:t < x.length:=by rcases h1 with h1 | h1 <;> exact (List.getElem?_eq_some_iff.1 h1).1
   have e5:zaT (x ++ r) t=zaT x t:=by
    unfold zaT
    simp only [zfv h (show t + 1 ≤ x.length by omega) (show ziT 43=false from rfl),zfv h (show t + 1 ≤ x.length by omega) (show ziT 45=false from rfl)]
   have e6:zaT x t ≤ x.length:=by
    unfold zaT
    split
    ·rename_i h3
     rcases h3 with h3 | h3
     ·have:=(List.getElem?_eq_some_iff.1 h3).1; omega
     ·have:=(List.getElem?_eq_some_iff.1 h3).1; omega
    ·omega
   rw [e5,zgJ h e6]
  ·rw [if_neg (fun k => h1 k.1),if_neg (fun k => h1 k.1)]
 unfold zc5
 rw [e1,e2,zgJ h (zjr x),e3 _ (zjg x),e4 _ (frac_le x (zjg x))]
def zih (k:Int) (x b m:List UInt8):Prop:=zaM (b ++ m)=(0,k,x,b.length) ∧ ∃ c t,b=c :: t ∧ zbt c=false
theorem zlL {c:UInt8} (m:List UInt8) (h:zbp c [123,125,91,93,58,44]=true) (hw:zbt c=false):zih 2 [c] [c] m:=by
 refine ⟨?_,c,[],rfl,hw⟩
 show zaM (c :: m)=_
 rw [zaM,if_pos h]; rfl
theorem zlK {s:List UInt8} (m:List UInt8) (hv:za2 s=true):zih 3 s (zdU s) m:=by
 refine ⟨?_,34,_,rfl,rfl⟩
 have hl:s.length ≤ (s.flatMap zbw).length:=by
  clear hv
  induction s with
  | nil => simp
  | cons c t ih =>
   have:=quo_len c
   rw [List.flatMap_cons,List.length_append,List.length_cons]; omega
 have hq:=quo_back m s.length s [] ((s.flatMap zbw ++ 34 :: m).length + 1) 0 (Nat.le_refl _) (of_decide_eq_true hv) (by rw [List.length_append]; omega)
 have e:zdU s ++ m=34 :: (s.flatMap zbw ++ 34 :: m):=by simp [zdU]
 rw [e,read_quo hq,if_neg (by simp)]
 simp [zdU]
theorem tok_word {x:List UInt8} {m:List UInt8} (hx:x=zfM ∨ x=zcS ∨ x=zeJ) (hd:Dl m):zih 5 x x m:=by
 have hw:=dl_word hd
 rcases hx with rfl | rfl | rfl
 ·refine ⟨?_,_,_,rfl,rfl⟩
  have e:za7 (zfM ++ m)=4:=by
   show za7 (110 :: 117 :: 108 :: 108 :: m)=4
   simp only [za7,hw]; rfl
  show zaM (110 :: 117 :: 108 :: 108 :: m)=_
  have e:za7 (110 :: 117 :: 108 :: 108 :: m)=4:=e
  rw [zaM,if_neg (by decide),if_neg (by decide),if_neg (by decide),e]
  simp [zfM]
 ·refine ⟨?_,_,_,rfl,rfl⟩
  have e:za7 (102 :: 97 :: 108 :: 115 :: 101 :: m)=5:=by
   simp only [za7,hw]; rfl
  show zaM (102 :: 97 :: 108 :: 115 :: 101 :: m)=_
  rw [zaM,if_neg (by decide),if_neg (by decide),if_neg (by decide),e]
  simp [zcS]
 ·refine ⟨?_,_,_,rfl,rfl⟩
  have e:za7 (116 :: 114 :: 117 :: 101 :: m)=4:=by
   simp only [za7,hw]; rfl
  show zaM (116 :: 114 :: 117 :: 101 :: m)=_
  rw [zaM,if_neg (by decide),if_neg (by decide),if_neg (by decide),e]
  simp [zeJ]
theorem zjS {x:List UInt8} (h:(zcL x).1=0):zc5 x=x.length ∧ ∃ c t,x=c :: t ∧ (c=45 ∨ zai c=true):=by
 unfold zcL at h
 by_cases h1:x=[] ∨ ¬ zc5 x=x.length
 ·rw [if_pos h1] at h; cases h
 ·have h2:zc5 x=x.length:=Classical.not_not.1 (fun k => h1 (.inr k))
  have h3:¬ x=[]:=fun k => h1 (.inl k)
  refine ⟨h2,?_⟩
  cases x with
  | nil => exact absurd rfl h3
  | cons c t =>
   refine ⟨c,t,rfl,?_⟩
   by_cases h4:c=45
   ·exact .inl h4
   ·right
    have h5:¬ zaQ ((c :: t).drop (za0 (c :: t)))=0:=fun k => by
     unfold zc5 at h2; rw [if_pos k] at h2; simp at h2
    have h6:za0 (c :: t)=0:=by
     unfold za0; rw [if_neg (by simpa using h4)]
    rw [h6,List.drop_zero,zaQ] at h5
    by_cases h7:zai c=true
    ·exact h7
    ·rw [if_neg h7] at h5; exact absurd rfl h5
theorem num_byte:∀ n:Fin 256,(UInt8.ofNat n.val=45 ∨ zai (UInt8.ofNat n.val)=true) → zbp (UInt8.ofNat n.val) [123,125,91,93,58,44]=false ∧ UInt8.ofNat n.val ≠ 34 ∧ zbt (UInt8.ofNat n.val)=false:=by decide +kernel
theorem tok_num {x:List UInt8} {m:List UInt8} (h:(zcL x).1=0) (hd:Dl m):zih 4 x x m:=by
 obtain ⟨h1,c,t,rfl,hc⟩:=zjS h
 have h2:=zjV (x:=c :: t) hd
 have h3:=num_byte ⟨c.toNat,c.toNat_lt⟩
 simp only [UInt8.ofNat_toNat] at h3
 obtain ⟨b1,b2,b3⟩:=h3 hc
 refine ⟨?_,c,t,rfl,b3⟩
 rw [h1] at h2
 rw [List.cons_append] at h2 ⊢
 rw [zaM,if_neg (by rw [b1]; exact Bool.false_ne_true),if_neg b2,if_pos hc,h2,if_neg (by simp)]
 have:(c :: (t ++ m)).take (c :: t).length=c :: t:=by rw [← List.cons_append,List.take_left]
 rw [this]
def zci (w:List UInt8):Prop:=∀ c ∈ w,zbt c=true
theorem zg1:∀ {w:List UInt8} (h:zci w) {c:UInt8} {t:List UInt8},zbt c=false → zaV (w ++ c :: t)=w.length
 | [],_,c,t,hc => by show zaV (c :: t)=0; rw [zaV,if_neg (by rw [hc]; exact Bool.false_ne_true)]
 | d :: w,h,c,t,hc => by
  rw [List.cons_append,zaV,if_pos (h d (by simp)),zg1 (fun x hx => h x (by simp [hx])) hc,List.length_cons]
theorem zg2:∀ {w:List UInt8} (h:zci w),zaV w=w.length
 | [],_ => rfl
 | d :: w,h => by rw [zaV,if_pos (h d (by simp)),zg2 (fun x hx => h x (by simp [hx])),List.length_cons]
theorem next_spl {s:List UInt8} {a:Nat} {w b m x:List UInt8} {k:Int} (ha:a ≤ s.length) (hs:s.drop a=w ++ (b ++ m)) (hw:zci w) (h:zih k x b m) :
  zaB s (a:Int)=((k,x,((a + w.length:Nat):Int)),((a + w.length + b.length:Nat):Int),0):=by
 obtain ⟨h1,c,t,rfl,hc⟩:=h
 unfold zaB
 rw [if_neg (by omega)]
 simp only [Int.toNat_natCast]
 have e:zaV (s.drop a)=w.length:=by rw [hs]; exact zg1 hw hc
 rw [e,← List.drop_drop,hs,List.drop_left,h1]
 simp
theorem next_end {s:List UInt8} {a:Nat} (ha:a ≤ s.length) (hw:zci (s.drop a)):zaB s (a:Int)=((1,[],(s.length:Int)),(s.length:Int),0):=by
 unfold zaB
 rw [if_neg (by omega)]
 simp only [Int.toNat_natCast]
 rw [zg2 hw,List.length_drop,show a + (s.length - a)=s.length by omega,List.drop_length]
 simp [zaM]
def Spl:List (Int × List UInt8) → List UInt8 → List UInt8 → Prop
 | [],l,r => l=r
 | (k,x) :: ts,l,r => ∃ w b m,l=w ++ (b ++ m) ∧ zci w ∧ zih k x b m ∧ Spl ts m r
theorem zlX:∀ {a b:List (Int × List UInt8)} {l m r:List UInt8},Spl a l m → Spl b m r → Spl (a ++ b) l r
 | [],b,l,m,r,h,k => by rw [show l=m from h]; exact k
 | (k,x) :: a,b,l,m,r,h,k' => by
  obtain ⟨w,c,n,h1,h2,h3,h4⟩:=h
  exact ⟨w,c,n,h1,h2,h3,zlX h4 k'⟩
theorem zlV {t:Int × List UInt8} {ts:List (Int × List UInt8)} {l r w:List UInt8} (hw:zci w) (h:Spl (t :: ts) l r):Spl (t :: ts) (w ++ l) r:=by
 obtain ⟨k,x⟩:=t
 obtain ⟨w',b,m,rfl,h2,h3,h4⟩:=h
 exact ⟨w ++ w',b,m,by rw [List.append_assoc],fun c hc => (List.mem_append.1 hc).elim (hw c) (h2 c),h3,h4⟩
theorem spl_one {k:Int} {x b m:List UInt8} (h:zih k x b m):Spl [(k,x)] (b ++ m) m:=⟨[],b,m,rfl,(fun c hc => by cases hc),h,rfl⟩
def zcI:Ms → List (Int × List UInt8) → Option Ms
 | σ,[] => some σ
 | σ,(k,x) :: ts => if σ.st=7 ∨ ¬ (zar σ (k,x,0)).1=0 then none else zcI (zar σ (k,x,0)).2 ts
theorem zjm (σ:Ms) (k p:Int) (x:List UInt8):zar σ (k,x,p)=zar σ (k,x,0):=rfl
theorem za4 {σ σ':Ms} {k:Int} {x:List UInt8} {ts:List (Int × List UInt8)} (h7:¬ σ.st=7) (h:zar σ (k,x,0)=(0,σ')):zcI σ ((k,x) :: ts)=zcI σ' ts:=by
 rw [zcI,h,if_neg (fun k => k.elim h7 (fun k => k rfl))]
theorem mrun (s:List UInt8):∀ (ts:List (Int × List UInt8)) (σ σ':Ms) (a:Nat) (r:List UInt8),a ≤ s.length → Spl ts (s.drop a) r → zcI σ ts=some σ' → ∃ b:Nat,b ≤ s.length ∧ s.drop b=r ∧ ∀ R,MRes s b σ' R → MRes s a σ R
 | [],σ,σ',a,r,ha,h,hr => by
  rw [zcI] at hr
  cases hr
  exact ⟨a,ha,h,fun R h => h⟩
 | (k,x) :: ts,σ,σ',a,r,ha,h,hr => by
  obtain ⟨w,b,m,h1,h2,h3,h4⟩:=h
  have hn:=next_spl ha h1 h2 h3
  rw [zcI] at hr
  by_cases hc:σ.st=7 ∨ ¬ (zar σ (k,x,0)).1=0
  ·rw [if_pos hc] at hr; cases hr
  rw [if_neg hc] at hr
  have hl:=congrArg List.length h1
  rw [List.length_drop,List.length_append,List.length_append] at hl
  have hd:s.drop (a + w.length + b.length)=m:=by
   rw [Nat.add_assoc,← List.drop_drop,h1,← List.append_assoc,← List.length_append,List.drop_left]
  obtain ⟨q,q1,q2,q3⟩:=mrun s ts _ σ' (a + w.length + b.length) r (by omega) (by rw [hd]; exact h4) hr
  refine ⟨q,q1,q2,fun R hR => ?_⟩
  have h5:=q3 R hR
  have h7:¬ σ.st=7:=fun k => hc (.inl k)
  have h0:(zar σ (k,x,0)).1=0:=Classical.not_not.1 fun k => hc (.inr k)
  refine MRes.step h7 (by rw [hn]) (by rw [hn,zjm]; exact h0) ?_
  rw [hn,zjm]
  exact h5
theorem zld {s:List UInt8} {ts:List (Int × List UInt8)} {r:List UInt8} {n:Nat} {v:JV} (h:Spl ts s r) (hr:zci r) (hm:zcI ms0 ts=some ⟨6,[],n,v⟩):MRes s 0 ms0 (v,(s.length:Int),0):=by
 obtain ⟨b,h1,h2,h3⟩:=mrun s ts ms0 _ 0 r (Nat.zero_le _) h hm
 refine h3 _ ?_
 have hn:=next_end h1 (by rw [h2]; exact hr)
 have ht:zar ⟨6,[],n,v⟩ (1,[],(s.length:Int))=(0,⟨7,[],n,v⟩):=by simp [zar]
 refine MRes.step (by simp) (by rw [hn]) (by rw [hn,ht]) ?_
 rw [hn,ht]
 exact MRes.fin rfl
end
end Go.Proofs.YthmdohgkmdkeeaaGreatDoor
namespace Go.Proofs.YthmdohgkmdkeeaaGreatDoor
open Go.RowKit Sx
section
attribute [local irreducible] run
mutual
/-- a value that is written and read, d deep -/
def RdJ:JV → Nat → Prop
 | .mk k t ks its,d =>
  ((k=1 ∨ k=2 ∨ k=3) ∧ t=[] ∧ ks=[] ∧ its=[]) ∨ (k=4 ∧ zcL t=(0,t) ∧ ks=[] ∧ its=[]) ∨ (k=5 ∧ (za2 t=true ∧ t.length ≤ 1048576) ∧ ks=[] ∧ its=[]) ∨
  (k=6 ∧ t=[] ∧ ks=[] ∧ d < 64 ∧ RdL its (d + 1)) ∨ (k=7 ∧ t=[] ∧ ks.length=its.length ∧ ks.Nodup ∧ (∀ x ∈ ks,za2 x=true ∧ x.length ≤ 1048576) ∧ d < 64 ∧ RdL its (d + 1))
def RdL:List JV → Nat → Prop
 | [],_ => True
 | v :: l,d => RdJ v d ∧ RdL l d
end
theorem ziC:∀ {l:List JV} {d:Nat},RdL l d ↔ ∀ x ∈ l,RdJ x d
 | [],d => by rw [RdL]; simp
 | v :: l,d => by rw [RdL,ziC (l:=l)]; simp
mutual
/-- the tokens of a value -/
def zg7:JV → List (Int × List UInt8)
 | .mk k t ks its => if k=1 then [(5,zfM)] else if k=2 then [(5,zcS)] else if k=3 then [(5,zeJ)] else if k=4 then [(4,t)] else if k=5 then [(3,t)] else if k=7 then (2,[123]) :: (zec true true ks its ++ [(2,[125])]) else (2,[91]) :: (zec false true ks its ++ [(2,[93])])
def zec:Bool → Bool → List (List UInt8) → List JV → List (Int × List UInt8)
 | _,_,_,[] => []
 | o,f,ks,v :: l => (if f=true then [] else [(2,[44])]) ++ ((if o=true then [(3,ks.head?.getD []),(2,[58])] else []) ++ (zg7 v ++ zec o false ks.tail l))
end
theorem zoE {st:Int} (h:st=1 ∨ st=5) (its:List JV) (S:List Fr) (n:Nat) (r:JV):zar ⟨st,⟨false,[],its⟩ :: S,n,r⟩ (2,[93],0)=(0,zcU ⟨st,S,n,r⟩ (.mk 6 [] [] its)):=by
 rcases h with rfl | rfl <;> simp [zar,onM,zdL,isP,zcA,Fr.val]
theorem zoD {st:Int} (h:st=3 ∨ st=5) (ks:List (List UInt8)) (its:List JV) (S:List Fr) (n:Nat) (r:JV):zar ⟨st,⟨true,ks,its⟩ :: S,n,r⟩ (2,[125],0)=(0,zcU ⟨st,S,n,r⟩ (.mk 7 [] ks its)):=by
 rcases h with rfl | rfl <;> simp [zar,onM,zdL,isP,zcA,Fr.val]
theorem zcp {σ:Ms} {t:Tk} (hst:σ.st=0 ∨ σ.st=1) (h1:isP t 93=false) (h2:isP t 125=false):zar σ t=zaS σ t:=by
 unfold zar
 rcases hst with h | h
 ·rw [if_pos h]
 ·rw [if_neg (by omega),if_pos h]
  have:zdL σ t=false:=by
   unfold zdL
   cases σ.stk with
   | nil => rfl
   | cons f r =>
    show isP t (if f.obj=true then 125 else 93)=false
    split <;> assumption
  rw [this,if_neg Bool.false_ne_true]
theorem zet {σ:Ms} {t:Tk} {k:Int} {x:List UInt8} (hv:vkE t=k) (h0:k ≠ 0) (h6:k ≠ 6) (h7:k ≠ 7) (hx:zgm t=(0,x)) (hn:σ.nodes + 1 ≤ 20000):zaS σ t=(0,zcU ⟨σ.st,σ.stk,σ.nodes + 1,σ.root⟩ (.mk k x [] [])):=by
 unfold zaS
 rw [hv,hx,if_neg h0,if_neg (by omega),if_neg (by simp),if_neg (by omega)]
theorem zgc {σ:Ms} {t:Tk} {k:Int} (o:Bool) (hv:vkE t=k) (hk:k=if o=true then 7 else 6) (hd:σ.stk.length < 64) (hn:σ.nodes + 1 ≤ 20000):zaS σ t=(0,zbP σ o):=by
 unfold zaS
 have:decide (vkE t=7)=o:=by rw [hv,hk]; cases o <;> simp
 rw [this,hv,if_neg (by rw [hk]; cases o <;> simp),if_pos (by rw [hk]; cases o <;> simp),if_neg (by omega),if_neg (by omega)]
mutual
theorem ziz:∀ (v:JV) (d:Nat),RdJ v d → ∀ (σ:Ms) (ts:List (Int × List UInt8)),(σ.st=0 ∨ σ.st=1) → σ.stk.length=d → σ.nodes + v.size ≤ 20000 → zcI σ (zg7 v ++ ts)=zcI (zcU ⟨σ.st,σ.stk,σ.nodes + v.size,σ.root⟩ v) ts
 | .mk k t ks its,d,h,σ,ts,hst,hd,hn => by
  have ha:=zl8 its (d + 1)
  have ho:=zl5 its (d + 1)
  rw [RdJ] at h
  have h7:¬ σ.st=7:=by omega
  have hsz:JV.size (.mk k t ks its)=JV.sizes its + 1:=size_eq _
  rw [hsz] at hn ⊢
  rw [zg7]
  rcases h with ⟨hk,rfl,rfl,rfl⟩ | ⟨rfl,hx,rfl,rfl⟩ | ⟨rfl,_,rfl,rfl⟩ | ⟨rfl,rfl,rfl,hd2,hl⟩ | ⟨rfl,rfl,hlen,hnd,_,hd2,hl⟩
  ·have hz:JV.sizes [] + 1=1:=by rw [JV.sizes]
   rw [hz] at hn ⊢
   have key:∀ x:List UInt8,vkE (5,x,0)=k → k ≠ 0 → k ≠ 6 → k ≠ 7 → zcI σ ([(5,x)] ++ ts)=zcI (zcU ⟨σ.st,σ.stk,σ.nodes + 1,σ.root⟩ (.mk k [] [] [])) ts:=by
    intro x hv h0 h6 h7'
    refine za4 h7 ?_
    rw [zcp hst (by simp [isP]) (by simp [isP])]
    exact zet hv h0 h6 h7' (by unfold zgm; rw [hv,if_neg (by omega),if_neg (by omega)]) hn
   rcases hk with rfl | rfl | rfl
   ·exact key zfM rfl (by decide) (by decide) (by decide)
   ·exact key zcS rfl (by decide) (by decide) (by decide)
   ·exact key zeJ rfl (by decide) (by decide) (by decide)
  ·have hz:JV.sizes [] + 1=1:=by rw [JV.sizes]
   rw [hz] at hn ⊢
   have hv:vkE (4,t,0)=4:=by simp [vkE]
   show zcI σ ((4,t) :: ts)=_
   refine za4 h7 ?_
   rw [zcp hst (by simp [isP]) (by simp [isP])]
   exact zet hv (by decide) (by decide) (by decide) (by unfold zgm; rw [if_pos hv,hx]) hn
  ·have hz:JV.sizes [] + 1=1:=by rw [JV.sizes]
   rw [hz] at hn ⊢
   have hv:vkE (3,t,0)=5:=by simp [vkE]
   show zcI σ ((3,t) :: ts)=_
   refine za4 h7 ?_
   rw [zcp hst (by simp [isP]) (by simp [isP])]
   exact zet hv (by decide) (by decide) (by decide) (by unfold zgm; rw [if_neg (by rw [hv]; decide),if_pos hv]) hn
  ·show zcI σ ((2,[91]) :: ((zec false true [] its ++ [(2,[93])]) ++ ts))=_
   rw [List.append_assoc]
   rw [za4 h7 ((zcp hst rfl rfl).trans (zgc (k:=6) false rfl rfl (by omega) (by omega)))]
   have h1:=ha hl true 1 σ.stk (σ.nodes + 1) σ.root [] [] ([(2,[93])] ++ ts) rfl (by omega) (by omega)
   show zcI ⟨1,⟨false,[],[]⟩ :: σ.stk,σ.nodes + 1,σ.root⟩ _=_
   rw [h1,List.nil_append]
   have hs:(if its.isEmpty=true then (1:Int) else 5)=1 ∨ (if its.isEmpty=true then (1:Int) else 5)=5:=by
    split
    ·exact .inl rfl
    ·exact .inr rfl
   generalize (if its.isEmpty=true then (1:Int) else 5)=st at hs
   show zcI _ ((2,[93]) :: ts)=_
   rw [za4 (by show ¬ st=7; omega) (zoE hs its _ _ _),zbK st σ.st,show σ.nodes + 1 + JV.sizes its=σ.nodes + (JV.sizes its + 1) by omega]
  ·show zcI σ ((2,[123]) :: ((zec true true ks its ++ [(2,[125])]) ++ ts))=_
   rw [List.append_assoc]
   rw [za4 h7 ((zcp hst rfl rfl).trans (zgc (k:=7) true rfl rfl (by omega) (by omega)))]
   have h1:=ho hl true 3 σ.stk (σ.nodes + 1) σ.root ks [] [] ([(2,[125])] ++ ts) rfl hlen (by rw [List.nil_append]; exact hnd) (by omega) (by omega)
   show zcI ⟨3,⟨true,[],[]⟩ :: σ.stk,σ.nodes + 1,σ.root⟩ _=_
   rw [h1,List.nil_append,List.nil_append]
   have hs:(if its.isEmpty=true then (3:Int) else 5)=3 ∨ (if its.isEmpty=true then (3:Int) else 5)=5:=by
    split
    ·exact .inl rfl
    ·exact .inr rfl
   generalize (if its.isEmpty=true then (3:Int) else 5)=st at hs
   show zcI _ ((2,[125]) :: ts)=_
   rw [za4 (by show ¬ st=7; omega) (zoD hs ks its _ _ _),zbK st σ.st,show σ.nodes + 1 + JV.sizes its=σ.nodes + (JV.sizes its + 1) by omega]
theorem zl8:∀ (l:List JV) (d:Nat),RdL l d → ∀ (f:Bool) (st:Int) (S:List Fr) (n:Nat) (r:JV) (ks:List (List UInt8)) (its0:List JV) (ts:List (Int × List UInt8)),(st=if f=true then 1 else 5) → S.length + 1=d → n + JV.sizes l ≤ 20000 →
  zcI ⟨st,⟨false,[],its0⟩ :: S,n,r⟩ (zec false f ks l ++ ts)=zcI ⟨if l.isEmpty=true then st else 5,⟨false,[],its0 ++ l⟩ :: S,n + JV.sizes l,r⟩ ts
 | [],d,h,f,st,S,n,r,ks,its0,ts,hst,hd,hn => by
  rw [zec,JV.sizes,List.append_nil]; rfl
 | v :: l,d,h,f,st,S,n,r,ks,its0,ts,hst,hd,hn => by
  rw [RdL] at h
  rw [JV.sizes] at hn ⊢
  have hv:=ziz v d h.1
  have hl:=fun ts => zl8 l d h.2 false 5 S (n + v.size) r ks.tail (its0 ++ [v]) ts rfl hd (by omega)
  have e5:(if l.isEmpty=true then (5:Int) else 5)=5:=by split <;> rfl
  have rest:∀ st',(st'=0 ∨ st'=1) → zcI ⟨st',⟨false,[],its0⟩ :: S,n,r⟩ (zg7 v ++ (zec false false ks.tail l ++ ts))=zcI ⟨5,⟨false,[],its0 ++ v :: l⟩ :: S,n + (v.size + JV.sizes l),r⟩ ts:=by
   intro st' h'
   rw [hv ⟨st',⟨false,[],its0⟩ :: S,n,r⟩ _ h' (by show S.length + 1=d; omega) (by show n + v.size ≤ 20000; omega)]
   show zcI ⟨5,⟨false,[],its0 ++ [v]⟩ :: S,n + v.size,r⟩ _=_
   rw [hl,e5,List.append_assoc,Nat.add_assoc]
   rfl
  rw [zec]
  show zcI _ (_ ++ ([] ++ (zg7 v ++ zec false false ks.tail l)) ++ ts)=zcI ⟨5,_,_,_⟩ ts
  rw [List.nil_append]
  cases f with
  | true =>
   rw [if_pos rfl] at hst
   subst hst
   show zcI _ ([] ++ (zg7 v ++ zec false false ks.tail l) ++ ts)=_
   rw [List.nil_append,List.append_assoc]
   exact rest 1 (.inr rfl)
  | false =>
   rw [if_neg Bool.false_ne_true] at hst
   subst hst
   show zcI _ ((2,[44]) :: ((zg7 v ++ zec false false ks.tail l) ++ ts))=_
   rw [List.append_assoc,za4 (σ':=⟨0,⟨false,[],its0⟩ :: S,n,r⟩) (by show ¬ (5:Int)=7; decide) (by simp [zar,onM,zdL,isP])]
   exact rest 0 (.inl rfl)
theorem zl5:∀ (l:List JV) (d:Nat),RdL l d → ∀ (f:Bool) (st:Int) (S:List Fr) (n:Nat) (r:JV) (ks ks0:List (List UInt8)) (its0:List JV) (ts:List (Int × List UInt8)),(st=if f=true then 3 else 5) → ks.length=l.length → (ks0 ++ ks).Nodup → S.length + 1=d → n + JV.sizes l ≤ 20000 →
  zcI ⟨st,⟨true,ks0,its0⟩ :: S,n,r⟩ (zec true f ks l ++ ts)=zcI ⟨if l.isEmpty=true then st else 5,⟨true,ks0 ++ ks,its0 ++ l⟩ :: S,n + JV.sizes l,r⟩ ts
 | [],d,h,f,st,S,n,r,ks,ks0,its0,ts,hst,hlen,hnd,hd,hn => by
  have:ks=[]:=List.eq_nil_of_length_eq_zero hlen
  subst this
  rw [zec,JV.sizes,List.append_nil,List.append_nil]; rfl
 | v :: l,d,h,f,st,S,n,r,[],ks0,its0,ts,hst,hlen,hnd,hd,hn => by cases hlen
 | v :: l,d,h,f,st,S,n,r,key :: ks,ks0,its0,ts,hst,hlen,hnd,hd,hn => by
  rw [RdL] at h
  rw [JV.sizes] at hn ⊢
  have hv:=ziz v d h.1
  have hnd2:((ks0 ++ [key]) ++ ks).Nodup:=by rw [List.append_assoc]; exact hnd
  have hl:=fun ts => zl5 l d h.2 false 5 S (n + v.size) r ks (ks0 ++ [key]) (its0 ++ [v]) ts rfl (by simpa using hlen) hnd2 hd (by omega)
  have e5:(if l.isEmpty=true then (5:Int) else 5)=5:=by split <;> rfl
  have hmem:¬ key ∈ ks0:=fun hm => (List.nodup_append.1 hnd).2.2 key hm key (by simp) rfl
  have rest:∀ st',(st'=2 ∨ st'=3) → zcI ⟨st',⟨true,ks0,its0⟩ :: S,n,r⟩ ((3,key) :: (2,[58]) :: (zg7 v ++ (zec true false ks l ++ ts)))=zcI ⟨5,⟨true,ks0 ++ key :: ks,its0 ++ v :: l⟩ :: S,n + (v.size + JV.sizes l),r⟩ ts:=by
   intro st' h'
   rw [za4 (σ':=⟨4,⟨true,ks0 ++ [key],its0⟩ :: S,n,r⟩) (by show ¬ st'=7; omega) (by rcases h' with rfl | rfl <;> simp [zar,zil,zdL,isP,hmem])]
   rw [za4 (σ':=⟨0,⟨true,ks0 ++ [key],its0⟩ :: S,n,r⟩) (by show ¬ (4:Int)=7; decide) (by simp [zar,isP])]
   rw [hv ⟨0,⟨true,ks0 ++ [key],its0⟩ :: S,n,r⟩ _ (.inl rfl) (by show S.length + 1=d; omega) (by show n + v.size ≤ 20000; omega)]
   show zcI ⟨5,⟨true,ks0 ++ [key],its0 ++ [v]⟩ :: S,n + v.size,r⟩ _=_
   rw [hl,e5,List.append_assoc,List.append_assoc,Nat.add_assoc]
   rfl
  rw [zec]
  show zcI _ (_ ++ ([(3,key),(2,[58])] ++ (zg7 v ++ zec true false ks l)) ++ ts)=zcI ⟨5,_,_,_⟩ ts
  cases f with
  | true =>
   rw [if_pos rfl] at hst
   subst hst
   show zcI _ ((3,key) :: (2,[58]) :: ((zg7 v ++ zec true false ks l) ++ ts))=_
   rw [List.append_assoc]
   exact rest 3 (.inr rfl)
  | false =>
   rw [if_neg Bool.false_ne_true] at hst
   subst hst
   show zcI _ ((2,[44]) :: (3,key) :: (2,[58]) :: ((zg7 v ++ zec true false ks l) ++ ts))=_
   rw [List.append_assoc,za4 (σ':=⟨2,⟨true,ks0,its0⟩ :: S,n,r⟩) (by show ¬ (5:Int)=7; decide) (by simp [zar,onM,zdL,isP])]
   exact rest 2 (.inl rfl)
end
end
end Go.Proofs.YthmdohgkmdkeeaaGreatDoor
namespace Go.Proofs.YthmdohgkmdkeeaaGreatDoor
open Go.RowKit Sx
section
attribute [local irreducible] run
def puL:List UInt8:=[44,58,91,93,123,125]
def whL:List UInt8:=[32,9,13,10]
def kSp (sp:List UInt8) (i:Nat):Nat:=(sp[i % sp.length]?.getD 0).toNat
def zhD (k:Nat):List UInt8:=if k % 2=1 then [whL[k / 2 % 4]?.getD 0] else []
def zeM (k:Nat):List UInt8:=if k / 8 % 2=1 then [whL[k / 16 % 4]?.getD 0] else []
def zaZ (sp:List UInt8):List UInt8 → Bool → Nat → List UInt8
 | [],_,_ => []
 | c :: t,ins,i =>
  if ins=true ∧ c=92 then (match t with
   | [] => [c]
   | d :: t' => c :: d :: zaZ sp t' true (i + 2))
  else zhD (if ins=false ∧ zbp c puL=true then kSp sp i else 0) ++ (c :: (zeM (if ins=false ∧ zbp c puL=true then kSp sp i else 0) ++ zaZ sp t (if c=34 then !ins else ins) (i + 1)))
theorem wh_all:∀ n:Fin 4,zbt (whL[n.val]?.getD 0)=true:=by decide +kernel
theorem zhC (k:Nat):zci (zhD k):=by
 intro c hc
 unfold zhD at hc
 split at hc
 ·rw [List.mem_singleton] at hc
  rw [hc]
  exact wh_all ⟨k / 2 % 4,by omega⟩
 ·cases hc
theorem zk8 (k:Nat):zci (zeM k):=by
 intro c hc
 unfold zeM at hc
 split at hc
 ·rw [List.mem_singleton] at hc
  rw [hc]
  exact wh_all ⟨k / 16 % 4,by omega⟩
 ·cases hc
theorem zbc {sp:List UInt8} {c:UInt8} {t:List UInt8} {ins:Bool} {i:Nat} (h:¬ (ins=true ∧ c=92)):zaZ sp (c :: t) ins i=zhD (if ins=false ∧ zbp c puL=true then kSp sp i else 0) ++ (c :: (zeM (if ins=false ∧ zbp c puL=true then kSp sp i else 0) ++ zaZ sp t (if c=34 then !ins else ins) (i + 1))):=by
 rw [zaZ.eq_def]; exact if_neg h
theorem zbH {sp:List UInt8} {d:UInt8} {t:List UInt8} {i:Nat}:zaZ sp (92 :: d :: t) true i=92 :: d :: zaZ sp t true (i + 2):=by
 rw [zaZ.eq_def]; exact if_pos ⟨rfl,rfl⟩
theorem zkU {sp:List UInt8} {c:UInt8} {t:List UInt8} {i:Nat} (h:zbp c puL=false) (h34:c ≠ 34):zaZ sp (c :: t) false i=c :: zaZ sp t false (i + 1):=by
 rw [zbc (by simp),if_neg (by rw [h]; simp),if_neg h34]; rfl
theorem zcq {sp:List UInt8} {c:UInt8} {t:List UInt8} {i:Nat} (h92:c ≠ 92) (h34:c ≠ 34):zaZ sp (c :: t) true i=c :: zaZ sp t true (i + 1):=by
 rw [zbc (by simp [h92]),if_neg (by simp),if_neg h34]; rfl
theorem sprd_in {sp:List UInt8} {t:List UInt8} {i:Nat}:zaZ sp (34 :: t) false i=34 :: zaZ sp t true (i + 1):=by
 rw [zbc (by simp),if_neg (by decide),if_pos rfl]; rfl
theorem sprd_out {sp:List UInt8} {t:List UInt8} {i:Nat}:zaZ sp (34 :: t) true i=34 :: zaZ sp t false (i + 1):=by
 rw [zbc (by decide),if_neg (by decide),if_pos rfl]; rfl
theorem sprd_pu {sp:List UInt8} {c:UInt8} {t:List UInt8} {i:Nat} (h:zbp c puL=true) (h34:c ≠ 34):zaZ sp (c :: t) false i=zhD (kSp sp i) ++ (c :: (zeM (kSp sp i) ++ zaZ sp t false (i + 1))):=by
 rw [zbc (by simp),if_pos ⟨rfl,h⟩,if_neg h34]
theorem zeV:∀ n:Fin 16,zdM n.val ≠ 34 ∧ zdM n.val ≠ 92:=by decide +kernel
theorem zlT (sp:List UInt8) (c:UInt8) (r:List UInt8) (i:Nat):zaZ sp (zbw c ++ r) true i=zbw c ++ zaZ sp r true (i + (zbw c).length):=by
 unfold zbw
 by_cases c1:c=34 ∨ c=92
 ·rw [if_pos c1]; exact zbH
 rw [if_neg c1]
 by_cases c2:c=8
 ·rw [if_pos c2]; exact zbH
 rw [if_neg c2]
 by_cases c3:c=12
 ·rw [if_pos c3]; exact zbH
 rw [if_neg c3]
 by_cases c4:c=10
 ·rw [if_pos c4]; exact zbH
 rw [if_neg c4]
 by_cases c5:c=13
 ·rw [if_pos c5]; exact zbH
 rw [if_neg c5]
 by_cases c6:c=9
 ·rw [if_pos c6]; exact zbH
 rw [if_neg c6]
 by_cases c7:c.toNat < 32
 ·rw [if_pos c7]
  have h1:=zeV ⟨c.toNat / 16,by omega⟩
  have h2:=zeV ⟨c.toNat % 16,by omega⟩
  simp only at h1 h2
  generalize zdM (c.toNat / 16)=a at *
  generalize zdM (c.toNat % 16)=b at *
  show zaZ sp (92 :: 117 :: 48 :: 48 :: a :: b :: r) true i=92 :: 117 :: 48 :: 48 :: a :: b :: zaZ sp r true (i + 6)
  rw [zbH,zcq (by decide) (by decide),zcq (by decide) (by decide),zcq h1.2 h1.1,zcq h2.2 h2.1]
 ·rw [if_neg c7]
  exact zcq (fun h => c1 (.inr h)) (fun h => c1 (.inl h))
theorem zhe (sp:List UInt8):∀ (s r:List UInt8) (i:Nat),zaZ sp (s.flatMap zbw ++ r) true i=s.flatMap zbw ++ zaZ sp r true (i + (s.flatMap zbw).length)
 | [],r,i => by simp
 | c :: s,r,i => by
  rw [List.flatMap_cons,List.append_assoc,zlT,zhe sp s,List.append_assoc,List.length_append,Nat.add_assoc]
theorem zjo (sp s r:List UInt8) (i:Nat):zaZ sp (zdU s ++ r) false i=zdU s ++ zaZ sp r false (i + (zdU s).length):=by
 have e:zdU s ++ r=34 :: (s.flatMap zbw ++ 34 :: r):=by simp [zdU]
 rw [e,sprd_in,zhe,sprd_out]
 have e2:i + (zdU s).length=i + 1 + (s.flatMap zbw).length + 1:=by simp [zdU]; omega
 rw [e2]
 simp [zdU]
def Calm (x:List UInt8):Prop:=∀ c ∈ x,zbp c puL=false ∧ c ≠ 34
theorem ze7 (sp:List UInt8):∀ (x:List UInt8),Calm x → ∀ (r:List UInt8) (i:Nat),zaZ sp (x ++ r) false i=x ++ zaZ sp r false (i + x.length)
 | [],_,r,i => by simp
 | c :: x,h,r,i => by
  have h1:=h c (by simp)
  rw [List.cons_append,zkU h1.1 h1.2,ze7 sp x (fun d hd => h d (by simp [hd])),List.length_cons,List.cons_append,show i + 1 + x.length=i + (x.length + 1) by omega]
theorem dl_pu:∀ n:Fin 256,(zbp (UInt8.ofNat n.val) puL=true ∨ UInt8.ofNat n.val=34) → ziT (UInt8.ofNat n.val)=true:=by decide +kernel
theorem zjT {x:List UInt8} (h:(zcL x).1=0):Calm x:=by
 obtain ⟨h1,_⟩:=zjS h
 intro c hc
 have h3:=dl_pu ⟨c.toNat,c.toNat_lt⟩
 simp only [UInt8.ofNat_toNat] at h3
 have key:¬ ziT c=true:=by
  intro hd
  obtain ⟨a,b,rfl⟩:=List.append_of_mem hc
  have h4:=zjV (x:=a) (zer (r:=b) hd)
  rw [h1] at h4
  have h5:=ziK a
  rw [List.length_append,List.length_cons] at h4
  omega
 refine ⟨?_,fun e => key (h3 (.inr e))⟩
 cases h6:zbp c puL with
 | false => rfl
 | true => exact absurd (h3 (.inl h6)) key
theorem zeQ:∀ (l:List UInt8) (ins:Bool) (i:Nat),zaZ [] l ins i=l
 | [],ins,i => by rw [zaZ]
 | [c],ins,i => by
  by_cases h:ins=true ∧ c=92
  ·rw [zaZ.eq_def]; exact if_pos h
  ·have k0:kSp [] i=0:=rfl
   rw [zbc h,k0,zeQ,ite_self]; rfl
 | c :: d :: t,ins,i => by
  by_cases h:ins=true ∧ c=92
  ·obtain ⟨rfl,rfl⟩:=h
   rw [zbH,zeQ]
  ·have k0:kSp [] i=0:=rfl
   rw [zbc h,k0,zeQ,ite_self]; rfl
def zdq (ts:List (Int × List UInt8)) (l r:List UInt8):Prop:=∃ w,zci w ∧ Spl ts l (w ++ r)
theorem zlC {a b:List UInt8} (ha:zci a) (hb:zci b):zci (a ++ b):=fun c hc => (List.mem_append.1 hc).elim (ha c) (hb c)
theorem zg0:zci []:=fun c hc => by cases hc
theorem zdq.app {a b:List (Int × List UInt8)} {l m r:List UInt8} (h:zdq a l m) (k:zdq b m r):zdq (a ++ b) l r:=by
 obtain ⟨w,hw,h1⟩:=h
 obtain ⟨w',hw',h2⟩:=k
 cases b with
 | nil =>
  rw [show m=w' ++ r from h2,← List.append_assoc] at h1
  exact ⟨w ++ w',zlC hw hw',by rw [List.append_nil]; exact h1⟩
 | cons t b => exact ⟨w',hw',zlX h1 (zlV hw h2)⟩
theorem zdq.none (r:List UInt8):zdq [] r r:=⟨[],zg0,rfl⟩
theorem zdq.tok {k:Int} {x b r:List UInt8} (h:zih k x b r):zdq [(k,x)] (b ++ r) r:=⟨[],zg0,spl_one h⟩
theorem zdq.pu {c:UInt8} (sp t:List UInt8) (i:Nat) (h:zbp c puL=true) (h2:zbp c [123,125,91,93,58,44]=true) (h34:c ≠ 34) (hw:zbt c=false):zdq [(2,[c])] (zaZ sp (c :: t) false i) (zaZ sp t false (i + 1)):=by
 rw [sprd_pu h h34]
 refine ⟨zeM (kSp sp i),zk8 _,?_⟩
 exact ⟨zhD (kSp sp i),[c],_,rfl,zhC _,zlL _ h2 hw,rfl⟩
theorem white_dl:∀ n:Fin 256,zbt (UInt8.ofNat n.val)=true → ziT (UInt8.ofNat n.val)=true:=by decide +kernel
theorem zlU {sp r:List UInt8} {i:Nat} (h:Dl r):Dl (zaZ sp r false i):=by
 cases r with
 | nil => rw [zaZ]; exact dl_nil
 | cons c t =>
  have hc:=h c rfl
  rw [zbc (by simp)]
  generalize (if false=false ∧ zbp c puL=true then kSp sp i else 0)=k
  have hw:=zhC k
  cases hp:zhD k with
  | nil => exact zer hc
  | cons d u =>
   have h1:=hw d (by rw [hp]; simp)
   have h3:=white_dl ⟨d.toNat,d.toNat_lt⟩
   simp only [UInt8.ofNat_toNat] at h3
   exact zer (h3 h1)
theorem dl_items (o:Bool) (ks:List (List UInt8)) (l:List JV) {r:List UInt8} (h:Dl r):Dl (wrI o false ks l ++ r):=by
 cases l with
 | nil => rw [wrI]; exact h
 | cons v l => rw [wrI]; exact zer rfl
theorem zgs {s:List UInt8} (h:za2 s=true ∧ s.length ≤ 1048576):(zdK s).2=zdU s:=by
 unfold zdK
 rw [if_neg (by omega),if_neg (by rw [h.1]; simp)]
mutual
theorem zlW (sp:List UInt8):∀ (v:JV) (d:Nat),RdJ v d → ∀ (r:List UInt8) (i:Nat),Dl r → zdq (zg7 v) (zaZ sp (wrJ v ++ r) false i) (zaZ sp r false (i + (wrJ v).length))
 | .mk k t ks its,d,h,r,i,hr => by
  have hi:=fun o (hl:RdL its (d + 1)) (hk:o=true → ks.length=its.length ∧ ∀ x ∈ ks,za2 x=true ∧ x.length ≤ 1048576) => zhf sp its (d + 1) hl o true ks hk
  rw [RdJ] at h
  rw [zg7,wrJ]
  have word:∀ x,x=zfM ∨ x=zcS ∨ x=zeJ → zdq [(5,x)] (zaZ sp (x ++ r) false i) (zaZ sp r false (i + x.length)):=by
   intro x hx
   have hc:Calm x:=by
    rcases hx with rfl | rfl | rfl
    ·exact of_decide_eq_true (p:=∀ c ∈ zfM,zbp c puL=false ∧ c ≠ 34) (by decide)
    ·exact of_decide_eq_true (p:=∀ c ∈ zcS,zbp c puL=false ∧ c ≠ 34) (by decide)
    ·exact of_decide_eq_true (p:=∀ c ∈ zeJ,zbp c puL=false ∧ c ≠ 34) (by decide)
   rw [ze7 sp x hc]
   exact zdq.tok (tok_word hx (zlU hr))
  rcases h with ⟨hk,rfl,rfl,rfl⟩ | ⟨rfl,hx,rfl,rfl⟩ | ⟨rfl,hx,rfl,rfl⟩ | ⟨rfl,rfl,rfl,hd2,hl⟩ | ⟨rfl,rfl,hlen,hnd,hv,hd2,hl⟩
  ·rcases hk with rfl | rfl | rfl
   ·exact word _ (.inl rfl)
   ·exact word _ (.inr (.inl rfl))
   ·exact word _ (.inr (.inr rfl))
  ·show zdq [(4,t)] (zaZ sp (t ++ r) false i) (zaZ sp r false (i + t.length))
   have hx:(zcL t).1=0:=by rw [hx]
   rw [ze7 sp t (zjT hx)]
   exact zdq.tok (tok_num hx (zlU hr))
  ·show zdq [(3,t)] (zaZ sp ((zdK t).2 ++ r) false i) (zaZ sp r false (i + ((zdK t).2).length))
   rw [zgs hx,zjo]
   exact zdq.tok (zlK _ hx.1)
  ·have h1:=hi false hl (fun h => by cases h)
   show zdq ([(2,[91])] ++ (zec false true [] its ++ [(2,[93])])) (zaZ sp (91 :: ((wrI false true [] its ++ [93]) ++ r)) false i) (zaZ sp r false (i + (91 :: (wrI false true [] its ++ [93])).length))
   rw [List.append_assoc]
   refine (zdq.pu sp _ i rfl rfl (by decide) rfl).app ((h1 ([93] ++ r) (i + 1) (zer rfl)).app ?_)
   have h2:=zdq.pu sp r (i + 1 + (wrI false true [] its).length) (c:=93) rfl rfl (by decide) rfl
   rw [show i + 1 + (wrI false true [] its).length + 1=i + (91 :: (wrI false true [] its ++ [93])).length by rw [List.length_cons,List.length_append]; simp only [List.length_cons,List.length_nil]; omega] at h2
   exact h2
  ·have h1:=hi true hl (fun h => ⟨hlen,hv⟩)
   show zdq ([(2,[123])] ++ (zec true true ks its ++ [(2,[125])])) (zaZ sp (123 :: ((wrI true true ks its ++ [125]) ++ r)) false i) (zaZ sp r false (i + (123 :: (wrI true true ks its ++ [125])).length))
   rw [List.append_assoc]
   refine (zdq.pu sp _ i rfl rfl (by decide) rfl).app ((h1 ([125] ++ r) (i + 1) (zer rfl)).app ?_)
   have h2:=zdq.pu sp r (i + 1 + (wrI true true ks its).length) (c:=125) rfl rfl (by decide) rfl
   rw [show i + 1 + (wrI true true ks its).length + 1=i + (123 :: (wrI true true ks its ++ [125])).length by rw [List.length_cons,List.length_append]; simp only [List.length_cons,List.length_nil]; omega] at h2
   exact h2
theorem zhf (sp:List UInt8):∀ (l:List JV) (d:Nat),RdL l d → ∀ (o f:Bool) (ks:List (List UInt8)),(o=true → ks.length=l.length ∧ ∀ x ∈ ks,za2 x=true ∧ x.length ≤ 1048576) → ∀ (r:List UInt8) (i:Nat),Dl r → zdq (zec o f ks l) (zaZ sp (wrI o f ks l ++ r) false i) (zaZ sp r false (i + (wrI o f ks l).length))
 | [],d,h,o,f,ks,hk,r,i,hr => by
  rw [zec,wrI]
  exact zdq.none _
 | v :: l,d,h,o,f,ks,hk,r,i,hr => by
  rw [RdL] at h
  rw [zec,wrI]
  have h1:=zlW sp v d h.1
  have h2:=zhf sp l d h.2 o false ks.tail (fun ho => by
   obtain ⟨k1,k2⟩:=hk ho
   refine ⟨by rw [List.length_tail,k1,List.length_cons]; rfl,fun x hx => k2 x (List.mem_of_mem_tail hx)⟩)
  have rest:∀ j,zdq (zg7 v ++ zec o false ks.tail l) (zaZ sp ((wrJ v ++ wrI o false ks.tail l) ++ r) false j) (zaZ sp r false (j + (wrJ v ++ wrI o false ks.tail l).length)):=by
   intro j
   rw [List.append_assoc,List.length_append,← Nat.add_assoc]
   exact (h1 _ j (dl_items o ks.tail l hr)).app (h2 r _ hr)
  have keys:∀ j,zdq ((if o=true then [(3,ks.head?.getD []),(2,[58])] else []) ++ (zg7 v ++ zec o false ks.tail l)) (zaZ sp (((if o=true then (zdK (ks.head?.getD [])).2 ++ [58] else []) ++ (wrJ v ++ wrI o false ks.tail l)) ++ r) false j) (zaZ sp r false (j + ((if o=true then (zdK (ks.head?.getD [])).2 ++ [58] else []) ++ (wrJ v ++ wrI o false ks.tail l)).length)):=by
   intro j
   cases o with
   | false => exact rest j
   | true =>
    obtain ⟨k1,k2⟩:=hk rfl
    cases ks with
    | nil => cases k1
    | cons key ks =>
     have hx:=k2 key (by simp)
     show zdq ([(3,key)] ++ ([(2,[58])] ++ (zg7 v ++ zec true false ks l))) (zaZ sp ((((zdK key).2 ++ [58]) ++ (wrJ v ++ wrI true false ks l)) ++ r) false j) (zaZ sp r false (j + (((zdK key).2 ++ [58]) ++ (wrJ v ++ wrI true false ks l)).length))
     rw [zgs hx,List.append_assoc,List.append_assoc,zjo]
     refine (zdq.tok (zlK _ hx.1)).app ((zdq.pu sp _ _ rfl rfl (by decide) rfl).app ?_)
     have h3:zdq (zg7 v ++ zec true false ks l) (zaZ sp ((wrJ v ++ wrI true false ks l) ++ r) false (j + (zdU key).length + 1)) (zaZ sp r false (j + (zdU key).length + 1 + (wrJ v ++ wrI true false ks l).length)):=rest (j + (zdU key).length + 1)
     rw [show j + (zdU key).length + 1 + (wrJ v ++ wrI true false ks l).length=j + ((zdU key ++ [58]) ++ (wrJ v ++ wrI true false ks l)).length by simp only [List.length_append,List.length_cons,List.length_nil]; omega] at h3
     exact h3
  cases f with
  | true => exact keys i
  | false =>
   show zdq ([(2,[44])] ++ _) (zaZ sp (44 :: (_ ++ r)) false i) _
   refine (zdq.pu sp _ i rfl rfl (by decide) rfl).app ?_
   have h3:=keys (i + 1)
   rw [Nat.add_right_comm] at h3
   exact h3
end
theorem zmA (sp:List UInt8) {v:JV} (h:RdJ v 0) (hs:v.size ≤ 20000) (hl:(zaZ sp (wrJ v) false 0).length ≤ 1048576):zbs (zaZ sp (wrJ v) false 0)=(v,((zaZ sp (wrJ v) false 0).length:Int),0):=by
 have h1:=zlW sp v 0 h [] 0 dl_nil
 rw [List.append_nil] at h1
 obtain ⟨w,hw,h2⟩:=h1
 have hm:=ziz v 0 h ms0 [] (.inl rfl) rfl (by show 0 + v.size ≤ 20000; omega)
 rw [List.append_nil,zcI] at hm
 refine (zeS hl (zld h2 ?_ hm)).symm
 rw [zaZ,List.append_nil]
 exact hw
end
end Go.Proofs.YthmdohgkmdkeeaaGreatDoor
namespace Go.Proofs.YthmdohgkmdkeeaaGreatDoor
open Nat renaming reduceAdd → z6, reduceSub → z7, reduceLeDiff → z8, reduceLT → j4, reduceMul → j5, reduceEqDiff → j6
open Int renaming reduceToNat → j7, reduceAdd → j8, reduceSub → j9, reduceMul → x0, reduceNeg → x3, reduceLT → x4, reduceLE → x5, reduceEq → x6, reduceNe → x7
open Go.RowKit Sx
section
attribute [local irreducible] run
def zbG:List UInt8 → Bool → Prop
 | [],_ => True
 | c :: t,ins =>
  if ins=true ∧ c=92 then (match t with
   | [] => False
   | d :: t' => zbG t' true)
  else zbG t (if c=34 then !ins else ins)
theorem zd7 {c:UInt8} {t:List UInt8} {ins:Bool} (h:¬ (ins=true ∧ c=92)):zbG (c :: t) ins=zbG t (if c=34 then !ins else ins):=by
 rw [zbG.eq_def]; exact if_neg h
theorem zn6 {d:UInt8} {t:List UInt8}:zbG (92 :: d :: t) true=zbG t true:=by
 rw [zbG.eq_def]; exact if_pos ⟨rfl,rfl⟩
theorem esc_at {s:List UInt8} {i:Nat} (hi:i < s.length) {ins:Bool} (h:zbG (s.drop i) ins) :
  (ins=true ∧ s[i]=92 ∧ i + 1 < s.length ∧ zbG (s.drop (i + 2)) true) ∨ (¬ (ins=true ∧ s[i]=92) ∧ zbG (s.drop (i + 1)) (if s[i]=34 then !ins else ins)):=by
 rw [List.drop_eq_getElem_cons hi] at h
 by_cases hc:ins=true ∧ s[i]=92
 ·left
  obtain ⟨rfl,h92⟩:=hc
  refine ⟨rfl,h92,?_⟩
  rw [h92] at h
  by_cases h1:i + 1 < s.length
  ·rw [List.drop_eq_getElem_cons h1,zn6] at h
   exact ⟨h1,h⟩
  ·rw [List.drop_of_length_le (l:=s) (i:=i + 1) (by omega),zbG.eq_def] at h
   exact absurd h (by simp)
 ·right
  rw [zd7 hc] at h
  exact ⟨hc,h⟩
def Bal (l:List UInt8):Prop:=∀ r,zbG r false → zbG (l ++ r) false
theorem Bal.app {a b:List UInt8} (h:Bal a) (k:Bal b):Bal (a ++ b):=fun r hr => by rw [List.append_assoc]; exact h _ (k r hr)
theorem zgR:Bal []:=fun r hr => hr
theorem zdH {c:UInt8} (h:c ≠ 34):Bal [c]:=fun r hr => by
 show zbG (c :: r) false
 rw [zd7 (by simp),if_neg h]; exact hr
theorem zeb:∀ {x:List UInt8},Calm x → Bal x
 | [],_ => zgR
 | c :: x,h => (zdH (h c (by simp)).2).app (b:=x) (zeb fun d hd => h d (by simp [hd]))
theorem esc_quoB (c:UInt8) (r:List UInt8) (hr:zbG r true):zbG (zbw c ++ r) true:=by
 have inner:∀ {d:UInt8} {t:List UInt8},d ≠ 92 → d ≠ 34 → zbG t true → zbG (d :: t) true:=fun h1 h2 h => by
  rw [zd7 (by simp [h1]),if_neg h2]; exact h
 have two:∀ {d:UInt8} {t:List UInt8},zbG t true → zbG (92 :: d :: t) true:=fun h => by rw [zn6]; exact h
 unfold zbw
 by_cases c1:c=34 ∨ c=92
 ·rw [if_pos c1]; exact two hr
 rw [if_neg c1]
 by_cases c2:c=8
 ·rw [if_pos c2]; exact two hr
 rw [if_neg c2]
 by_cases c3:c=12
 ·rw [if_pos c3]; exact two hr
 rw [if_neg c3]
 by_cases c4:c=10
 ·rw [if_pos c4]; exact two hr
 rw [if_neg c4]
 by_cases c5:c=13
 ·rw [if_pos c5]; exact two hr
 rw [if_neg c5]
 by_cases c6:c=9
 ·rw [if_pos c6]; exact two hr
 rw [if_neg c6]
 by_cases c7:c.toNat < 32
 ·rw [if_pos c7]
  have h1:=zeV ⟨c.toNat / 16,by omega⟩
  have h2:=zeV ⟨c.toNat % 16,by omega⟩
  exact two (inner (by decide) (by decide) (inner (by decide) (by decide) (inner h1.2 h1.1 (inner h2.2 h2.1 hr))))
 ·rw [if_neg c7]
  exact inner (fun h => c1 (.inr h)) (fun h => c1 (.inl h)) hr
theorem zkm:∀ (s r:List UInt8),zbG r true → zbG (s.flatMap zbw ++ r) true
 | [],r,hr => hr
 | c :: s,r,hr => by rw [List.flatMap_cons,List.append_assoc]; exact esc_quoB c _ (zkm s r hr)
theorem zoN (s:List UInt8):Bal (zdU s):=fun r hr => by
 have e:zdU s ++ r=34 :: (s.flatMap zbw ++ 34 :: r):=by simp [zdU]
 rw [e,zd7 (by simp),if_pos rfl]
 refine zkm s _ ?_
 rw [zd7 (by decide),if_pos rfl]
 exact hr
mutual
theorem zoM:∀ (v:JV) (d:Nat),RdJ v d → Bal (wrJ v)
 | .mk k t ks its,d,h => by
  have hi:=fun o (hl:RdL its (d + 1)) (hk:o=true → ks.length=its.length ∧ ∀ x ∈ ks,za2 x=true ∧ x.length ≤ 1048576) => zid its (d + 1) hl o true ks hk
  rw [RdJ] at h
  rw [wrJ]
  rcases h with ⟨hk,rfl,rfl,rfl⟩ | ⟨rfl,hx,rfl,rfl⟩ | ⟨rfl,hx,rfl,rfl⟩ | ⟨rfl,rfl,rfl,hd2,hl⟩ | ⟨rfl,rfl,hlen,hnd,hv,hd2,hl⟩
  ·rcases hk with rfl | rfl | rfl
   ·exact zeb (of_decide_eq_true (p:=∀ c ∈ zfM,zbp c puL=false ∧ c ≠ 34) (by decide))
   ·exact zeb (of_decide_eq_true (p:=∀ c ∈ zcS,zbp c puL=false ∧ c ≠ 34) (by decide))
   ·exact zeb (of_decide_eq_true (p:=∀ c ∈ zeJ,zbp c puL=false ∧ c ≠ 34) (by decide))
  ·exact zeb (zjT (x:=t) (by rw [hx]))
  ·show Bal (zdK t).2
   rw [zgs hx]; exact zoN t
  ·show Bal ([91] ++ (wrI false true [] its ++ [93]))
   exact (zdH (by decide)).app ((hi false hl (fun h => by cases h)).app (zdH (by decide)))
  ·show Bal ([123] ++ (wrI true true ks its ++ [125]))
   exact (zdH (by decide)).app ((hi true hl (fun h => ⟨hlen,hv⟩)).app (zdH (by decide)))
theorem zid:∀ (l:List JV) (d:Nat),RdL l d → ∀ (o f:Bool) (ks:List (List UInt8)),(o=true → ks.length=l.length ∧ ∀ x ∈ ks,za2 x=true ∧ x.length ≤ 1048576) → Bal (wrI o f ks l)
 | [],d,h,o,f,ks,hk => by rw [wrI]; exact zgR
 | v :: l,d,h,o,f,ks,hk => by
  rw [RdL] at h
  rw [wrI]
  have h1:=zoM v d h.1
  have h2:=zid l d h.2 o false ks.tail (fun ho => by
   obtain ⟨k1,k2⟩:=hk ho
   refine ⟨by rw [List.length_tail,k1,List.length_cons]; rfl,fun x hx => k2 x (List.mem_of_mem_tail hx)⟩)
  refine Bal.app ?_ (Bal.app ?_ (h1.app h2))
  ·cases f with
   | true => exact zgR
   | false => exact zdH (by decide)
  ·cases o with
   | false => exact zgR
   | true =>
    obtain ⟨k1,k2⟩:=hk rfl
    cases ks with
    | nil => cases k1
    | cons key ks =>
     show Bal ((zdK key).2 ++ [58])
     rw [zgs (k2 key (by simp))]
     exact (zoN key).app (zdH (by decide))
end
theorem esc_val {v:JV} {d:Nat} (h:RdJ v d):zbG (wrJ v) false:=by
 have:=zoM v d h [] (by rw [zbG]; trivial)
 rw [List.append_nil] at this
 exact this
theorem byA_pl (l:List UInt8):zan (byA l)=true:=by
 induction l with
 | nil => rfl
 | cons c l ih => exact ih
theorem zg5 {c d:UInt8} (h:(c.toNat:Int)=(d.toNat:Int)):c=d:=UInt8.toNat_inj.1 (by omega)
theorem bit_all:∀ x:Fin 256,((x.val &&& 1=1) ↔ x.val % 2=1) ∧ ((x.val &&& 8=8) ↔ x.val / 8 % 2=1):=by decide +kernel
section
variable [Tabs Tryz.prog]
theorem spread_k (s sp:List UInt8) (hs:s.length ≤ 1000000) (hp:sp.length ≤ 140737488351232) (he:zbG s false) {objs:List OB} {K:List OB → AV → Prop} (hk:K objs (.s (zaZ sp s false 0))):zad Tryz.prog 19 [.s s,.row sp.length (byA sp)] objs K:=by
 refine zaX is_law14_spread (by simp only [zan,AV.plain,byA_pl,Bool.and_self]) fun C _ => ?_
 rw [c_law14_spread]
 refine zaa fun Z hZ => ?_
 simp only [sxZ,z6,z7,z8,j4,j5,j6,j7,j8,j9,x0,x3,x4,x5,x6,x7,reduceCtorEq,↓reduceIte]
 subst hZ
 refine zaa fun Z hZ => ?_
 simp only [sxZ,z6,z7,z8,j4,j5,j6,j7,j8,j9,x0,x3,x4,x5,x6,x7,reduceCtorEq,↓reduceIte]
 subst hZ
 refine zaa fun Z hZ => ?_
 simp only [sxZ,z6,z7,z8,j4,j5,j6,j7,j8,j9,x0,x3,x4,x5,x6,x7,reduceCtorEq,↓reduceIte]
 subst hZ
 refine zaa fun Z hZ => ?_
 refine zaa fun W hW => ?_
 simp only [sxZ,z6,z7,z8,j4,j5,j6,j7,j8,j9,x0,x3,x4,x5,x6,x7,reduceCtorEq,↓reduceIte]
 subst hW
 rw [zaK]
 refine zaE (fun n o tm => ∃ (i:Nat) (ins:Bool) (txt:List UInt8) (X:AV) (R:List (Nat × OB)),i ≤ s.length ∧ n=s.length - i ∧ zaZ sp s false 0=txt ++ zaZ sp (s.drop i) ins i ∧ zbG (s.drop i) ins ∧ txt.length ≤ 3 * i ∧ SlO 5 1 txt.length (byA txt) X R ∧ zaH R o ∧ tm.length=105 ∧ tm[0]? = some (.s s) ∧ tm[1]? = some (.row sp.length (byA sp)) ∧ tm[5]? = some X ∧ tm[6]? = some (.b ins) ∧ tm[7]? = some (.i .i64 (i:Int))) s.length ⟨0,false,[],.nil,[],Nat.zero_le _,rfl,rfl,he,Nat.zero_le _,.inl ⟨rfl,rfl,rfl,rfl⟩,⟨by simp,fun x hx => by cases hx⟩,rfl,rfl,rfl,rfl,rfl,rfl⟩ ?_
 rintro n o tm ⟨i,ins,txt,X,R,hi,rfl,htx,hesc,htl,hS,hO,hlen,t0,t1,t5,t6,t7⟩
 refine zaa fun W hW => ?_
 by_cases hlt:(i:Int) < (s.length:Int)
 ·have hi':i < s.length:=by omega
  simp only [sxZ,z6,z7,z8,j4,j5,j6,j7,j8,j9,x0,x3,x4,x5,x6,x7,reduceCtorEq,↓reduceIte,List.getElem?_set,hlen,t0,t7,hlt]
  subst hW
  refine zaa fun V hV => ?_
  rw [zaK]
  refine zaa fun W hW => ?_
  have hg:=zay hi'
  have hea:=esc_at hi' hesc
  have hd:=List.drop_eq_getElem_cons hi'
  rw [hd] at htx
  have hg2:=fun (h:i + 1 < s.length) => zay h
  simp only [sxZ,z6,z7,z8,j4,j5,j6,j7,j8,j9,x0,x3,x4,x5,x6,x7,reduceCtorEq,↓reduceIte,List.getElem?_set,hlen,t0,t7,hg]
  refine ⟨by omega,?_⟩
  generalize s[i]=c at htx hea
  have hcb:c.toNat < 256:=c.toNat_lt
  refine zbI (fun tm => tm.length=105 ∧ tm[0]? = some (.s s) ∧ tm[1]? = some (.row sp.length (byA sp)) ∧ tm[5]? = some X ∧ tm[6]? = some (.b ins) ∧ tm[7]? = some (.i .i64 (i:Int)) ∧ tm[8]? = some (.i .u8 (c.toNat:Int))) ?_ ?_
  ·simp only [sxZ,z6,z7,z8,j4,j5,j6,j7,j8,j9,x0,x3,x4,x5,x6,x7,reduceCtorEq,↓reduceIte,List.getElem?_set,hlen,List.length_set,t0,t1,t5,t6,t7,and_self]
  clear hlen t0 t1 t5 t6 t7
  rintro tm ⟨hlen,t0,t1,t5,t6,t7,t8⟩
  obtain ⟨fr,hfr⟩:∃ fr,fr=(!ins && zbp c puL):=⟨_,rfl⟩
  subst hW
  refine zaa fun W hW => ?_
  refine zaG (fun o tm => ∃ X R,SlO 5 1 (txt).length (byA (txt)) X R ∧ zaH R o ∧ tm.length=105 ∧ tm[0]? = some (.s s) ∧ tm[1]? = some (.row sp.length (byA sp)) ∧ tm[5]? = some X ∧ tm[6]? = some (.b ins) ∧ tm[7]? = some (.i .i64 (i:Int)) ∧ tm[8]? = some (.i .u8 (c.toNat:Int)) ∧ tm[9]? = some (.b fr)) ?_ ?_
  ·cases ins with
   | true =>
    have hf:fr=false:=by rw [hfr]; rfl
    simp only [sxZ,z6,z7,z8,j4,j5,j6,j7,j8,j9,x0,x3,x4,x5,x6,x7,reduceCtorEq,↓reduceIte,List.getElem?_set,hlen,zab,List.length_set,t0,t1,t5,t6,t7,t8,and_self,and_true,hf]
    exact ⟨X,R,hS,hO,rfl⟩
   | false =>
    by_cases q44:(c.toNat:Int)=44
    ·have hf:fr=true:=by rw [hfr,(show c=44 from zg5 q44)]; rfl
     simp only [sxZ,z6,z7,z8,j4,j5,j6,j7,j8,j9,x0,x3,x4,x5,x6,x7,reduceCtorEq,↓reduceIte,List.getElem?_set,hlen,zab,List.length_set,t0,t1,t5,t6,t7,t8,and_self,and_true,hf,q44]
     exact ⟨X,R,hS,hO,rfl⟩
    have n44:¬ (c.toNat:Int)=44:=q44
    by_cases q58:(c.toNat:Int)=58
    ·have hf:fr=true:=by rw [hfr,(show c=58 from zg5 q58)]; rfl
     simp only [sxZ,z6,z7,z8,j4,j5,j6,j7,j8,j9,x0,x3,x4,x5,x6,x7,reduceCtorEq,↓reduceIte,List.getElem?_set,hlen,zab,List.length_set,t0,t1,t5,t6,t7,t8,and_self,and_true,hf,q58]
     exact ⟨X,R,hS,hO,rfl⟩
    have n58:¬ (c.toNat:Int)=58:=q58
    by_cases q91:(c.toNat:Int)=91
    ·have hf:fr=true:=by rw [hfr,(show c=91 from zg5 q91)]; rfl
     simp only [sxZ,z6,z7,z8,j4,j5,j6,j7,j8,j9,x0,x3,x4,x5,x6,x7,reduceCtorEq,↓reduceIte,List.getElem?_set,hlen,zab,List.length_set,t0,t1,t5,t6,t7,t8,and_self,and_true,hf,q91]
     exact ⟨X,R,hS,hO,rfl⟩
    have n91:¬ (c.toNat:Int)=91:=q91
    by_cases q93:(c.toNat:Int)=93
    ·have hf:fr=true:=by rw [hfr,(show c=93 from zg5 q93)]; rfl
     simp only [sxZ,z6,z7,z8,j4,j5,j6,j7,j8,j9,x0,x3,x4,x5,x6,x7,reduceCtorEq,↓reduceIte,List.getElem?_set,hlen,zab,List.length_set,t0,t1,t5,t6,t7,t8,and_self,and_true,hf,q93]
     exact ⟨X,R,hS,hO,rfl⟩
    have n93:¬ (c.toNat:Int)=93:=q93
    by_cases q123:(c.toNat:Int)=123
    ·have hf:fr=true:=by rw [hfr,(show c=123 from zg5 q123)]; rfl
     simp only [sxZ,z6,z7,z8,j4,j5,j6,j7,j8,j9,x0,x3,x4,x5,x6,x7,reduceCtorEq,↓reduceIte,List.getElem?_set,hlen,zab,List.length_set,t0,t1,t5,t6,t7,t8,and_self,and_true,hf,q123]
     exact ⟨X,R,hS,hO,rfl⟩
    have n123:¬ (c.toNat:Int)=123:=q123
    by_cases q125:(c.toNat:Int)=125
    ·have hf:fr=true:=by rw [hfr,(show c=125 from zg5 q125)]; rfl
     simp only [sxZ,z6,z7,z8,j4,j5,j6,j7,j8,j9,x0,x3,x4,x5,x6,x7,reduceCtorEq,↓reduceIte,List.getElem?_set,hlen,zab,List.length_set,t0,t1,t5,t6,t7,t8,and_self,and_true,hf,q125]
     exact ⟨X,R,hS,hO,rfl⟩
    have n125:¬ (c.toNat:Int)=125:=q125
    have hf:fr=false:=by
     rw [hfr]
     have:¬ c ∈ puL:=fun hm => by
      simp only [puL,List.mem_cons,List.not_mem_nil,or_false] at hm
      rcases hm with rfl | rfl | rfl | rfl | rfl | rfl <;> simp at *
     unfold zbp
     rw [List.contains_eq_mem,decide_eq_false this]; rfl
    simp only [sxZ,z6,z7,z8,j4,j5,j6,j7,j8,j9,x0,x3,x4,x5,x6,x7,reduceCtorEq,↓reduceIte,List.getElem?_set,hlen,zab,List.length_set,t0,t1,t5,t6,t7,t8,and_self,and_true,hf,n44,n58,n91,n93,n123,n125]
    exact ⟨X,R,hS,hO,rfl⟩
  clear hlen t0 t1 t5 t6 t7 t8 hO hS
  rintro o tm ⟨X,R,hS,hO,hlen,t0,t1,t5,t6,t7,t8,t9⟩
  subst hW
  refine zaa fun W hW => ?_
  rcases hea with ⟨rfl,rfl,hi2,he2⟩ | ⟨hnc,he2⟩
  ·have hg2:=hg2 hi2
   rw [List.drop_eq_getElem_cons hi2,zbH] at htx
   generalize s[i + 1]=d at htx hg2
   have q92:((92:UInt8).toNat:Int)=92:=rfl
   simp only [sxZ,z6,z7,z8,j4,j5,j6,j7,j8,j9,x0,x3,x4,x5,x6,x7,reduceCtorEq,↓reduceIte,List.getElem?_set,hlen,t5,t6,t7,t8,t0,q92,hg2]
   refine ⟨⟨by omega,by omega⟩,by omega,?_⟩
   refine zdj (A:=[]) (B:=[]) hS (by simpa using hO) ⟨rfl,by omega,by omega⟩ ?_
   intro X' R' o' hS' hO'
   subst hV
   simp only [sxZ,z6,z7,z8,j4,j5,j6,j7,j8,j9,x0,x3,x4,x5,x6,x7,reduceCtorEq,↓reduceIte,List.getElem?_set,hlen,List.length_set,t0,t1,t5,t6,t7]
   refine ⟨⟨by omega,by omega⟩,⟨by omega,by omega⟩,s.length - (i + 2),by omega,i + 2,true,txt ++ [92,d],X',R',by omega,rfl,by rw [htx]; simp,he2,by simp only [List.length_append,List.length_cons,List.length_nil]; omega,zc1 hS' rfl,by simpa using hO',rfl,rfl,rfl⟩
  have e92:¬ (ins=true ∧ (c.toNat:Int)=92):=fun h => hnc ⟨h.1,zg5 h.2⟩
  rw [zbc hnc] at htx
  have hk':(if ins=false ∧ zbp c puL=true then kSp sp i else 0)=if fr=true then kSp sp i else 0:=by
   rw [hfr]; cases ins <;> cases zbp c puL <;> rfl
  rw [hk'] at htx
  refine zaG (fun o tm => ∃ X R,SlO 5 1 (txt).length (byA (txt)) X R ∧ zaH R o ∧ tm.length=105 ∧ tm[0]? = some (.s s) ∧ tm[1]? = some (.row sp.length (byA sp)) ∧ tm[5]? = some X ∧ tm[6]? = some (.b ins) ∧ tm[7]? = some (.i .i64 (i:Int)) ∧ tm[8]? = some (.i .u8 (c.toNat:Int)) ∧ tm[9]? = some (.b fr)) ?_ ?_
  ·cases ins with
   | true =>
    have n92:¬ (c.toNat:Int)=92:=fun h => e92 ⟨rfl,h⟩
    simp only [sxZ,z6,z7,z8,j4,j5,j6,j7,j8,j9,x0,x3,x4,x5,x6,x7,reduceCtorEq,↓reduceIte,List.getElem?_set,hlen,zab,List.length_set,t0,t1,t5,t6,t7,t8,and_self,and_true,t9,n92]
    exact ⟨X,R,hS,hO,rfl⟩
   | false =>
    simp only [sxZ,z6,z7,z8,j4,j5,j6,j7,j8,j9,x0,x3,x4,x5,x6,x7,reduceCtorEq,↓reduceIte,List.getElem?_set,hlen,zab,List.length_set,t0,t1,t5,t6,t7,t8,and_self,and_true,t9]
    exact ⟨X,R,hS,hO,rfl⟩
  clear hlen t0 t1 t5 t6 t7 t8 t9 hO hS
  rintro o tm ⟨X,R,hS,hO,hlen,t0,t1,t5,t6,t7,t8,t9⟩
  subst hW
  refine zaa fun W hW => ?_
  obtain ⟨ins',hins⟩:∃ ins',ins'=(if c=34 then !ins else ins):=⟨_,rfl⟩
  rw [← hins] at htx he2
  refine zaG (fun o tm => ∃ X R,SlO 5 1 (txt).length (byA (txt)) X R ∧ zaH R o ∧ tm.length=105 ∧ tm[0]? = some (.s s) ∧ tm[1]? = some (.row sp.length (byA sp)) ∧ tm[5]? = some X ∧ tm[6]? = some (.b ins') ∧ tm[7]? = some (.i .i64 (i:Int)) ∧ tm[8]? = some (.i .u8 (c.toNat:Int))∧ tm[9]? = some (.b fr)) ?_ ?_
  ·by_cases q34:(c.toNat:Int)=34
   ·have hi3:ins'=!ins:=by rw [hins,if_pos (show c=34 from zg5 q34)]
    simp only [sxZ,z6,z7,z8,j4,j5,j6,j7,j8,j9,x0,x3,x4,x5,x6,x7,reduceCtorEq,↓reduceIte,List.getElem?_set,hlen,zab,List.length_set,t0,t1,t5,t6,t7,t8,t9,and_self,and_true,q34,hi3]
    exact ⟨X,R,hS,hO,rfl⟩
   ·have hi3:ins'=ins:=by rw [hins,if_neg (fun h => q34 (by rw [h]; rfl))]
    simp only [sxZ,z6,z7,z8,j4,j5,j6,j7,j8,j9,x0,x3,x4,x5,x6,x7,reduceCtorEq,↓reduceIte,List.getElem?_set,hlen,zab,List.length_set,t0,t1,t5,t6,t7,t8,t9,and_self,and_true,q34,hi3]
    exact ⟨X,R,hS,hO,rfl⟩
  clear hlen t0 t1 t5 t6 t7 t8 t9 hO hS
  rintro o tm ⟨X,R,hS,hO,hlen,t0,t1,t5,t6,t7,t8,t9⟩
  subst hW
  refine zaa fun W hW => ?_
  obtain ⟨k,hkk⟩:∃ k,k=(if fr=true then kSp sp i else 0):=⟨_,rfl⟩
  have hk256:k < 256:=by
   rw [hkk]; split
   ·exact UInt8.toNat_lt _
   ·omega
  rw [← hkk] at htx
  simp only [sxZ,z6,z7,z8,j4,j5,j6,j7,j8,j9,x0,x3,x4,x5,x6,x7,reduceCtorEq,↓reduceIte,List.getElem?_set,hlen]
  subst hW
  refine zaa fun W hW => ?_
  refine zaG (fun o tm => ∃ X R,SlO 5 1 (txt).length (byA (txt)) X R ∧ zaH R o ∧ tm.length=105 ∧ tm[0]? = some (.s s) ∧ tm[1]? = some (.row sp.length (byA sp)) ∧ tm[5]? = some X ∧ tm[6]? = some (.b ins') ∧ tm[7]? = some (.i .i64 (i:Int)) ∧ tm[8]? = some (.i .u8 (c.toNat:Int))∧ tm[9]? = some (.b fr)∧ tm[10]? = some (.i .i64 (k:Int))) ?_ ?_
  ·cases fr with
   | false =>
    have hk0:k=0:=hkk
    simp only [sxZ,z6,z7,z8,j4,j5,j6,j7,j8,j9,x0,x3,x4,x5,x6,x7,reduceCtorEq,↓reduceIte,List.getElem?_set,hlen,zab,List.length_set,t0,t1,t5,t6,t7,t8,t9,and_self,and_true,hk0,Int.cast_ofNat_Int]
    exact ⟨X,R,hS,hO,rfl⟩
   | true =>
    rw [if_pos rfl] at hkk
    by_cases p0:(0:Int) < (sp.length:Int)
    ·have hj:i % sp.length < sp.length:=Nat.mod_lt _ (by omega)
     have tm0:Int.tmod (i:Int) (sp.length:Int)=((i % sp.length:Nat):Int):=by rw [Int.tmod_eq_emod_of_nonneg (by omega)]; rfl
     have hb:(byA sp)[i % sp.length * 1]? = some (.i .u8 (k:Int)):=by
      rw [Nat.mul_one,hkk]
      unfold byA kSp
      rw [List.getElem?_map,List.getElem?_eq_getElem hj]; rfl
     generalize i % sp.length=j at hj tm0 hb
     have hwr:IntKind.i64.wrap (k:Int)=(k:Int):=IntWalk.i64_in _ (by omega)
     have hbl:(byA sp).length=sp.length:=List.length_map _
     simp only [sxZ,z6,z7,z8,j4,j5,j6,j7,j8,j9,x0,x3,x4,x5,x6,x7,reduceCtorEq,↓reduceIte,List.getElem?_set,hlen,zab,List.length_set,t0,t1,t5,t6,t7,t8,t9,and_self,and_true,p0,tm0,hb,hwr]
     exact ⟨by omega,⟨by omega,by omega,by omega⟩,X,R,hS,hO,rfl⟩
    ·have hk0:k=0:=by
      have:sp=[]:=List.eq_nil_of_length_eq_zero (by omega)
      rw [hkk,this]; rfl
     simp only [sxZ,z6,z7,z8,j4,j5,j6,j7,j8,j9,x0,x3,x4,x5,x6,x7,reduceCtorEq,↓reduceIte,List.getElem?_set,hlen,zab,List.length_set,t0,t1,t5,t6,t7,t8,t9,and_self,and_true,p0,hk0,Int.cast_ofNat_Int]
     exact ⟨X,R,hS,hO,rfl⟩
  clear hlen t0 t1 t5 t6 t7 t8 t9 hO hS
  rintro o tm ⟨X,R,hS,hO,hlen,t0,t1,t5,t6,t7,t8,t9,t10⟩
  subst hW
  refine zaa fun W hW => ?_
  have b1:IntKind.i64.wrap ((BitVec.ofInt IntKind.i64.bits ((k:Nat):Int) &&& BitVec.ofInt IntKind.i64.bits 1).toNat:Int)=((k &&& 1:Nat):Int):=zaP k 1 (by omega) (by decide)
  have b8:IntKind.i64.wrap ((BitVec.ofInt IntKind.i64.bits ((k:Nat):Int) &&& BitVec.ofInt IntKind.i64.bits 8).toNat:Int)=((k &&& 8:Nat):Int):=zaP k 8 (by omega) (by decide)
  have f1:((k:Nat):Int).fdiv (2 ^ min 1 IntKind.i64.bits)=((k / 2:Nat):Int):=Int.fdiv_eq_ediv_of_nonneg _ (by decide)
  have f4:((k:Nat):Int).fdiv (2 ^ min 4 IntKind.i64.bits)=((k / 16:Nat):Int):=Int.fdiv_eq_ediv_of_nonneg _ (by decide)
  have b3:IntKind.i64.wrap ((BitVec.ofInt IntKind.i64.bits ((k / 2:Nat):Int) &&& BitVec.ofInt IntKind.i64.bits 3).toNat:Int)=((k / 2 % 4:Nat):Int):=(zaP (k / 2) 3 (by omega) (by decide)).trans (by rw [show k / 2 &&& 3=k / 2 % 4 from Nat.and_two_pow_sub_one_eq_mod (k / 2) 2])
  have b5:IntKind.i64.wrap ((BitVec.ofInt IntKind.i64.bits ((k / 16:Nat):Int) &&& BitVec.ofInt IntKind.i64.bits 3).toNat:Int)=((k / 16 % 4:Nat):Int):=(zaP (k / 16) 3 (by omega) (by decide)).trans (by rw [show k / 16 &&& 3=k / 16 % 4 from Nat.and_two_pow_sub_one_eq_mod (k / 16) 2])
  have hbit:=bit_all ⟨k,hk256⟩
  simp only at hbit
  refine zaG (fun o tm => ∃ X R,SlO 5 1 (txt ++ zhD k).length (byA (txt ++ zhD k)) X R ∧ zaH R o ∧ tm.length=105 ∧ tm[0]? = some (.s s) ∧ tm[1]? = some (.row sp.length (byA sp)) ∧ tm[5]? = some X ∧ tm[6]? = some (.b ins') ∧ tm[7]? = some (.i .i64 (i:Int)) ∧ tm[8]? = some (.i .u8 (c.toNat:Int))∧ tm[10]? = some (.i .i64 (k:Int))) ?_ ?_
  ·by_cases r1:k % 2=1
   ·have e1:((k &&& 1:Nat):Int)=1:=by rw [hbit.1.2 r1]; rfl
    have hp1:zhD k=[whL[k / 2 % 4]?.getD 0]:=if_pos r1
    rw [hp1]
    simp only [sxZ,z6,z7,z8,j4,j5,j6,j7,j8,j9,x0,x3,x4,x5,x6,x7,reduceCtorEq,↓reduceIte,List.getElem?_set,hlen,zab,List.length_set,t0,t1,t5,t6,t7,t8,t9,and_self,and_true,t10,b1,e1,f1,b3]
    refine ⟨⟨by omega,by omega⟩,?_⟩
    refine zdj (A:=[]) (B:=[]) hS (by simpa using hO) ⟨rfl,by omega,by omega⟩ ?_
    intro X' R' o' hS' hO'
    simp only [sxZ,z6,z7,z8,j4,j5,j6,j7,j8,j9,x0,x3,x4,x5,x6,x7,reduceCtorEq,↓reduceIte,List.getElem?_set,hlen,zab,List.length_set,t0,t1,t5,t6,t7,t8,t9,and_self,and_true,t10]
    exact ⟨X',R',by simpa only [List.length_append,List.length_cons,List.length_nil,Nat.zero_add] using (zc1 hS' (b:=[whL[k / 2 % 4]?.getD 0]) rfl),by simpa using hO',rfl⟩
   ·have e1:¬ ((k &&& 1:Nat):Int)=1:=fun h => r1 (hbit.1.1 (by omega))
    have hp0:zhD k=[]:=if_neg r1
    simp only [sxZ,z6,z7,z8,j4,j5,j6,j7,j8,j9,x0,x3,x4,x5,x6,x7,reduceCtorEq,↓reduceIte,List.getElem?_set,hlen,zab,List.length_set,t0,t1,t5,t6,t7,t8,t9,and_self,and_true,t10,b1,e1,hp0,List.append_nil]
    exact ⟨X,R,hS,hO,rfl⟩
  have hpl:(zhD k).length ≤ 1:=by unfold zhD; split <;> simp
  rw [← List.append_assoc] at htx
  have htl2:(txt ++ zhD k).length ≤ 3 * i + 1:=by rw [List.length_append]; omega
  generalize txt ++ zhD k=txt at htx htl2
  clear hlen t0 t1 t5 t6 t7 t8 t9 t10 hO hS htl hpl
  rintro o tm ⟨X,R,hS,hO,hlen,t0,t1,t5,t6,t7,t8,t10⟩
  subst hW
  refine zaa fun W hW => ?_
  refine zaG (fun o tm => ∃ X R,SlO 5 1 (txt ++ [c]).length (byA (txt ++ [c])) X R ∧ zaH R o ∧ tm.length=105 ∧ tm[0]? = some (.s s) ∧ tm[1]? = some (.row sp.length (byA sp)) ∧ tm[5]? = some X ∧ tm[6]? = some (.b ins') ∧ tm[7]? = some (.i .i64 (i:Int)) ∧ tm[8]? = some (.i .u8 (c.toNat:Int))∧ tm[10]? = some (.i .i64 (k:Int))) ?_ ?_
  ·simp only [sxZ,z6,z7,z8,j4,j5,j6,j7,j8,j9,x0,x3,x4,x5,x6,x7,reduceCtorEq,↓reduceIte,List.getElem?_set,hlen,t5,t8]
   refine zdj (A:=[]) (B:=[]) hS (by simpa using hO) ⟨rfl,by omega,by omega⟩ ?_
   intro X' R' o' hS' hO'
   simp only [sxZ,z6,z7,z8,j4,j5,j6,j7,j8,j9,x0,x3,x4,x5,x6,x7,reduceCtorEq,↓reduceIte,List.getElem?_set,hlen,zab,List.length_set,t0,t1,t5,t6,t7,t8,and_self,and_true,t10]
   exact ⟨X',R',by simpa only [List.length_append,List.length_cons,List.length_nil,Nat.zero_add] using (zc1 hS' (b:=[c]) rfl),by simpa using hO',rfl⟩
  clear hlen t0 t1 t5 t6 t7 t8 t10 hO hS
  rintro o tm ⟨X,R,hS,hO,hlen,t0,t1,t5,t6,t7,t8,t10⟩
  subst hW
  rw [show txt ++ c :: (zeM k ++ zaZ sp (s.drop (i + 1)) ins' (i + 1))=(txt ++ [c]) ++ (zeM k ++ zaZ sp (s.drop (i + 1)) ins' (i + 1)) by simp] at htx
  have htl3:(txt ++ [c]).length ≤ 3 * i + 2:=by rw [List.length_append,List.length_cons,List.length_nil]; omega
  generalize txt ++ [c]=txt at htx hS htl3
  by_cases r8:k / 8 % 2=1
  ·have e8:((k &&& 8:Nat):Int)=8:=by rw [hbit.2.2 r8]; rfl
   have hp1:zeM k=[whL[k / 16 % 4]?.getD 0]:=if_pos r8
   rw [hp1,← List.append_assoc] at htx
   simp only [sxZ,z6,z7,z8,j4,j5,j6,j7,j8,j9,x0,x3,x4,x5,x6,x7,reduceCtorEq,↓reduceIte,List.getElem?_set,hlen,t5,t10,b8,e8,f4,b5]
   refine ⟨⟨by omega,by omega⟩,?_⟩
   refine zdj (A:=[]) (B:=[]) hS (by simpa using hO) ⟨rfl,by omega,by omega⟩ ?_
   intro X' R' o' hS' hO'
   subst hV
   simp only [sxZ,z6,z7,z8,j4,j5,j6,j7,j8,j9,x0,x3,x4,x5,x6,x7,reduceCtorEq,↓reduceIte,List.getElem?_set,hlen,List.length_set,t0,t1,t5,t6,t7]
   exact ⟨⟨by omega,by omega⟩,s.length - (i + 1),by omega,i + 1,ins',txt ++ [whL[k / 16 % 4]?.getD 0],X',R',by omega,rfl,htx,he2,by rw [List.length_append,List.length_cons,List.length_nil]; omega,zc1 hS' rfl,by simpa using hO',rfl,rfl,rfl⟩
  ·have e8:¬ ((k &&& 8:Nat):Int)=8:=fun h => r8 (hbit.2.1 (by omega))
   have hp0:zeM k=[]:=if_neg r8
   rw [hp0,List.nil_append] at htx
   subst hV
   simp only [sxZ,z6,z7,z8,j4,j5,j6,j7,j8,j9,x0,x3,x4,x5,x6,x7,reduceCtorEq,↓reduceIte,List.getElem?_set,hlen,List.length_set,t0,t1,t5,t6,t7,t10,b8,e8]
   exact ⟨⟨by omega,by omega⟩,s.length - (i + 1),by omega,i + 1,ins',txt,X,R,by omega,rfl,htx,he2,by omega,hS,hO,rfl,rfl,rfl⟩
 have hn:i=s.length:=by omega
 rw [List.drop_of_length_le (by omega),zaZ,List.append_nil] at htx
 rw [htx] at hk
 simp only [sxZ,z6,z7,z8,j4,j5,j6,j7,j8,j9,x0,x3,x4,x5,x6,x7,reduceCtorEq,↓reduceIte,List.getElem?_set,hlen,t0,t7,hlt]
 subst hZ
 rcases hS with ⟨z1,z2,rfl,rfl⟩ | ⟨b,g,rfl,rfl⟩
 ·have hz:=List.eq_nil_of_length_eq_zero z1
  rw [hz] at hk
  simp only [sxZ,z6,z7,z8,j4,j5,j6,j7,j8,j9,x0,x3,x4,x5,x6,x7,reduceCtorEq,↓reduceIte,List.getElem?_set,hlen,t5]
  exact hk
 ·have eb:=hO.get (i:=b) (x:=.orow 5 1 g txt.length (byA txt)) (by simp)
  simp only [sxZ,z6,z7,z8,j4,j5,j6,j7,j8,j9,x0,x3,x4,x5,x6,x7,reduceCtorEq,↓reduceIte,List.getElem?_set,hlen,t5,eb]
  refine znB _ _ _ _ ?_
  simp only [sxZ,z6,z7,z8,j4,j5,j6,j7,j8,j9,x0,x3,x4,x5,x6,x7,reduceCtorEq,↓reduceIte,List.getElem?_set,hlen]
  exact hk
end
end
end Go.Proofs.YthmdohgkmdkeeaaGreatDoor
namespace Go.Proofs.YthmdohgkmdkeeaaGreatDoor
open Go.RowKit Sx
section
attribute [local irreducible] run
theorem zgC:∀ (l:List JV) (d n:Int),0 ≤ n → 0 < zd3 l d n → zd3 l d n ≤ 20000 → ∀ x ∈ l,0 < zb6 x d ∧ zb6 x d ≤ 20000
 | [],d,n,h0,h1,h2,x,hx => by cases hx
 | v :: l,d,n,h0,h1,h2,x,hx => by
  rw [zd3] at h1 h2
  have hb:=zgD v d
  by_cases c1:zb6 v d=0
  ·rw [if_pos c1] at h1; omega
  rw [if_neg c1] at h1 h2
  by_cases c2:20000 < n + zb6 v d
  ·rw [if_pos c2] at h2; omega
  rw [if_neg c2] at h1 h2
  rcases List.mem_cons.1 hx with rfl | hx
  ·omega
  ·exact zgC l d _ (by omega) h1 h2 x hx
theorem zgA:∀ {l:List JV},zeI l ↔ ∀ x ∈ l,JKp x
 | [] => by rw [zeI]; simp
 | v :: l => by rw [zeI,zgA (l:=l)]; simp
mutual
/-- a valid value -/
theorem rd_of:∀ (v:JV) (d:Nat),zdJ v=true → JKp v → 0 < zb6 v d → zb6 v d ≤ 20000 → RdJ v d
 | .mk k t ks its,d,hs,hk,h1,h2 => by
  obtain ⟨l1,l2,l3,l4⟩:=hk.lens
  have hi:=rdL_of its (d + 1)
  have hki:zeI its:=by rw [JKp] at hk; exact hk.2.2.2.2
  rw [zb6] at h1 h2
  rw [zdJ] at hs
  simp only [JV.text,JV.keys,JV.items] at l1 l2 l3 l4
  rw [RdJ]
  by_cases a1:k=1 ∨ k=3 ∨ k=2
  ·rw [if_pos a1] at hs
   simp only [Bool.and_eq_true,decide_eq_true_eq] at hs
   exact .inl ⟨by omega,hs.1,List.eq_nil_of_length_eq_zero hs.2.1,List.eq_nil_of_length_eq_zero hs.2.2⟩
  rw [if_neg a1] at hs
  by_cases a4:k=4
  ·rw [if_pos a4] at hs
   simp only [Bool.and_eq_true,decide_eq_true_eq] at hs
   exact .inr (.inl ⟨a4,Prod.ext hs.1 hs.2.1,List.eq_nil_of_length_eq_zero hs.2.2.1,List.eq_nil_of_length_eq_zero hs.2.2.2⟩)
  rw [if_neg a4] at hs
  by_cases a5:k=5
  ·rw [if_pos a5] at hs
   simp only [Bool.and_eq_true,decide_eq_true_eq] at hs
   exact .inr (.inr (.inl ⟨a5,⟨hs.1,by omega⟩,List.eq_nil_of_length_eq_zero hs.2.1,List.eq_nil_of_length_eq_zero hs.2.2⟩))
  rw [if_neg a5] at hs
  by_cases a6:k=6
  ·rw [if_pos a6] at hs
   simp only [Bool.and_eq_true,decide_eq_true_eq] at hs
   have hin:(if k=6 ∨ k=7 then (d:Int) + 1 else (d:Int))=(d:Int) + 1:=if_pos (.inl a6)
   rw [hin] at h1 h2
   by_cases c64:64 < (d:Int) + 1
   ·rw [if_pos c64] at h1; omega
   rw [if_neg c64] at h1 h2
   exact .inr (.inr (.inr (.inl ⟨a6,hs.1,List.eq_nil_of_length_eq_zero hs.2.1,by omega,hi hs.2.2 hki (fun x hx => zgC its _ 1 (by decide) h1 h2 x hx)⟩)))
  rw [if_neg a6] at hs
  by_cases a7:k=7
  ·rw [if_pos a7] at hs
   unfold zfw at hs
   simp only [Bool.and_eq_true,decide_eq_true_eq,List.all_eq_true] at hs
   have hin:(if k=6 ∨ k=7 then (d:Int) + 1 else (d:Int))=(d:Int) + 1:=if_pos (.inr a7)
   rw [hin] at h1 h2
   by_cases c64:64 < (d:Int) + 1
   ·rw [if_pos c64] at h1; omega
   rw [if_neg c64] at h1 h2
   exact .inr (.inr (.inr (.inr ⟨a7,hs.1,hs.2.1,hs.2.2.1.1,fun x hx => ⟨hs.2.2.1.2 x hx,by have:=l4 x hx; omega⟩,by omega,hi hs.2.2.2 hki (fun x hx => zgC its _ 1 (by decide) h1 h2 x hx)⟩)))
  rw [if_neg a7] at hs
  cases hs
theorem rdL_of:∀ (l:List JV) (d:Nat),zdg l=true → zeI l → (∀ x ∈ l,0 < zb6 x (d:Int) ∧ zb6 x (d:Int) ≤ 20000) → RdL l d
 | [],d,hs,hk,h => by rw [RdL]; trivial
 | v :: l,d,hs,hk,h => by
  rw [zdg,Bool.and_eq_true] at hs
  rw [zeI] at hk
  rw [RdL]
  have h0:=h v (by simp)
  exact ⟨rd_of v d hs.1 hk.1 h0.1 h0.2,rdL_of l d hs.2 hk.2 fun x hx => h x (by simp [hx])⟩
end
theorem rd_val {v:JV} (h:zjj v=true) (hk:JKp v):RdJ v 0:=by
 unfold zjj at h
 simp only [Bool.and_eq_true,decide_eq_true_eq] at h
 exact rd_of v 0 h.2 hk h.1.1 h.1.2
mutual
theorem zjF:∀ (v:JV) (d:Nat),RdJ v d → zdJ v=true
 | .mk k t ks its,d,h => by
  have hi:=zmB its (d + 1)
  rw [RdJ] at h
  rw [zdJ]
  rcases h with ⟨hk,rfl,rfl,rfl⟩ | ⟨rfl,hx,rfl,rfl⟩ | ⟨rfl,hx,rfl,rfl⟩ | ⟨rfl,rfl,rfl,hd2,hl⟩ | ⟨rfl,rfl,hlen,hnd,hv,hd2,hl⟩
  ·rw [if_pos (by omega)]; rfl
  ·rw [if_neg (by decide),if_pos rfl,hx]; simp
  ·rw [if_neg (by decide),if_neg (by decide),if_pos rfl,hx.1]; rfl
  ·rw [if_neg (by decide),if_neg (by decide),if_neg (by decide),if_pos rfl,hi hl]; rfl
  ·rw [if_neg (by decide),if_neg (by decide),if_neg (by decide),if_neg (by decide),if_pos rfl,hi hl]
   unfold zfw
   have:ks.all za2=true:=List.all_eq_true.2 fun x hx => (hv x hx).1
   rw [this,decide_eq_true hnd,decide_eq_true hlen]; rfl
theorem zmB:∀ (l:List JV) (d:Nat),RdL l d → zdg l=true
 | [],d,h => by rw [zdg]
 | v :: l,d,h => by rw [RdL] at h; rw [zdg,zjF v d h.1,zmB l d h.2]; rfl
end
mutual
theorem rd_wf:∀ (v:JV) (d:Nat),RdJ v d → WfW v
 | .mk k t ks its,d,h => by
  have hi:=rdL_wf its (d + 1)
  rw [RdJ] at h
  rw [WfW]
  rcases h with ⟨hk,rfl,rfl,rfl⟩ | ⟨rfl,hx,rfl,rfl⟩ | ⟨rfl,hx,rfl,rfl⟩ | ⟨rfl,rfl,rfl,hd2,hl⟩ | ⟨rfl,rfl,hlen,hnd,hv,hd2,hl⟩
  ·exact ⟨fun _ => rfl,by rw [zoX]; trivial⟩
  ·exact ⟨fun _ => rfl,by rw [zoX]; trivial⟩
  ·exact ⟨fun _ => rfl,by rw [zoX]; trivial⟩
  ·exact ⟨fun h => absurd h (by decide),hi hl⟩
  ·exact ⟨fun _ => hlen,hi hl⟩
theorem rdL_wf:∀ (l:List JV) (d:Nat),RdL l d → zoX l
 | [],d,h => by rw [zoX]; trivial
 | v :: l,d,h => by rw [RdL] at h; rw [zoX]; exact ⟨rd_wf v d h.1,rdL_wf l d h.2⟩
end
theorem ord_perm {ks:List (List UInt8)} {l:List JV} (hnd:ks.Nodup) (hlen:ks.length=l.length) (n:Nat):((zeg n ks).map fun key => (l[zb7 key ks]?).getD jvZ).Perm l:=by
 have e:(ks.map fun key => (l[zb7 key ks]?).getD jvZ)=l:=by
  apply List.ext_getElem (by rw [List.length_map,hlen])
  intro i h1 h2
  rw [List.getElem_map,zcw hnd,List.getElem?_eq_getElem h2]; rfl
 have:=(zbb n ks).map fun key => (l[zb7 key ks]?).getD jvZ
 rw [e] at this
 exact this
theorem zkW {a b:List JV} (h:a.Perm b):JV.sizes a=JV.sizes b:=by
 induction h with
 | nil => rfl
 | cons x h ih => rw [JV.sizes,JV.sizes,ih]
 | swap x y l => rw [JV.sizes,JV.sizes,JV.sizes,JV.sizes]; omega
 | trans h1 h2 i1 i2 => rw [i1,i2]
theorem zdZ {v:JV} {d:Nat} (h:RdJ v d):(v.items=[] ∧ v.keys=[] ∧ zbe v=v ∧ v.kind ≠ 6 ∧ v.kind ≠ 7) ∨ (v.kind=6 ∧ v.keys=[] ∧ zbe v=.mk 6 v.text [] (zcR v.items)) ∨
  (v.kind=7 ∧ v.keys.length=v.items.length ∧ v.keys.Nodup ∧ ∃ S its,zbe v=.mk 7 v.text S its ∧ S=zeg v.keys.length v.keys ∧ its=(S.map fun key => ((zcR v.items)[zb7 key v.keys]?).getD jvZ) ∧ S.Perm v.keys ∧ its.Perm (zcR v.items)):=by
 cases v with
 | mk k t ks its =>
  rw [RdJ] at h
  have z:∀ k:Int,k ≠ 6 → zbe (.mk k t [] [])=.mk k t [] []:=fun k hk => by
   rw [zbe,if_neg hk]; rfl
  rcases h with ⟨hk,rfl,rfl,rfl⟩ | ⟨rfl,hx,rfl,rfl⟩ | ⟨rfl,hx,rfl,rfl⟩ | ⟨rfl,rfl,rfl,hd2,hl⟩ | ⟨rfl,rfl,hlen,hnd,hv,hd2,hl⟩
  ·exact .inl ⟨rfl,rfl,z k (by omega),by show k ≠ 6; omega,by show k ≠ 7; omega⟩
  ·exact .inl ⟨rfl,rfl,z _ (by decide),by show (4:Int) ≠ 6; decide,by show (4:Int) ≠ 7; decide⟩
  ·exact .inl ⟨rfl,rfl,z _ (by decide),by show (5:Int) ≠ 6; decide,by show (5:Int) ≠ 7; decide⟩
  ·exact .inr (.inl ⟨rfl,rfl,by rw [zbe,if_pos rfl]; rfl⟩)
  ·refine .inr (.inr ⟨rfl,hlen,hnd,_,_,by rw [zbe,if_neg (by decide)]; rfl,rfl,rfl,zbb _ _,?_⟩)
   exact ord_perm hnd (by rw [zcK]; exact hlen) _
mutual
theorem ord_rd:∀ (v:JV) (d:Nat),RdJ v d → RdJ (zbe v) d
 | .mk k t ks its,d,h => by
  have hi:=zmU its (d + 1)
  have hc:=zdZ h
  have h0:=h
  rw [RdJ] at h
  rcases hc with ⟨_,_,e,_⟩ | ⟨k6,_,e⟩ | ⟨k7,hlen,hnd,S,its',e,_,_,hS,hI⟩
  ·rw [e]; exact h0
  ·simp only [JV.kind,JV.text,JV.items] at k6 e
   rw [e,RdJ]
   rcases h with ⟨hk,_⟩ | ⟨h,_⟩ | ⟨h,_⟩ | ⟨_,rfl,rfl,hd2,hl⟩ | ⟨h,_⟩
   ·omega
   ·omega
   ·omega
   ·exact .inr (.inr (.inr (.inl ⟨rfl,rfl,rfl,hd2,hi hl⟩)))
   ·omega
  ·simp only [JV.kind,JV.text,JV.items,JV.keys] at k7 e hlen hnd hS hI
   rw [e,RdJ]
   rcases h with ⟨hk,_⟩ | ⟨h,_⟩ | ⟨h,_⟩ | ⟨h,_⟩ | ⟨_,rfl,_,_,hv,hd2,hl⟩
   ·omega
   ·omega
   ·omega
   ·omega
   ·have hl2:=hi hl
    rw [ziC] at hl2
    exact .inr (.inr (.inr (.inr ⟨rfl,rfl,by rw [hS.length_eq,hI.length_eq,zcK]; exact hlen,hS.nodup_iff.2 hnd,fun x hx => hv x (hS.mem_iff.1 hx),hd2,ziC.2 fun x hx => hl2 x (hI.mem_iff.1 hx)⟩)))
theorem zmU:∀ (l:List JV) (d:Nat),RdL l d → RdL (zcR l) d
 | [],d,h => by rw [zcR,RdL]; trivial
 | v :: l,d,h => by rw [RdL] at h; rw [zcR,RdL]; exact ⟨ord_rd v d h.1,zmU l d h.2⟩
end
mutual
theorem zjO:∀ (v:JV) (d:Nat),RdJ v d → (zbe v).size=v.size
 | .mk k t ks its,d,h => by
  have hi:=zhH its (d + 1)
  have hc:=zdZ h
  rw [RdJ] at h
  have hl:RdL its (d + 1):=by
   rcases h with ⟨_,_,_,rfl⟩ | ⟨_,_,_,rfl⟩ | ⟨_,_,_,rfl⟩ | ⟨_,_,_,_,hl⟩ | ⟨_,_,_,_,_,_,hl⟩
   ·rw [RdL]; trivial
   ·rw [RdL]; trivial
   ·rw [RdL]; trivial
   ·exact hl
   ·exact hl
  have h1:=hi hl
  rcases hc with ⟨_,_,e,_⟩ | ⟨k6,_,e⟩ | ⟨k7,hlen,hnd,S,its',e,_,_,hS,hI⟩
  ·rw [e]
  ·rw [e,size_eq,size_eq]
   show JV.sizes (zcR its) + 1=_
   rw [h1]; rfl
  ·rw [e,size_eq,size_eq]
   show JV.sizes its' + 1=_
   rw [zkW hI]
   show JV.sizes (zcR its) + 1=_
   rw [h1]; rfl
theorem zhH:∀ (l:List JV) (d:Nat),RdL l d → JV.sizes (zcR l)=JV.sizes l
 | [],d,h => by rw [zcR]
 | v :: l,d,h => by rw [RdL] at h; rw [zcR,JV.sizes,JV.sizes,zjO v d h.1,zhH l d h.2]
end
mutual
theorem ord_kp:∀ (v:JV) (d:Nat),RdJ v d → JKp v → JKp (zbe v)
 | .mk k t ks its,d,h,hk => by
  have hi:=zmV its (d + 1)
  have hc:=zdZ h
  obtain ⟨l1,l2,l3,l4⟩:=hk.lens
  have hki:zeI its:=by rw [JKp] at hk; exact hk.2.2.2.2
  rw [RdJ] at h
  have hl:RdL its (d + 1):=by
   rcases h with ⟨_,_,_,rfl⟩ | ⟨_,_,_,rfl⟩ | ⟨_,_,_,rfl⟩ | ⟨_,_,_,_,hl⟩ | ⟨_,_,_,_,_,_,hl⟩
   ·rw [RdL]; trivial
   ·rw [RdL]; trivial
   ·rw [RdL]; trivial
   ·exact hl
   ·exact hl
  have h1:=hi hl hki
  simp only [JV.text,JV.keys,JV.items] at l1 l2 l3 l4 hc
  rcases hc with ⟨_,_,e,_⟩ | ⟨k6,_,e⟩ | ⟨k7,hlen,hnd,S,its',e,_,_,hS,hI⟩
  ·rw [e]; exact hk
  ·rw [e,JKp]
   exact ⟨by simp,by rw [zcK]; exact l2,l3,by simp,h1⟩
  ·rw [e,JKp]
   exact ⟨by rw [hS.length_eq]; exact l1,by rw [hI.length_eq,zcK]; exact l2,l3,fun x hx => l4 x (hS.mem_iff.1 hx),zgA.2 fun x hx => zgA.1 h1 x (hI.mem_iff.1 hx)⟩
theorem zmV:∀ (l:List JV) (d:Nat),RdL l d → zeI l → zeI (zcR l)
 | [],d,h,hk => by rw [zcR]; exact hk
 | v :: l,d,h,hk => by rw [RdL] at h; rw [zeI] at hk; rw [zcR,zeI]; exact ⟨ord_kp v d h.1 hk.1,zmV l d h.2 hk.2⟩
end
theorem znS:∀ (l:List JV) (w:JV) (ks:List (List UInt8)),(∀ (i:Nat) (h1:i < ks.length) (h2:i < l.length),(zfI w ks[i]).2=true ∧ ziR l[i] (zfI w ks[i]).1=true) → zhT ks l w=true
 | [],w,ks,_ => by rw [zhT]
 | v :: l,w,[],_ => by rw [zhT]
 | v :: l,w,k :: ks,hw => by
  have h0:=hw 0 (by simp) (by simp)
  simp only [List.getElem_cons_zero] at h0
  rw [zhT]
  simp only [h0]
  rw [znS l w ks fun i h1 h2 => by
   have:=hw (i + 1) (by simpa using h1) (by simpa using h2)
   simpa only [List.getElem_cons_succ] using this]
  rfl
mutual
/-- in order or not: equal -/
theorem ord_eq:∀ (v:JV) (d:Nat),RdJ v d → ziR (zbe v) v=true
 | .mk k t ks its,d,h => by
  have hi:=zmW its (d + 1)
  have hc:=zdZ h
  have hs:=zjF _ _ h
  rw [RdJ] at h
  have hl:RdL its (d + 1):=by
   rcases h with ⟨_,_,_,rfl⟩ | ⟨_,_,_,rfl⟩ | ⟨_,_,_,rfl⟩ | ⟨_,_,_,_,hl⟩ | ⟨_,_,_,_,_,_,hl⟩
   ·rw [RdL]; trivial
   ·rw [RdL]; trivial
   ·rw [RdL]; trivial
   ·exact hl
   ·exact hl
  have h1:=hi hl
  rcases hc with ⟨_,_,e,_⟩ | ⟨k6,_,e⟩ | ⟨k7,hlen,hnd,S,its',e,hS0,hI0,hS,hI⟩
  ·rw [e]; exact zfm _ hs
  ·simp only [JV.kind,JV.text,JV.items] at k6 e
   rw [e,zgB,k6]
   show (decide ((6:Int)=6) && _)=true
   rw [if_neg (by show ¬ ((6:Int)=1 ∨ (6:Int)=2 ∨ (6:Int)=3); decide),if_neg (by show ¬ ((6:Int)=4 ∨ (6:Int)=5); decide),if_pos (show (JV.mk 6 t [] (zcR its)).kind=6 from rfl)]
   exact h1.1
  ·simp only [JV.kind,JV.text,JV.items,JV.keys] at k7 e hlen hnd hS hI hS0 hI0
   rw [e,zgB,k7]
   show (decide ((7:Int)=7) && _)=true
   rw [if_neg (by show ¬ ((7:Int)=1 ∨ (7:Int)=2 ∨ (7:Int)=3); decide),if_neg (by show ¬ ((7:Int)=4 ∨ (7:Int)=5); decide),if_neg (by show ¬ (7:Int)=6; decide),if_pos (show (JV.mk 7 t S its').kind=7 from rfl)]
   show (true && (decide (S.length=ks.length) && zhT S its' (.mk 7 t ks its)))=true
   rw [decide_eq_true hS.length_eq,Bool.true_and,Bool.true_and]
   refine znS its' _ S fun i q1 q2 => ?_
   have hm:S[i] ∈ ks:=hS.mem_iff.1 (List.getElem_mem q1)
   obtain ⟨j,hj1,hj2⟩:=List.mem_iff_getElem.1 hm
   have hg:=ziW (v:=.mk 7 t ks its) rfl hlen hnd hj1
   have e2:its'[i]=zbe (its[j]'(by omega)):=by
    have:its'[i]? = some (zbe (its[j]'(by omega))):=by
     rw [hI0,List.getElem?_map,List.getElem?_eq_getElem q1,← hj2]
     show some ((zcR its)[zb7 ks[j] ks]?.getD jvZ)=_
     rw [zcw hnd hj1,zeT (by omega)]; rfl
    rw [List.getElem?_eq_getElem q2] at this
    exact Option.some.inj this
   rw [e2,← hj2]
   have hg:zfI (.mk 7 t ks its) ks[j]=(its[j]'(by omega),true):=hg
   rw [hg]
   exact ⟨rfl,h1.2 j (by omega)⟩
theorem zmW:∀ (l:List JV) (d:Nat),RdL l d → zgX (zcR l) l=true ∧ ∀ (i:Nat) (h:i < l.length),ziR (zbe l[i]) l[i]=true
 | [],d,h => ⟨by rw [zcR,zgX]; rfl,fun i h => by simp at h⟩
 | v :: l,d,h => by
  rw [RdL] at h
  have h1:=ord_eq v d h.1
  have h2:=zmW l d h.2
  refine ⟨by rw [zcR,zgX,h1,h2.1]; rfl,fun i hi => ?_⟩
  cases i with
  | zero => exact h1
  | succ i => exact h2.2 i (by simpa using hi)
end
end
end Go.Proofs.YthmdohgkmdkeeaaGreatDoor
namespace Go.Proofs.YthmdohgkmdkeeaaGreatDoor
open Nat renaming reduceAdd → z6, reduceSub → z7, reduceLeDiff → z8, reduceLT → j4, reduceMul → j5, reduceEqDiff → j6
open Int renaming reduceToNat → j7, reduceAdd → j8, reduceSub → j9, reduceMul → x0, reduceNeg → x3, reduceLT → x4, reduceLE → x5, reduceEq → x6, reduceNe → x7
open Go.RowKit Sx
section
attribute [local irreducible] run
def wrE (v:JV):List UInt8 × Int:=if zjj v=true then (wrJ (zbe v),0) else ([],8)
theorem zgv {v:JV} (h:zjj v=true) (hk:JKp v):RdJ v 0 ∧ RdJ (zbe v) 0 ∧ zdJ v=true ∧ zdJ (zbe v)=true ∧ JKp (zbe v) ∧ WfW (zbe v) ∧ (zbe v).size=v.size ∧ ziR (zbe v) v=true:=by
 have h0:=rd_val h hk
 have h1:=ord_rd v 0 h0
 exact ⟨h0,h1,zjF _ _ h0,zjF _ _ h1,ord_kp v 0 h0 hk,rd_wf _ _ h1,zjO v 0 h0,ord_eq v 0 h0⟩
theorem zin {v:JV} (h:zjj v=true) (hk:JKp v):(wrJ (zbe v)).length + 1804 ≤ 4000 * v.size:=by
 obtain ⟨_,_,_,_,h5,_,h7,_⟩:=zgv h hk
 have:=zio (zbe v) h5
 rw [h7] at this
 exact this
section
variable [Tabs Tryz.prog]
theorem zlx (v:JV) (hv:JKp v) (ho:JOk v) (hs:v.size ≤ 250) {objs:List OB} {K:List OB → AV → Prop} (hk:K objs (.tup [.s (wrE v).1,.i .i64 (wrE v).2])):zad Tryz.prog 32 [.agg (zaj v)] objs K:=by
 refine zaX is_ref15_Write (by simp only [zan,AV.plain,zaR,Bool.and_self]) fun C _ => ?_
 rw [c_ref15_Write]
 have hc:=fun {objs:List OB} {K:List OB → AV → Prop} (h) => zlE v hv (objs:=objs) (K:=K) h
 have hl:=fun (hsv:zdJ v=true) {objs:List OB} {K:List OB → AV → Prop} (h) => long_k (v.size + 1) v (Nat.lt_succ_self _) hv (by omega) hsv (objs:=objs) (K:=K) h
 have hr:=fun (hsv:zdJ v=true) {objs:List OB} {K:List OB → AV → Prop} (h) => order_k (v.size + 1) v (Nat.lt_succ_self _) hsv ho hv.bd (objs:=objs) (K:=K) h
 have hw:=fun (h5:JKp (zbe v)) (h6:WfW (zbe v)) (h7:(zbe v).size=v.size) {objs:List OB} {K:List OB → AV → Prop} (h) => write_k ((zbe v).size + 1) (zbe v) (Nat.lt_succ_self _) (by omega) h5 h6 (objs:=objs) (K:=K) h
 have hall:=fun (h:zjj v=true) => zgv h hv
 have hlen:=fun (h:zjj v=true) => zin h hv
 unfold wrE at hk
 generalize zjj v=b at hc hk hall hlen
 generalize wrJ (zbe v)=T at hk hw hlen
 obtain ⟨q0,q1,q2,q3,hq⟩:∃ q0 q1 q2 q3,zaj v=[q0,q1,q2,q3]:=⟨_,_,_,_,zal v⟩
 obtain ⟨p0,p1,p2,p3,hp⟩:∃ q0 q1 q2 q3,zaj (zbe v)=[q0,q1,q2,q3]:=⟨_,_,_,_,zal (zbe v)⟩
 rw [hq] at hc hl hr ⊢
 rw [hp] at hr hw
 refine zaa fun Z hZ => ?_
 simp only [sxZ,z6,z7,z8,j4,j5,j6,j7,j8,j9,x0,x3,x4,x5,x6,x7,reduceCtorEq,↓reduceIte]
 subst hZ
 refine zaa fun Z hZ => ?_
 simp only [sxZ,z6,z7,z8,j4,j5,j6,j7,j8,j9,x0,x3,x4,x5,x6,x7,reduceCtorEq,↓reduceIte]
 refine zam (hc ?_)
 cases b with
 | false =>
  simp only [sxZ,z6,z7,z8,j4,j5,j6,j7,j8,j9,x0,x3,x4,x5,x6,x7,reduceCtorEq,↓reduceIte]
  exact hk
 | true =>
  obtain ⟨h0,h1,h2,h3,h5,h6,h7,h8⟩:=hall rfl
  have hlen:=hlen rfl
  rw [if_pos rfl] at hk
  simp only [sxZ,z6,z7,z8,j4,j5,j6,j7,j8,j9,x0,x3,x4,x5,x6,x7,reduceCtorEq,↓reduceIte]
  subst hZ
  refine zaa fun Z hZ => ?_
  simp only [sxZ,z6,z7,z8,j4,j5,j6,j7,j8,j9,x0,x3,x4,x5,x6,x7,reduceCtorEq,↓reduceIte]
  refine zam (hl h2 ?_)
  simp only [sxZ,z6,z7,z8,j4,j5,j6,j7,j8,j9,x0,x3,x4,x5,x6,x7,reduceCtorEq,↓reduceIte]
  subst hZ
  refine zaa fun Z hZ => ?_
  simp only [sxZ,z6,z7,z8,j4,j5,j6,j7,j8,j9,x0,x3,x4,x5,x6,x7,reduceCtorEq,↓reduceIte]
  refine zam (hr h2 ?_)
  simp only [sxZ,z6,z7,z8,j4,j5,j6,j7,j8,j9,x0,x3,x4,x5,x6,x7,reduceCtorEq,↓reduceIte]
  refine zam (hw h5 h6 h7 ?_)
  simp only [sxZ,z6,z7,z8,j4,j5,j6,j7,j8,j9,x0,x3,x4,x5,x6,x7,reduceCtorEq,↓reduceIte]
  subst hZ
  refine zaa fun Z hZ => ?_
  have c9:¬ (1048576:Int) < T.length:=by omega
  simp only [sxZ,z6,z7,z8,j4,j5,j6,j7,j8,j9,x0,x3,x4,x5,x6,x7,reduceCtorEq,↓reduceIte,c9]
  subst hZ
  simp only [sxZ,z6,z7,z8,j4,j5,j6,j7,j8,j9,x0,x3,x4,x5,x6,x7,reduceCtorEq,↓reduceIte]
  exact hk
theorem ziP (v:JV) (hv:JKp v) (ho:JOk v) (hs:v.size ≤ 250) {objs:List OB} {K:List OB → AV → Prop} (hk:K objs (.tup [.s (wrE v).1,.i .i64 (wrE v).2])):zad Tryz.prog 18 [.agg (zaj v)] objs K:=by
 refine zaX is_json_Write (by simp only [zan,AV.plain,zaR,Bool.and_self]) fun C _ => ?_
 rw [c_json_Write]
 have hc:=fun {objs:List OB} {K:List OB → AV → Prop} (h) => zlx v hv ho hs (objs:=objs) (K:=K) h
 generalize wrE v=b at hc hk
 obtain ⟨q0,q1,q2,q3,hq⟩:∃ q0 q1 q2 q3,zaj v=[q0,q1,q2,q3]:=⟨_,_,_,_,zal v⟩
 rw [hq] at hc ⊢
 refine zaa fun Z hZ => ?_
 simp only [sxZ,z6,z7,z8,j4,j5,j6,j7,j8,j9,x0,x3,x4,x5,x6,x7,reduceCtorEq,↓reduceIte]
 subst hZ
 refine zaa fun Z hZ => ?_
 simp only [sxZ,z6,z7,z8,j4,j5,j6,j7,j8,j9,x0,x3,x4,x5,x6,x7,reduceCtorEq,↓reduceIte]
 refine zam (hc ?_)
 simp only [sxZ,z6,z7,z8,j4,j5,j6,j7,j8,j9,x0,x3,x4,x5,x6,x7,reduceCtorEq,↓reduceIte]
 subst hZ
 simp only [sxZ,z6,z7,z8,j4,j5,j6,j7,j8,j9,x0,x3,x4,x5,x6,x7,reduceCtorEq,↓reduceIte]
 exact hk
end
end
end Go.Proofs.YthmdohgkmdkeeaaGreatDoor
namespace Go.Proofs.YthmdohgkmdkeeaaGreatDoor
open Go.RowKit Sx
section
attribute [local irreducible] run
section
variable [Tabs Tryz.prog] [Utf Tryz.prog] {p:Nat} {s:List UInt8}
end
end
end Go.Proofs.YthmdohgkmdkeeaaGreatDoor
namespace Go.Proofs.YthmdohgkmdkeeaaGreatDoor
open Go.RowKit Sx
section
attribute [local irreducible] run
theorem js_ex1:zbs [123,34,97,34,58,91,49,44,50,46,53,48,93,44,34,98,34,58,110,117,108,108,125]=(.mk 7 [] [[97],[98]] [.mk 6 [] [] [.mk 4 [49] [] [],.mk 4 [50,53,101,45,49] [] []],.mk 1 [] [] []],23,0):=by kernel_rfl
theorem js_ex2:zbs [123,34,97,34,58,49,44,34,97,34,58,50,125]=(jvZ,7,143):=by kernel_rfl
end
end Go.Proofs.YthmdohgkmdkeeaaGreatDoor
namespace Go.Proofs.YthmdohgkmdkeeaaGreatDoor
open Sx
theorem sl_wf8 {c:Int} (h:(Lit.int .u8 c).wf=true):∃ u:UInt8,c=(u.toNat:Int):=by
 have h':0 ≤ c ∧ c ≤ 255:=by simpa [Lit.wf,IntKind.min,IntKind.max,IntKind.signed,IntKind.bits] using h
 exact ⟨UInt8.ofNat c.toNat,by rw [UInt8.toNat_ofNat']; omega⟩
theorem sl_u8:∀ {gs:List (List AV)},(∀ g ∈ gs,ShT (.i .u8) g) → ∃ l:List UInt8,gs.flatten=byA l ∧ gs.length=l.length
 | [],_ => ⟨[],rfl,rfl⟩
 | g :: gs,h => by
  obtain ⟨l,h1,h2⟩:=sl_u8 (fun x hx => h x (List.mem_cons_of_mem _ hx))
  obtain ⟨n,rfl,hw⟩:=h g (List.mem_cons_self ..)
  obtain ⟨c,rfl⟩:=sl_wf8 hw
  exact ⟨c :: l,by rw [List.flatten_cons,h1]; rfl,by rw [List.length_cons,List.length_cons,h2]⟩
end Go.Proofs.YthmdohgkmdkeeaaGreatDoor
namespace Go.Proofs.YthmdohgkmdkeeaaGreatDoor
open Nat renaming reduceAdd → z6, reduceSub → z7, reduceLeDiff → z8, reduceLT → j4, reduceMul → j5, reduceEqDiff → j6
open Int renaming reduceToNat → j7, reduceAdd → j8, reduceSub → j9, reduceMul → x0, reduceNeg → x3, reduceLT → x4, reduceLE → x5, reduceEq → x6, reduceNe → x7
open Go.RowKit Sx
section
attribute [local irreducible] run
section
variable [Tabs Tryz.prog] [Pow Tryz.prog] [Utf Tryz.prog] {objs:List OB} {K:List OB → AV → Prop}
theorem saneJs_k (hk:K objs (.b true)):zad Tryz.prog 8 [] objs K:=by
 refine zaX is_law14_sane rfl fun C _ => ?_
 rw [c_law14_sane]
 refine zaa fun Y hY => ?_
 simp only [sxZ,z6,z7,z8,j4,j5,j6,j7,j8,j9,x0,x3,x4,x5,x6,x7,reduceCtorEq,↓reduceIte]
 subst hY
 refine zaa fun Y hY => ?_
 simp only [sxZ,z6,z7,z8,j4,j5,j6,j7,j8,j9,x0,x3,x4,x5,x6,x7,reduceCtorEq,↓reduceIte]
 refine zam (zeU _ (by decide) ?_)
 rw [js_ex1]
 simp only [zdY,zaj,zac,List.map_cons,List.map_nil,List.length_cons,List.length_nil,List.cons_append,List.nil_append,sxZ,z6,z7,z8,j4,j5,j6,j7,j8,j9,x0,x3,x4,x5,x6,x7,reduceCtorEq,↓reduceIte]
 subst hY
 refine zaa fun Y hY => ?_
 simp only [sxZ,z6,z7,z8,j4,j5,j6,j7,j8,j9,x0,x3,x4,x5,x6,x7,reduceCtorEq,↓reduceIte]
 refine zam (zeU _ (by decide) ?_)
 rw [js_ex2]
 simp only [zdY,jvZ,zaj,zac,List.map_cons,List.map_nil,List.length_cons,List.length_nil,List.cons_append,List.nil_append,sxZ,z6,z7,z8,j4,j5,j6,j7,j8,j9,x0,x3,x4,x5,x6,x7,reduceCtorEq,↓reduceIte]
 subst hY
 simp only [sxZ,z6,z7,z8,j4,j5,j6,j7,j8,j9,x0,x3,x4,x5,x6,x7,reduceCtorEq,↓reduceIte,Int.cast_ofNat_Int,decide_true]
 exact hk
end
end
end Go.Proofs.YthmdohgkmdkeeaaGreatDoor
namespace Go.Proofs.YthmdohgkmdkeeaaGreatDoor
open Go.RowKit Sx
section
attribute [local irreducible] run
section
variable [Tabs Tryz.prog] [Utf Tryz.prog] {objs:List OB} {K:List OB → AV → Prop}
end
section
variable [Tabs Tryz.prog] [Pow Tryz.prog] [Utf Tryz.prog]
end
end
end Go.Proofs.YthmdohgkmdkeeaaGreatDoor
namespace Go.Proofs.YthmdohgkmdkeeaaGreatDoor
open Go.RowKit Sx
section
attribute [local irreducible] run
section
variable [Tabs Tryz.prog]
end
end
end Go.Proofs.YthmdohgkmdkeeaaGreatDoor
namespace Go.Proofs.YthmdohgkmdkeeaaGreatDoor
open Nat renaming reduceAdd → z6, reduceSub → z7, reduceLeDiff → z8, reduceLT → j4, reduceMul → j5, reduceEqDiff → j6
open Int renaming reduceToNat → j7, reduceAdd → j8, reduceSub → j9, reduceMul → x0, reduceNeg → x3, reduceLT → x4, reduceLE → x5, reduceEq → x6, reduceNe → x7
open Go.RowKit Sx
section
attribute [local irreducible] run
theorem eq_isFn:IsFn Tryz.prog 16:=⟨_,Tryz.func16,by kernel_rfl,of_decide_eq_true (by kernel_rfl)⟩
section
variable [Tabs Tryz.prog]
theorem zi2 (l m:List JV) (hl:l.length ≤ 140737488351232) (ih:∀ (i:Nat) (h1:i < l.length) (h2:i < m.length) {objs:List OB} {K:List OB → AV → Prop},K objs (.b (ziR l[i] m[i])) → zad Tryz.prog 16 [.agg (zaj l[i]),.agg (zaj m[i])] objs K)
  {objs:List OB} {K:List OB → AV → Prop} (hk:K objs (.b (zgX l m))):zad Tryz.prog 30 [.row l.length (zac l),.row m.length (zac m),.fn 16 [] []] objs K:=by
 refine zaX is_slices_EqualFunc__api_Value___api_Value_api_Value_api_Value (by simp only [zan,AV.plain,zcv,Bool.and_self]) fun C _ => ?_
 rw [c_slices_EqualFunc__api_Value___api_Value_api_Value_api_Value]
 refine zaa fun Z hZ => ?_
 simp only [sxZ,z6,z7,z8,j4,j5,j6,j7,j8,j9,x0,x3,x4,x5,x6,x7,reduceCtorEq,↓reduceIte]
 subst hZ
 refine zaa fun Z hZ => ?_
 by_cases c1:l.length=m.length
 rotate_left
 ·have c1':¬ (l.length:Int)=m.length:=by omega
  rw [zkg c1] at hk
  simp only [sxZ,z6,z7,z8,j4,j5,j6,j7,j8,j9,x0,x3,x4,x5,x6,x7,reduceCtorEq,↓reduceIte,c1',decide_false,Bool.not_false]
  exact hk
 have c1':(l.length:Int)=m.length:=by omega
 simp only [sxZ,z6,z7,z8,j4,j5,j6,j7,j8,j9,x0,x3,x4,x5,x6,x7,reduceCtorEq,↓reduceIte,c1',decide_true,Bool.not_true]
 subst hZ
 refine zaa fun Z hZ => ?_
 refine zaa fun W hW => ?_
 simp only [sxZ,z6,z7,z8,j4,j5,j6,j7,j8,j9,x0,x3,x4,x5,x6,x7,reduceCtorEq,↓reduceIte]
 subst hW
 rw [zaK]
 refine zaE (fun n o tm => ∃ i:Nat,i ≤ l.length ∧ n=l.length - i ∧ zgX l m=zgX (l.drop i) (m.drop i) ∧ tm.length=32 ∧ tm[1]? = some (.row m.length (zac m)) ∧ tm[2]? = some (.fn 16 [] []) ∧ tm[15]? = some (.row l.length (zac l)) ∧ tm[16]? = some (.i .i64 (m.length:Int)) ∧ tm[17]? = some (.i .i64 (i:Int))) l.length ⟨0,Nat.zero_le _,rfl,rfl,rfl,rfl,rfl,rfl,by simp only [c1'] <;> rfl,rfl⟩ ?_
 rintro n o tm ⟨i,hi,rfl,hc,hlen,t1,t2,t15,t16,t17⟩
 refine zaa fun W hW => ?_
 by_cases hlt:(i:Int) < (m.length:Int)
 ·have h1:i < l.length:=by omega
  have h2:i < m.length:=by omega
  have jv:=zd4 h1
  have jw:=zd4 h2
  have jvl:=zax l
  have jwl:=zax m
  have hcall:=fun {objs:List OB} {K:List OB → AV → Prop} (h) => ih i h1 h2 (objs:=objs) (K:=K) h
  rw [zcM h1,zcM h2,zgX] at hc
  generalize ziR l[i] m[i]=e at hcall hc
  obtain ⟨q0,q1,q2,q3,hq⟩:∃ q0 q1 q2 q3,zaj l[i]=[q0,q1,q2,q3]:=⟨_,_,_,_,zal _⟩
  obtain ⟨p0,p1,p2,p3,hp⟩:∃ p0 p1 p2 p3,zaj m[i]=[p0,p1,p2,p3]:=⟨_,_,_,_,zal _⟩
  rw [hq] at jv hcall
  rw [hp] at jw hcall
  simp only [sxZ,z6,z7,z8,j4,j5,j6,j7,j8,j9,x0,x3,x4,x5,x6,x7,reduceCtorEq,↓reduceIte,List.getElem?_set,hlen,t15,t16,t17,hlt]
  subst hW
  refine zaa fun W hW => ?_
  simp only [sxZ,z6,z7,z8,j4,j5,j6,j7,j8,j9,x0,x3,x4,x5,x6,x7,reduceCtorEq,↓reduceIte,List.getElem?_set,hlen]
  subst hW
  refine zaa fun V hV => ?_
  rw [zaK]
  refine zaa fun W hW => ?_
  simp only [sxZ,z6,z7,z8,j4,j5,j6,j7,j8,j9,x0,x3,x4,x5,x6,x7,reduceCtorEq,↓reduceIte,List.getElem?_set,hlen,t15,t17,jv]
  refine ⟨⟨by omega,by omega,by omega⟩,by omega,?_⟩
  simp only [sxZ,z6,z7,z8,j4,j5,j6,j7,j8,j9,x0,x3,x4,x5,x6,x7,reduceCtorEq,↓reduceIte,List.getElem?_set,hlen,gn1,sn1]
  have hg0:(o ++ [OB.box 26 [q0,q1,q2,q3]])[o.length]? = some (OB.box 26 [q0,q1,q2,q3]):=gn1 _ _
  have hlt0:=(List.getElem?_eq_some_iff.1 hg0).1
  generalize o.length=qa at hg0 hlt0 ⊢
  generalize o ++ [OB.box 26 [q0,q1,q2,q3]]=o1 at hg0 hlt0 ⊢
  subst hW
  refine zaa fun W hW => ?_
  simp only [sxZ,z6,z7,z8,j4,j5,j6,j7,j8,j9,x0,x3,x4,x5,x6,x7,reduceCtorEq,↓reduceIte,List.getElem?_set,hlen,t1,jw]
  refine ⟨⟨by omega,by omega,by omega⟩,by omega,?_⟩
  simp only [sxZ,z6,z7,z8,j4,j5,j6,j7,j8,j9,x0,x3,x4,x5,x6,x7,reduceCtorEq,↓reduceIte,List.getElem?_set,hlen,gn1,sn1]
  have hg1:(o1 ++ [OB.box 26 [p0,p1,p2,p3]])[o1.length]? = some (OB.box 26 [p0,p1,p2,p3]):=gn1 _ _
  have hg2:(o1 ++ [OB.box 26 [p0,p1,p2,p3]])[qa]? = some (OB.box 26 [q0,q1,q2,q3]):=by rw [List.getElem?_append_left hlt0]; exact hg0
  generalize o1 ++ [OB.box 26 [p0,p1,p2,p3]]=o2 at hg1 hg2 ⊢
  subst hW
  refine zaa fun W hW => ?_
  simp only [sxZ,z6,z7,z8,j4,j5,j6,j7,j8,j9,x0,x3,x4,x5,x6,x7,reduceCtorEq,↓reduceIte,List.getElem?_set,hlen,t2,hg1,hg2]
  refine znh eq_isFn (hcall ?_)
  cases e with
  | false =>
   rw [Bool.false_and] at hc
   simp only [sxZ,z6,z7,z8,j4,j5,j6,j7,j8,j9,x0,x3,x4,x5,x6,x7,reduceCtorEq,↓reduceIte,List.getElem?_set,hlen,Bool.not_false]
   subst hW
   simp only [sxZ,z6,z7,z8,j4,j5,j6,j7,j8,j9,x0,x3,x4,x5,x6,x7,reduceCtorEq,↓reduceIte,List.getElem?_set,hlen]
   rw [hc] at hk
   exact hk
  | true =>
   rw [Bool.true_and] at hc
   simp only [sxZ,z6,z7,z8,j4,j5,j6,j7,j8,j9,x0,x3,x4,x5,x6,x7,reduceCtorEq,↓reduceIte,List.getElem?_set,hlen,Bool.not_true]
   subst hW
   simp only [sxZ,z6,z7,z8,j4,j5,j6,j7,j8,j9,x0,x3,x4,x5,x6,x7,reduceCtorEq,↓reduceIte,List.getElem?_set,hlen]
   subst hV
   simp only [sxZ,z6,z7,z8,j4,j5,j6,j7,j8,j9,x0,x3,x4,x5,x6,x7,reduceCtorEq,↓reduceIte,List.getElem?_set,hlen,t1,t2,t15,t16,t17]
   exact ⟨by omega,l.length - (i + 1),by omega,i + 1,by omega,rfl,hc,rfl⟩
 simp only [sxZ,z6,z7,z8,j4,j5,j6,j7,j8,j9,x0,x3,x4,x5,x6,x7,reduceCtorEq,↓reduceIte,List.getElem?_set,hlen,t15,t16,t17,hlt]
 subst hW
 subst hZ
 simp only [sxZ,z6,z7,z8,j4,j5,j6,j7,j8,j9,x0,x3,x4,x5,x6,x7,reduceCtorEq,↓reduceIte,List.getElem?_set,hlen]
 rw [hc,List.drop_eq_nil_of_le (by omega),List.drop_eq_nil_of_le (by omega),zgX] at hk
 exact hk
theorem zfN (v w:JV) (h7:v.kind=7) (k7:w.kind=7) (hsv:zdJ v=true) (hsw:zdJ w=true) (hv:JLn v) (hw:JLn w) (ih:∀ (x y:JV),x.size < v.size → zdJ x=true → zdJ y=true → JLn x → JLn y → ∀ {objs:List OB} {K:List OB → AV → Prop},K objs (.b (ziR x y)) → zad Tryz.prog 16 [.agg (zaj x),.agg (zaj y)] objs K)
  {objs:List OB} {K:List OB → AV → Prop} (hk:K objs (.b (decide (v.keys.length=w.keys.length) && zhT v.keys v.items w))):zad Tryz.prog 31 [.agg (zaj v),.agg (zaj w)] objs K:=by
 obtain ⟨l1,l2⟩:=hv.lens
 obtain ⟨l3,l4⟩:=hw.lens
 obtain ⟨hlv,hnv,hsi⟩:v.keys.length=v.items.length ∧ v.keys.Nodup ∧ zdg v.items=true:=by
  rcases zb9 hsv with ⟨h0,_⟩ | ⟨h0,_⟩ | ⟨_,h⟩
  ·omega
  ·omega
  ·exact h
 obtain ⟨hlw,hnw,hti⟩:w.keys.length=w.items.length ∧ w.keys.Nodup ∧ zdg w.items=true:=by
  rcases zb9 hsw with ⟨h0,_⟩ | ⟨h0,_⟩ | ⟨_,h⟩
  ·omega
  ·omega
  ·exact h
 refine zaX is_jsondoc_equalObjects (by simp only [zan,AV.plain,zaR,Bool.and_self]) fun C _ => ?_
 rw [c_jsondoc_equalObjects]
 have hjv:=zal v
 have hjw:=zal w
 have pv:=fun {objs:List OB} {K:List OB → AV → Prop} {L:List (Nat × OB)} (h1) (h2) => zjL v hv hlv (objs:=objs) (K:=K) (L:=L) h1 h2
 have pw:=fun {objs:List OB} {K:List OB → AV → Prop} {L:List (Nat × OB)} (h1) (h2) => zjL w hw hlw (objs:=objs) (K:=K) (L:=L) h1 h2
 rw [hjv] at pv
 rw [hjw] at pw
 refine zaa fun Z hZ => ?_
 simp only [sxZ,z6,z7,z8,j4,j5,j6,j7,j8,j9,x0,x3,x4,x5,x6,x7,reduceCtorEq,↓reduceIte]
 rw [hjv,hjw]
 have hO:zaH [(0,OB.box 26 [.i .i64 v.kind,.s v.text,.row v.keys.length (v.keys.map .s),.row v.items.length (zac v.items)]),(1,OB.box 26 [.i .i64 w.kind,.s w.text,.row w.keys.length (w.keys.map .s),.row w.items.length (zac w.items)])] [OB.box 26 [.i .i64 v.kind,.s v.text,.row v.keys.length (v.keys.map .s),.row v.items.length (zac v.items)],OB.box 26 [.i .i64 w.kind,.s w.text,.row w.keys.length (w.keys.map .s),.row w.items.length (zac w.items)]]:=⟨by simp,fun x hx => by
  simp only [List.mem_cons,List.not_mem_nil,or_false] at hx
  rcases hx with rfl | rfl <;> rfl⟩
 generalize [OB.box 26 [.i .i64 v.kind,.s v.text,.row v.keys.length (v.keys.map .s),.row v.items.length (zac v.items)],OB.box 26 [.i .i64 w.kind,.s w.text,.row w.keys.length (w.keys.map .s),.row w.items.length (zac w.items)]]=o at hO ⊢
 have e0:=hO.get (i:=0) (x:=OB.box 26 [.i .i64 v.kind,.s v.text,.row v.keys.length (v.keys.map .s),.row v.items.length (zac v.items)]) (by simp)
 have e1:=hO.get (i:=1) (x:=OB.box 26 [.i .i64 w.kind,.s w.text,.row w.keys.length (w.keys.map .s),.row w.items.length (zac w.items)]) (by simp)
 subst hZ
 refine zaa fun Z hZ => ?_
 by_cases c4:v.keys.length=w.keys.length
 rotate_left
 ·have c4':¬ (v.keys.length:Int)=w.keys.length:=by omega
  rw [decide_eq_false c4,Bool.false_and] at hk
  simp only [sxZ,z6,z7,z8,j4,j5,j6,j7,j8,j9,x0,x3,x4,x5,x6,x7,reduceCtorEq,↓reduceIte,e0,e1,c4',decide_false,Bool.not_false]
  exact hk
 rw [decide_eq_true c4,Bool.true_and] at hk
 have c4':(v.keys.length:Int)=w.keys.length:=by omega
 simp only [sxZ,z6,z7,z8,j4,j5,j6,j7,j8,j9,x0,x3,x4,x5,x6,x7,reduceCtorEq,↓reduceIte,e0,e1,c4',decide_true,Bool.not_true]
 subst hZ
 refine zbI (fun tm => tm.length=65 ∧ tm[2]? = some (.p 0 0) ∧ tm[3]? = some (.p 1 0)) ?_ ?_
 ·exact ⟨rfl,rfl,rfl⟩
 rintro tm ⟨hlen,t2,t3⟩
 refine zaa fun Z hZ => ?_
 simp only [sxZ,z6,z7,z8,j4,j5,j6,j7,j8,j9,x0,x3,x4,x5,x6,x7,reduceCtorEq,↓reduceIte,List.getElem?_set,hlen,t2,t3,e0,e1]
 refine zam (pv hO fun o1 b1 es1 hes1 hO1 => ?_)
 have e0':=hO1.get (i:=0) (x:=OB.box 26 [.i .i64 v.kind,.s v.text,.row v.keys.length (v.keys.map .s),.row v.items.length (zac v.items)]) (by simp)
 have e1':=hO1.get (i:=1) (x:=OB.box 26 [.i .i64 w.kind,.s w.text,.row w.keys.length (w.keys.map .s),.row w.items.length (zac w.items)]) (by simp)
 simp only [sxZ,z6,z7,z8,j4,j5,j6,j7,j8,j9,x0,x3,x4,x5,x6,x7,reduceCtorEq,↓reduceIte,List.getElem?_set,hlen,t2,t3,e0',e1']
 refine zam (pw hO1 fun o2 b2 es2 hes2 hO2 => ?_)
 have f0:=hO2.get (i:=0) (x:=OB.box 26 [.i .i64 v.kind,.s v.text,.row v.keys.length (v.keys.map .s),.row v.items.length (zac v.items)]) (by simp)
 have f1:=hO2.get (i:=1) (x:=OB.box 26 [.i .i64 w.kind,.s w.text,.row w.keys.length (w.keys.map .s),.row w.items.length (zac w.items)]) (by simp)
 have fb:=hO2.get (i:=b1) (x:=.mp es1) (by simp)
 have fc:=hO2.get (i:=b2) (x:=.mp es2) (by simp)
 simp only [sxZ,z6,z7,z8,j4,j5,j6,j7,j8,j9,x0,x3,x4,x5,x6,x7,reduceCtorEq,↓reduceIte,List.getElem?_set,hlen,t2,t3,f0,f1]
 clear hO hO1 e0 e1 e0' e1'
 refine zbI (fun tm => tm.length=65 ∧ tm[2]? = some (.p 0 0) ∧ tm[3]? = some (.p 1 0) ∧ tm[5]? = some (.m b1) ∧ tm[6]? = some (.m b2)) ?_ ?_
 ·simp only [sxZ,z6,z7,z8,j4,j5,j6,j7,j8,j9,x0,x3,x4,x5,x6,x7,reduceCtorEq,↓reduceIte,List.length_set,List.getElem?_set,hlen,t2,t3,and_self]
 clear hlen t2 t3
 rintro tm ⟨hlen,t2,t3,t5,t6⟩
 subst hZ
 refine zaa fun Z hZ => ?_
 refine zaa fun W hW => ?_
 simp only [sxZ,z6,z7,z8,j4,j5,j6,j7,j8,j9,x0,x3,x4,x5,x6,x7,reduceCtorEq,↓reduceIte,List.getElem?_set,hlen,t2,f0]
 subst hW
 rw [zaK]
 refine zaE (fun n o tm => ∃ i:Nat,i ≤ v.keys.length ∧ n=v.keys.length - i ∧ o2=o ∧ zhT v.keys v.items w=zhT (v.keys.drop i) (v.items.drop i) w ∧ tm.length=65 ∧ tm[2]? = some (.p 0 0) ∧ tm[3]? = some (.p 1 0) ∧ tm[5]? = some (.m b1) ∧ tm[6]? = some (.m b2) ∧ tm[24]? = some (.row v.keys.length (v.keys.map .s)) ∧ tm[25]? = some (.i .i64 (v.keys.length:Int)) ∧ tm[26]? = some (.i .i64 (i:Int))) v.keys.length ⟨0,Nat.zero_le _,rfl,rfl,rfl,?_⟩ ?_
 ·simp only [sxZ,z6,z7,z8,j4,j5,j6,j7,j8,j9,x0,x3,x4,x5,x6,x7,reduceCtorEq,↓reduceIte,List.length_set,List.getElem?_set,hlen,t2,t3,t5,t6,Int.cast_ofNat_Int,and_self]
 clear hlen t2 t3 t5 t6
 rintro n _ tm ⟨i,hi,rfl,rfl,hc,hlen,t2,t3,t5,t6,t24,t25,t26⟩
 refine zaa fun W hW => ?_
 by_cases hlt:(i:Int) < (v.keys.length:Int)
 ·have hi':i < v.keys.length:=by omega
  have hv':i < v.items.length:=by omega
  have kv:(v.keys.map AV.s)[i * 1]? = some (.s v.keys[i]):=by rw [Nat.mul_one,List.getElem?_map,List.getElem?_eq_getElem hi']; rfl
  have hx1:=hes1 v.keys[i]
  rw [zcw hnv hi',if_pos hi'] at hx1
  have hx2:=hes2 v.keys[i]
  rw [zcM hi',zcM hv',zhT] at hc
  have hgw:zfI w v.keys[i]=if zb7 v.keys[i] w.keys < w.keys.length then (match w.items[zb7 v.keys[i] w.keys]? with | some x => (x,true) | none => (jvZ,false)) else (jvZ,false):=by
   unfold zfI
   by_cases c:zb7 v.keys[i] w.keys < w.keys.length
   ·rw [if_pos ⟨k7,c⟩,if_pos c]; try (cases w.items[zb7 v.keys[i] w.keys]? <;> rfl)
   ·rw [if_neg (fun h => c h.2),if_neg c]
  rw [hgw] at hc
  have jv:=zd4 hv'
  have jvl:=zax v.items
  have jwl:=zax w.items
  have hcall:=fun (y:JV) (hy:zdJ y=true) (hy2:JLn y) {objs:List OB} {K:List OB → AV → Prop} (h:K objs (.b (ziR v.items[i] y))) => ih v.items[i] y (zbd hv') (zcG hsi hv') hy (hv.its hv') hy2 (objs:=objs) (K:=K) h
  generalize v.keys[i]=key at kv hx1 hx2 hc hgw
  generalize zb7 key w.keys=j at hx2 hc hgw
  simp only [sxZ,z6,z7,z8,j4,j5,j6,j7,j8,j9,x0,x3,x4,x5,x6,x7,reduceCtorEq,↓reduceIte,List.getElem?_set,hlen,t24,t25,t26,hlt]
  subst hW
  refine zaa fun W hW => ?_
  simp only [sxZ,z6,z7,z8,j4,j5,j6,j7,j8,j9,x0,x3,x4,x5,x6,x7,reduceCtorEq,↓reduceIte,List.getElem?_set,hlen]
  subst hW
  refine zaa fun V hV => ?_
  rw [zaK]
  refine zaa fun W hW => ?_
  simp only [sxZ,z6,z7,z8,j4,j5,j6,j7,j8,j9,x0,x3,x4,x5,x6,x7,reduceCtorEq,↓reduceIte,List.getElem?_set,hlen,t24,t26,kv,List.length_map]
  refine ⟨⟨by omega,by omega,by omega⟩,?_⟩
  subst hW
  refine zaa fun W hW => ?_
  simp only [sxZ,z6,z7,z8,j4,j5,j6,j7,j8,j9,x0,x3,x4,x5,x6,x7,reduceCtorEq,↓reduceIte,List.getElem?_set,hlen,t5,fb,hx1]
  subst hW
  refine zaa fun W hW => ?_
  simp only [sxZ,z6,z7,z8,j4,j5,j6,j7,j8,j9,x0,x3,x4,x5,x6,x7,reduceCtorEq,↓reduceIte,List.getElem?_set,hlen,Bool.not_true]
  subst hW
  refine zaa fun W hW => ?_
  simp only [sxZ,z6,z7,z8,j4,j5,j6,j7,j8,j9,x0,x3,x4,x5,x6,x7,reduceCtorEq,↓reduceIte,List.getElem?_set,hlen,decide_true,Bool.not_true]
  subst hW
  refine zaa fun W hW => ?_
  by_cases c:j < w.keys.length
  ·rw [if_pos c] at hx2 hc
   have hj2:j < w.items.length:=by omega
   rw [List.getElem?_eq_getElem hj2] at hc
   simp only [Bool.true_and] at hc
   have jw:=zd4 hj2
   have hcall:=@hcall w.items[j] (zcG hti hj2) (hw.its hj2)
   generalize v.items[i]=x at jv hc hcall
   generalize w.items[j]=y at jw hc hcall
   have hjx:=zal x
   have hjy:=zal y
   rw [hjx] at jv hcall
   rw [hjy] at jw hcall
   simp only [sxZ,z6,z7,z8,j4,j5,j6,j7,j8,j9,x0,x3,x4,x5,x6,x7,reduceCtorEq,↓reduceIte,List.getElem?_set,hlen,t6,fc,hx2]
   subst hW
   refine zaa fun W hW => ?_
   simp only [sxZ,z6,z7,z8,j4,j5,j6,j7,j8,j9,x0,x3,x4,x5,x6,x7,reduceCtorEq,↓reduceIte,List.getElem?_set,hlen,t2,t3,f0,f1,jv,jw,Bool.not_true,Int.toNat_natCast]
   refine ⟨⟨by omega,by omega,by omega⟩,by omega,⟨by omega,by omega,by omega⟩,by omega,?_⟩
   refine zd1 (hcall ⟨rfl,rfl⟩) ?_
   generalize ziR x y=e at hc ⊢
   cases e with
   | false =>
    rw [Bool.false_and] at hc
    simp only [sxZ,z6,z7,z8,j4,j5,j6,j7,j8,j9,x0,x3,x4,x5,x6,x7,reduceCtorEq,↓reduceIte,List.getElem?_set,hlen,Bool.not_false]
    subst hW
    simp only [sxZ,z6,z7,z8,j4,j5,j6,j7,j8,j9,x0,x3,x4,x5,x6,x7,reduceCtorEq,↓reduceIte,List.getElem?_set,hlen]
    rw [hc] at hk
    exact hk
   | true =>
    rw [Bool.true_and] at hc
    simp only [sxZ,z6,z7,z8,j4,j5,j6,j7,j8,j9,x0,x3,x4,x5,x6,x7,reduceCtorEq,↓reduceIte,List.getElem?_set,hlen,Bool.not_true]
    subst hW
    simp only [sxZ,z6,z7,z8,j4,j5,j6,j7,j8,j9,x0,x3,x4,x5,x6,x7,reduceCtorEq,↓reduceIte,List.getElem?_set,hlen]
    subst hV
    simp only [sxZ,z6,z7,z8,j4,j5,j6,j7,j8,j9,x0,x3,x4,x5,x6,x7,reduceCtorEq,↓reduceIte,List.getElem?_set,hlen,t2,t3,t5,t6,t24,t25,t26]
    exact ⟨by omega,v.keys.length - (i + 1),by omega,i + 1,by omega,rfl,hc,rfl⟩
  ·rw [if_neg c] at hx2 hc
   simp only [Bool.false_and] at hc
   simp only [sxZ,z6,z7,z8,j4,j5,j6,j7,j8,j9,x0,x3,x4,x5,x6,x7,reduceCtorEq,↓reduceIte,List.getElem?_set,hlen,t6,fc,hx2]
   subst hW
   refine zaa fun W hW => ?_
   simp only [sxZ,z6,z7,z8,j4,j5,j6,j7,j8,j9,x0,x3,x4,x5,x6,x7,reduceCtorEq,↓reduceIte,List.getElem?_set,hlen,Bool.not_false]
   subst hW
   simp only [sxZ,z6,z7,z8,j4,j5,j6,j7,j8,j9,x0,x3,x4,x5,x6,x7,reduceCtorEq,↓reduceIte,List.getElem?_set,hlen]
   rw [hc] at hk
   exact hk
 simp only [sxZ,z6,z7,z8,j4,j5,j6,j7,j8,j9,x0,x3,x4,x5,x6,x7,reduceCtorEq,↓reduceIte,List.getElem?_set,hlen,t24,t25,t26,hlt]
 subst hW
 subst hZ
 simp only [sxZ,z6,z7,z8,j4,j5,j6,j7,j8,j9,x0,x3,x4,x5,x6,x7,reduceCtorEq,↓reduceIte,List.getElem?_set,hlen]
 have hdn:v.items.drop i=[]:=List.drop_eq_nil_of_le (by omega)
 rw [hc,hdn,zhT] at hk
 exact hk
theorem jEqual_k:∀ (m:Nat) (v w:JV),v.size < m → zdJ v=true → zdJ w=true → JLn v → JLn w → ∀ {objs:List OB} {K:List OB → AV → Prop},K objs (.b (ziR v w)) → zad Tryz.prog 16 [.agg (zaj v),.agg (zaj w)] objs K:=by
 intro m
 induction m with
 | zero => intro v w h; omega
 | succ m ih =>
  intro v w hm hsv hsw hv hw objs K hk
  obtain ⟨l1,l2⟩:=hv.lens
  have kv:=zb9 hsv
  have kw:=zb9 hsw
  have hob:=fun (h7:v.kind=7) (k7:w.kind=7) {objs:List OB} {K:List OB → AV → Prop} (h) => zfN v w h7 k7 hsv hsw hv hw (fun x y hx => ih x y (by omega)) (objs:=objs) (K:=K) h
  have hfu:=fun (s1:zdg v.items=true) (s2:zdg w.items=true) {objs:List OB} {K:List OB → AV → Prop} (h) => zi2 v.items w.items l2 (fun i h1 h2 => ih v.items[i] w.items[i] (by have:=zbd h1; omega) (zcG s1 h1) (zcG s2 h2) (hv.its h1) (hw.its h2)) (objs:=objs) (K:=K) h
  refine zaX is_jsondoc_Equal (by simp only [zan,AV.plain,zaR,Bool.and_self]) fun C _ => ?_
  rw [c_jsondoc_Equal]
  have hjv:=zal v
  have hjw:=zal w
  rw [hjv,hjw] at hob
  rw [hjv,hjw]
  rw [zgB] at hk
  refine zaa fun Y hY => ?_
  simp only [sxZ,z6,z7,z8,j4,j5,j6,j7,j8,j9,x0,x3,x4,x5,x6,x7,reduceCtorEq,↓reduceIte]
  subst hY
  refine zaa fun Y hY => ?_
  by_cases c1:v.kind=w.kind
  rotate_left
  ·rw [decide_eq_false c1,Bool.false_and] at hk
   simp only [sxZ,z6,z7,z8,j4,j5,j6,j7,j8,j9,x0,x3,x4,x5,x6,x7,reduceCtorEq,↓reduceIte,c1,decide_false,Bool.not_false]
   exact hk
  rw [decide_eq_true c1,Bool.true_and] at hk
  simp only [sxZ,z6,z7,z8,j4,j5,j6,j7,j8,j9,x0,x3,x4,x5,x6,x7,reduceCtorEq,↓reduceIte,c1,decide_true,Bool.not_true]
  subst hY
  refine zaa fun Y hY => ?_
  refine zaa fun W hW => ?_
  simp only [sxZ,z6,z7,z8,j4,j5,j6,j7,j8,j9,x0,x3,x4,x5,x6,x7,reduceCtorEq,↓reduceIte]
  subst hW
  rw [zaK]
  rw [c1] at hk kv hob
  by_cases a1:w.kind=1 ∨ w.kind=2 ∨ w.kind=3
  ·rw [if_pos a1] at hk
   rcases a1 with a1 | a1 | a1
   all_goals
    simp only [sxZ,z6,z7,z8,j4,j5,j6,j7,j8,j9,x0,x3,x4,x5,x6,x7,reduceCtorEq,↓reduceIte,a1]
    exact hk
  rw [if_neg a1] at hk
  have n1:¬ w.kind=1:=fun h => a1 (.inl h)
  have n2:¬ w.kind=2:=fun h => a1 (.inr (.inl h))
  have n3:¬ w.kind=3:=fun h => a1 (.inr (.inr h))
  by_cases a4:w.kind=4 ∨ w.kind=5
  ·rw [if_pos a4] at hk
   by_cases b1:v.text=w.text
   ·rw [decide_eq_true b1] at hk
    rcases a4 with a4 | a4
    all_goals
     simp only [sxZ,z6,z7,z8,j4,j5,j6,j7,j8,j9,x0,x3,x4,x5,x6,x7,reduceCtorEq,↓reduceIte,a4,b1,decide_true]
     exact hk
   ·rw [decide_eq_false b1] at hk
    rcases a4 with a4 | a4
    all_goals
     simp only [sxZ,z6,z7,z8,j4,j5,j6,j7,j8,j9,x0,x3,x4,x5,x6,x7,reduceCtorEq,↓reduceIte,a4,b1,decide_false]
     exact hk
  rw [if_neg a4] at hk
  by_cases a6:w.kind=6
  ·rw [if_pos a6] at hk
   have hsi:zdg v.items=true:=by
    rcases kv with ⟨h0,_⟩ | ⟨_,_,h⟩ | ⟨h0,_⟩
    ·omega
    ·exact h
    ·omega
   have hti:zdg w.items=true:=by
    rcases kw with ⟨h0,_⟩ | ⟨_,_,h⟩ | ⟨h0,_⟩
    ·omega
    ·exact h
    ·omega
   simp only [sxZ,z6,z7,z8,j4,j5,j6,j7,j8,j9,x0,x3,x4,x5,x6,x7,reduceCtorEq,↓reduceIte,a6]
   refine zam (hfu hsi hti ?_)
   simp only [sxZ,z6,z7,z8,j4,j5,j6,j7,j8,j9,x0,x3,x4,x5,x6,x7,reduceCtorEq,↓reduceIte]
   exact hk
  rw [if_neg a6] at hk
  have a7:w.kind=7:=by
   rcases kw with ⟨h0,_⟩ | ⟨h0,_⟩ | ⟨h0,_⟩
   ·omega
   ·omega
   ·exact h0
  rw [if_pos a7] at hk
  rw [a7] at hob
  simp only [sxZ,z6,z7,z8,j4,j5,j6,j7,j8,j9,x0,x3,x4,x5,x6,x7,reduceCtorEq,↓reduceIte,a7]
  refine zam (hob rfl rfl ?_)
  simp only [sxZ,z6,z7,z8,j4,j5,j6,j7,j8,j9,x0,x3,x4,x5,x6,x7,reduceCtorEq,↓reduceIte]
  exact hk
end
end
end Go.Proofs.YthmdohgkmdkeeaaGreatDoor
namespace Go.Proofs.YthmdohgkmdkeeaaGreatDoor
open Go.RowKit Sx
section
attribute [local irreducible] run
section
variable [Tabs Tryz.prog] {objs:List OB} {K:List OB → AV → Prop}
end
section
variable [Tabs Tryz.prog] [Pow Tryz.prog] [Utf Tryz.prog]
end
end
end Go.Proofs.YthmdohgkmdkeeaaGreatDoor
namespace Go.Proofs.YthmdohgkmdkeeaaGreatDoor
open Go.RowKit Sx
section
attribute [local irreducible] run
section
variable [Tabs Tryz.prog] {objs:List OB} {K:List OB → AV → Prop}
end
section
variable [Tabs Tryz.prog] [Pow Tryz.prog] [Utf Tryz.prog]
end
end
end Go.Proofs.YthmdohgkmdkeeaaGreatDoor
namespace Go.Proofs.YthmdohgkmdkeeaaGreatDoor
open Nat renaming reduceAdd → z6, reduceSub → z7, reduceLeDiff → z8, reduceLT → j4, reduceMul → j5, reduceEqDiff → j6
open Int renaming reduceToNat → j7, reduceAdd → j8, reduceSub → j9, reduceMul → x0, reduceNeg → x3, reduceLT → x4, reduceLE → x5, reduceEq → x6, reduceNe → x7
open Go.RowKit Sx
section
attribute [local irreducible] run
theorem preS_len (k:Nat):(zhD k).length ≤ 1:=by unfold zhD; split <;> simp
theorem zmQ (k:Nat):(zeM k).length ≤ 1:=by unfold zeM; split <;> simp
theorem zeR (sp:List UInt8):∀ (n:Nat) (l:List UInt8) (ins:Bool) (i:Nat),l.length ≤ n → (zaZ sp l ins i).length ≤ 3 * l.length
 | n,[],ins,i,h => by rw [zaZ]; simp
 | 0,c :: t,ins,i,h => by simp at h
 | n + 1,c :: t,ins,i,h => by
  have ht:t.length ≤ n:=by simpa using h
  by_cases hc:ins=true ∧ c=92
  ·obtain ⟨rfl,rfl⟩:=hc
   cases t with
   | nil => rw [zaZ.eq_def]; simp
   | cons d t =>
    have:=zeR sp n t true (i + 2) (by simp only [List.length_cons] at ht; omega)
    rw [zbH]
    simp only [List.length_cons]; omega
  ·rw [zbc hc]
   have h1:=preS_len (if ins=false ∧ zbp c puL=true then kSp sp i else 0)
   have h2:=zmQ (if ins=false ∧ zbp c puL=true then kSp sp i else 0)
   have h3:=zeR sp n t (if c=34 then !ins else ins) (i + 1) ht
   simp only [List.length_append,List.length_cons]
   omega
theorem zkI {v:JV} (h:zjj v=true) (hk:JKp v) (hs:v.size ≤ 80) (sp:List UInt8):zbs (zaZ sp (wrJ (zbe v)) false 0)=(zbe v,((zaZ sp (wrJ (zbe v)) false 0).length:Int),0):=by
 obtain ⟨_,h1,_,_,_,_,h7,_⟩:=zgv h hk
 have hl:=zin h hk
 have h3:=zeR sp _ (wrJ (zbe v)) false 0 (Nat.le_refl _)
 exact zmA sp h1 (by omega) (by omega)
theorem back_one {v:JV} (h:zjj v=true) (hk:JKp v) (hs:v.size ≤ 80):zbs (wrJ (zbe v))=(zbe v,((wrJ (zbe v)).length:Int),0):=by
 have:=zkI h hk hs []
 rw [zeQ] at this
 exact this
section
variable [Tabs Tryz.prog] [Pow Tryz.prog] [Utf Tryz.prog]
theorem jsondocSpaces_c (r0:RV) (w0:RVok r0) (g1:List (List AV)) (w1:g1.length ≤ 140737488351232) (h1:∀ g ∈ g1,ShT (.i .u8) g):zad Tryz.prog 5 [.agg (zdT r0),.row g1.length g1.flatten] [] (fun _ r => r=.b true):=by
 have hv:=rv_ok r0 w0
 obtain ⟨sp,hg1,hg2⟩:=sl_u8 h1
 rw [zjG,hg1,hg2]
 have hsp:sp.length ≤ 140737488351232:=by omega
 generalize rvJ r0=v at hv
 refine zaX is_law14_JsondocSpaces (by simp only [zan,AV.plain,zaR,byA_pl,Bool.and_self]) fun C _ => ?_
 rw [c_law14_JsondocSpaces]
 have hjv:=zal v
 have k1:=fun {objs:List OB} {K:List OB → AV → Prop} (h:∀ b,(b=true → JKp v ∧ (v.size:Int) ≤ 40) → K objs (.b b)) => zhP v 40 hv (by decide) (by decide) (objs:=objs) (K:=K) h
 have k2:=fun {objs:List OB} {K:List OB → AV → Prop} (hp:JKp v) (hs:v.size ≤ 250) (h) => ziP v hp hv hs (objs:=objs) (K:=K) h
 have hW:=fun (h:zjj v=true) (hk:JKp v) (hs:v.size ≤ 80) => And.intro (back_one h hk hs) (And.intro (zkI h hk hs sp) (And.intro (zgv h hk) (zin h hk)))
 have hx:=zal (zbe v)
 have k3:=fun {objs:List OB} {K:List OB → AV → Prop} (hp:JKp (zbe v)) (h) => same14_l ((zbe v).size + 1) (zbe v) (zbe v) (Nat.lt_succ_self _) hp.bd.ln (objs:=objs) (K:=K) h
 have k4:=fun {objs:List OB} {K:List OB → AV → Prop} (hp:JKp (zbe v)) (hp2:JKp v) (s1:zdJ (zbe v)=true) (s2:zdJ v=true) (h) => jEqual_k ((zbe v).size + 1) (zbe v) v (Nat.lt_succ_self _) s1 s2 hp.bd.ln hp2.bd.ln (objs:=objs) (K:=K) h
 have hes:=fun (h:RdJ (zbe v) 0) => esc_val h
 unfold wrE at k2
 rw [zfW] at k3
 generalize zjj v=b at k2 hW
 generalize wrJ (zbe v)=T at k2 hW hes
 generalize zbe v=x at hW hx k3 k4 hes
 rw [hx] at k3 k4
 rw [hjv] at k1 k2 k4 ⊢
 refine zaa fun Y hY => ?_
 simp only [sxZ,z6,z7,z8,j4,j5,j6,j7,j8,j9,x0,x3,x4,x5,x6,x7,reduceCtorEq,↓reduceIte]
 subst hY
 refine zaa fun Y hY => ?_
 simp only [sxZ,z6,z7,z8,j4,j5,j6,j7,j8,j9,x0,x3,x4,x5,x6,x7,reduceCtorEq,↓reduceIte]
 refine zam (saneJs_k ?_)
 simp only [sxZ,z6,z7,z8,j4,j5,j6,j7,j8,j9,x0,x3,x4,x5,x6,x7,reduceCtorEq,↓reduceIte,Bool.not_true]
 subst hY
 refine zaa fun Y hY => ?_
 simp only [sxZ,z6,z7,z8,j4,j5,j6,j7,j8,j9,x0,x3,x4,x5,x6,x7,reduceCtorEq,↓reduceIte]
 refine zam (k1 fun b' hb => ?_)
 cases b' with
 | false => simp only [sxZ,z6,z7,z8,j4,j5,j6,j7,j8,j9,x0,x3,x4,x5,x6,x7,reduceCtorEq,↓reduceIte,Bool.not_false]
 | true =>
 obtain ⟨hb,hs⟩:=hb rfl
 simp only [sxZ,z6,z7,z8,j4,j5,j6,j7,j8,j9,x0,x3,x4,x5,x6,x7,reduceCtorEq,↓reduceIte,Bool.not_true]
 subst hY
 refine zaa fun Y hY => ?_
 simp only [sxZ,z6,z7,z8,j4,j5,j6,j7,j8,j9,x0,x3,x4,x5,x6,x7,reduceCtorEq,↓reduceIte]
 refine zam (k2 hb (by omega) ?_)
 cases b with
 | false =>
  simp only [sxZ,z6,z7,z8,j4,j5,j6,j7,j8,j9,x0,x3,x4,x5,x6,x7,reduceCtorEq,↓reduceIte,if_neg Bool.false_ne_true]
  subst hY
  simp only [sxZ,z6,z7,z8,j4,j5,j6,j7,j8,j9,x0,x3,x4,x5,x6,x7,reduceCtorEq,↓reduceIte]
 | true =>
 obtain ⟨p1,p2,⟨e1,e2,e3,e4,e5,e6,e7,e8⟩,hl⟩:=hW rfl hb (by omega)
 have hes:=hes e2
 have P1:=fun {objs:List OB} {K:List OB → AV → Prop} (h:K objs (zdY (zbs T))) => zeU T (by omega) (objs:=objs) (K:=K) h
 have P2:=fun {objs:List OB} {K:List OB → AV → Prop} (h:K objs (zdY (zbs (zaZ sp T false 0)))) => zeU (zaZ sp T false 0) (by have:=zeR sp _ T false 0 (Nat.le_refl _); omega) (objs:=objs) (K:=K) h
 have P3:=fun {objs:List OB} {K:List OB → AV → Prop} (h:K objs (.s (zaZ sp T false 0))) => spread_k T sp (by omega) hsp hes (objs:=objs) (K:=K) h
 rw [p1] at P1
 rw [p2] at P2
 unfold zdY at P1 P2
 simp only at P1 P2
 rw [hx] at P1 P2
 rw [e8] at k4
 generalize zaZ sp T false 0=S at P2 P3
 simp only [sxZ,z6,z7,z8,j4,j5,j6,j7,j8,j9,x0,x3,x4,x5,x6,x7,reduceCtorEq,↓reduceIte,if_pos]
 subst hY
 refine zaa fun Y hY => ?_
 simp only [sxZ,z6,z7,z8,j4,j5,j6,j7,j8,j9,x0,x3,x4,x5,x6,x7,reduceCtorEq,↓reduceIte]
 subst hY
 refine zaa fun Y hY => ?_
 simp only [sxZ,z6,z7,z8,j4,j5,j6,j7,j8,j9,x0,x3,x4,x5,x6,x7,reduceCtorEq,↓reduceIte]
 refine zam (P1 ?_)
 simp only [sxZ,z6,z7,z8,j4,j5,j6,j7,j8,j9,x0,x3,x4,x5,x6,x7,reduceCtorEq,↓reduceIte]
 subst hY
 refine zaa fun Y hY => ?_
 simp only [sxZ,z6,z7,z8,j4,j5,j6,j7,j8,j9,x0,x3,x4,x5,x6,x7,reduceCtorEq,↓reduceIte]
 refine zam (P3 ?_)
 simp only [sxZ,z6,z7,z8,j4,j5,j6,j7,j8,j9,x0,x3,x4,x5,x6,x7,reduceCtorEq,↓reduceIte]
 refine zam (P2 ?_)
 simp only [sxZ,z6,z7,z8,j4,j5,j6,j7,j8,j9,x0,x3,x4,x5,x6,x7,reduceCtorEq,↓reduceIte]
 subst hY
 simp only [sxZ,z6,z7,z8,j4,j5,j6,j7,j8,j9,x0,x3,x4,x5,x6,x7,reduceCtorEq,↓reduceIte]
 refine zam (k3 e5 ?_)
 simp only [sxZ,z6,z7,z8,j4,j5,j6,j7,j8,j9,x0,x3,x4,x5,x6,x7,reduceCtorEq,↓reduceIte]
 refine zam (k4 e5 hb e4 e3 ?_)
 simp only [sxZ,z6,z7,z8,j4,j5,j6,j7,j8,j9,x0,x3,x4,x5,x6,x7,reduceCtorEq,↓reduceIte]
end
end
end Go.Proofs.YthmdohgkmdkeeaaGreatDoor
namespace Go.Proofs.YthmdohgkmdkeeaaGreatDoor
open Go.RowKit Sx
theorem zde {P:Program} {w w':World} {name:String} {k:IntKind} {zs:List Int} (h:Lib.TabIs P w name k zs) (hk:∀ k,k < w.heap.size → w'.heap[k]? = w.heap[k]?):Lib.TabIs P w' name k zs:=by
 unfold Lib.TabIs World.var? at *
 cases hg:P.globalNamed name with
 | none => simp [hg] at h
 | some g =>
  simp only [hg,Option.bind_some] at h ⊢
  have hlt:g < w.heap.size:=by
   rcases Nat.lt_or_ge g w.heap.size with h' | h'
   ·exact h'
   ·rw [Array.getElem?_eq_none h'] at h; simp at h
  rw [hk g hlt]
  exact h
instance tabsN : Tabs Tryz.prog := ⟨fun w => w.ShapedOpen Tryz.prog ∧ Lib.TabIs Tryz.prog w "internal/strconv.uint64pow10" .u64 Lib.pow10Tab, fun _ _ h hk _ => ⟨zfa h.1 hk, zde h.2 hk⟩⟩
instance tabsN_shp:Shp Tryz.prog:=⟨fun _ h => h.1⟩
instance tabsN_pow:Pow Tryz.prog:=⟨fun _ h => h.2⟩
end Go.Proofs.YthmdohgkmdkeeaaGreatDoor
namespace Go.Proofs.YthmdohgkmdkeeaaGreatDoor
open Go.RowKit Sx
theorem utabs_of {w : World} (h0 : Lib.TabIs Tryz.prog w "webfinger/utf8text.lengths" .i64 lensT) (h1 : Lib.TabIs Tryz.prog w "webfinger/utf8text.mosts" .i64 mostT) : UTabs w :=
 ⟨fun i hi => h0.cell (by kernel_rfl) i hi,fun i hi => h1.cell (by kernel_rfl) i hi⟩
instance (priority := high) tabsU : Tabs Tryz.prog := ⟨fun w => w.ShapedOpen Tryz.prog ∧ Lib.TabIs Tryz.prog w "internal/strconv.uint64pow10" .u64 Lib.pow10Tab ∧ Lib.TabIs Tryz.prog w "webfinger/utf8text.lengths" .i64 lensT ∧ Lib.TabIs Tryz.prog w "webfinger/utf8text.mosts" .i64 mostT, fun _ _ h hk _ => ⟨zfa h.1 hk, zde h.2.1 hk, zde h.2.2.1 hk, zde h.2.2.2 hk⟩⟩
instance (priority:=high) tabsU_shp:Shp Tryz.prog:=⟨fun _ h => h.1⟩
instance (priority:=high) tabsU_pow:Pow Tryz.prog:=⟨fun _ h => h.2.1⟩
instance (priority:=high) tabsU_utf:Utf Tryz.prog:=⟨fun _ h => utabs_of h.2.2.1 h.2.2.2⟩
end Go.Proofs.YthmdohgkmdkeeaaGreatDoor
