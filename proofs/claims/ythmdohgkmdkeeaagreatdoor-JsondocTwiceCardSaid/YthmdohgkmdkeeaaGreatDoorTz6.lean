/- The texts that the proofs of these statements reach, in their order, as few files. -/
import Derived.KernelRfl
import Derived.Test.YthmdohgkmdkeeaaGreatDoorTz5
set_option linter.unusedVariables false
set_option linter.unusedSimpArgs false
set_option maxRecDepth 100000
namespace Go.Proofs.YthmdohgkmdkeeaaGreatDoor
open Nat renaming reduceAdd → z6, reduceSub → z7, reduceLeDiff → z8, reduceLT → j5, reduceMul → j6, reduceEqDiff → j7
open Int renaming reduceToNat → j8, reduceAdd → j9, reduceSub → x3, reduceMul → x4, reduceNeg → x5, reduceLT → x6, reduceLE → x7, reduceEq → x8, reduceNe → x9
open Go.RowKit Sx
section
attribute [local irreducible] run
def leS (a b:List UInt8):Bool:=zbM a b || a == b
theorem zdn:∀ (a b c:List UInt8),zbM a b=true → zbM b c=true → zbM a c=true
 | _,[],_,h,_ => by simp [zbM,Op.bytesLess] at h
 | [],_ :: _,[],_,h => by simp [zbM,Op.bytesLess] at h
 | _ :: _,_ :: _,[],_,h => by simp [zbM,Op.bytesLess] at h
 | [],_ :: _,_ :: _,_,_ => by simp [zbM,Op.bytesLess]
 | a :: x,b :: y,c :: z,h,k => by
  simp only [zbM,Op.bytesLess,Bool.or_eq_true,Bool.and_eq_true,decide_eq_true_eq,beq_iff_eq] at h k ⊢
  rcases h with h | ⟨rfl,h⟩
  ·rcases k with k | ⟨rfl,k⟩
   ·exact .inl (UInt8.lt_trans h k)
   ·exact .inl h
  ·rcases k with k | ⟨rfl,k⟩
   ·exact .inl k
   ·exact .inr ⟨rfl,zdn x y z h k⟩
theorem zeT:∀ (a b:List UInt8),zbM a b=true ∨ a=b ∨ zbM b a=true
 | [],[] => .inr (.inl rfl)
 | [],_ :: _ => .inl rfl
 | _ :: _,[] => .inr (.inr rfl)
 | a :: x,b :: y => by
  simp only [zbM,Op.bytesLess,Bool.or_eq_true,Bool.and_eq_true,decide_eq_true_eq,beq_iff_eq]
  by_cases h1:a < b
  ·exact .inl (.inl h1)
  by_cases h2:b < a
  ·exact .inr (.inr (.inl h2))
  have e:a=b:=UInt8.le_antisymm (UInt8.not_lt.1 h2) (UInt8.not_lt.1 h1)
  subst e
  rcases zeT x y with h | h | h
  ·exact .inl (.inr ⟨rfl,h⟩)
  ·exact .inr (.inl (by rw [h]))
  ·exact .inr (.inr (.inr ⟨rfl,h⟩))
theorem zeq:∀ a:List UInt8,zbM a a=false
 | [] => rfl
 | a :: x => by
  have h0:¬ a < a:=UInt8.lt_irrefl a
  have h:=zeq x
  unfold zbM at h
  simp [zbM,Op.bytesLess,h0,h]
theorem zmX (a b c:List UInt8) (h:leS a b=true) (k:leS b c=true):leS a c=true:=by
 unfold leS at *
 rw [Bool.or_eq_true,beq_iff_eq] at *
 rcases h with h | rfl
 ·rcases k with k | rfl
  ·exact .inl (zdn _ _ _ h k)
  ·exact .inl h
 ·exact k
theorem zmY (a b:List UInt8):(leS a b || leS b a)=true:=by
 unfold leS
 rcases zeT a b with h | rfl | h
 ·rw [h]; rfl
 ·simp
 ·rw [h]; simp
theorem leS_anti (a b:List UInt8) (h:leS a b=true) (k:leS b a=true):a=b:=by
 unfold leS at *
 rw [Bool.or_eq_true,beq_iff_eq] at *
 rcases h with h | h
 ·rcases k with k | k
  ·have:=zdn _ _ _ h k
   rw [zeq] at this; cases this
  ·exact k.symm
 ·exact h
def zd8:Nat → List (List UInt8) → List (List UInt8)
 | 0,l => l
 | f + 1,l => if l.length < 2 then l else List.merge (zd8 f (l.take (l.length / 2))) (zd8 f (l.drop (l.length / 2))) leS
theorem za2:∀ (f:Nat) (l:List (List UInt8)),(zd8 f l).Perm l
 | 0,l => List.Perm.refl _
 | f + 1,l => by
  rw [zd8]
  split
  ·exact List.Perm.refl _
  ·refine (List.merge_perm_append _).trans ?_
   refine ((za2 f _).append (za2 f _)).trans ?_
   rw [List.take_append_drop]
theorem zdo:∀ (f:Nat) (l:List (List UInt8)),l.length ≤ f → (zd8 f l).Pairwise (fun a b => leS a b=true)
 | 0,l,h => by
  have:l=[]:=List.eq_nil_of_length_eq_zero (by omega)
  subst this
  exact List.Pairwise.nil
 | f + 1,l,h => by
  rw [zd8]
  split
  ·rename_i h2
   match l,h2 with
   | [],_ => exact List.Pairwise.nil
   | [a],_ => exact List.pairwise_singleton _ _
   | a :: b :: l,h2 => simp at h2; omega
  ·exact List.pairwise_merge zmX zmY _ _ (zdo f _ (by rw [List.length_take]; omega)) (zdo f _ (by rw [List.length_drop]; omega))
section
variable [Tabs Tryz.prog]
theorem zjd:∀ (f:Nat) (l:List (List UInt8)),l.length ≤ f → l.length ≤ 1099511627780 → ∀ {objs:List OB} {K:List OB → AV → Prop},K objs (.row (zd8 f l).length ((zd8 f l).map .s)) → zad Tryz.prog 78 [.row l.length (l.map .s)] objs K:=by
 intro f
 induction f with
 | zero =>
  intro l hl hb objs K hk
  have e:l=[]:=List.eq_nil_of_length_eq_zero (by omega)
  subst e
  refine zbb is_ref15_sorted rfl fun C _ => ?_
  rw [c_ref15_sorted]
  have z:((0:Nat):Int) < 2:=by decide
  simp only [sxZ,z6,z7,z8,j5,j6,j7,j8,j9,x3,x4,x5,x6,x7,x8,x9,reduceCtorEq,↓reduceIte,List.length_nil,List.map_nil,z]
  exact hk
 | succ f ih =>
  intro l hl hb objs K hk
  refine zbb is_ref15_sorted (by simp only [zam,AV.plain,zaJ,Bool.and_self]) fun C _ => ?_
  rw [c_ref15_sorted]
  refine zaa fun Z hZ => ?_
  simp only [sxZ,z6,z7,z8,j5,j6,j7,j8,j9,x3,x4,x5,x6,x7,x8,x9,reduceCtorEq,↓reduceIte]
  subst hZ
  refine zaa fun Z hZ => ?_
  rw [zd8] at hk
  by_cases c2:l.length < 2
  ·rw [if_pos c2] at hk
   have c2':(l.length:Int) < 2:=by omega
   simp only [sxZ,z6,z7,z8,j5,j6,j7,j8,j9,x3,x4,x5,x6,x7,x8,x9,reduceCtorEq,↓reduceIte,c2',zaJ]
   exact hk
  rw [if_neg c2] at hk
  have c2':¬ (l.length:Int) < 2:=by omega
  simp only [sxZ,z6,z7,z8,j5,j6,j7,j8,j9,x3,x4,x5,x6,x7,x8,x9,reduceCtorEq,↓reduceIte,c2']
  subst hZ
  refine zaa fun Z hZ => ?_
  have hq:((l.length:Int)).tdiv 2=((l.length / 2:Nat):Int):=(Int.ofNat_tdiv l.length 2).symm
  generalize hh:l.length / 2=h at hk hq
  have ihx:=fun (l':List (List UInt8)) (n:Nat) (xs:List AV) (hn:n=l'.length) (hx:xs=l'.map .s) (h1:l'.length ≤ f) (h2:l'.length ≤ 1099511627780) {objs:List OB} {K:List OB → AV → Prop} (hk:K objs (.row (zd8 f l').length ((zd8 f l').map .s))) => (by subst hn hx; exact ih l' h1 h2 hk:zad Tryz.prog 78 [.row n xs] objs K)
  have hla:(l.take h).length=h:=by rw [List.length_take]; omega
  have hlb:(l.drop h).length=l.length - h:=List.length_drop
  have ha:List.take (h * 1) (l.map AV.s)=(l.take h).map .s:=by rw [Nat.mul_one,List.map_take]
  have hb2:List.drop (h * 1) (List.take (l.length * 1) (l.map AV.s))=(l.drop h).map .s:=by
   rw [Nat.mul_one,Nat.mul_one,List.take_of_length_le (by simp),List.map_drop]
  simp only [sxZ,z6,z7,z8,j5,j6,j7,j8,j9,x3,x4,x5,x6,x7,x8,x9,reduceCtorEq,↓reduceIte,hq,Int.toNat_natCast]
  refine ⟨⟨by omega,by omega⟩,⟨by omega,by omega⟩,?_⟩
  refine kpcall (ihx (l.take h) h _ hla.symm ha (by omega) (by omega) rfl) (by rw [ha]; simp only [zam,AV.plain,zaJ,Bool.and_self]) (by simp only [AV.plain,zaJ]) ?_
  simp only [sxZ,z6,z7,z8,j5,j6,j7,j8,j9,x3,x4,x5,x6,x7,x8,x9,reduceCtorEq,↓reduceIte,hq,Int.toNat_natCast]
  refine ⟨⟨by omega,by omega⟩,⟨by omega,by omega⟩,?_⟩
  refine kpcall (ihx (l.drop h) _ _ hlb.symm hb2 (by omega) (by omega) rfl) (by rw [hb2]; simp only [zam,AV.plain,zaJ,Bool.and_self]) (by simp only [AV.plain,zaJ]) ?_
  have hra:0 < (zd8 f (l.take h)).length:=by rw [(za2 f _).length_eq]; omega
  have hrb:0 < (zd8 f (l.drop h)).length:=by rw [(za2 f _).length_eq]; omega
  have hls:(zd8 f (l.take h)).length + (zd8 f (l.drop h)).length=l.length:=by rw [(za2 f _).length_eq,(za2 f _).length_eq]; omega
  generalize zd8 f (l.take h)=ra at hk hra hls ⊢
  generalize zd8 f (l.drop h)=rb at hk hrb hls ⊢
  simp only [sxZ,z6,z7,z8,j5,j6,j7,j8,j9,x3,x4,x5,x6,x7,x8,x9,reduceCtorEq,↓reduceIte]
  subst hZ
  refine zaa fun Z hZ => ?_
  simp only [sxZ,z6,z7,z8,j5,j6,j7,j8,j9,x3,x4,x5,x6,x7,x8,x9,reduceCtorEq,↓reduceIte]
  subst hZ
  refine zaa fun Z hZ => ?_
  rw [zaX]
  refine zaO (fun n o tm => ∃ (acc a b:List (List UInt8)) (X:AV),n=a.length + b.length ∧ List.merge ra rb leS=acc ++ List.merge a b leS ∧ acc.length + a.length + b.length=l.length ∧ (acc=[] → a=ra ∧ b=rb) ∧ ((acc=[] ∧ o=[] ∧ X=.nil) ∨ ∃ g,o=[.orow 9 1 g acc.length (acc.map .s)] ∧ X=.orow 0 g) ∧
   tm.length=58 ∧ tm[3]? = some (.row a.length (a.map .s)) ∧ tm[4]? = some (.row b.length (b.map .s)) ∧ tm[5]? = some X) (ra.length + rb.length) ⟨[],ra,rb,.nil,rfl,rfl,by rw [List.length_nil]; omega,fun _ => ⟨rfl,rfl⟩,.inl ⟨rfl,rfl,rfl⟩,rfl,rfl,rfl,rfl⟩ ?_
  rintro n o tm ⟨acc,a,b,X,rfl,hm,hlen2,hin,hX,hlen,t3,t4,t5⟩
  have last:∀ (tm:List AV),(a=[] ∨ b=[]) → tm.length=58 → tm[3]? = some (.row a.length (a.map .s)) → tm[4]? = some (.row b.length (b.map .s)) → tm[5]? = some X → run Tryz.prog C [.code Z] o tm (endK [.tmp 2] fun r => K objs r):=by
   intro tm hab hlen t3 t4 t5
   have hmab:List.merge a b leS=a ++ b:=by
    rcases hab with rfl | rfl
    ·rw [List.nil_merge]; rfl
    ·rw [List.merge_right,List.append_nil]
   rcases hX with ⟨h1,_,_⟩ | ⟨g,rfl,rfl⟩
   ·obtain ⟨rfl,rfl⟩:=hin h1
    rcases hab with rfl | rfl
    ·simp at hra
    ·simp at hrb
   subst hZ
   simp only [sxZ,z6,z7,z8,j5,j6,j7,j8,j9,x3,x4,x5,x6,x7,x8,x9,reduceCtorEq,↓reduceIte,List.getElem?_set,hlen,t3,t4,t5]
   refine ⟨⟨by simp,by omega,by omega⟩,⟨by simp,by omega,by omega⟩,?_⟩
   rw [← List.map_append,← List.map_append,zfb]
   rw [hm,hmab,← List.append_assoc,List.length_append,List.length_append] at hk
   exact hk
  refine zaa fun W hW => ?_
  cases a with
  | nil =>
   have z:¬ (0:Int) < ((0:Nat):Int):=by decide
   simp only [sxZ,z6,z7,z8,j5,j6,j7,j8,j9,x3,x4,x5,x6,x7,x8,x9,reduceCtorEq,↓reduceIte,List.getElem?_set,hlen,t3,List.length_nil,z]
   refine last _ (.inl rfl) ?_ ?_ ?_ ?_
   all_goals simp only [List.length_set,List.getElem?_set,hlen,t3,t4,t5,Nat.reduceEqDiff,if_false,reduceIte]
  | cons x a =>
  cases b with
  | nil =>
   have z:¬ (0:Int) < ((0:Nat):Int):=by decide
   have z2:(0:Int) < ((a.length + 1:Nat):Int):=by omega
   simp only [sxZ,z6,z7,z8,j5,j6,j7,j8,j9,x3,x4,x5,x6,x7,x8,x9,reduceCtorEq,↓reduceIte,List.getElem?_set,hlen,t3,t4,List.length_nil,List.length_cons,z,z2]
   refine last _ (.inr rfl) ?_ ?_ ?_ ?_
   all_goals simp only [List.length_set,List.getElem?_set,hlen,t3,t4,t5,Nat.reduceEqDiff,if_false,reduceIte]
  | cons y b =>
  have z1:(0:Int) < ((b.length + 1:Nat):Int):=by omega
  have z2:(0:Int) < ((a.length + 1:Nat):Int):=by omega
  simp only [sxZ,z6,z7,z8,j5,j6,j7,j8,j9,x3,x4,x5,x6,x7,x8,x9,reduceCtorEq,↓reduceIte,List.getElem?_set,hlen,t3,t4,List.length_cons,z1,z2]
  subst hW
  rw [zaX]
  refine zaa fun W hW => ?_
  simp only [sxZ,z6,z7,z8,j5,j6,j7,j8,j9,x3,x4,x5,x6,x7,x8,x9,reduceCtorEq,↓reduceIte,List.getElem?_set,hlen,t3,t4,List.map_cons,List.length_cons]
  refine ⟨⟨by omega,by simp⟩,⟨by omega,by simp⟩,?_⟩
  have hxa:List.drop 1 (List.take ((a.length + 1) * 1) (AV.s x :: a.map AV.s))=a.map .s:=by
   rw [Nat.mul_one,List.take_of_length_le (by simp)]; rfl
  have hxb:List.drop 1 (List.take ((b.length + 1) * 1) (AV.s y :: b.map AV.s))=b.map .s:=by
   rw [Nat.mul_one,List.take_of_length_le (by simp)]; rfl
  have hla1:a.length + 1 - 1=a.length:=rfl
  have hlb1:b.length + 1 - 1=b.length:=rfl
  simp only [List.length_cons] at hlen2
  subst hW
  cases hle:(zbM x y || x == y) with
  | true =>
   have hm2:List.merge ra rb leS=(acc ++ [x]) ++ List.merge a (y :: b) leS:=by
    rw [hm,List.cons_merge_cons,if_pos (show leS x y=true from hle),List.append_assoc]; rfl
   rcases hX with ⟨h1,rfl,rfl⟩ | ⟨g,rfl,rfl⟩
   ·simp only [sxZ,z6,z7,z8,j5,j6,j7,j8,j9,x3,x4,x5,x6,x7,x8,x9,reduceCtorEq,↓reduceIte,List.getElem?_set,hlen,t3,t5,hle,List.map_cons,List.length_cons]
    refine ⟨⟨by omega,by simp⟩,by omega,_,?_,acc ++ [x],a,y :: b,_,rfl,hm2,by simp only [List.length_append,List.length_cons,List.length_nil] at hlen2 ⊢; omega,fun h => by simp at h,.inr ⟨_,by rw [h1]; rfl,rfl⟩,by rw [hxa]; rfl,t4,rfl⟩
    ·show _ < _; simp only [List.length_cons]; omega
   ·simp only [sxZ,z6,z7,z8,j5,j6,j7,j8,j9,x3,x4,x5,x6,x7,x8,x9,reduceCtorEq,↓reduceIte,List.getElem?_set,hlen,t3,t5,hle,List.map_cons,List.length_cons]
    refine ⟨⟨by omega,by simp⟩,⟨by omega,by omega⟩,by omega,_,?_,acc ++ [x],a,y :: b,_,rfl,hm2,by simp only [List.length_append,List.length_cons,List.length_nil] at hlen2 ⊢; omega,fun h => by simp at h,.inr ⟨_,by rw [List.map_append,List.length_append]; rfl,rfl⟩,by rw [hxa]; rfl,t4,rfl⟩
    ·show _ < _; simp only [List.length_cons]; omega
  | false =>
   have hm2:List.merge ra rb leS=(acc ++ [y]) ++ List.merge (x :: a) b leS:=by
    rw [hm,List.cons_merge_cons,if_neg (show ¬ leS x y=true from by unfold leS; rw [hle]; exact Bool.false_ne_true),List.append_assoc]; rfl
   rcases hX with ⟨h1,rfl,rfl⟩ | ⟨g,rfl,rfl⟩
   ·simp only [sxZ,z6,z7,z8,j5,j6,j7,j8,j9,x3,x4,x5,x6,x7,x8,x9,reduceCtorEq,↓reduceIte,List.getElem?_set,hlen,t4,t5,hle,List.map_cons,List.length_cons]
    refine ⟨⟨by omega,by simp⟩,by omega,_,?_,acc ++ [y],x :: a,b,_,rfl,hm2,by simp only [List.length_append,List.length_cons,List.length_nil] at hlen2 ⊢; omega,fun h => by simp at h,.inr ⟨_,by rw [h1]; rfl,rfl⟩,t3,by rw [hxb]; rfl,rfl⟩
    ·show _ < _; simp only [List.length_cons]; omega
   ·simp only [sxZ,z6,z7,z8,j5,j6,j7,j8,j9,x3,x4,x5,x6,x7,x8,x9,reduceCtorEq,↓reduceIte,List.getElem?_set,hlen,t4,t5,hle,List.map_cons,List.length_cons]
    refine ⟨⟨by omega,by simp⟩,⟨by omega,by omega⟩,by omega,_,?_,acc ++ [y],x :: a,b,_,rfl,hm2,by simp only [List.length_append,List.length_cons,List.length_nil] at hlen2 ⊢; omega,fun h => by simp at h,.inr ⟨_,by rw [List.map_append,List.length_append]; rfl,rfl⟩,t3,by rw [hxb]; rfl,rfl⟩
    ·show _ < _; simp only [List.length_cons]; omega
end
end
section
attribute [local irreducible] run
def zfq (ks:List (List UInt8)):Bool:=decide ks.Nodup && ks.all zaQ
theorem zeu:∀ {s:List (List UInt8)},s.Pairwise (fun a b => leS a b=true) → (∀ j a b,s[j]? = some a → s[j + 1]? = some b → a ≠ b) → s.Nodup
 | [],_,_ => List.nodup_nil
 | a :: s,h,k => by
  rw [List.pairwise_cons] at h
  rw [List.nodup_cons]
  refine ⟨fun hm => ?_,zeu h.2 fun j x y hx hy => k (j + 1) x y (by simpa using hx) (by simpa using hy)⟩
  cases s with
  | nil => cases hm
  | cons b s =>
   have hab:=k 0 a b rfl rfl
   rcases List.mem_cons.1 hm with e | hm
   ·exact hab e
   ·have h1:=h.1 b (by simp)
    have h2:=(List.pairwise_cons.1 h.2).1 a hm
    exact hab (leS_anti _ _ h1 h2)
section
variable [Tabs Tryz.prog] {objs:List OB} {K:List OB → AV → Prop}
theorem ziT (l:List (List UInt8)) (hb:l.length ≤ 1099511627780) (ht:∀ k ∈ l,k.length ≤ 140737488351232) (hk:K objs (.b (zfq l))):zad Tryz.prog 76 [.row l.length (l.map .s)] objs K:=by
 refine zbb is_ref15_different (by simp only [zam,AV.plain,zaJ,Bool.and_self]) fun C _ => ?_
 rw [c_ref15_different]
 refine zaa fun Z hZ => ?_
 simp only [sxZ,z6,z7,z8,j5,j6,j7,j8,j9,x3,x4,x5,x6,x7,x8,x9,reduceCtorEq,↓reduceIte]
 subst hZ
 refine zaa fun Z hZ => ?_
 simp only [sxZ,z6,z7,z8,j5,j6,j7,j8,j9,x3,x4,x5,x6,x7,x8,x9,reduceCtorEq,↓reduceIte]
 refine zal (zjd l.length l (Nat.le_refl _) hb ?_)
 have hp:=za2 l.length l
 have hso:=zdo l.length l (Nat.le_refl _)
 generalize zd8 l.length l=s at hp hso ⊢
 have hsl:=hp.length_eq
 have hst:∀ k ∈ s,k.length ≤ 140737488351232:=fun k hk => ht k (hp.mem_iff.1 hk)
 have no:(∃ k ∈ s,zaQ k=false) ∨ ¬ s.Nodup → zfq l=false:=by
  intro h
  unfold zfq
  rcases h with ⟨k,h1,h2⟩ | h
  ·have:l.all zaQ=false:=by
    rw [List.all_eq_false]
    exact ⟨k,hp.mem_iff.1 h1,by rw [h2]; exact Bool.false_ne_true⟩
   rw [this,Bool.and_false]
  ·have:¬ l.Nodup:=fun hn => h (hp.nodup_iff.2 hn)
   rw [decide_eq_false this]; rfl
 simp only [sxZ,z6,z7,z8,j5,j6,j7,j8,j9,x3,x4,x5,x6,x7,x8,x9,reduceCtorEq,↓reduceIte]
 subst hZ
 refine zaa fun Z hZ => ?_
 simp only [sxZ,z6,z7,z8,j5,j6,j7,j8,j9,x3,x4,x5,x6,x7,x8,x9,reduceCtorEq,↓reduceIte]
 refine zaO (fun n o tm => ∃ i:Nat,i ≤ s.length ∧ n=s.length - i ∧ o=[] ∧ (∀ j a,j < i → s[j]? = some a → zaQ a=true) ∧ (∀ j a b,j + 1 < i → s[j]? = some a → s[j + 1]? = some b → a ≠ b) ∧ tm.length=32 ∧ tm[3]? = some (.row s.length (s.map .s)) ∧ tm[8]? = some (.row s.length (s.map .s)) ∧ tm[9]? = some (.i .i64 (s.length:Int)) ∧ tm[10]? = some (.i .i64 (i:Int))) s.length ⟨0,Nat.zero_le _,rfl,rfl,fun j a h => by omega,fun j a b h => by omega,rfl,rfl,rfl,rfl,rfl⟩ ?_
 rintro n _ tm ⟨i,hi,rfl,rfl,hv,hd,hlen,t3,t8,t9,t10⟩
 refine zaa fun W hW => ?_
 by_cases hlt:(i:Int) < (s.length:Int)
 ·have hi':i < s.length:=by omega
  have kv:(s.map AV.s)[i * 1]? = some (.s s[i]):=by rw [Nat.mul_one,List.getElem?_map,List.getElem?_eq_getElem hi']; rfl
  have kv2:s[i]? = some s[i]:=List.getElem?_eq_getElem hi'
  have kv3:s[i] ∈ s:=List.getElem_mem hi'
  generalize s[i]=x at kv kv2 kv3
  simp only [sxZ,z6,z7,z8,j5,j6,j7,j8,j9,x3,x4,x5,x6,x7,x8,x9,reduceCtorEq,↓reduceIte,List.getElem?_set,hlen,t3,t8,t9,t10,hlt]
  subst hW
  refine zaa fun W hW => ?_
  simp only [sxZ,z6,z7,z8,j5,j6,j7,j8,j9,x3,x4,x5,x6,x7,x8,x9,reduceCtorEq,↓reduceIte,List.getElem?_set,hlen]
  subst hW
  refine zaa fun V hV => ?_
  rw [zaX]
  refine zaa fun W hW => ?_
  simp only [sxZ,z6,z7,z8,j5,j6,j7,j8,j9,x3,x4,x5,x6,x7,x8,x9,reduceCtorEq,↓reduceIte,List.getElem?_set,hlen,t8,t10,kv,List.length_map]
  refine ⟨⟨by omega,by omega⟩,?_⟩
  subst hW
  refine zaa fun W hW => ?_
  simp only [sxZ,z6,z7,z8,j5,j6,j7,j8,j9,x3,x4,x5,x6,x7,x8,x9,reduceCtorEq,↓reduceIte,List.getElem?_set,hlen]
  refine zal (zha x (hst x kv3) ?_)
  cases hvx:zaQ x with
  | false =>
   simp only [sxZ,z6,z7,z8,j5,j6,j7,j8,j9,x3,x4,x5,x6,x7,x8,x9,reduceCtorEq,↓reduceIte,List.getElem?_set,hlen,Bool.not_false]
   subst hW
   simp only [sxZ,z6,z7,z8,j5,j6,j7,j8,j9,x3,x4,x5,x6,x7,x8,x9,reduceCtorEq,↓reduceIte,List.getElem?_set,hlen]
   rw [no (.inl ⟨x,kv3,hvx⟩)] at hk
   exact hk
  | true =>
   have hv':∀ j a,j < i + 1 → s[j]? = some a → zaQ a=true:=by
    intro j a hj ha
    by_cases e:j=i
    ·subst e
     rw [kv2] at ha; injection ha with ha; rw [← ha]; exact hvx
    ·exact hv j a (by omega) ha
   cases i with
   | zero =>
    have z:¬ (0:Int) < ((0:Nat):Int):=by decide
    simp only [sxZ,z6,z7,z8,j5,j6,j7,j8,j9,x3,x4,x5,x6,x7,x8,x9,reduceCtorEq,↓reduceIte,List.getElem?_set,hlen,Bool.not_true,z]
    subst hW
    simp only [sxZ,z6,z7,z8,j5,j6,j7,j8,j9,x3,x4,x5,x6,x7,x8,x9,reduceCtorEq,↓reduceIte,List.getElem?_set,hlen]
    subst hV
    simp only [sxZ,z6,z7,z8,j5,j6,j7,j8,j9,x3,x4,x5,x6,x7,x8,x9,reduceCtorEq,↓reduceIte,List.getElem?_set,hlen,t3,t8,t9,t10]
    exact ⟨by omega,s.length - 1,by omega,1,by omega,rfl,hv',fun j a b h => by omega,rfl⟩
   | succ i =>
    have z:(0:Int) < ((i + 1:Nat):Int):=by omega
    have z3:(((i + 1:Nat):Int) - 1)=(i:Int):=by omega
    have hj':i < s.length:=by omega
    have jv:(s.map AV.s)[i * 1]? = some (.s s[i]):=by rw [Nat.mul_one,List.getElem?_map,List.getElem?_eq_getElem hj']; rfl
    have jv2:s[i]? = some s[i]:=List.getElem?_eq_getElem hj'
    generalize s[i]=y at jv jv2
    by_cases ce:y=x
    ·simp only [sxZ,z6,z7,z8,j5,j6,j7,j8,j9,x3,x4,x5,x6,x7,x8,x9,reduceCtorEq,↓reduceIte,List.getElem?_set,hlen,Bool.not_true,z,z3,t3,Int.toNat_natCast,jv,List.length_map,ce,decide_true]
     refine ⟨⟨by omega,by omega⟩,⟨by omega,by omega,by omega⟩,?_⟩
     subst hW
     simp only [sxZ,z6,z7,z8,j5,j6,j7,j8,j9,x3,x4,x5,x6,x7,x8,x9,reduceCtorEq,↓reduceIte,List.getElem?_set,hlen]
     have hnn:¬ s.Nodup:=fun h => by
      have h1:=(List.getElem?_eq_some_iff.1 jv2).2
      have h2:=(List.getElem?_eq_some_iff.1 kv2).2
      exact List.pairwise_iff_getElem.1 h i (i + 1) hj' hi' (by omega) (by rw [h1,h2,ce])
     rw [no (.inr hnn)] at hk
     exact hk
    ·simp only [sxZ,z6,z7,z8,j5,j6,j7,j8,j9,x3,x4,x5,x6,x7,x8,x9,reduceCtorEq,↓reduceIte,List.getElem?_set,hlen,Bool.not_true,z,z3,t3,Int.toNat_natCast,jv,List.length_map,ce,decide_false]
     refine ⟨⟨by omega,by omega⟩,⟨by omega,by omega,by omega⟩,?_⟩
     subst hW
     simp only [sxZ,z6,z7,z8,j5,j6,j7,j8,j9,x3,x4,x5,x6,x7,x8,x9,reduceCtorEq,↓reduceIte,List.getElem?_set,hlen]
     subst hV
     simp only [sxZ,z6,z7,z8,j5,j6,j7,j8,j9,x3,x4,x5,x6,x7,x8,x9,reduceCtorEq,↓reduceIte,List.getElem?_set,hlen,t3,t8,t9,t10]
     refine ⟨by omega,s.length - (i + 1 + 1),by omega,i + 1 + 1,by omega,rfl,hv',fun j a b hj ha hb => ?_,rfl⟩
     by_cases e:j=i
     ·subst e
      rw [jv2] at ha; injection ha with ha
      rw [kv2] at hb; injection hb with hb
      rw [← ha,← hb]; exact ce
     ·exact hd j a b (by omega) ha hb
 simp only [sxZ,z6,z7,z8,j5,j6,j7,j8,j9,x3,x4,x5,x6,x7,x8,x9,reduceCtorEq,↓reduceIte,List.getElem?_set,hlen,t3,t8,t9,t10,hlt]
 subst hW
 subst hZ
 simp only [sxZ,z6,z7,z8,j5,j6,j7,j8,j9,x3,x4,x5,x6,x7,x8,x9,reduceCtorEq,↓reduceIte,List.getElem?_set,hlen]
 have hyes:zfq l=true:=by
  unfold zfq
  have h1:s.Nodup:=zeu hso fun j a b ha hb => hd j a b (by have:=(List.getElem?_eq_some_iff.1 hb).1; omega) ha hb
  have h2:l.all zaQ=true:=by
   rw [List.all_eq_true]
   intro k hk
   obtain ⟨j,hj⟩:=List.mem_iff_getElem?.1 (hp.mem_iff.2 hk)
   exact hv j k (by have:=(List.getElem?_eq_some_iff.1 hj).1; omega) hj
  rw [h2,decide_eq_true (hp.nodup_iff.1 h1)]; rfl
 rw [hyes] at hk
 exact hk
end
end
section
attribute [local irreducible] run
mutual
/-- how many values there are within depth d; 0 if too deep -/
def zbQ:JV → Int → Int
 | .mk k t ks its,d => if 64 < (if k=6 ∨ k=7 then d + 1 else d) then 0 else zdt its (if k=6 ∨ k=7 then d + 1 else d) 1
def zdt:List JV → Int → Int → Int
 | [],_,n => n
 | v :: l,d,n => if zbQ v d=0 then 0 else if 20000 < n + zbQ v d then 20001 else zdt l d (n + zbQ v d)
end
mutual
theorem zgt:∀ (v:JV) (d:Int),0 ≤ zbQ v d ∧ zbQ v d ≤ 20001
 | .mk k t ks its,d => by
  rw [zbQ]
  generalize (if k=6 ∨ k=7 then d + 1 else d)=e
  by_cases h:64 < e
  ·rw [if_pos h]; omega
  ·rw [if_neg h]; exact zj4 its e 1 (by decide) (by decide)
theorem zj4:∀ (l:List JV) (d n:Int),0 ≤ n → n ≤ 20000 → 0 ≤ zdt l d n ∧ zdt l d n ≤ 20001
 | [],d,n,h1,h2 => by rw [zdt]; omega
 | v :: l,d,n,h1,h2 => by
  rw [zdt]
  have h:=zgt v d
  split
  ·omega
  split
  ·omega
  ·exact zj4 l d _ (by omega) (by omega)
end
theorem jcntE_eq (v:JV) (d:Int):zbQ v d=if 64 < (if v.kind=6 ∨ v.kind=7 then d + 1 else d) then 0 else zdt v.items (if v.kind=6 ∨ v.kind=7 then d + 1 else d) 1:=by cases v; rw [zbQ]; rfl
theorem zgr {α:Type} {l:List α} {i:Nat} (hi:i < l.length):l.drop i=l[i] :: l.drop (i + 1):=List.drop_eq_getElem_cons hi
section
variable [Tabs Tryz.prog]
theorem count_k:∀ (m:Nat) (v:JV) (d:Int),v.size < m → JLn v → 0 ≤ d → d ≤ 64 → ∀ {objs:List OB} {K:List OB → AV → Prop},K objs (.i .i64 (zbQ v d)) → zad Tryz.prog 47 [.agg (zaq v),.i .i64 d] objs K:=by
 intro m
 induction m with
 | zero => intro v d h; omega
 | succ m ih =>
  intro v d hm hv hd hd2 objs K hk
  obtain ⟨l1,l2⟩:=hv.lens
  refine zbb is_ref15_count (by simp only [zam,AV.plain,zbr,Bool.and_self]) fun C _ => ?_
  rw [c_ref15_count]
  refine zaa fun Z hZ => ?_
  simp only [sxZ,z6,z7,z8,j5,j6,j7,j8,j9,x3,x4,x5,x6,x7,x8,x9,reduceCtorEq,↓reduceIte]
  have e0:OB.box 26 (zaq v)=OB.box 26 [.i .i64 v.kind,.s v.text,.row v.keys.length (v.keys.map .s),.row v.items.length (zac v.items)]:=by rw [zap]
  rw [e0]
  rw [jcntE_eq] at hk
  subst hZ
  refine zaa fun Z hZ => ?_
  simp only [sxZ,z6,z7,z8,j5,j6,j7,j8,j9,x3,x4,x5,x6,x7,x8,x9,reduceCtorEq,↓reduceIte]
  subst hZ
  refine zaa fun Z hZ => ?_
  generalize hin:(if v.kind=6 ∨ v.kind=7 then d + 1 else d)=inn at hk
  have hinb:0 ≤ inn ∧ inn ≤ 65:=by rw [← hin]; split <;> omega
  refine zaM (fun o tm => o=[OB.box 26 [.i .i64 v.kind,.s v.text,.row v.keys.length (v.keys.map .s),.row v.items.length (zac v.items)]] ∧ tm.length=42 ∧ tm[2]? = some (.p 0 0) ∧ tm[5]? = some (.i .i64 inn)) ?_ ?_
  ·by_cases c6:v.kind=6
   ·rw [if_pos (.inl c6)] at hin
    subst hin
    simp only [sxZ,z6,z7,z8,j5,j6,j7,j8,j9,x3,x4,x5,x6,x7,x8,x9,reduceCtorEq,↓reduceIte,c6,zab,and_self,and_true]
    omega
   by_cases c7:v.kind=7
   ·rw [if_pos (.inr c7)] at hin
    subst hin
    simp only [sxZ,z6,z7,z8,j5,j6,j7,j8,j9,x3,x4,x5,x6,x7,x8,x9,reduceCtorEq,↓reduceIte,c6,c7,zab,and_self,and_true]
    omega
   ·rw [if_neg (by omega)] at hin
    subst hin
    simp only [sxZ,z6,z7,z8,j5,j6,j7,j8,j9,x3,x4,x5,x6,x7,x8,x9,reduceCtorEq,↓reduceIte,c6,c7,zab,and_self,and_true]
  rintro _ tm ⟨rfl,hlen,t2,t5⟩
  subst hZ
  refine zaa fun Z hZ => ?_
  by_cases c64:64 < inn
  ·rw [if_pos c64] at hk
   simp only [sxZ,z6,z7,z8,j5,j6,j7,j8,j9,x3,x4,x5,x6,x7,x8,x9,reduceCtorEq,↓reduceIte,List.getElem?_set,hlen,t5,c64]
   exact hk
  rw [if_neg c64] at hk
  simp only [sxZ,z6,z7,z8,j5,j6,j7,j8,j9,x3,x4,x5,x6,x7,x8,x9,reduceCtorEq,↓reduceIte,List.getElem?_set,hlen,t5,c64]
  subst hZ
  refine zaa fun Z hZ => ?_
  simp only [sxZ,z6,z7,z8,j5,j6,j7,j8,j9,x3,x4,x5,x6,x7,x8,x9,reduceCtorEq,↓reduceIte,List.getElem?_set,hlen]
  subst hZ
  refine zaa fun Z hZ => ?_
  simp only [sxZ,z6,z7,z8,j5,j6,j7,j8,j9,x3,x4,x5,x6,x7,x8,x9,reduceCtorEq,↓reduceIte,List.getElem?_set,hlen,t2,t5]
  refine zaO (fun n o tm => ∃ (i:Nat) (b:Int),i ≤ v.items.length ∧ n=v.items.length - i ∧ 1 ≤ b ∧ b ≤ 20000 ∧ zdt v.items inn 1=zdt (v.items.drop i) inn b ∧ tm.length=42 ∧ tm[5]? = some (.i .i64 inn) ∧ tm[6]? = some (.i .i64 b) ∧ tm[24]? = some (.row v.items.length (zac v.items)) ∧ tm[25]? = some (.i .i64 (v.items.length:Int)) ∧ tm[26]? = some (.i .i64 (i:Int))) v.items.length ⟨0,1,Nat.zero_le _,rfl,by decide,by decide,rfl,?_⟩ ?_
  ·simp only [sxZ,z6,z7,z8,j5,j6,j7,j8,j9,x3,x4,x5,x6,x7,x8,x9,reduceCtorEq,↓reduceIte,List.length_set,List.getElem?_set,hlen,t2,t5,Int.cast_ofNat_Int,and_self]
  clear hlen t2 t5
  rintro n o tm ⟨i,b,hi,rfl,hb,hb2,hc,hlen,t5,t6,t24,t25,t26⟩
  refine zaa fun W hW => ?_
  by_cases hlt:(i:Int) < (v.items.length:Int)
  ·have hi':i < v.items.length:=by omega
   have hjc:=ziI hi'
   have hjl:=zaV v.items
   have hit:=hv.its hi'
   have hsz:=zcp hi'
   rw [zgr hi',zdt] at hc
   generalize v.items[i]=x at hjc hit hsz hc
   have hbd:=zgt x inn
   have hcall:=fun {objs:List OB} {K:List OB → AV → Prop} (h) => ih x inn (by omega) hit (by omega) (by omega) (objs:=objs) (K:=K) h
   generalize zbQ x inn=cx at hcall hbd hc
   obtain ⟨q0,q1,q2,q3,hq⟩:∃ q0 q1 q2 q3,zaq x=[q0,q1,q2,q3]:=⟨_,_,_,_,zap x⟩
   rw [hq] at hjc hcall
   simp only [sxZ,z6,z7,z8,j5,j6,j7,j8,j9,x3,x4,x5,x6,x7,x8,x9,reduceCtorEq,↓reduceIte,List.getElem?_set,hlen,t24,t25,t26,hlt]
   subst hW
   refine zaa fun W hW => ?_
   simp only [sxZ,z6,z7,z8,j5,j6,j7,j8,j9,x3,x4,x5,x6,x7,x8,x9,reduceCtorEq,↓reduceIte,List.getElem?_set,hlen]
   subst hW
   refine zaa fun V hV => ?_
   rw [zaX]
   refine zaa fun W hW => ?_
   simp only [sxZ,z6,z7,z8,j5,j6,j7,j8,j9,x3,x4,x5,x6,x7,x8,x9,reduceCtorEq,↓reduceIte,List.getElem?_set,hlen,t24,t26,hjc]
   refine ⟨⟨by omega,by omega,by omega⟩,by omega,?_⟩
   simp only [sxZ,z6,z7,z8,j5,j6,j7,j8,j9,x3,x4,x5,x6,x7,x8,x9,reduceCtorEq,↓reduceIte,List.getElem?_set,hlen,gn1,sn1]
   subst hW
   refine zaa fun W hW => ?_
   simp only [sxZ,z6,z7,z8,j5,j6,j7,j8,j9,x3,x4,x5,x6,x7,x8,x9,reduceCtorEq,↓reduceIte,List.getElem?_set,hlen,t5,gn1]
   refine zal (hcall ?_)
   simp only [sxZ,z6,z7,z8,j5,j6,j7,j8,j9,x3,x4,x5,x6,x7,x8,x9,reduceCtorEq,↓reduceIte,List.getElem?_set,hlen]
   subst hW
   refine zaa fun W hW => ?_
   by_cases c0:cx=0
   ·rw [if_pos c0] at hc
    simp only [sxZ,z6,z7,z8,j5,j6,j7,j8,j9,x3,x4,x5,x6,x7,x8,x9,reduceCtorEq,↓reduceIte,List.getElem?_set,hlen,c0]
    rw [hc] at hk
    exact hk
   rw [if_neg c0] at hc
   simp only [sxZ,z6,z7,z8,j5,j6,j7,j8,j9,x3,x4,x5,x6,x7,x8,x9,reduceCtorEq,↓reduceIte,List.getElem?_set,hlen,c0]
   subst hW
   refine zaa fun W hW => ?_
   simp only [sxZ,z6,z7,z8,j5,j6,j7,j8,j9,x3,x4,x5,x6,x7,x8,x9,reduceCtorEq,↓reduceIte,List.getElem?_set,hlen,t6]
   refine ⟨⟨by omega,by omega⟩,?_⟩
   subst hW
   by_cases c9:20000 < b + cx
   ·rw [if_pos c9] at hc
    simp only [sxZ,z6,z7,z8,j5,j6,j7,j8,j9,x3,x4,x5,x6,x7,x8,x9,reduceCtorEq,↓reduceIte,List.getElem?_set,hlen,c9]
    rw [hc] at hk
    exact hk
   rw [if_neg c9] at hc
   simp only [sxZ,z6,z7,z8,j5,j6,j7,j8,j9,x3,x4,x5,x6,x7,x8,x9,reduceCtorEq,↓reduceIte,List.getElem?_set,hlen,c9]
   subst hV
   simp only [sxZ,z6,z7,z8,j5,j6,j7,j8,j9,x3,x4,x5,x6,x7,x8,x9,reduceCtorEq,↓reduceIte,List.getElem?_set,hlen,t5,t24,t25,t26]
   exact ⟨by omega,v.items.length - (i + 1),by omega,i + 1,b + cx,by omega,rfl,by omega,by omega,hc,rfl,rfl⟩
  simp only [sxZ,z6,z7,z8,j5,j6,j7,j8,j9,x3,x4,x5,x6,x7,x8,x9,reduceCtorEq,↓reduceIte,List.getElem?_set,hlen,t24,t25,t26,hlt]
  subst hW
  subst hZ
  simp only [sxZ,z6,z7,z8,j5,j6,j7,j8,j9,x3,x4,x5,x6,x7,x8,x9,reduceCtorEq,↓reduceIte,List.getElem?_set,hlen,t6]
  rw [hc,List.drop_eq_nil_of_le (by omega),zdt] at hk
  exact hk
end
end
section
attribute [local irreducible] run
mutual
/-- does it have the right fields? -/
def ze1:JV → Bool
 | .mk k t ks its =>
  if k=1 ∨ k=3 ∨ k=2 then decide (t=[]) && (decide (ks.length=0) && decide (its.length=0))
  else if k=4 then decide ((zcF t).1=0) && (decide ((zcF t).2=t) && (decide (ks.length=0) && decide (its.length=0)))
  else if k=5 then zaQ t && (decide (ks.length=0) && decide (its.length=0))
  else if k=6 then decide (t=[]) && (decide (ks.length=0) && zd2 its)
  else if k=7 then decide (t=[]) && (decide (ks.length=its.length) && (zfq ks && zd2 its))
  else false
def zd2:List JV → Bool
 | [] => true
 | v :: l => ze1 v && zd2 l
end
theorem zlM (v:JV):ze1 v =
  if v.kind=1 ∨ v.kind=3 ∨ v.kind=2 then decide (v.text=[]) && (decide (v.keys.length=0) && decide (v.items.length=0))
  else if v.kind=4 then decide ((zcF v.text).1=0) && (decide ((zcF v.text).2=v.text) && (decide (v.keys.length=0) && decide (v.items.length=0)))
  else if v.kind=5 then zaQ v.text && (decide (v.keys.length=0) && decide (v.items.length=0))
  else if v.kind=6 then decide (v.text=[]) && (decide (v.keys.length=0) && zd2 v.items)
  else if v.kind=7 then decide (v.text=[]) && (decide (v.keys.length=v.items.length) && (zfq v.keys && zd2 v.items))
  else false:=by cases v; rw [ze1]; rfl
def zgM (v:JV):Bool:=decide (0 < zbQ v 0 ∧ zbQ v 0 ≤ 20000) && ze1 v
section
variable [Tabs Tryz.prog]
theorem shape_k:∀ (m:Nat) (v:JV),v.size < m → JKp v → ∀ {objs:List OB} {K:List OB → AV → Prop},K objs (.b (ze1 v)) → zad Tryz.prog 48 [.agg (zaq v)] objs K:=by
 intro m
 induction m with
 | zero => intro v h; omega
 | succ m ih =>
  intro v hm hv objs K hk
  obtain ⟨l1,l2,l3,l4⟩:=hv.lens
  refine zbb is_ref15_shape (by simp only [zam,AV.plain,zbr,Bool.and_self]) fun C _ => ?_
  rw [c_ref15_shape]
  refine zaa fun Z hZ => ?_
  simp only [sxZ,z6,z7,z8,j5,j6,j7,j8,j9,x3,x4,x5,x6,x7,x8,x9,reduceCtorEq,↓reduceIte]
  have e0:OB.box 26 (zaq v)=OB.box 26 [.i .i64 v.kind,.s v.text,.row v.keys.length (v.keys.map .s),.row v.items.length (zac v.items)]:=by rw [zap]
  rw [e0]
  rw [zlM] at hk
  have z0:∀ n:Nat,decide ((n:Int)=0)=decide (n=0):=fun n => decide_eq_decide.2 (by omega)
  subst hZ
  refine zaa fun Z hZ => ?_
  refine zaa fun W hW => ?_
  simp only [sxZ,z6,z7,z8,j5,j6,j7,j8,j9,x3,x4,x5,x6,x7,x8,x9,reduceCtorEq,↓reduceIte]
  subst hW
  rw [zaX]
  have loop:∀ (tm:List AV),tm.length=115 → tm[1]? = some (.p 0 0) → K objs (.b (zd2 v.items)) → run Tryz.prog C [.code Z] [OB.box 26 [.i .i64 v.kind,.s v.text,.row v.keys.length (v.keys.map .s),.row v.items.length (zac v.items)]] tm (endK [.tmp 2] fun r => K objs r):=by
   intro tm hlen t1 hk
   have z115:=hlen
   subst hZ
   refine zaa fun Z hZ => ?_
   refine zaa fun W hW => ?_
   simp only [sxZ,z6,z7,z8,j5,j6,j7,j8,j9,x3,x4,x5,x6,x7,x8,x9,reduceCtorEq,↓reduceIte,List.getElem?_set,hlen,t1]
   subst hW
   rw [zaX]
   refine zaO (fun n o tm => ∃ i:Nat,i ≤ v.items.length ∧ n=v.items.length - i ∧ zd2 v.items=zd2 (v.items.drop i) ∧ tm.length=115 ∧ tm[105]? = some (.row v.items.length (zac v.items)) ∧ tm[106]? = some (.i .i64 (v.items.length:Int)) ∧ tm[107]? = some (.i .i64 (i:Int))) v.items.length ⟨0,Nat.zero_le _,rfl,rfl,?_⟩ ?_
   ·simp only [sxZ,z6,z7,z8,j5,j6,j7,j8,j9,x3,x4,x5,x6,x7,x8,x9,reduceCtorEq,↓reduceIte,List.length_set,List.getElem?_set,hlen,t1,Int.cast_ofNat_Int,and_self]
   clear hlen t1 z115
   rintro n o tm ⟨i,hi,rfl,hc,hlen,t105,t106,t107⟩
   refine zaa fun W hW => ?_
   by_cases hlt:(i:Int) < (v.items.length:Int)
   ·have hi':i < v.items.length:=by omega
    have hjc:=ziI hi'
    have hjl:=zaV v.items
    have hit:=hv.its hi'
    have hsz:=zcp hi'
    rw [zgr hi',zd2] at hc
    generalize v.items[i]=x at hjc hit hsz hc
    have hcall:=fun {objs:List OB} {K:List OB → AV → Prop} (h) => ih x (by omega) hit (objs:=objs) (K:=K) h
    generalize ze1 x=sx at hcall hc
    obtain ⟨q0,q1,q2,q3,hq⟩:∃ q0 q1 q2 q3,zaq x=[q0,q1,q2,q3]:=⟨_,_,_,_,zap x⟩
    rw [hq] at hjc hcall
    simp only [sxZ,z6,z7,z8,j5,j6,j7,j8,j9,x3,x4,x5,x6,x7,x8,x9,reduceCtorEq,↓reduceIte,List.getElem?_set,hlen,t105,t106,t107,hlt]
    subst hW
    refine zaa fun W hW => ?_
    simp only [sxZ,z6,z7,z8,j5,j6,j7,j8,j9,x3,x4,x5,x6,x7,x8,x9,reduceCtorEq,↓reduceIte,List.getElem?_set,hlen]
    subst hW
    refine zaa fun V hV => ?_
    rw [zaX]
    refine zaa fun W hW => ?_
    simp only [sxZ,z6,z7,z8,j5,j6,j7,j8,j9,x3,x4,x5,x6,x7,x8,x9,reduceCtorEq,↓reduceIte,List.getElem?_set,hlen,t105,t107,hjc]
    refine ⟨⟨by omega,by omega,by omega⟩,by omega,?_⟩
    simp only [sxZ,z6,z7,z8,j5,j6,j7,j8,j9,x3,x4,x5,x6,x7,x8,x9,reduceCtorEq,↓reduceIte,List.getElem?_set,hlen,gn1,sn1]
    subst hW
    refine zaa fun W hW => ?_
    simp only [sxZ,z6,z7,z8,j5,j6,j7,j8,j9,x3,x4,x5,x6,x7,x8,x9,reduceCtorEq,↓reduceIte,List.getElem?_set,hlen,gn1]
    refine zal (hcall ?_)
    cases sx with
    | false =>
     simp only [sxZ,z6,z7,z8,j5,j6,j7,j8,j9,x3,x4,x5,x6,x7,x8,x9,reduceCtorEq,↓reduceIte,List.getElem?_set,hlen,Bool.not_false]
     subst hW
     simp only [sxZ,z6,z7,z8,j5,j6,j7,j8,j9,x3,x4,x5,x6,x7,x8,x9,reduceCtorEq,↓reduceIte,List.getElem?_set,hlen]
     rw [hc] at hk
     exact hk
    | true =>
     simp only [sxZ,z6,z7,z8,j5,j6,j7,j8,j9,x3,x4,x5,x6,x7,x8,x9,reduceCtorEq,↓reduceIte,List.getElem?_set,hlen,Bool.not_true]
     subst hW
     simp only [sxZ,z6,z7,z8,j5,j6,j7,j8,j9,x3,x4,x5,x6,x7,x8,x9,reduceCtorEq,↓reduceIte,List.getElem?_set,hlen]
     subst hV
     simp only [sxZ,z6,z7,z8,j5,j6,j7,j8,j9,x3,x4,x5,x6,x7,x8,x9,reduceCtorEq,↓reduceIte,List.getElem?_set,hlen,t105,t106,t107]
     exact ⟨by omega,v.items.length - (i + 1),by omega,i + 1,by omega,rfl,hc,rfl⟩
   simp only [sxZ,z6,z7,z8,j5,j6,j7,j8,j9,x3,x4,x5,x6,x7,x8,x9,reduceCtorEq,↓reduceIte,List.getElem?_set,hlen,t105,t106,t107,hlt]
   subst hW
   subst hZ
   simp only [sxZ,z6,z7,z8,j5,j6,j7,j8,j9,x3,x4,x5,x6,x7,x8,x9,reduceCtorEq,↓reduceIte,List.getElem?_set,hlen]
   rw [hc,List.drop_eq_nil_of_le (by omega),zd2] at hk
   exact hk
  by_cases a1:v.kind=1 ∨ v.kind=3 ∨ v.kind=2
  ·rw [if_pos a1] at hk
   rw [← z0,← z0] at hk
   by_cases b1:v.text=[]
   ·by_cases b2:(v.keys.length:Int)=0
    ·simp only [b1,b2,decide_true,Bool.true_and] at hk
     rcases a1 with a1 | a1 | a1
     all_goals
      simp only [sxZ,z6,z7,z8,j5,j6,j7,j8,j9,x3,x4,x5,x6,x7,x8,x9,reduceCtorEq,↓reduceIte,a1,b1,b2]
      exact hk
    ·simp only [b1,b2,decide_true,decide_false,Bool.true_and,Bool.false_and] at hk
     rcases a1 with a1 | a1 | a1
     all_goals
      simp only [sxZ,z6,z7,z8,j5,j6,j7,j8,j9,x3,x4,x5,x6,x7,x8,x9,reduceCtorEq,↓reduceIte,a1,b1,b2]
      exact hk
   ·simp only [b1,decide_false,Bool.false_and] at hk
    rcases a1 with a1 | a1 | a1
    all_goals
     simp only [sxZ,z6,z7,z8,j5,j6,j7,j8,j9,x3,x4,x5,x6,x7,x8,x9,reduceCtorEq,↓reduceIte,a1,b1]
     exact hk
  rw [if_neg a1] at hk
  have n1:¬ v.kind=1:=fun h => a1 (.inl h)
  have n3:¬ v.kind=3:=fun h => a1 (.inr (.inl h))
  have n2:¬ v.kind=2:=fun h => a1 (.inr (.inr h))
  by_cases a4:v.kind=4
  ·rw [if_pos a4] at hk
   rw [← z0,← z0] at hk
   simp only [sxZ,z6,z7,z8,j5,j6,j7,j8,j9,x3,x4,x5,x6,x7,x8,x9,reduceCtorEq,↓reduceIte,a4]
   refine zal (zlX v.text (by omega) ?_)
   by_cases b1:(zcF v.text).1=0
   ·by_cases b2:(zcF v.text).2=v.text
    ·by_cases b3:(v.keys.length:Int)=0
     ·simp only [b1,b2,b3,decide_true,Bool.true_and] at hk
      simp only [sxZ,z6,z7,z8,j5,j6,j7,j8,j9,x3,x4,x5,x6,x7,x8,x9,reduceCtorEq,↓reduceIte,b1,b2,b3]
      exact hk
     ·simp only [b1,b2,b3,decide_true,decide_false,Bool.true_and,Bool.false_and] at hk
      simp only [sxZ,z6,z7,z8,j5,j6,j7,j8,j9,x3,x4,x5,x6,x7,x8,x9,reduceCtorEq,↓reduceIte,b1,b2,b3]
      exact hk
    ·simp only [b1,b2,decide_true,decide_false,Bool.true_and,Bool.false_and] at hk
     simp only [sxZ,z6,z7,z8,j5,j6,j7,j8,j9,x3,x4,x5,x6,x7,x8,x9,reduceCtorEq,↓reduceIte,b1,b2]
     exact hk
   ·simp only [b1,decide_false,Bool.false_and] at hk
    simp only [sxZ,z6,z7,z8,j5,j6,j7,j8,j9,x3,x4,x5,x6,x7,x8,x9,reduceCtorEq,↓reduceIte,b1]
    exact hk
  rw [if_neg a4] at hk
  by_cases a5:v.kind=5
  ·rw [if_pos a5] at hk
   rw [← z0,← z0] at hk
   simp only [sxZ,z6,z7,z8,j5,j6,j7,j8,j9,x3,x4,x5,x6,x7,x8,x9,reduceCtorEq,↓reduceIte,a5]
   refine zal (zha v.text (by omega) ?_)
   cases b1:zaQ v.text with
   | false =>
    rw [b1] at hk
    simp only [sxZ,z6,z7,z8,j5,j6,j7,j8,j9,x3,x4,x5,x6,x7,x8,x9,reduceCtorEq,↓reduceIte]
    exact hk
   | true =>
    rw [b1] at hk
    by_cases b3:(v.keys.length:Int)=0
    ·simp only [b3,decide_true,Bool.true_and] at hk
     simp only [sxZ,z6,z7,z8,j5,j6,j7,j8,j9,x3,x4,x5,x6,x7,x8,x9,reduceCtorEq,↓reduceIte,b3]
     exact hk
    ·simp only [b3,decide_false,Bool.true_and,Bool.false_and] at hk
     simp only [sxZ,z6,z7,z8,j5,j6,j7,j8,j9,x3,x4,x5,x6,x7,x8,x9,reduceCtorEq,↓reduceIte,b3]
     exact hk
  rw [if_neg a5] at hk
  by_cases a6:v.kind=6
  ·rw [if_pos a6] at hk
   rw [← z0] at hk
   by_cases b1:v.text=[]
   ·by_cases b2:(v.keys.length:Int)=0
    ·simp only [b1,b2,decide_true,Bool.true_and] at hk
     simp only [a6,b1] at loop
     simp only [sxZ,z6,z7,z8,j5,j6,j7,j8,j9,x3,x4,x5,x6,x7,x8,x9,reduceCtorEq,↓reduceIte,a6,b1,b2]
     exact loop _ rfl rfl hk
    ·simp only [b1,b2,decide_true,decide_false,Bool.true_and,Bool.false_and] at hk
     simp only [sxZ,z6,z7,z8,j5,j6,j7,j8,j9,x3,x4,x5,x6,x7,x8,x9,reduceCtorEq,↓reduceIte,a6,b1,b2]
     exact hk
   ·simp only [b1,decide_false,Bool.false_and] at hk
    simp only [sxZ,z6,z7,z8,j5,j6,j7,j8,j9,x3,x4,x5,x6,x7,x8,x9,reduceCtorEq,↓reduceIte,a6,b1]
    exact hk
  rw [if_neg a6] at hk
  by_cases a7:v.kind=7
  ·rw [if_pos a7] at hk
   have z1:decide ((v.keys.length:Int)=v.items.length)=decide (v.keys.length=v.items.length):=decide_eq_decide.2 (by omega)
   rw [← z1] at hk
   by_cases b1:v.text=[]
   ·by_cases b2:(v.keys.length:Int)=v.items.length
    ·simp only [b1,b2,decide_true,Bool.true_and] at hk
     simp only [a7,b1] at loop
     simp only [sxZ,z6,z7,z8,j5,j6,j7,j8,j9,x3,x4,x5,x6,x7,x8,x9,reduceCtorEq,↓reduceIte,a7,b1,b2]
     refine zal (ziT v.keys (by omega) (fun k hk => by have:=l4 k hk; omega) ?_)
     cases b3:zfq v.keys with
     | false =>
      rw [b3] at hk
      simp only [sxZ,z6,z7,z8,j5,j6,j7,j8,j9,x3,x4,x5,x6,x7,x8,x9,reduceCtorEq,↓reduceIte,Bool.not_false]
      exact hk
     | true =>
      rw [b3] at hk
      simp only [sxZ,z6,z7,z8,j5,j6,j7,j8,j9,x3,x4,x5,x6,x7,x8,x9,reduceCtorEq,↓reduceIte,Bool.not_true]
      exact loop _ rfl rfl hk
    ·simp only [b1,b2,decide_true,decide_false,Bool.true_and,Bool.false_and] at hk
     simp only [sxZ,z6,z7,z8,j5,j6,j7,j8,j9,x3,x4,x5,x6,x7,x8,x9,reduceCtorEq,↓reduceIte,a7,b1,b2]
     exact hk
   ·simp only [b1,decide_false,Bool.false_and] at hk
    simp only [sxZ,z6,z7,z8,j5,j6,j7,j8,j9,x3,x4,x5,x6,x7,x8,x9,reduceCtorEq,↓reduceIte,a7,b1]
    exact hk
  rw [if_neg a7] at hk
  simp only [sxZ,z6,z7,z8,j5,j6,j7,j8,j9,x3,x4,x5,x6,x7,x8,x9,reduceCtorEq,↓reduceIte,n1,n2,n3,a4,a5,a6,a7]
  exact hk
theorem zlq (v:JV) (hv:JKp v) {objs:List OB} {K:List OB → AV → Prop} (hk:K objs (.b (zgM v))):zad Tryz.prog 27 [.agg (zaq v)] objs K:=by
 refine zbb is_ref15_Valid (by simp only [zam,AV.plain,zbr,Bool.and_self]) fun C _ => ?_
 rw [c_ref15_Valid]
 have hc:=fun {objs:List OB} {K:List OB → AV → Prop} (h) => count_k (v.size + 1) v 0 (Nat.lt_succ_self _) hv.bd.ln (by decide) (by decide) (objs:=objs) (K:=K) h
 have hs:=fun {objs:List OB} {K:List OB → AV → Prop} (h) => shape_k (v.size + 1) v (Nat.lt_succ_self _) hv (objs:=objs) (K:=K) h
 unfold zgM at hk
 generalize zbQ v 0=c at hc hk
 generalize ze1 v=b at hs hk
 obtain ⟨q0,q1,q2,q3,hq⟩:∃ q0 q1 q2 q3,zaq v=[q0,q1,q2,q3]:=⟨_,_,_,_,zap v⟩
 rw [hq] at hc hs ⊢
 refine zaa fun Z hZ => ?_
 simp only [sxZ,z6,z7,z8,j5,j6,j7,j8,j9,x3,x4,x5,x6,x7,x8,x9,reduceCtorEq,↓reduceIte]
 subst hZ
 refine zaa fun Z hZ => ?_
 simp only [sxZ,z6,z7,z8,j5,j6,j7,j8,j9,x3,x4,x5,x6,x7,x8,x9,reduceCtorEq,↓reduceIte]
 refine zal (hc ?_)
 simp only [sxZ,z6,z7,z8,j5,j6,j7,j8,j9,x3,x4,x5,x6,x7,x8,x9,reduceCtorEq,↓reduceIte]
 subst hZ
 by_cases c1:0 < c
 ·by_cases c2:c ≤ 20000
  ·simp only [sxZ,z6,z7,z8,j5,j6,j7,j8,j9,x3,x4,x5,x6,x7,x8,x9,reduceCtorEq,↓reduceIte,c1,c2]
   refine zal (hs ?_)
   simp only [sxZ,z6,z7,z8,j5,j6,j7,j8,j9,x3,x4,x5,x6,x7,x8,x9,reduceCtorEq,↓reduceIte]
   simp only [c1,c2,and_self,decide_true,Bool.true_and] at hk
   exact hk
  ·simp only [sxZ,z6,z7,z8,j5,j6,j7,j8,j9,x3,x4,x5,x6,x7,x8,x9,reduceCtorEq,↓reduceIte,c1,c2]
   simp only [c2,and_false,decide_false,Bool.false_and] at hk
   exact hk
 ·simp only [sxZ,z6,z7,z8,j5,j6,j7,j8,j9,x3,x4,x5,x6,x7,x8,x9,reduceCtorEq,↓reduceIte,c1]
  simp only [c1,false_and,decide_false,Bool.false_and] at hk
  exact hk
end
end
end Go.Proofs.YthmdohgkmdkeeaaGreatDoor
namespace Go.Proofs.YthmdohgkmdkeeaaGreatDoor
open Go.RowKit Sx
section
attribute [local irreducible] run
mutual
/-- equal, the order of keys aside -/
def jeqJ:JV → JV → Bool
 | .mk k t ks its,w => decide (k=w.kind) && (if k=1 ∨ k=2 ∨ k=3 then true else if k=4 ∨ k=5 then decide (t=w.text) else if k=6 then jeqL its w.items else if k=7 then decide (ks.length=w.keys.length) && zlf ks its w else false)
def jeqL:List JV → List JV → Bool
 | [],m => m.isEmpty
 | v :: l,m => match m with
  | [] => false
  | w :: m => jeqJ v w && jeqL l m
def zlf:List (List UInt8) → List JV → JV → Bool
 | ks,[],w => true
 | ks,v :: l,w => match ks with
  | [] => true
  | k :: ks => (zfU w k).2 && (jeqJ v (zfU w k).1 && zlf ks l w)
end
theorem ziH (v w:JV):jeqJ v w=(decide (v.kind=w.kind) && (if v.kind=1 ∨ v.kind=2 ∨ v.kind=3 then true else if v.kind=4 ∨ v.kind=5 then decide (v.text=w.text) else if v.kind=6 then jeqL v.items w.items else if v.kind=7 then decide (v.keys.length=w.keys.length) && zlf v.keys v.items w else false)):=by cases v; rw [jeqJ]; rfl
theorem ze0:∀ {l:List JV} (h:zd2 l=true) {i:Nat} (hi:i < l.length),ze1 l[i]=true
 | a :: l,h,0,hi => by rw [zd2,Bool.and_eq_true] at h; exact h.1
 | a :: l,h,i + 1,hi => by rw [zd2,Bool.and_eq_true] at h; exact ze0 h.2 (by simpa using hi)
theorem zeG {v:JV} (h:ze1 v=true):((v.kind=1 ∨ v.kind=2 ∨ v.kind=3 ∨ v.kind=4 ∨ v.kind=5) ∧ v.keys.length=0 ∧ v.items.length=0) ∨ (v.kind=6 ∧ v.keys.length=0 ∧ zd2 v.items=true) ∨ (v.kind=7 ∧ v.keys.length=v.items.length ∧ v.keys.Nodup ∧ zd2 v.items=true):=by
 rw [zlM] at h
 by_cases a1:v.kind=1 ∨ v.kind=3 ∨ v.kind=2
 ·rw [if_pos a1] at h
  simp only [Bool.and_eq_true,decide_eq_true_eq] at h
  exact .inl ⟨by omega,h.2.1,h.2.2⟩
 rw [if_neg a1] at h
 by_cases a4:v.kind=4
 ·rw [if_pos a4] at h
  simp only [Bool.and_eq_true,decide_eq_true_eq] at h
  exact .inl ⟨by omega,h.2.2.1,h.2.2.2⟩
 rw [if_neg a4] at h
 by_cases a5:v.kind=5
 ·rw [if_pos a5] at h
  simp only [Bool.and_eq_true,decide_eq_true_eq] at h
  exact .inl ⟨by omega,h.2.1,h.2.2⟩
 rw [if_neg a5] at h
 by_cases a6:v.kind=6
 ·rw [if_pos a6] at h
  simp only [Bool.and_eq_true,decide_eq_true_eq] at h
  exact .inr (.inl ⟨a6,h.2.1,h.2.2⟩)
 rw [if_neg a6] at h
 by_cases a7:v.kind=7
 ·rw [if_pos a7] at h
  unfold zfq at h
  simp only [Bool.and_eq_true,decide_eq_true_eq] at h
  exact .inr (.inr ⟨a7,h.2.1,h.2.2.1.1,h.2.2.2⟩)
 rw [if_neg a7] at h
 cases h
theorem zc0:∀ {l:List (List UInt8)} (h:l.Nodup) {i:Nat} (hi:i < l.length),zew l[i] l=i
 | a :: l,h,0,hi => by
  simp only [List.getElem_cons_zero]
  unfold zew; rw [if_pos rfl]
 | a :: l,h,i + 1,hi => by
  rw [List.nodup_cons] at h
  have hi':i < l.length:=by simpa using hi
  have hne:¬ a=l[i]:=fun e => h.1 (by rw [e]; exact List.getElem_mem _)
  unfold zew
  simp only [List.getElem_cons_succ]
  rw [if_neg hne,zc0 h.2 hi']
theorem ziN {v:JV} (h7:v.kind=7) (hl:v.keys.length=v.items.length) (hn:v.keys.Nodup) {i:Nat} (hi:i < v.keys.length):zfU v v.keys[i]=(v.items[i]'(by omega),true):=by
 unfold zfU
 rw [zc0 hn hi,if_pos ⟨h7,hi⟩,List.getElem?_eq_getElem (by omega)]
mutual
theorem zfh:∀ v:JV,ze1 v=true → jeqJ v v=true
 | .mk k t ks its,h => by
  have hk:=zeG h
  have h1:=fun (hs:zd2 its=true) => zhG its hs
  have h2:=fun (hs:zd2 its=true) (w:JV) (ks':List (List UInt8)) (hw:∀ i (h1:i < ks'.length) (h2:i < its.length),zfU w ks'[i]=(its[i],true)) => zhF its hs w ks' hw
  rw [ziH]
  simp only [JV.kind,JV.text,JV.keys,JV.items] at hk ⊢
  simp only [decide_true,Bool.true_and]
  rcases hk with ⟨h0,_⟩ | ⟨h0,_,hs⟩ | ⟨h0,hl,hn,hs⟩
  ·by_cases a:k=1 ∨ k=2 ∨ k=3
   ·rw [if_pos a]
   ·rw [if_neg a,if_pos (by omega)]
  ·rw [if_neg (by omega),if_neg (by omega),if_pos h0]
   exact h1 hs
  ·rw [if_neg (by omega),if_neg (by omega),if_neg (by omega),if_pos h0]
   exact h2 hs _ ks fun i q1 q2 => ziN (v:=.mk k t ks its) h0 hl hn q1
theorem zhG:∀ l:List JV,zd2 l=true → jeqL l l=true
 | [],_ => by rw [jeqL]; rfl
 | v :: l,h => by
  rw [zd2,Bool.and_eq_true] at h
  rw [jeqL,zfh v h.1,zhG l h.2]; rfl
theorem zhF:∀ (l:List JV),zd2 l=true → ∀ (w:JV) (ks:List (List UInt8)),(∀ i (h1:i < ks.length) (h2:i < l.length),zfU w ks[i]=(l[i],true)) → zlf ks l w=true
 | [],_,w,ks,_ => by rw [zlf]
 | v :: l,h,w,[],_ => by rw [zlf]
 | v :: l,h,w,k :: ks,hw => by
  rw [zd2,Bool.and_eq_true] at h
  have h0:=hw 0 (by simp) (by simp)
  simp only [List.getElem_cons_zero] at h0
  rw [zlf]
  simp only [h0]
  rw [zfh v h.1,zhF l h.2 w ks fun i h1 h2 => by
   have:=hw (i + 1) (by simpa using h1) (by simpa using h2)
   simpa only [List.getElem_cons_succ] using this]
  rfl
end
section
variable [Tabs Tryz.prog] {objs:List OB} {K:List OB → AV → Prop} {L:List (Nat × OB)}
end
end
end Go.Proofs.YthmdohgkmdkeeaaGreatDoor
namespace Go.Proofs.YthmdohgkmdkeeaaGreatDoor
open Go.RowKit Sx
section
attribute [local irreducible] run
end
end Go.Proofs.YthmdohgkmdkeeaaGreatDoor
namespace Go.Proofs.YthmdohgkmdkeeaaGreatDoor
open Go.RowKit Sx
section
attribute [local irreducible] run
end
end Go.Proofs.YthmdohgkmdkeeaaGreatDoor
namespace Go.Proofs.YthmdohgkmdkeeaaGreatDoor
open Nat renaming reduceAdd → z6, reduceSub → z7, reduceLeDiff → z8, reduceLT → j5, reduceMul → j6, reduceEqDiff → j7
open Int renaming reduceToNat → j8, reduceAdd → j9, reduceSub → x3, reduceMul → x4, reduceNeg → x5, reduceLT → x6, reduceLE → x7, reduceEq → x8, reduceNe → x9
open Go.RowKit Sx
section
attribute [local irreducible] run
theorem zeX {α:Type} (a l ys:List α) (n j:Nat) (h:a.length=n):zaG (a ++ l) (n + j) ys=a ++ zaG l j ys:=by
 subst h
 unfold zaG
 rw [List.take_append,List.drop_append,List.take_of_length_le (by omega),List.drop_eq_nil_of_le (by omega),show a.length + j - a.length=j by omega,show a.length + j + ys.length - a.length=j + ys.length by omega]
 simp
theorem zkI {α:Type} (a l ys:List α) (n:Nat) (h:a.length=n) (h2:l.length=ys.length):zaG (a ++ l) n ys=a ++ ys:=by
 have:=zeX a l ys n 0 h
 rw [Nat.add_zero] at this
 rw [this]
 unfold zaG
 rw [List.take_zero,Nat.zero_add,← h2,List.drop_length]
 simp
theorem zcD {α:Type} (a b:List α) (x:α):(x :: (a ++ b)).Perm (a ++ x :: b):=List.perm_middle.symm
theorem sp3 {α:Type} (d0:List α) (n:Nat) (a b c d e x:α) (h:d0.length=n * 5):List.take (n * 5 + 3) (d0 ++ [a,b,c,d,e]) ++ [x] ++ List.drop (n * 5 + 3 + 1) (d0 ++ [a,b,c,d,e])=d0 ++ [a,b,c,x,e]:=zeX d0 [a,b,c,d,e] [x] (n * 5) 3 h
theorem sp2 {α:Type} (d0:List α) (n:Nat) (a b c d e x:α) (h:d0.length=n * 5):List.take (n * 5 + 2) (d0 ++ [a,b,c,d,e]) ++ [x] ++ List.drop (n * 5 + 2 + 1) (d0 ++ [a,b,c,d,e])=d0 ++ [a,b,x,d,e]:=zeX d0 [a,b,c,d,e] [x] (n * 5) 2 h
theorem spE {α:Type} (l:List α) (n:Nat) (a b c d e f g i:α) (h:l.length=n * 4):List.take (n * 4) (l ++ [a,b,c,d]) ++ [e,f,g,i] ++ List.drop (n * 4 + 4) (l ++ [a,b,c,d])=l ++ [e,f,g,i]:=zkI l [a,b,c,d] [e,f,g,i] (n * 4) h rfl
theorem own_move {L0 Lk Lm:List (Nat × OB)} {a b q x:Nat × OB} {o:List OB} (h:zaE (x :: q :: a :: b :: (Lk ++ ([] ++ Lm) ++ L0)) o):zaE (a :: b :: (Lk ++ ([x] ++ Lm) ++ L0)) o:=by
 have h1:=h.sub (L':=x :: a :: b :: (Lk ++ ([] ++ Lm) ++ L0)) ((List.sublist_cons_self _ _).cons_cons x)
 refine h1.perm ?_
 have:=zcD (a :: b :: Lk) (Lm ++ L0) x
 simpa using this
section
variable [Tabs Tryz.prog] {objs:List OB} {K:List OB → AV → Prop}
theorem add_k {M:List (Nat × OB)} {p:Nat} {σ:Ms} (hP:PrO M p σ objs) (v:JV) (hl:∀ f ∈ σ.stk,f.its.length ≤ 10000000) (hd:σ.stk.length ≤ 64) (hk:∀ o,PrO M p (zcN σ v) o → K o (.tup [])):zad Tryz.prog 63 [.p p 0,.agg (zaq v)] objs K:=by
 obtain ⟨c0,c1,c2,c3,hv⟩:∃ c0 c1 c2 c3,zaq v=[c0,c1,c2,c3]:=⟨_,_,_,_,zap v⟩
 obtain ⟨σst,stk,nodes,root⟩:=σ
 cases stk with
 | nil =>
  obtain ⟨X,r0,r1,r2,r3,L,hO,hX,hpl,hr⟩:=hP
  have hcp:zam [c0,c1,c2,c3]=true:=by rw [← hv]; exact zbr v
  have hO1:=hO.new (.box 26 (zaq v))
  refine zcL is_jsondoc_parser_add fun C _ => ?_
  rw [c_jsondoc_parser_add]
  refine zaa fun Y hY => ?_
  simp only [sxZ,z6,z7,z8,j5,j6,j7,j8,j9,x3,x4,x5,x6,x7,x8,x9,reduceCtorEq,↓reduceIte]
  generalize objs ++ [OB.box 26 (zaq v)]=o1 at hO1 ⊢
  have e0:=hO1.get (i:=objs.length) (x:=.box 26 (zaq v)) (by simp)
  have e1:=hO1.get (i:=p) (x:=prB σst X nodes r0 r1 r2 r3) (by simp)
  have hO2:=(hO1.sub (List.sublist_cons_self _ _)).set (A:=[]) (prB 6 X nodes c0 c1 c2 c3)
  rw [hv] at e0
  subst hY
  have hXn:X=.nil ∨ ∃ rr g cs L',X=.orow rr g ∧ L=(rr,.orow 90 5 g 0 cs) :: L':=by
   rcases hX with ⟨_,h,_⟩ | ⟨rr,g,cs,L',h1,_,h2⟩
   ·exact .inl h
   ·exact .inr ⟨rr,g,cs,L',h1,h2⟩
  have fin:PrO M p (zcN ⟨σst,[],nodes,root⟩ v) (o1.set p (prB 6 X nodes c0 c1 c2 c3)):=⟨X,c0,c1,c2,c3,L,hO2,hX,hcp,fun _ => hv.symm⟩
  have hfin:=hk _ fin
  unfold prB at e1 hfin
  have hlt:=hO1.lt (i:=p) (x:=prB σst X nodes r0 r1 r2 r3) (by simp)
  have lse:∀ x,(o1.set p x)[p]? = some x:=fun x => List.getElem?_set_self hlt
  rcases hXn with rfl | ⟨rr,g,cs,L',rfl,rfl⟩
  ·refine zaa fun Y hY => ?_
   simp only [sxZ,z6,z7,z8,j5,j6,j7,j8,j9,x3,x4,x5,x6,x7,x8,x9,reduceCtorEq,↓reduceIte,e0,e1,lse,List.set_set]
   exact hfin
  ·have e2:=hO1.get (i:=rr) (x:=.orow 90 5 g 0 cs) (by simp)
   refine zaa fun Y hY => ?_
   simp only [sxZ,z6,z7,z8,j5,j6,j7,j8,j9,x3,x4,x5,x6,x7,x8,x9,reduceCtorEq,↓reduceIte,e0,e1,e2,lse,List.set_set,Int.cast_ofNat_Int]
   exact hfin
 | cons f r =>
  obtain ⟨rr,g,r0,r1,r2,r3,kx,ix,mx,d0,L0,Lk,Li,Lm,hO,h1,h2,h3,h4,h5,h6⟩:=zhp hP rfl
  have hfl:=hl f (by simp)
  have hrl:r.length ≤ 63:=by simpa using hd
  have hO1:=hO.new (.box 26 (zaq v))
  refine zcL is_jsondoc_parser_add fun C _ => ?_
  rw [c_jsondoc_parser_add]
  refine zaa fun Y hY => ?_
  simp only [sxZ,z6,z7,z8,j5,j6,j7,j8,j9,x3,x4,x5,x6,x7,x8,x9,reduceCtorEq,↓reduceIte]
  generalize objs ++ [OB.box 26 (zaq v)]=o1 at hO1 ⊢
  have e0:=hO1.get (i:=objs.length) (x:=.box 26 (zaq v)) (by simp)
  have e1:=hO1.get (i:=p) (x:=prB σst (.orow rr g) nodes r0 r1 r2 r3) (by simp)
  have e2:=hO1.get (i:=rr) (x:=.orow 90 5 g (r.length + 1) (d0 ++ [.i .i64 (kdF f),.s [],kx,ix,mx])) (by simp)
  have hne:((r.length + 1:Nat):Int) ≠ 0:=by omega
  rw [hv] at e0
  subst hY
  refine zaa fun Y hY => ?_
  have e1':=e1
  unfold prB at e1'
  simp only [sxZ,z6,z7,z8,j5,j6,j7,j8,j9,x3,x4,x5,x6,x7,x8,x9,reduceCtorEq,↓reduceIte,e0,e1',e2,hne]
  subst hY
  refine zaa fun Y hY => ?_
  simp only [sxZ,z6,z7,z8,j5,j6,j7,j8,j9,x3,x4,x5,x6,x7,x8,x9,reduceCtorEq,↓reduceIte]
  refine zal (zlv e1 e2 (by omega) ?_)
  simp only [sxZ,z6,z7,z8,j5,j6,j7,j8,j9,x3,x4,x5,x6,x7,x8,x9,reduceCtorEq,↓reduceIte]
  subst hY
  refine zaa fun Y hY => ?_
  have k3:=c5_at d0 [.i .i64 (kdF f),.s [],kx,ix,mx] r.length 3 h5
  rcases h2 with ⟨z1,z2,rfl,rfl⟩ | ⟨bi,gi,rfl,rfl⟩
  ·have f0:f.its=[]:=List.eq_nil_of_length_eq_zero z1
   have hlt:=hO1.lt (i:=rr) (x:=.orow 90 5 g (r.length + 1) (d0 ++ [.i .i64 (kdF f),.s [],kx,.nil,mx])) (by simp)
   have hne2:¬ o1.length=rr:=by omega
   have gx:∀ x,(o1 ++ [x])[rr]? = some (.orow 90 5 g (r.length + 1) (d0 ++ [.i .i64 (kdF f),.s [],kx,.nil,mx])):=fun x => by rw [List.getElem?_append_left hlt]; exact e2
   simp only [sxZ,z6,z7,z8,j5,j6,j7,j8,j9,x3,x4,x5,x6,x7,x8,x9,reduceCtorEq,↓reduceIte,e0,e2,Nat.add_zero,k3,gn1,sn1,gx,hne2]
   rw [sp3 _ _ _ _ _ _ _ _ h5]
   refine ⟨by decide,by omega,?_⟩
   have hN:=hO1.new (.orow 26 4 0 1 [c0,c1,c2,c3])
   have hR:=hN.set (A:=[(o1.length,.orow 26 4 0 1 [c0,c1,c2,c3]),(objs.length,.box 26 (zaq v)),(p,prB σst (.orow rr g) nodes r0 r1 r2 r3)]) (.orow 90 5 g (r.length + 1) (d0 ++ [.i .i64 (kdF f),.s [],kx,.orow o1.length 0,mx]))
   have hF:=hR.set (A:=[(o1.length,.orow 26 4 0 1 [c0,c1,c2,c3]),(objs.length,.box 26 (zaq v))]) (prB 5 (.orow rr g) nodes r0 r1 r2 r3)
   have e5:=hR.get (i:=p) (x:=prB σst (.orow rr g) nodes r0 r1 r2 r3) (by simp)
   have hS:SlO 26 4 (f.its ++ [v]).length (zac (f.its ++ [v])) (.orow o1.length 0) [(o1.length,.orow 26 4 0 1 [c0,c1,c2,c3])]:=.inr ⟨_,_,rfl,by rw [f0,List.nil_append,zay,zau,hv]; rfl⟩
   have hfin:=hk _ (zkU (root:=root) (r:=r) (f:=⟨f.obj,f.ks,f.its ++ [v]⟩) (own_move hF) h1 hS h3 h4 h6 (by decide))
   unfold prB at e5 hfin
   generalize (o1 ++ [OB.orow 26 4 0 1 [c0,c1,c2,c3]]).set rr _=o2 at e5 hfin ⊢
   subst hY
   simp only [sxZ,z6,z7,z8,j5,j6,j7,j8,j9,x3,x4,x5,x6,x7,x8,x9,reduceCtorEq,↓reduceIte,e5]
   exact hfin
  ·have e4:=hO1.get (i:=bi) (x:=.orow 26 4 gi f.its.length (zac f.its)) (by simp)
   have hlt:=hO1.lt (i:=rr) (x:=.orow 90 5 g (r.length + 1) (d0 ++ [.i .i64 (kdF f),.s [],kx,.orow bi gi,mx])) (by simp)
   have hlt4:=hO1.lt (i:=bi) (x:=.orow 26 4 gi f.its.length (zac f.its)) (by simp)
   have hne2:¬ bi=rr:=by
    intro h
    have:=hO1.1
    simp only [List.map_cons,List.map_append,List.nodup_cons] at this
    exact this.2.2.1 (by simp [h])
   have hne3:¬ rr=bi:=fun h => hne2 h.symm
   have gs:∀ x,(o1.set bi x)[bi]? = some x:=fun x => List.getElem?_set_self hlt4
   have gx:∀ x,(o1.set bi x)[rr]? = some (.orow 90 5 g (r.length + 1) (d0 ++ [.i .i64 (kdF f),.s [],kx,.orow bi gi,mx])):=fun x => by rw [List.getElem?_set_ne hne2]; exact e2
   simp only [sxZ,z6,z7,z8,j5,j6,j7,j8,j9,x3,x4,x5,x6,x7,x8,x9,reduceCtorEq,↓reduceIte,e0,e2,e4,Nat.add_zero,k3,gs,gx,hne2,List.set_set]
   have hjl:=zaV f.its
   rw [sp3 _ _ _ _ _ _ _ _ h5,spE _ _ _ _ _ _ _ _ _ _ hjl]
   refine ⟨⟨by omega,by omega⟩,⟨by omega,by omega⟩,by omega,by omega,?_⟩
   have hO1':zaE (((objs.length,.box 26 (zaq v)) :: (p,prB σst (.orow rr g) nodes r0 r1 r2 r3) :: (rr,.orow 90 5 g (r.length + 1) (d0 ++ [.i .i64 (kdF f),.s [],kx,.orow bi gi,mx])) :: Lk) ++ (bi,.orow 26 4 gi f.its.length (zac f.its)) :: (Lm ++ L0)) o1:=hO1.perm (List.Perm.of_eq (by simp))
   have hN:=hO1'.set (.orow 26 4 (gi + 1) (f.its.length + 1) (zac f.its ++ [c0,c1,c2,c3]))
   have hR:=hN.set (A:=[(objs.length,.box 26 (zaq v)),(p,prB σst (.orow rr g) nodes r0 r1 r2 r3)]) (.orow 90 5 g (r.length + 1) (d0 ++ [.i .i64 (kdF f),.s [],kx,.orow bi (gi + 1),mx]))
   have hF:=(hR.set (A:=[(objs.length,.box 26 (zaq v))]) (prB 5 (.orow rr g) nodes r0 r1 r2 r3)).sub (List.sublist_cons_self _ _)
   have e5:=hR.get (i:=p) (x:=prB σst (.orow rr g) nodes r0 r1 r2 r3) (by simp)
   have hS:SlO 26 4 (f.its ++ [v]).length (zac (f.its ++ [v])) (.orow bi (gi + 1)) [(bi,.orow 26 4 (gi + 1) (f.its.length + 1) (zac f.its ++ [c0,c1,c2,c3]))]:=.inr ⟨_,_,rfl,by rw [zdu,zay,zau,hv,List.length_append]; rfl⟩
   have hF':zaE ((p,prB 5 (.orow rr g) nodes r0 r1 r2 r3) :: (rr,.orow 90 5 g (r.length + 1) (d0 ++ [.i .i64 (kdF f),.s [],kx,.orow bi (gi + 1),mx])) :: (Lk ++ ([(bi,.orow 26 4 (gi + 1) (f.its.length + 1) (zac f.its ++ [c0,c1,c2,c3]))] ++ Lm) ++ L0)) _:=hF.perm (List.Perm.of_eq (by simp))
   have hfin:=hk _ (zkU (root:=root) (r:=r) (f:=⟨f.obj,f.ks,f.its ++ [v]⟩) hF' h1 hS h3 h4 h6 (by decide))
   unfold prB at e5 hfin
   generalize (o1.set bi (OB.orow 26 4 (gi + 1) (f.its.length + 1) (zac f.its ++ [c0,c1,c2,c3]))).set rr _=o2 at e5 hfin ⊢
   subst hY
   simp only [sxZ,z6,z7,z8,j5,j6,j7,j8,j9,x3,x4,x5,x6,x7,x8,x9,reduceCtorEq,↓reduceIte,e5]
   exact hfin
end
end
section
attribute [local irreducible] run
theorem zaE.set0 {α:Type} {B:List (Nat × α)} {o:List α} {i:Nat} {x:α} (y:α) (h:zaE ((i,x) :: B) o):zaE ((i,y) :: B) (o.set i y):=zaE.set (A:=[]) y h
theorem zaE.set1 {α:Type} {a:Nat × α} {B:List (Nat × α)} {o:List α} {i:Nat} {x:α} (y:α) (h:zaE (a :: (i,x) :: B) o):zaE (a :: (i,y) :: B) (o.set i y):=zaE.set (A:=[a]) y h
theorem zaE.set2 {α:Type} {a b:Nat × α} {B:List (Nat × α)} {o:List α} {i:Nat} {x:α} (y:α) (h:zaE (a :: b :: (i,x) :: B) o):zaE (a :: b :: (i,y) :: B) (o.set i y):=zaE.set (A:=[a,b]) y h
theorem zaE.set3 {α:Type} {a b c:Nat × α} {B:List (Nat × α)} {o:List α} {i:Nat} {x:α} (y:α) (h:zaE (a :: b :: c :: (i,x) :: B) o):zaE (a :: b :: c :: (i,y) :: B) (o.set i y):=zaE.set (A:=[a,b,c]) y h
theorem zaE.set4 {α:Type} {a b c d:Nat × α} {B:List (Nat × α)} {o:List α} {i:Nat} {x:α} (y:α) (h:zaE (a :: b :: c :: d :: (i,x) :: B) o):zaE (a :: b :: c :: d :: (i,y) :: B) (o.set i y):=zaE.set (A:=[a,b,c,d]) y h
theorem own_key1 {α:Type} {n m q p r:Nat × α} {A B:List (Nat × α)} {o:List α} (h:zaE (n :: m :: q :: p :: r :: (A ++ B)) o):zaE (p :: r :: ([n] ++ (A ++ [m]) ++ B)) o:=by
 have h1:=h.sub (L':=n :: m :: p :: r :: (A ++ B)) (((List.sublist_cons_self _ _).cons_cons m).cons_cons n)
 have h2:=h1.perm ((zcD (p :: r :: A) B m).cons n)
 have h3:=h2.perm (zcD [p,r] (A ++ m :: B) n)
 simpa using h3
theorem own_key2 {α:Type} {n m q p r:Nat × α} {A B:List (Nat × α)} {o:List α} (h:zaE (m :: q :: p :: r :: n :: (A ++ B)) o):zaE (p :: r :: ([n] ++ (A ++ [m]) ++ B)) o:=by
 have h1:=h.sub (L':=m :: p :: r :: n :: (A ++ B)) ((List.sublist_cons_self _ _).cons_cons m)
 have h2:=h1.perm (zcD (p :: r :: n :: A) B m)
 simpa using h2
theorem zaE.ne {α:Type} {a b:Nat × α} {A B C:List (Nat × α)} {o:List α} (h:zaE (A ++ a :: (B ++ b :: C)) o):a.1 ≠ b.1:=by
 have:=h.1
 simp only [List.map_append,List.map_cons] at this
 rw [List.nodup_append] at this
 obtain ⟨_,h2,_⟩:=this
 rw [List.nodup_cons] at h2
 intro e
 exact h2.1 (by rw [e]; simp)
theorem zhs {α:Type} {n c q p:Nat × α} {X:List (Nat × α)} {o:List α} (h:zaE (n :: c :: q :: p :: X) o):zaE (p :: n :: X) o :=
 (h.sub (L':=n :: p :: X) (((List.sublist_cons_self _ _).trans (List.sublist_cons_self _ _)).cons_cons n)).perm (List.Perm.swap _ _ _)
theorem c5_take {α:Type} (d0:List α) (n:Nat) (a b c d e:α) (h:d0.length=n * 5):List.take 4 (List.drop (n * 5) (d0 ++ [a,b,c,d,e]))=[a,b,c,d]:=by
 rw [List.drop_left' h]; rfl
theorem zlJ (E sz:Nat):SlO E sz 0 [] .nil []:=.inl ⟨rfl,rfl,rfl,rfl⟩
theorem zmt {M:List (Nat × OB)} {p:Nat} {st:Int} {stk:List Fr} {nodes:Nat} {root:JV} {b:Bool} {o:List OB} {rr g:Nat} {r0 r1 r2 r3 mx:AV} {kk:Int} {cs:List AV} {L' Lm:List (Nat × OB)} {st':Int}
  (hO:zaE ((p,prB st' (.orow rr g) nodes r0 r1 r2 r3) :: (rr,.orow 90 5 g (stk.length + 1) (cs ++ [.i .i64 kk,.s [],.nil,.nil,mx])) :: (Lm ++ L')) o) (hkk:(if b=true then (7:Int) else 6)=kk)
  (h3:MpO ⟨b,[],[]⟩ mx Lm) (h4:StkO M stk cs L') (hpl:zam [r0,r1,r2,r3]=true) (he:st'=st) (h5:¬ (st=6 ∨ st=7)):PrO M p ⟨st,⟨b,[],[]⟩ :: stk,nodes,root⟩ o:=by
 subst he hkk
 refine zkU (Lk:=[]) (Li:=[]) (Lm:=Lm) (L0:=L') (r:=stk) (f:=⟨b,[],[]⟩) hO (zlJ _ _) ?_ h3 h4 hpl h5
 show SlO _ _ 0 (zac []) .nil []
 rw [zau]
 exact zlJ _ _
theorem zmU {k:List UInt8}:∀ {l:List (List UInt8)},k ∈ l → zh8 k (l.map fun k => (k,AV.b true))=some (.b true)
 | a :: l,h => by
  rw [List.map_cons]
  unfold zh8
  by_cases c:a=k
  ·simp [c]
  ·have h':k ∈ l:=(List.mem_cons.1 h).resolve_left (fun e => c e.symm)
   simp [c,zmU h']
theorem zjL {k:List UInt8}:∀ {l:List (List UInt8)},¬ k ∈ l → zh8 k (l.map fun k => (k,AV.b true))=none
 | [],h => rfl
 | a :: l,h => by
  rw [List.map_cons]
  unfold zh8
  simp only [List.mem_cons,not_or] at h
  have c:¬ a=k:=fun e => h.1 e.symm
  simp [c,zjL h.2]
theorem zjK {k:List UInt8}:∀ {l:List (List UInt8)},¬ k ∈ l → zh7 k (.b true) (l.map fun k => (k,AV.b true))=(l ++ [k]).map fun k => (k,AV.b true)
 | [],h => rfl
 | a :: l,h => by
  rw [List.map_cons]
  unfold zh7
  simp only [List.mem_cons,not_or] at h
  have c:¬ a=k:=fun e => h.1 e.symm
  simp [c,zjK h.2]
def zcl (L:List (Nat × OB)):Prop:=∀ z ∈ L,∀ b g n xs,zg0 b g n xs z.2=z.2
theorem zct {A B:List (Nat × OB)} (h:zcl A) (k:zcl B):zcl (A ++ B):=fun z hz => (List.mem_append.1 hz).elim (h z) (k z)
theorem zeZ {E sz n:Nat} {xs:List AV} {X:AV} {L:List (Nat × OB)} (h:SlO E sz n xs X L):zcl L:=by
 rcases h with ⟨_,_,_,rfl⟩ | ⟨b,g,_,rfl⟩
 ·intro z hz; cases hz
 ·intro z hz b' g' n' xs'
  rw [List.mem_singleton] at hz; subst hz; rfl
theorem zfd {f:Fr} {X:AV} {L:List (Nat × OB)} (h:MpO f X L):zcl L:=by
 rcases h with ⟨_,_,rfl⟩ | ⟨_,b,_,rfl⟩
 ·intro z hz; cases hz
 ·intro z hz b' g' n' xs'
  rw [List.mem_singleton] at hz; subst hz; rfl
theorem zeU {M:List (Nat × OB)} (hM:zcl M):∀ {S:List Fr} {cs:List AV} {L:List (Nat × OB)},StkO M S cs L → zcl L
 | [],cs,L,h => by rw [h.2]; exact hM
 | f :: r,cs,L,h => by
  obtain ⟨c0,c1,L0,L1,⟨_,_,_,_,_,_,_,h1,h2,h3,rfl⟩,h4,_,rfl⟩:=h
  exact zct (zct (zeZ h1) (zct (zeZ h2) (zfd h3))) (zeU hM h4)
theorem sub_i {b g n:Nat} {xs:List AV} (k:IntKind) (m:Int):zci b g n xs (.i k m)=.i k m:=rfl
theorem sub_s {b g n:Nat} {xs:List AV} (l:List UInt8):zci b g n xs (.s l)=.s l:=rfl
theorem sub_p {b g n:Nat} {xs:List AV} (q j:Nat):zci b g n xs (.p q j)=.p q j:=rfl
theorem sub_row {b g n:Nat} {xs ys:List AV} (m:Nat):zci b g n xs (.row m ys)=.row m ys:=rfl
theorem sub_self {b g n:Nat} {xs:List AV}:zci b g n xs (.orow b g)=.row n xs:=by simp [zci]
theorem sub_ne {b g n c h:Nat} {xs:List AV} (hc:¬ c=b):zci b g n xs (.orow c h)=.orow c h:=by simp [zci,hc]
theorem zlA {st:Int} {rr g' nodes b g n:Nat} {xs:List AV} {r0 r1 r2 r3:AV} (hne:¬ rr=b) (hpl:zam [r0,r1,r2,r3]=true):zg0 b g n xs (prB st (.orow rr g') nodes r0 r1 r2 r3)=prB st (.orow rr g') nodes r0 r1 r2 r3:=by
 simp only [zam,Bool.and_eq_true] at hpl
 obtain ⟨p0,p1,p2,p3,_⟩:=hpl
 simp only [prB,zg0,List.map_cons,List.map_nil,zcS p0,zcS p1,zcS p2,zcS p3,sub_i,sub_ne hne]
section
variable {P:Program} [Tabs P] {f:FuncId} {o:List OB} {K:List OB → AV → Prop} {p rr g st' nodes E sz n E' g' n' sz':Nat} {st k:Int} {txt:List UInt8} {xs cs ys:List AV} {X Y r0 r1 r2 r3:AV} {Lx L:List (Nat × OB)}
theorem weak4 {a b x y:AV} (hx:∀ G I v,Den G I x v → Den G I y v) (hc:zad P f [.p p 0,.agg [a,b,y,X]] o K):zad P f [.p p 0,.agg [a,b,x,X]] o K:=by
 refine jweak (fun G I ys h => ?_) hc
 simp only [zae,Den] at h ⊢
 obtain ⟨y0,l0,rfl,h0,y1,l1,rfl,⟨zs,rfl,⟨z0,m0,rfl,q0,z1,m1,rfl,q1,z2,m2,rfl,q2,q3⟩,hz⟩,h2⟩:=h
 exact ⟨_,_,rfl,h0,_,_,rfl,⟨_,rfl,⟨_,_,rfl,q0,_,_,rfl,q1,_,_,rfl,hx _ _ _ q2,q3⟩,hz⟩,h2⟩
theorem weak4' {a b x y:AV} (hx:∀ G I v,Den G I x v → Den G I y v) (hc:zad P f [.p p 0,.agg [a,b,X,y]] o K):zad P f [.p p 0,.agg [a,b,X,x]] o K:=by
 refine jweak (fun G I ys h => ?_) hc
 simp only [zae,Den] at h ⊢
 obtain ⟨y0,l0,rfl,h0,y1,l1,rfl,⟨zs,rfl,⟨z0,m0,rfl,q0,z1,m1,rfl,q1,z2,m2,rfl,q2,z3,m3,rfl,q3,q4⟩,hz⟩,h2⟩:=h
 exact ⟨_,_,rfl,h0,_,_,rfl,⟨_,rfl,⟨_,_,rfl,q0,_,_,rfl,q1,_,_,rfl,q2,_,_,rfl,hx _ _ _ q3,q4⟩,hz⟩,h2⟩
theorem pub_keys (h:SlO E sz n xs X Lx) (hO:zaE ((p,prB st (.orow rr g) nodes r0 r1 r2 r3) :: (rr,.orow E' sz' g n' cs) :: (Lx ++ L)) o) (hL:zcl L) (hpl:zam [r0,r1,r2,r3]=true) 
  (hY2:∀ b,Lx.map (·.1)=[b] → ∀ g n xs,zci b g n xs Y=Y) (hk:∀ o',zaE ((p,prB st (.orow rr g) nodes r0 r1 r2 r3) :: (rr,.orow E' sz' g n' cs) :: L) o' → zad P f [.p p 0,.agg [.i .i64 k,.s txt,.row n xs,Y]] o' K) :
  zad P f [.p p 0,.agg [.i .i64 k,.s txt,X,Y]] o K:=by
 rcases h with ⟨rfl,rfl,rfl,rfl⟩ | ⟨b,gb,rfl,rfl⟩
 ·exact weak4 (fun G I v hv => zdV hv) (hk _ hO)
 ·have hb:=hO.get (i:=b) (x:=.orow E sz gb n xs) (by simp)
  have hne:¬ rr=b:=hO.ne (A:=[_]) (B:=[]) (C:=L)
  refine zfv hb ?_
  have hp:zaE ((b,.orow E sz gb n xs) :: (p,prB st (.orow rr g) nodes r0 r1 r2 r3) :: (rr,.orow E' sz' g n' cs) :: L) o:=hO.perm (zcD [_,_] L _).symm
  have e:=hk (pubO o b gb n xs) (hp.mapset (zg0 b gb n xs) (fun z hz => by
   rcases List.mem_cons.1 hz with rfl | hz
   ·exact zlA hne hpl
   rcases List.mem_cons.1 hz with rfl | hz
   ·rfl
   ·exact hL z hz _ _ _ _))
  simp only [List.map_cons,List.map_nil,subD,sub_i,sub_s,sub_p,sub_self,hY2 b rfl]
  exact e
theorem zms {m:Nat} (h:SlO E sz n xs X Lx) (hO:zaE ((p,prB st (.orow rr g) nodes r0 r1 r2 r3) :: (rr,.orow E' sz' g n' cs) :: (Lx ++ L)) o) (hL:zcl L) (hpl:zam [r0,r1,r2,r3]=true)
  (hk:∀ o',zaE ((p,prB st (.orow rr g) nodes r0 r1 r2 r3) :: (rr,.orow E' sz' g n' cs) :: L) o' → zad P f [.p p 0,.agg [.i .i64 k,.s txt,.row m ys,.row n xs]] o' K) :
  zad P f [.p p 0,.agg [.i .i64 k,.s txt,.row m ys,X]] o K:=by
 rcases h with ⟨rfl,rfl,rfl,rfl⟩ | ⟨b,gb,rfl,rfl⟩
 ·exact weak4' (fun G I v hv => zdV hv) (hk _ hO)
 ·have hb:=hO.get (i:=b) (x:=.orow E sz gb n xs) (by simp)
  have hne:¬ rr=b:=hO.ne (A:=[_]) (B:=[]) (C:=L)
  refine zfv hb ?_
  have hp:zaE ((b,.orow E sz gb n xs) :: (p,prB st (.orow rr g) nodes r0 r1 r2 r3) :: (rr,.orow E' sz' g n' cs) :: L) o:=hO.perm (zcD [_,_] L _).symm
  have e:=hk (pubO o b gb n xs) (hp.mapset (zg0 b gb n xs) (fun z hz => by
   rcases List.mem_cons.1 hz with rfl | hz
   ·exact zlA hne hpl
   rcases List.mem_cons.1 hz with rfl | hz
   ·rfl
   ·exact hL z hz _ _ _ _))
  simp only [List.map_cons,List.map_nil,subD,sub_i,sub_s,sub_p,sub_self,sub_row]
  exact e
end
section
variable [Tabs Tryz.prog] {objs:List OB} {K:List OB → AV → Prop}
theorem open_k {M:List (Nat × OB)} {p:Nat} {σ:Ms} (hP:PrO M p σ objs) (b:Bool) (hd:σ.stk.length ≤ 64) (hk:∀ o,PrO M p ⟨if b=true then 3 else 1,⟨b,[],[]⟩ :: σ.stk,σ.nodes,σ.root⟩ o → K o (.tup [])) :
  zad Tryz.prog 62 [.p p 0,.agg [.i .i64 (if b=true then 7 else 6),.s [],.nil,.nil]] objs K:=by
 obtain ⟨σst,stk,nodes,root⟩:=σ
 obtain ⟨X,r0,r1,r2,r3,L,hO,hX,hpl,hr⟩:=hP
 simp only at hO hX hd hk
 generalize hkk:(if b=true then (7:Int) else 6)=kk
 generalize hss:(if b=true then (3:Int) else 1)=ss at hk
 have hO1:=hO.new (.box 26 [.i .i64 kk,.s [],.nil,.nil])
 refine zcL is_jsondoc_parser_open fun C _ => ?_
 rw [c_jsondoc_parser_open]
 refine zaa fun Y hY => ?_
 simp only [sxZ,z6,z7,z8,j5,j6,j7,j8,j9,x3,x4,x5,x6,x7,x8,x9,reduceCtorEq,↓reduceIte]
 generalize objs ++ [OB.box 26 [.i .i64 kk,.s [],.nil,.nil]]=o1 at hO1 ⊢
 have e0:=hO1.get (i:=objs.length) (x:=.box 26 [.i .i64 kk,.s [],.nil,.nil]) (by simp)
 have hO2:=hO1.new (.box 90 [.i .i64 kk,.s [],.nil,.nil,.o (.map none)])
 subst hY
 refine zaa fun Y hY => ?_
 simp only [sxZ,z6,z7,z8,j5,j6,j7,j8,j9,x3,x4,x5,x6,x7,x8,x9,reduceCtorEq,↓reduceIte,e0,gn1,sn1]
 generalize o1 ++ [OB.box 90 [.i .i64 kk,.s [],.nil,.nil,.o (.map none)]]=o2 at hO2 ⊢
 have hO3:=hO2.set2 (prB 1 X nodes r0 r1 r2 r3)
 have e1:=hO2.get (i:=p) (x:=prB σst X nodes r0 r1 r2 r3) (by simp)
 unfold prB at e1
 subst hY
 refine zaa fun Y hY => ?_
 simp only [sxZ,z6,z7,z8,j5,j6,j7,j8,j9,x3,x4,x5,x6,x7,x8,x9,reduceCtorEq,↓reduceIte,e1]
 have fold1:OB.box 49 [.i .i64 1,X,.i .i64 (nodes:Int),r0,r1,r2,r3]=prB 1 X nodes r0 r1 r2 r3:=rfl
 rw [fold1]
 generalize o2.set p (prB 1 X nodes r0 r1 r2 r3)=o3 at hO3 ⊢
 subst hY
 refine zaa fun Y hY => ?_
 have last:∀ (o4:List OB) (mx:AV) (Lm:List (Nat × OB)) (tm:List AV),zaE ((o1.length,.box 90 [.i .i64 kk,.s [],.nil,.nil,mx]) :: (objs.length,.box 26 [.i .i64 kk,.s [],.nil,.nil]) :: (p,prB ss X nodes r0 r1 r2 r3) :: (Lm ++ L)) o4 → MpO ⟨b,[],[]⟩ mx Lm → tm.length=28 → tm[0]? = some (.p p 0) → tm[4]? = some (.p o1.length 0) → run Tryz.prog C [.code Y] o4 tm (endI [] K):=by
  intro o4 mx Lm tm h4 hM hlen t0 t4
  have hst:¬ (ss=6 ∨ ss=7):=by rw [← hss]; cases b <;> decide
  have f0:=h4.get (i:=o1.length) (x:=.box 90 [.i .i64 kk,.s [],.nil,.nil,mx]) (by simp)
  have f1:=h4.get (i:=p) (x:=prB ss X nodes r0 r1 r2 r3) (by simp)
  have flt:=h4.lt (i:=p) (x:=prB ss X nodes r0 r1 r2 r3) (by simp)
  unfold prB at f1
  subst hY
  rcases hX with ⟨rfl,rfl,rfl⟩ | ⟨rr,g,cs,L',rfl,hS,rfl⟩
  ·have fx:∀ x,(o4 ++ [x])[p]? = some (.box 49 [.i .i64 ss,.nil,.i .i64 (nodes:Int),r0,r1,r2,r3]):=fun x => by rw [List.getElem?_append_left flt]; exact f1
   simp only [sxZ,z6,z7,z8,j5,j6,j7,j8,j9,x3,x4,x5,x6,x7,x8,x9,reduceCtorEq,↓reduceIte,List.getElem?_set,hlen,t0,t4,f0,f1,fx]
   have hN:=(h4.new (.orow 90 5 0 1 [.i .i64 kk,.s [],.nil,.nil,mx])).set3 (prB ss (.orow o4.length 0) nodes r0 r1 r2 r3)
   exact hk _ (zmt (stk:=[]) (cs:=[]) (zhs hN) hkk hM ⟨rfl,rfl⟩ hpl rfl hst)
  ·have f2:=h4.get (i:=rr) (x:=.orow 90 5 g stk.length cs) (by simp)
   have hne2:¬ rr=p:=by
    intro h
    have:=h4.1
    simp only [List.map_cons,List.map_append,List.nodup_cons] at this
    exact this.2.2.1 (by simp [h])
   have fx:∀ x,(o4.set rr x)[p]? = some (.box 49 [.i .i64 ss,.orow rr g,.i .i64 (nodes:Int),r0,r1,r2,r3]):=fun x => by rw [List.getElem?_set_ne hne2]; exact f1
   simp only [sxZ,z6,z7,z8,j5,j6,j7,j8,j9,x3,x4,x5,x6,x7,x8,x9,reduceCtorEq,↓reduceIte,List.getElem?_set,hlen,t0,t4,f0,f1,f2,fx]
   refine ⟨⟨by omega,by omega⟩,?_⟩
   have hN:=((h4.perm (zcD (_ :: _ :: _ :: Lm) L' _).symm).set0 (.orow 90 5 (g + 1) (stk.length + 1) (cs ++ [.i .i64 kk,.s [],.nil,.nil,mx]))).set3 (prB ss (.orow rr (g + 1)) nodes r0 r1 r2 r3)
   exact hk _ (zmt (zhs hN) hkk hM hS hpl rfl hst)
 have g0:=hO3.get (i:=objs.length) (x:=.box 26 [.i .i64 kk,.s [],.nil,.nil]) (by simp)
 have g1:=hO3.get (i:=p) (x:=prB 1 X nodes r0 r1 r2 r3) (by simp)
 have g2:=hO3.get (i:=o1.length) (x:=.box 90 [.i .i64 kk,.s [],.nil,.nil,.o (.map none)]) (by simp)
 cases b
 ·have k6:kk=6:=hkk.symm
  have s1:ss=1:=hss.symm
  have d7:¬ kk=7:=by rw [k6]; decide
  simp only [sxZ,z6,z7,z8,j5,j6,j7,j8,j9,x3,x4,x5,x6,x7,x8,x9,reduceCtorEq,↓reduceIte,g0,d7]
  exact last _ _ [] _ (by rw [s1]; exact hO3) (.inl ⟨rfl,rfl,rfl⟩) rfl rfl rfl
 ·have k7:kk=7:=hkk.symm
  have s3:ss=3:=hss.symm
  have glt:=hO3.lt (i:=o1.length) (x:=.box 90 [.i .i64 kk,.s [],.nil,.nil,.o (.map none)]) (by simp)
  have gx:∀ x,(o3 ++ [x])[o1.length]? = some (.box 90 [.i .i64 kk,.s [],.nil,.nil,.o (.map none)]):=fun x => by rw [List.getElem?_append_left glt]; exact g2
  have hM:=hO3.new (.mp [])
  have hC:=hM.set1 (.box 90 [.i .i64 kk,.s [],.nil,.nil,.m o3.length])
  have hPp:=hC.set3 (prB 3 X nodes r0 r1 r2 r3)
  have k1:=hC.get (i:=p) (x:=prB 1 X nodes r0 r1 r2 r3) (by simp)
  unfold prB at k1
  refine zaa fun Z hZ => ?_
  simp only [sxZ,z6,z7,z8,j5,j6,j7,j8,j9,x3,x4,x5,x6,x7,x8,x9,reduceCtorEq,↓reduceIte,g0,k7]
  subst hZ
  simp only [sxZ,z6,z7,z8,j5,j6,j7,j8,j9,x3,x4,x5,x6,x7,x8,x9,reduceCtorEq,↓reduceIte,gx]
  generalize (o3 ++ [OB.mp []]).set o1.length _=o5 at hC hPp k1 ⊢
  simp only [sxZ,z6,z7,z8,j5,j6,j7,j8,j9,x3,x4,x5,x6,x7,x8,x9,reduceCtorEq,↓reduceIte,k1]
  exact last _ _ [(o3.length,.mp [])] _ (by rw [s3]; exact hPp.perm (zcD [_,_,_] L _)) (.inr ⟨rfl,_,rfl,rfl⟩) rfl rfl rfl
theorem ziV {M:List (Nat × OB)} (hNB:zcl M) {p:Nat} {σ:Ms} {f:Fr} {r:List Fr} (hP:PrO M p σ objs) (hs:σ.stk=f :: r) (h67:¬ (σ.st=6 ∨ σ.st=7)) (hl:∀ f ∈ σ.stk,f.its.length ≤ 10000000) (hd:σ.stk.length ≤ 64) (hk:∀ o,PrO M p (zcw σ) o → K o (.tup [])) :
  zad Tryz.prog 37 [.p p 0] objs K:=by
 obtain ⟨σst,stk,nodes,root⟩:=σ
 simp only at hs
 subst hs
 obtain ⟨rr,g,r0,r1,r2,r3,kx,ix,mx,d0,L0,Lk,Li,Lm,hO,h1,h2,h3,h4,h5,hpl⟩:=zhp hP rfl
 have hrl:r.length ≤ 63:=by simpa using hd
 refine zcL is_jsondoc_parser_close fun C _ => ?_
 rw [c_jsondoc_parser_close]
 refine zaa fun Y hY => ?_
 have e1:=hO.get (i:=p) (x:=prB σst (.orow rr g) nodes r0 r1 r2 r3) (by simp)
 have e2:=hO.get (i:=rr) (x:=.orow 90 5 g (r.length + 1) (d0 ++ [.i .i64 (kdF f),.s [],kx,ix,mx])) (by simp)
 simp only [sxZ,z6,z7,z8,j5,j6,j7,j8,j9,x3,x4,x5,x6,x7,x8,x9,reduceCtorEq,↓reduceIte]
 refine zal (zlv e1 e2 (by omega) ?_)
 simp only [sxZ,z6,z7,z8,j5,j6,j7,j8,j9,x3,x4,x5,x6,x7,x8,x9,reduceCtorEq,↓reduceIte,e2,Nat.add_zero,gn1,sn1,c5_take _ _ _ _ _ _ _ h5]
 refine ⟨by omega,?_⟩
 have hO1:=hO.new (.box 26 [.i .i64 (kdF f),.s [],kx,ix])
 generalize objs ++ [OB.box 26 [.i .i64 (kdF f),.s [],kx,ix]]=o1 at hO1 ⊢
 have g1:=hO1.get (i:=p) (x:=prB σst (.orow rr g) nodes r0 r1 r2 r3) (by simp)
 have g2:=hO1.get (i:=rr) (x:=.orow 90 5 g (r.length + 1) (d0 ++ [.i .i64 (kdF f),.s [],kx,ix,mx])) (by simp)
 have hne:¬ rr=p:=fun h => hO.ne (A:=[]) (B:=[]) h.symm
 have gx:∀ x,(o1.set rr x)[p]? = some (prB σst (.orow rr g) nodes r0 r1 r2 r3):=fun x => by rw [List.getElem?_set_ne hne]; exact g1
 have hO2:=(hO1.set2 (.orow 90 5 (g + 1) r.length d0)).set1 (prB σst (.orow rr (g + 1)) nodes r0 r1 r2 r3)
 unfold prB at g1 gx
 subst hY
 refine zaa fun Y hY => ?_
 simp only [sxZ,z6,z7,z8,j5,j6,j7,j8,j9,x3,x4,x5,x6,x7,x8,x9,reduceCtorEq,↓reduceIte,g1,g2,gx]
 rw [show ((r.length + 1:Nat):Int) - 1=(r.length:Int) by omega,Int.toNat_natCast,List.take_left' h5]
 refine ⟨⟨by omega,by omega⟩,⟨by omega,by omega⟩,?_⟩
 have fold1:OB.box 49 [.i .i64 σst,.orow rr (g + 1),.i .i64 (nodes:Int),r0,r1,r2,r3]=prB σst (.orow rr (g + 1)) nodes r0 r1 r2 r3:=rfl
 rw [fold1]
 generalize (o1.set rr (OB.orow 90 5 (g + 1) r.length d0)).set p (prB σst (.orow rr (g + 1)) nodes r0 r1 r2 r3)=o2 at hO2 ⊢
 have e0:=hO2.get (i:=objs.length) (x:=.box 26 [.i .i64 (kdF f),.s [],kx,ix]) (by simp)
 subst hY
 simp only [sxZ,z6,z7,z8,j5,j6,j7,j8,j9,x3,x4,x5,x6,x7,x8,x9,reduceCtorEq,↓reduceIte,e0]
 refine zal ?_
 have hO3:zaE ((p,prB σst (.orow rr (g + 1)) nodes r0 r1 r2 r3) :: (rr,.orow 90 5 (g + 1) r.length d0) :: (Lk ++ ((Li ++ Lm) ++ L0))) o2:=(hO2.sub (List.sublist_cons_self _ _)).perm (List.Perm.of_eq (by simp))
 refine pub_keys h1 hO3 (zct (zct (zeZ h2) (zfd h3)) (zeU hNB h4)) hpl (fun b hb g n xs => ?_) fun o3 hO4 => ?_
 ·rcases h2 with ⟨_,_,rfl,_⟩ | ⟨bi,gi,rfl,rfl⟩
  ·rfl
  ·rcases h1 with ⟨_,_,_,rfl⟩ | ⟨bk,gk,_,rfl⟩
   ·cases hb
   ·simp only [List.map_cons,List.map_nil,List.cons.injEq,and_true] at hb
    subst hb
    exact sub_ne (fun h => hO3.ne (A:=[_,_]) (B:=[]) h.symm)
 have hO5:zaE ((p,prB σst (.orow rr (g + 1)) nodes r0 r1 r2 r3) :: (rr,.orow 90 5 (g + 1) r.length d0) :: (Li ++ (Lm ++ L0))) o3:=hO4.perm (List.Perm.of_eq (by simp))
 refine zms h2 hO5 (zct (zfd h3) (zeU hNB h4)) hpl fun o4 hO6 => ?_
 have hO7:zaE ((p,prB σst (.orow rr (g + 1)) nodes r0 r1 r2 r3) :: (rr,.orow 90 5 (g + 1) r.length d0) :: L0) o4:=hO6.sub (((List.sublist_append_right Lm L0).cons_cons _).cons_cons _)
 have hP':PrO M p ⟨σst,r,nodes,root⟩ o4:=⟨_,r0,r1,r2,r3,_,hO7,.inr ⟨rr,g + 1,d0,L0,rfl,h4,rfl⟩,hpl,fun h => absurd h h67⟩
 have ha:=add_k (K:=fun o x => PrO M p (zcw ⟨σst,f :: r,nodes,root⟩) o ∧ x=.tup []) hP' f.val (fun f' hf => hl f' (List.mem_cons_of_mem _ hf)) (by show r.length ≤ 64; omega) (fun o ho => ⟨ho,rfl⟩)
 rw [Fr.val,zaq] at ha
 refine ha.mono ?_
 rintro o x ⟨ho,rfl⟩
 simp only [sxZ,z6,z7,z8,j5,j6,j7,j8,j9,x3,x4,x5,x6,x7,x8,x9,reduceCtorEq,↓reduceIte]
 exact hk o ho
theorem zkC {M:List (Nat × OB)} {p:Nat} {σ:Ms} {f:Fr} {r:List Fr} (hP:PrO M p σ objs) (hs:σ.stk=f :: r) (hob:f.obj=true) (hl:f.ks.length ≤ 10000000) (hd:σ.stk.length ≤ 64) (t:Tk) (ht:t.2.1.length ≤ 140737488351232)
  (h0:(zhC σ t).1=0 → ∀ o,PrO M p (zhC σ t).2 o → K o (.i .i64 0)) (h1:¬ (zhC σ t).1=0 → ∀ o σ',PrO M p σ' o → K o (.i .i64 (zhC σ t).1)) :
  zad Tryz.prog 38 [.p p 0,zgN t] objs K:=by
 obtain ⟨σst,stk,nodes,root⟩:=σ
 simp only at hs
 subst hs
 obtain ⟨rr,g,r0,r1,r2,r3,kx,ix,mx,d0,L0,Lk,Li,Lm,hO,q1,q2,q3,q4,q5,hpl⟩:=zhp hP rfl
 have hrl:r.length ≤ 63:=by simpa using hd
 obtain ⟨_,_,_⟩ | ⟨_,bm,rfl,rfl⟩:=q3
 ·rename_i h _ _; rw [hob] at h; cases h
 have hO1:=hO.new (.box 51 (tkC t))
 have hPA:=pr_app hP [.box 51 (tkC t)]
 refine zcL is_jsondoc_parser_addKey fun C _ => ?_
 rw [c_jsondoc_parser_addKey]
 refine zaa fun Y hY => ?_
 simp only [zgN,sxZ,z6,z7,z8,j5,j6,j7,j8,j9,x3,x4,x5,x6,x7,x8,x9,reduceCtorEq,↓reduceIte]
 generalize objs ++ [OB.box 51 (tkC t)]=o1 at hO1 hPA ⊢
 have e0:=hO1.get (i:=objs.length) (x:=.box 51 (tkC t)) (by simp)
 have e1:=hO1.get (i:=p) (x:=prB σst (.orow rr g) nodes r0 r1 r2 r3) (by simp)
 have e2:=hO1.get (i:=rr) (x:=.orow 90 5 g (r.length + 1) (d0 ++ [.i .i64 (kdF f),.s [],kx,ix,.m bm])) (by simp)
 have e3:=hO1.get (i:=bm) (x:=.mp (f.ks.map fun k => (k,AV.b true))) (by simp)
 unfold tkC at e0
 unfold zhC at h0 h1
 simp only at h0 h1
 subst hY
 by_cases c1:t.1=3
 rotate_left
 ·rw [if_pos c1] at h1
  simp only [sxZ,z6,z7,z8,j5,j6,j7,j8,j9,x3,x4,x5,x6,x7,x8,x9,reduceCtorEq,↓reduceIte,e0,c1]
  exact h1 (by simp) _ _ hPA
 rw [if_neg (fun h => h c1)] at h0 h1
 refine zaa fun Y hY => ?_
 simp only [sxZ,z6,z7,z8,j5,j6,j7,j8,j9,x3,x4,x5,x6,x7,x8,x9,reduceCtorEq,↓reduceIte,e0,c1]
 subst hY
 refine zaa fun Y hY => ?_
 simp only [sxZ,z6,z7,z8,j5,j6,j7,j8,j9,x3,x4,x5,x6,x7,x8,x9,reduceCtorEq,↓reduceIte]
 refine zal (zlv e1 e2 (by omega) ?_)
 simp only [sxZ,z6,z7,z8,j5,j6,j7,j8,j9,x3,x4,x5,x6,x7,x8,x9,reduceCtorEq,↓reduceIte]
 subst hY
 refine zaa fun Y hY => ?_
 have k4:=c5_at d0 [.i .i64 (kdF f),.s [],kx,ix,.m bm] r.length 4 q5
 by_cases c2:t.2.1 ∈ f.ks
 ·rw [if_pos c2] at h1
  simp only [sxZ,z6,z7,z8,j5,j6,j7,j8,j9,x3,x4,x5,x6,x7,x8,x9,reduceCtorEq,↓reduceIte,e0,e2,e3,k4,zmU c2]
  exact h1 (by simp) _ _ hPA
 rw [if_neg c2] at h0
 simp only [sxZ,z6,z7,z8,j5,j6,j7,j8,j9,x3,x4,x5,x6,x7,x8,x9,reduceCtorEq,↓reduceIte,e0,e2,e3,k4,zjL c2]
 have ltm:=hO1.lt (i:=bm) (x:=.mp (f.ks.map fun k => (k,AV.b true))) (by simp)
 subst hY
 refine zaa fun Y hY => ?_
 simp only [sxZ,z6,z7,z8,j5,j6,j7,j8,j9,x3,x4,x5,x6,x7,x8,x9,reduceCtorEq,↓reduceIte,e0,e2,e3,k4,zjK c2]
 have hO1':zaE ((bm,.mp (f.ks.map fun k => (k,AV.b true))) :: (objs.length,.box 51 (tkC t)) :: (p,prB σst (.orow rr g) nodes r0 r1 r2 r3) :: (rr,.orow 90 5 g (r.length + 1) (d0 ++ [.i .i64 (kdF f),.s [],kx,ix,.m bm])) :: (Lk ++ Li ++ L0)) o1 :=
  (hO1.perm (List.Perm.of_eq (by simp))).perm (zcD (_ :: _ :: _ :: (Lk ++ Li)) L0 _).symm
 have hO2:=hO1'.set0 (.mp ((f.ks ++ [t.2.1]).map fun k => (k,AV.b true)))
 generalize o1.set bm (OB.mp ((f.ks ++ [t.2.1]).map fun k => (k,AV.b true)))=o2 at hO2 ⊢
 clear e0 e1 e2 e3
 have e0:=hO2.get (i:=objs.length) (x:=.box 51 (tkC t)) (by simp)
 have e2:=hO2.get (i:=rr) (x:=.orow 90 5 g (r.length + 1) (d0 ++ [.i .i64 (kdF f),.s [],kx,ix,.m bm])) (by simp)
 have k2:=c5_at d0 [.i .i64 (kdF f),.s [],kx,ix,.m bm] r.length 2 q5
 have ltr:=hO2.lt (i:=rr) (x:=.orow 90 5 g (r.length + 1) (d0 ++ [.i .i64 (kdF f),.s [],kx,ix,.m bm])) (by simp)
 unfold tkC at e0
 subst hY
 refine zaa fun Y hY => ?_
 rcases q1 with ⟨z1,z2,rfl,rfl⟩ | ⟨bk,gk,rfl,rfl⟩
 ·have f0:f.ks=[]:=List.eq_nil_of_length_eq_zero z1
  have gx:∀ x,(o2 ++ [x])[rr]? = some (.orow 90 5 g (r.length + 1) (d0 ++ [.i .i64 (kdF f),.s [],.nil,ix,.m bm])):=fun x => by rw [List.getElem?_append_left ltr]; exact e2
  simp only [sxZ,z6,z7,z8,j5,j6,j7,j8,j9,x3,x4,x5,x6,x7,x8,x9,reduceCtorEq,↓reduceIte,e0,e2,Nat.add_zero,k2,gx]
  rw [sp2 _ _ _ _ _ _ _ _ q5]
  refine ⟨by omega,?_⟩
  have hN:=(hO2.new (.orow 9 1 0 1 [.s t.2.1])).set4 (.orow 90 5 g (r.length + 1) (d0 ++ [.i .i64 (kdF f),.s [],.orow o2.length 0,ix,.m bm]))
  have hF:=hN.set3 (prB 4 (.orow rr g) nodes r0 r1 r2 r3)
  have e5:=hN.get (i:=p) (x:=prB σst (.orow rr g) nodes r0 r1 r2 r3) (by simp)
  have hS:SlO 9 1 (f.ks ++ [t.2.1]).length ((f.ks ++ [t.2.1]).map .s) (.orow o2.length 0) [(o2.length,.orow 9 1 0 1 [.s t.2.1])]:=.inr ⟨_,_,rfl,by rw [f0]; rfl⟩
  have hfin:=h0 rfl _ (zkU (root:=root) (r:=r) (f:=⟨f.obj,f.ks ++ [t.2.1],f.its⟩) (own_key1 hF) hS q2 (.inr ⟨hob,bm,rfl,rfl⟩) q4 hpl (by decide))
  unfold prB at e5 hfin
  generalize (o2 ++ [OB.orow 9 1 0 1 [.s t.2.1]]).set rr _=o3 at e5 hfin ⊢
  subst hY
  simp only [sxZ,z6,z7,z8,j5,j6,j7,j8,j9,x3,x4,x5,x6,x7,x8,x9,reduceCtorEq,↓reduceIte,e5]
  exact hfin
 ·have e4:=hO2.get (i:=bk) (x:=.orow 9 1 gk f.ks.length (f.ks.map .s)) (by simp)
  have hne:¬ bk=rr:=fun h => hO2.ne (A:=[_,_,_]) (B:=[]) h.symm
  have gx:∀ x,(o2.set bk x)[rr]? = some (.orow 90 5 g (r.length + 1) (d0 ++ [.i .i64 (kdF f),.s [],.orow bk gk,ix,.m bm])):=fun x => by rw [List.getElem?_set_ne hne]; exact e2
  simp only [sxZ,z6,z7,z8,j5,j6,j7,j8,j9,x3,x4,x5,x6,x7,x8,x9,reduceCtorEq,↓reduceIte,e0,e2,e4,Nat.add_zero,k2,gx]
  rw [sp2 _ _ _ _ _ _ _ _ q5]
  refine ⟨⟨by omega,by omega⟩,by omega,?_⟩
  have hN:=(zaE.set4 (.orow 9 1 (gk + 1) (f.ks.length + 1) (f.ks.map .s ++ [.s t.2.1])) hO2).set3 (.orow 90 5 g (r.length + 1) (d0 ++ [.i .i64 (kdF f),.s [],.orow bk (gk + 1),ix,.m bm]))
  have hF:=hN.set2 (prB 4 (.orow rr g) nodes r0 r1 r2 r3)
  have e5:=hN.get (i:=p) (x:=prB σst (.orow rr g) nodes r0 r1 r2 r3) (by simp)
  have hS:SlO 9 1 (f.ks ++ [t.2.1]).length ((f.ks ++ [t.2.1]).map .s) (.orow bk (gk + 1)) [(bk,.orow 9 1 (gk + 1) (f.ks.length + 1) (f.ks.map .s ++ [.s t.2.1]))]:=.inr ⟨_,_,rfl,by rw [List.map_append,List.length_append]; rfl⟩
  have hfin:=h0 rfl _ (zkU (root:=root) (r:=r) (f:=⟨f.obj,f.ks ++ [t.2.1],f.its⟩) (own_key2 hF) hS q2 (.inr ⟨hob,bm,rfl,rfl⟩) q4 hpl (by decide))
  unfold prB at e5 hfin
  generalize (o2.set bk (OB.orow 9 1 (gk + 1) (f.ks.length + 1) (f.ks.map .s ++ [.s t.2.1]))).set rr _=o3 at e5 hfin ⊢
  subst hY
  simp only [sxZ,z6,z7,z8,j5,j6,j7,j8,j9,x3,x4,x5,x6,x7,x8,x9,reduceCtorEq,↓reduceIte,e5]
  exact hfin
end
end
section
attribute [local irreducible] run
theorem pr_len {M:List (Nat × OB)} {stk:List Fr} {X:AV} {L:List (Nat × OB)} (hX:StX M stk X L):(X=.nil ∧ stk=[]) ∨ ∃ rr g cs,X=.orow rr g ∧ (rr,OB.orow 90 5 g stk.length cs) ∈ L:=by
 rcases hX with ⟨h1,h2,_⟩ | ⟨rr,g,cs,L',h1,_,h2⟩
 ·exact .inl ⟨h2,h1⟩
 ·exact .inr ⟨rr,g,cs,h1,by rw [h2]; simp⟩
theorem zfH {b g n:Nat} {xs:List AV}:∀ {l:List AV},zam l=true → l.map (zci b g n xs)=l
 | [],_ => rfl
 | x :: l,h => by
  simp only [zam,Bool.and_eq_true] at h
  rw [List.map_cons,zcS h.1,zfH h.2]
theorem zbV {M:List (Nat × OB)} {i:Nat} {T:TypeId} {cs:List AV} (h:zam cs=true) (hM:zcl M):zcl ((i,.box T cs) :: M):=by
 intro z hz b g n xs
 rcases List.mem_cons.1 hz with rfl | hz
 ·simp only [zg0,zfH h]
 ·exact hM z hz b g n xs
def zcz (t:Tk):OB:=.box 51 (tkC t)
section
variable [Tabs Tryz.prog] [Pow Tryz.prog] {objs:List OB} {K:List OB → AV → Prop} {M:List (Nat × OB)}
omit [Pow Tryz.prog] in
theorem goOn_k (hNB:zcl M) {p:Nat} {σ:Ms} {f:Fr} {r:List Fr} (hP:PrO M p σ objs) (hs:σ.stk=f :: r) (h67:¬ (σ.st=6 ∨ σ.st=7)) (hl:∀ f ∈ σ.stk,f.its.length ≤ 10000000) (hd:σ.stk.length ≤ 64) (t:Tk)
  (h0:(onM σ t).1=0 → ∀ o,PrO M p (onM σ t).2 o → K o (.i .i64 0)) (h1:¬ (onM σ t).1=0 → ∀ o σ',PrO M p σ' o → K o (.i .i64 (onM σ t).1)) :
  zad Tryz.prog 40 [.p p 0,zgN t] objs K:=by
 have hrl:r.length ≤ 63:=by rw [hs] at hd; simpa using hd
 have hP1:=zhq hP (zcz t)
 have hq:∀ o,zad Tryz.prog 39 [.agg [.i .i64 t.1,.s t.2.1,.i .i64 t.2.2],.s [44]] o (fun o' r => o'=o ∧ r=.b (isP t 44)):=fun o => zdX t 44 ⟨rfl,rfl⟩
 refine zcL is_jsondoc_parser_goOn fun C _ => ?_
 rw [c_jsondoc_parser_goOn]
 refine zaa fun Y hY => ?_
 simp only [zgN,sxZ,z6,z7,z8,j5,j6,j7,j8,j9,x3,x4,x5,x6,x7,x8,x9,reduceCtorEq,↓reduceIte]
 have fold0:OB.box 51 (tkC t)=zcz t:=rfl
 rw [fold0]
 generalize objs ++ [zcz t]=o1 at hP1 ⊢
 have e0:=zb1 hP1 (i:=objs.length) (x:=zcz t) (by simp)
 unfold zcz tkC at e0
 unfold onM at h0 h1
 rw [hs] at h0 h1
 simp only at h0 h1
 subst hY
 refine zaa fun Y hY => ?_
 simp only [sxZ,z6,z7,z8,j5,j6,j7,j8,j9,x3,x4,x5,x6,x7,x8,x9,reduceCtorEq,↓reduceIte,e0]
 refine zal (zfj hP1 hs (by omega) t fun o2 ho => ?_)
 have hNB':zcl ((objs.length,zcz t) :: M):=zbV rfl hNB
 cases hc:zdv σ t
 rotate_left
 ·rw [if_pos hc] at h0
  simp only [sxZ,z6,z7,z8,j5,j6,j7,j8,j9,x3,x4,x5,x6,x7,x8,x9,reduceCtorEq,↓reduceIte]
  refine zal (ziV hNB' ho hs h67 hl hd fun o3 ho3 => ?_)
  simp only [sxZ,z6,z7,z8,j5,j6,j7,j8,j9,x3,x4,x5,x6,x7,x8,x9,reduceCtorEq,↓reduceIte]
  subst hY
  simp only [sxZ,z6,z7,z8,j5,j6,j7,j8,j9,x3,x4,x5,x6,x7,x8,x9,reduceCtorEq,↓reduceIte]
  exact h0 rfl _ (zaw ho3)
 rw [if_neg (by rw [hc]; exact Bool.false_ne_true)] at h0 h1
 have e2:=zb1 ho (i:=objs.length) (x:=zcz t) (by simp)
 unfold zcz tkC at e2
 simp only [sxZ,z6,z7,z8,j5,j6,j7,j8,j9,x3,x4,x5,x6,x7,x8,x9,reduceCtorEq,↓reduceIte,e2]
 refine zal ((hq o2).mono ?_)
 rintro o3 x ⟨rfl,rfl⟩
 cases hp:isP t 44
 ·rw [if_pos hp] at h1
  simp only [sxZ,z6,z7,z8,j5,j6,j7,j8,j9,x3,x4,x5,x6,x7,x8,x9,reduceCtorEq,↓reduceIte]
  exact h1 (by simp) _ _ (zaw ho)
 rw [if_neg (by rw [hp]; exact Bool.noConfusion)] at h0
 obtain ⟨rr,g,r0,r1,r2,r3,kx,ix,mx,d0,L0,Lk,Li,Lm,hO,q1,q2,q3,q4,q5,hpl⟩:=zhp ho hs
 have f1:=hO.get (i:=p) (x:=prB σ.st (.orow rr g) σ.nodes r0 r1 r2 r3) (by simp)
 have f2:=hO.get (i:=rr) (x:=.orow 90 5 g (r.length + 1) (d0 ++ [.i .i64 (kdF f),.s [],kx,ix,mx])) (by simp)
 have k0:=c5_at0 d0 [.i .i64 (kdF f),.s [],kx,ix,mx] r.length q5
 simp only [sxZ,z6,z7,z8,j5,j6,j7,j8,j9,x3,x4,x5,x6,x7,x8,x9,reduceCtorEq,↓reduceIte]
 refine zal (zlv f1 f2 (by omega) ?_)
 have hfin:∀ s':Int,s'=(if f.obj=true then 2 else 0) → K (o3.set p (prB s' (.orow rr g) σ.nodes r0 r1 r2 r3)) (.i .i64 0):=by
  intro s' hs'
  refine h0 rfl _ (zaw (z:=(objs.length,zcz t)) ?_)
  rw [← hs']
  exact zkU (hO.set0 (prB s' (.orow rr g) σ.nodes r0 r1 r2 r3)) q1 q2 q3 q4 hpl (by rw [hs']; split <;> decide)
 have hkd:=show kdF f=if f.obj=true then 7 else 6 from rfl
 unfold prB at f1 hfin
 subst hY
 cases hb:f.obj
 ·have hk6:kdF f=6:=by rw [hkd,hb]; rfl
  rw [hk6] at f2 k0
  simp only [sxZ,z6,z7,z8,j5,j6,j7,j8,j9,x3,x4,x5,x6,x7,x8,x9,reduceCtorEq,↓reduceIte,f1,f2,Nat.add_zero,k0]
  exact hfin 0 (by rw [hb]; rfl)
 ·have hk7:kdF f=7:=by rw [hkd,hb]; rfl
  rw [hk7] at f2 k0
  simp only [sxZ,z6,z7,z8,j5,j6,j7,j8,j9,x3,x4,x5,x6,x7,x8,x9,reduceCtorEq,↓reduceIte,f1,f2,Nat.add_zero,k0]
  exact hfin 2 (by rw [hb]; rfl)
def zcx:SCode:=match c_jsondoc_parser_begin with
 | .seq _ (.seq _ (.seq _ (.seq _ r))) => r
 | _ => .skip
def zi8 (k:Int) (x:List UInt8):OB:=.box 26 [.i .i64 k,.s x,.nil,.nil]
omit [Pow Tryz.prog] in
theorem zbS (hNB:zcl M) {p q q':Nat} {σst:Int} {stk:List Fr} {nodes:Nat} {root:JV} {o:List OB} {tm:List AV} {k:Int} {x:List UInt8} {t:Tk} {C:Cx} [On Tryz.prog C] (hP:PrO ((q,zi8 k x) :: (q',zcz t) :: M) p ⟨σst,stk,nodes,root⟩ o)
  (h67:¬ (σst=6 ∨ σst=7)) (hl:∀ f ∈ stk,f.its.length ≤ 10000000) (hd:stk.length ≤ 64) (hn:nodes ≤ 20000) (hlen:tm.length=75) (t0:tm[0]? = some (.p p 0)) (t5:tm[5]? = some (.p q 0)) (c:Bool) (t6:tm[6]? = some (.b c))
  (hc:c=true → x=[] ∧ (k=6 ∨ k=7)) (hk:if 20000 ≤ nodes then ∀ o σ',PrO M p σ' o → K o (.i .i64 142) else if c=true then ∀ o,PrO M p (zbK ⟨σst,stk,nodes,root⟩ (decide (k=7))) o → K o (.i .i64 0) else ∀ o,PrO M p (zcN ⟨σst,stk,nodes + 1,root⟩ (.mk k x [] [])) o → K o (.i .i64 0)) :
  run Tryz.prog C [.code zcx] o tm (endI [.tmp 4] K):=by
 obtain ⟨X,r0,r1,r2,r3,L,hO,hX,hpl,hr⟩:=id hP
 simp only at hO hX hr
 have e1:=hO.get (i:=p) (x:=prB σst X nodes r0 r1 r2 r3) (by simp)
 unfold prB at e1
 have hb:zcx=zcx:=rfl
 conv at hb => rhs; simp only [zcx,c_jsondoc_parser_begin]
 rw [hb]
 clear hb
 refine zaa fun Y hY => ?_
 by_cases c1:20000 ≤ nodes
 ·rw [if_pos c1] at hk
  have c2:(20000:Int) ≤ (nodes:Int):=by omega
  simp only [sxZ,z6,z7,z8,j5,j6,j7,j8,j9,x3,x4,x5,x6,x7,x8,x9,reduceCtorEq,↓reduceIte,List.getElem?_set,hlen,t0,e1,c2]
  exact hk _ _ (zaw (zaw hP))
 rw [if_neg c1] at hk
 have c2:¬ (20000:Int) ≤ (nodes:Int):=by omega
 simp only [sxZ,z6,z7,z8,j5,j6,j7,j8,j9,x3,x4,x5,x6,x7,x8,x9,reduceCtorEq,↓reduceIte,List.getElem?_set,hlen,t0,e1,c2]
 subst hY
 refine zaa fun Y hY => ?_
 simp only [sxZ,z6,z7,z8,j5,j6,j7,j8,j9,x3,x4,x5,x6,x7,x8,x9,reduceCtorEq,↓reduceIte,List.getElem?_set,hlen,t0,e1]
 refine ⟨by omega,?_⟩
 have hO2:=hO.set0 (prB σst X (nodes + 1) r0 r1 r2 r3)
 have fold1:OB.box 49 [.i .i64 σst,X,.i .i64 ((nodes:Int) + 1),r0,r1,r2,r3]=prB σst X (nodes + 1) r0 r1 r2 r3:=rfl
 rw [fold1]
 have hP2:PrO ((q,zi8 k x) :: (q',zcz t) :: M) p ⟨σst,stk,nodes + 1,root⟩ (o.set p (prB σst X (nodes + 1) r0 r1 r2 r3)):=⟨X,r0,r1,r2,r3,L,hO2,hX,hpl,hr⟩
 generalize o.set p (prB σst X (nodes + 1) r0 r1 r2 r3)=o2 at hP2 ⊢
 have e2:=zb1 hP2 (i:=q) (x:=zi8 k x) (by simp)
 have hNB2:zcl ((q,zi8 k x) :: (q',zcz t) :: M):=zbV rfl (zbV rfl hNB)
 unfold zi8 at e2
 subst hY
 refine zaa fun Y hY => ?_
 cases c
 ·rw [if_neg Bool.false_ne_true] at hk
  simp only [sxZ,z6,z7,z8,j5,j6,j7,j8,j9,x3,x4,x5,x6,x7,x8,x9,reduceCtorEq,↓reduceIte,List.getElem?_set,hlen,t0,t5,t6,e2]
  refine zal ?_
  refine weak4 (fun G I v hv => zdV hv) (weak4' (fun G I v hv => zdV hv) ?_)
  have ha:=add_k (K:=fun o y => PrO ((q,zi8 k x) :: (q',zcz t) :: M) p (zcN ⟨σst,stk,nodes + 1,root⟩ (.mk k x [] [])) o ∧ y=.tup []) hP2 (.mk k x [] []) hl hd (fun o ho => ⟨ho,rfl⟩)
  rw [zaq,zau] at ha
  refine ha.mono ?_
  rintro o3 y ⟨ho,rfl⟩
  simp only [sxZ,z6,z7,z8,j5,j6,j7,j8,j9,x3,x4,x5,x6,x7,x8,x9,reduceCtorEq,↓reduceIte,List.getElem?_set,hlen]
  subst hY
  simp only [sxZ,z6,z7,z8,j5,j6,j7,j8,j9,x3,x4,x5,x6,x7,x8,x9,reduceCtorEq,↓reduceIte,List.getElem?_set,hlen]
  exact hk _ (zaw (zaw ho))
 ·rw [if_pos rfl] at hk
  obtain ⟨rfl,hk67⟩:=hc rfl
  simp only [sxZ,z6,z7,z8,j5,j6,j7,j8,j9,x3,x4,x5,x6,x7,x8,x9,reduceCtorEq,↓reduceIte,List.getElem?_set,hlen,t0,t5,t6,e2]
  have ha:=open_k (K:=fun o y => PrO ((q,zi8 k []) :: (q',zcz t) :: M) p (zbK ⟨σst,stk,nodes,root⟩ (decide (k=7))) o ∧ y=.tup []) hP2 (decide (k=7)) hd (fun o ho => ⟨ho,rfl⟩)
  rw [show (if decide (k=7)=true then (7:Int) else 6)=k by rcases hk67 with rfl | rfl <;> rfl] at ha
  refine zal (ha.mono ?_)
  rintro o3 y ⟨ho,rfl⟩
  simp only [sxZ,z6,z7,z8,j5,j6,j7,j8,j9,x3,x4,x5,x6,x7,x8,x9,reduceCtorEq,↓reduceIte,List.getElem?_set,hlen]
  subst hY
  simp only [sxZ,z6,z7,z8,j5,j6,j7,j8,j9,x3,x4,x5,x6,x7,x8,x9,reduceCtorEq,↓reduceIte,List.getElem?_set,hlen]
  exact hk _ (zaw (zaw ho))
theorem zov (hNB:zcl M) {p:Nat} {σ:Ms} (hP:PrO M p σ objs) (h67:¬ (σ.st=6 ∨ σ.st=7)) (hl:∀ f ∈ σ.stk,f.its.length ≤ 10000000) (hd:σ.stk.length ≤ 64) (hn:σ.nodes ≤ 20000) (t:Tk) (ht:t.2.1.length ≤ 140737488351232)
  (h0:(zaN σ t).1=0 → ∀ o,PrO M p (zaN σ t).2 o → K o (.i .i64 0)) (h1:¬ (zaN σ t).1=0 → ∀ o σ',PrO M p σ' o → K o (.i .i64 (zaN σ t).1)) :
  zad Tryz.prog 35 [.p p 0,zgN t] objs K:=by
 obtain ⟨σst,stk,nodes,root⟩:=σ
 have hP1:=zhq hP (zcz t)
 refine zcL is_jsondoc_parser_begin fun C _ => ?_
 rw [c_jsondoc_parser_begin]
 refine zaa fun Y hY => ?_
 simp only [zgN,sxZ,z6,z7,z8,j5,j6,j7,j8,j9,x3,x4,x5,x6,x7,x8,x9,reduceCtorEq,↓reduceIte]
 have fold0:OB.box 51 (tkC t)=zcz t:=rfl
 rw [fold0]
 generalize objs ++ [zcz t]=o1 at hP1 ⊢
 have e0:=zb1 hP1 (i:=objs.length) (x:=zcz t) (by simp)
 have hP2:=zhq hP1 (zi8 (vkE t) [])
 unfold zcz tkC at e0
 subst hY
 refine zaa fun Y hY => ?_
 simp only [sxZ,z6,z7,z8,j5,j6,j7,j8,j9,x3,x4,x5,x6,x7,x8,x9,reduceCtorEq,↓reduceIte,e0]
 refine zal (zig t ?_)
 simp only [sxZ,z6,z7,z8,j5,j6,j7,j8,j9,x3,x4,x5,x6,x7,x8,x9,reduceCtorEq,↓reduceIte,gn1,sn1]
 have fold1:OB.box 26 [.i .i64 (vkE t),.s [],.nil,.nil]=zi8 (vkE t) []:=rfl
 rw [fold1]
 generalize o1 ++ [zi8 (vkE t) []]=o2 at hP2 ⊢
 have e1:=zb1 hP2 (i:=o1.length) (x:=zi8 (vkE t) []) (by simp)
 have e2:=zb1 hP2 (i:=objs.length) (x:=zcz t) (by simp)
 unfold zi8 at e1
 unfold zcz tkC at e2
 subst hY
 refine zaa fun Y hY => ?_
 simp only at h67 hl hd hn
 obtain ⟨X,r0,r1,r2,r3,L,hO,hX,hpl,hr⟩:=id hP2
 have e3:=hO.get (i:=p) (x:=prB σst X nodes r0 r1 r2 r3) (by simp)
 unfold prB at e3
 simp only at hX
 have hXl:=pr_len hX
 have leafK:∀ (k:Int) (x:List UInt8),vkE t=k → ¬ k=0 → ¬ (k=6 ∨ k=7) → zga t=(0,x) → if 20000 ≤ nodes then ∀ o σ',PrO M p σ' o → K o (.i .i64 142) else if false=true then ∀ o,PrO M p (zbK ⟨σst,stk,nodes,root⟩ (decide (k=7))) o → K o (.i .i64 0) else ∀ o,PrO M p (zcN ⟨σst,stk,nodes + 1,root⟩ (.mk k x [] [])) o → K o (.i .i64 0):=by
  intro k x hk hk0 hk67 hx
  unfold zaN at h0 h1
  rw [hk,if_neg hk0,if_neg hk67,hx] at h0 h1
  simp only [not_true_eq_false,if_false] at h0 h1
  split
  ·rename_i c
   rw [if_pos c] at h1
   exact h1 (by simp)
  ·rename_i c
   rw [if_neg c] at h0
   rw [if_neg Bool.false_ne_true]
   exact h0 rfl
 rcases vk_val t with hv | hv | hv | hv | hv | hv | hv | hv
 ·rw [hv] at e1
  have hb:zaN ⟨σst,stk,nodes,root⟩ t=(140,⟨σst,stk,nodes,root⟩):=by unfold zaN; rw [if_pos hv]
  rw [hb] at h1
  simp only [sxZ,z6,z7,z8,j5,j6,j7,j8,j9,x3,x4,x5,x6,x7,x8,x9,reduceCtorEq,↓reduceIte,e1]
  subst hY
  refine zaa fun Y hY => ?_
  simp only [sxZ,z6,z7,z8,j5,j6,j7,j8,j9,x3,x4,x5,x6,x7,x8,x9,reduceCtorEq,↓reduceIte,e1]
  exact h1 (by simp) _ _ (zaw (zaw hP2))
 ·rw [hv] at e1 hP2
  simp only [sxZ,z6,z7,z8,j5,j6,j7,j8,j9,x3,x4,x5,x6,x7,x8,x9,reduceCtorEq,↓reduceIte,e1]
  subst hY
  refine zaa fun Y hY => ?_
  simp only [sxZ,z6,z7,z8,j5,j6,j7,j8,j9,x3,x4,x5,x6,x7,x8,x9,reduceCtorEq,↓reduceIte,e1]
  obtain rfl:Y=zcx:=hY
  exact zbS hNB hP2 h67 hl hd hn rfl rfl rfl false rfl (fun h => by cases h) (leafK 1 [] hv (by decide) (by decide) (by unfold zga; rw [hv]; rfl))
 ·rw [hv] at e1 hP2
  simp only [sxZ,z6,z7,z8,j5,j6,j7,j8,j9,x3,x4,x5,x6,x7,x8,x9,reduceCtorEq,↓reduceIte,e1]
  subst hY
  refine zaa fun Y hY => ?_
  simp only [sxZ,z6,z7,z8,j5,j6,j7,j8,j9,x3,x4,x5,x6,x7,x8,x9,reduceCtorEq,↓reduceIte,e1]
  obtain rfl:Y=zcx:=hY
  exact zbS hNB hP2 h67 hl hd hn rfl rfl rfl false rfl (fun h => by cases h) (leafK 2 [] hv (by decide) (by decide) (by unfold zga; rw [hv]; rfl))
 ·rw [hv] at e1 hP2
  simp only [sxZ,z6,z7,z8,j5,j6,j7,j8,j9,x3,x4,x5,x6,x7,x8,x9,reduceCtorEq,↓reduceIte,e1]
  subst hY
  refine zaa fun Y hY => ?_
  simp only [sxZ,z6,z7,z8,j5,j6,j7,j8,j9,x3,x4,x5,x6,x7,x8,x9,reduceCtorEq,↓reduceIte,e1]
  obtain rfl:Y=zcx:=hY
  exact zbS hNB hP2 h67 hl hd hn rfl rfl rfl false rfl (fun h => by cases h) (leafK 3 [] hv (by decide) (by decide) (by unfold zga; rw [hv]; rfl))
 ·rw [hv] at e1 hP2
  simp only [sxZ,z6,z7,z8,j5,j6,j7,j8,j9,x3,x4,x5,x6,x7,x8,x9,reduceCtorEq,↓reduceIte,e1]
  subst hY
  refine zaa fun Y hY => ?_
  simp only [sxZ,z6,z7,z8,j5,j6,j7,j8,j9,x3,x4,x5,x6,x7,x8,x9,reduceCtorEq,↓reduceIte,e1,e2]
  refine zal (number_e t.2.1 ht ?_)
  have hx:zga t=zcF t.2.1:=by unfold zga; rw [if_pos hv]
  by_cases c1:(zcF t.2.1).1=0
  ·simp only [sxZ,z6,z7,z8,j5,j6,j7,j8,j9,x3,x4,x5,x6,x7,x8,x9,reduceCtorEq,↓reduceIte,c1,e1]
   obtain rfl:Y=zcx:=hY
   exact zbS hNB (pr_set hP2 (zi8 4 (zcF t.2.1).2)) h67 hl hd hn rfl rfl rfl false rfl (fun h => by cases h) (leafK 4 _ hv (by decide) (by decide) (by rw [hx]; exact Prod.ext c1 rfl))
  ·have hb:zaN ⟨σst,stk,nodes,root⟩ t=((zcF t.2.1).1,⟨σst,stk,nodes,root⟩):=by unfold zaN; rw [hv,if_neg (by decide),if_neg (by decide),hx,if_pos c1]
   rw [hb] at h1
   simp only [sxZ,z6,z7,z8,j5,j6,j7,j8,j9,x3,x4,x5,x6,x7,x8,x9,reduceCtorEq,↓reduceIte,c1]
   exact h1 c1 _ _ (zaw (zaw hP2))
 ·rw [hv] at e1 hP2
  simp only [sxZ,z6,z7,z8,j5,j6,j7,j8,j9,x3,x4,x5,x6,x7,x8,x9,reduceCtorEq,↓reduceIte,e1]
  subst hY
  refine zaa fun Y hY => ?_
  simp only [sxZ,z6,z7,z8,j5,j6,j7,j8,j9,x3,x4,x5,x6,x7,x8,x9,reduceCtorEq,↓reduceIte,e1,e2]
  obtain rfl:Y=zcx:=hY
  exact zbS hNB (pr_set hP2 (zi8 5 t.2.1)) h67 hl hd hn rfl rfl rfl false rfl (fun h => by cases h) (leafK 5 _ hv (by decide) (by decide) (by unfold zga; rw [hv]; rfl))
 ·rw [hv] at e1 hP2
  unfold zaN at h0 h1
  rw [hv,if_neg (by decide),if_pos (by decide)] at h0 h1
  simp only at h0 h1
  rcases hXl with ⟨rfl,rfl⟩ | ⟨rr,g,cs,rfl,hmem⟩
  ·simp only [sxZ,z6,z7,z8,j5,j6,j7,j8,j9,x3,x4,x5,x6,x7,x8,x9,reduceCtorEq,↓reduceIte,e1]
   subst hY
   refine zaa fun Y hY => ?_
   simp only [sxZ,z6,z7,z8,j5,j6,j7,j8,j9,x3,x4,x5,x6,x7,x8,x9,reduceCtorEq,↓reduceIte,e1,e3]
   obtain rfl:Y=zcx:=hY
   refine zbS hNB hP2 h67 hl hd hn rfl rfl rfl true rfl (fun h => ⟨rfl,by decide⟩) ?_
   rw [if_neg (by decide)] at h0 h1
   split
   ·rename_i c
    rw [if_pos c] at h1
    exact h1 (by simp)
   ·rename_i c
    rw [if_neg c] at h0
    rw [if_pos rfl]
    exact h0 rfl
  ·have e4:=hO.get (i:=rr) (x:=.orow 90 5 g stk.length cs) (by simp [hmem])
   simp only [sxZ,z6,z7,z8,j5,j6,j7,j8,j9,x3,x4,x5,x6,x7,x8,x9,reduceCtorEq,↓reduceIte,e1]
   subst hY
   refine zaa fun Y hY => ?_
   by_cases c1:64 ≤ stk.length
   ·rw [if_pos c1] at h1
    have c2:(64:Int) ≤ (stk.length:Int):=by omega
    simp only [sxZ,z6,z7,z8,j5,j6,j7,j8,j9,x3,x4,x5,x6,x7,x8,x9,reduceCtorEq,↓reduceIte,e1,e3,e4,c2]
    exact h1 (by simp) _ _ (zaw (zaw hP2))
   rw [if_neg c1] at h0 h1
   have c2:¬ (64:Int) ≤ (stk.length:Int):=by omega
   simp only [sxZ,z6,z7,z8,j5,j6,j7,j8,j9,x3,x4,x5,x6,x7,x8,x9,reduceCtorEq,↓reduceIte,e1,e3,e4,c2]
   obtain rfl:Y=zcx:=hY
   refine zbS hNB hP2 h67 hl hd hn rfl rfl rfl true rfl (fun h => ⟨rfl,by decide⟩) ?_
   split
   ·rename_i c
    rw [if_pos c] at h1
    exact h1 (by simp)
   ·rename_i c
    rw [if_neg c] at h0
    rw [if_pos rfl]
    exact h0 rfl
 ·rw [hv] at e1 hP2
  unfold zaN at h0 h1
  rw [hv,if_neg (by decide),if_pos (by decide)] at h0 h1
  simp only at h0 h1
  rcases hXl with ⟨rfl,rfl⟩ | ⟨rr,g,cs,rfl,hmem⟩
  ·simp only [sxZ,z6,z7,z8,j5,j6,j7,j8,j9,x3,x4,x5,x6,x7,x8,x9,reduceCtorEq,↓reduceIte,e1]
   subst hY
   refine zaa fun Y hY => ?_
   simp only [sxZ,z6,z7,z8,j5,j6,j7,j8,j9,x3,x4,x5,x6,x7,x8,x9,reduceCtorEq,↓reduceIte,e1,e3]
   obtain rfl:Y=zcx:=hY
   refine zbS hNB hP2 h67 hl hd hn rfl rfl rfl true rfl (fun h => ⟨rfl,by decide⟩) ?_
   rw [if_neg (by decide)] at h0 h1
   split
   ·rename_i c
    rw [if_pos c] at h1
    exact h1 (by simp)
   ·rename_i c
    rw [if_neg c] at h0
    rw [if_pos rfl]
    exact h0 rfl
  ·have e4:=hO.get (i:=rr) (x:=.orow 90 5 g stk.length cs) (by simp [hmem])
   simp only [sxZ,z6,z7,z8,j5,j6,j7,j8,j9,x3,x4,x5,x6,x7,x8,x9,reduceCtorEq,↓reduceIte,e1]
   subst hY
   refine zaa fun Y hY => ?_
   by_cases c1:64 ≤ stk.length
   ·rw [if_pos c1] at h1
    have c2:(64:Int) ≤ (stk.length:Int):=by omega
    simp only [sxZ,z6,z7,z8,j5,j6,j7,j8,j9,x3,x4,x5,x6,x7,x8,x9,reduceCtorEq,↓reduceIte,e1,e3,e4,c2]
    exact h1 (by simp) _ _ (zaw (zaw hP2))
   rw [if_neg c1] at h0 h1
   have c2:¬ (64:Int) ≤ (stk.length:Int):=by omega
   simp only [sxZ,z6,z7,z8,j5,j6,j7,j8,j9,x3,x4,x5,x6,x7,x8,x9,reduceCtorEq,↓reduceIte,e1,e3,e4,c2]
   obtain rfl:Y=zcx:=hY
   refine zbS hNB hP2 h67 hl hd hn rfl rfl rfl true rfl (fun h => ⟨rfl,by decide⟩) ?_
   split
   ·rename_i c
    rw [if_pos c] at h1
    exact h1 (by simp)
   ·rename_i c
    rw [if_neg c] at h0
    rw [if_pos rfl]
    exact h0 rfl
theorem take_k (hNB:zcl M) {p a:Nat} {σ:Ms} (hP:PrO M p σ objs) (hw:WfM σ a) (ha:a ≤ 10000000) (h7:¬ σ.st=7) (t:Tk) (ht:t.2.1.length ≤ 140737488351232)
  (h0:(zar σ t).1=0 → ∀ o,PrO M p (zar σ t).2 o → K o (.i .i64 0)) (h1:¬ (zar σ t).1=0 → ∀ o σ',PrO M p σ' o → K o (.i .i64 (zar σ t).1)) :
  zad Tryz.prog 22 [.p p 0,zgN t] objs K:=by
 have hl:∀ f ∈ σ.stk,f.its.length ≤ 10000000:=fun f hf => by have:=(hw.len f hf).2; omega
 have hlk:∀ f ∈ σ.stk,f.ks.length ≤ 10000000:=fun f hf => by have:=(hw.len f hf).1; omega
 have hd:=hw.deep
 have hn:=hw.few
 have hP1:=zhq hP (zcz t)
 have hNB':zcl ((objs.length,zcz t) :: M):=zbV rfl hNB
 have hq:∀ o,zad Tryz.prog 39 [.agg [.i .i64 t.1,.s t.2.1,.i .i64 t.2.2],.s [58]] o (fun o' r => o'=o ∧ r=.b (isP t 58)):=fun o => zdX t 58 ⟨rfl,rfl⟩
 refine zcL is_jsondoc_parser_take fun C _ => ?_
 rw [c_jsondoc_parser_take]
 refine zaa fun Y hY => ?_
 simp only [zgN,sxZ,z6,z7,z8,j5,j6,j7,j8,j9,x3,x4,x5,x6,x7,x8,x9,reduceCtorEq,↓reduceIte]
 have fold0:OB.box 51 (tkC t)=zcz t:=rfl
 rw [fold0]
 generalize objs ++ [zcz t]=o1 at hP1 ⊢
 have e0:=zb1 hP1 (i:=objs.length) (x:=zcz t) (by simp)
 unfold zcz tkC at e0
 obtain ⟨X,r0,r1,r2,r3,L,hO,hX,hpl,hr⟩:=id hP1
 have e1:=hO.get (i:=p) (x:=prB σ.st X σ.nodes r0 r1 r2 r3) (by simp)
 unfold prB at e1
 unfold zar at h0 h1
 have setst:∀ s':Int,¬ (s'=6 ∨ s'=7) ∨ (s'=7 ∧ σ.st=6) → PrO M p ⟨s',σ.stk,σ.nodes,σ.root⟩ (o1.set p (.box 49 [.i .i64 s',X,.i .i64 (σ.nodes:Int),r0,r1,r2,r3])):=fun s' hs' =>
  zaw (z:=(objs.length,zcz t)) ⟨X,r0,r1,r2,r3,L,hO.set0 (prB s' X σ.nodes r0 r1 r2 r3),hX,hpl,fun h => by
   rcases hs' with h' | ⟨_,h'⟩
   ·exact absurd h h'
   ·exact hr (.inl h')⟩
 subst hY
 refine zaa fun Y hY => ?_
 by_cases c0:σ.st=0
 ·rw [if_pos c0] at h0 h1
  simp only [sxZ,z6,z7,z8,j5,j6,j7,j8,j9,x3,x4,x5,x6,x7,x8,x9,reduceCtorEq,↓reduceIte,e0,e1,c0]
  refine zal (zov hNB' hP1 (by omega) hl hd hn t ht (fun h o ho => ?_) (fun h o σ' ho => ?_))
  ·simp only [sxZ,z6,z7,z8,j5,j6,j7,j8,j9,x3,x4,x5,x6,x7,x8,x9,reduceCtorEq,↓reduceIte]
   exact h0 h _ (zaw ho)
  ·simp only [sxZ,z6,z7,z8,j5,j6,j7,j8,j9,x3,x4,x5,x6,x7,x8,x9,reduceCtorEq,↓reduceIte]
   exact h1 h _ _ (zaw ho)
 rw [if_neg c0] at h0 h1
 have key3:σ.st=1 ∨ σ.st=3 → ∃ f r,σ.stk=f :: r:=fun h => by
  have:=hw.top (by omega)
  cases hs:σ.stk with
  | nil => exact absurd hs this
  | cons f r => exact ⟨f,r,rfl⟩
 by_cases c1:σ.st=1
 ·rw [if_pos c1] at h0 h1
  obtain ⟨f,r,hs⟩:=key3 (.inl c1)
  have hrl:r.length ≤ 63:=by rw [hs] at hd; simpa using hd
  simp only [sxZ,z6,z7,z8,j5,j6,j7,j8,j9,x3,x4,x5,x6,x7,x8,x9,reduceCtorEq,↓reduceIte,e0,e1,c0,c1]
  refine zal (zfj hP1 hs (by omega) t fun o2 ho => ?_)
  cases hc:zdv σ t
  rotate_left
  ·rw [if_pos hc] at h0
   simp only [sxZ,z6,z7,z8,j5,j6,j7,j8,j9,x3,x4,x5,x6,x7,x8,x9,reduceCtorEq,↓reduceIte]
   refine zal (ziV hNB' ho hs (by omega) hl hd fun o3 ho3 => ?_)
   simp only [sxZ,z6,z7,z8,j5,j6,j7,j8,j9,x3,x4,x5,x6,x7,x8,x9,reduceCtorEq,↓reduceIte]
   exact h0 rfl _ (zaw ho3)
  rw [if_neg (by rw [hc]; exact Bool.false_ne_true)] at h0 h1
  have g0:=zb1 ho (i:=objs.length) (x:=zcz t) (by simp)
  unfold zcz tkC at g0
  obtain ⟨X',u0,u1,u2,u3,L',hO',_,_,_⟩:=id ho
  have g1:=hO'.get (i:=p) (x:=prB σ.st X' σ.nodes u0 u1 u2 u3) (by simp)
  unfold prB at g1
  simp only [sxZ,z6,z7,z8,j5,j6,j7,j8,j9,x3,x4,x5,x6,x7,x8,x9,reduceCtorEq,↓reduceIte,g0,g1,c1]
  refine zal (zov hNB' ho (by omega) hl hd hn t ht (fun h o ho => ?_) (fun h o σ' ho => ?_))
  ·simp only [sxZ,z6,z7,z8,j5,j6,j7,j8,j9,x3,x4,x5,x6,x7,x8,x9,reduceCtorEq,↓reduceIte]
   exact h0 h _ (zaw ho)
  ·simp only [sxZ,z6,z7,z8,j5,j6,j7,j8,j9,x3,x4,x5,x6,x7,x8,x9,reduceCtorEq,↓reduceIte]
   exact h1 h _ _ (zaw ho)
 rw [if_neg c1] at h0 h1
 by_cases c3:σ.st=3
 ·rw [if_pos c3] at h0 h1
  obtain ⟨f,r,hs⟩:=key3 (.inr c3)
  have hrl:r.length ≤ 63:=by rw [hs] at hd; simpa using hd
  simp only [sxZ,z6,z7,z8,j5,j6,j7,j8,j9,x3,x4,x5,x6,x7,x8,x9,reduceCtorEq,↓reduceIte,e0,e1,c0,c1,c3]
  refine zal (zfj hP1 hs (by omega) t fun o2 ho => ?_)
  cases hc:zdv σ t
  rotate_left
  ·rw [if_pos hc] at h0
   simp only [sxZ,z6,z7,z8,j5,j6,j7,j8,j9,x3,x4,x5,x6,x7,x8,x9,reduceCtorEq,↓reduceIte]
   refine zal (ziV hNB' ho hs (by omega) hl hd fun o3 ho3 => ?_)
   simp only [sxZ,z6,z7,z8,j5,j6,j7,j8,j9,x3,x4,x5,x6,x7,x8,x9,reduceCtorEq,↓reduceIte]
   exact h0 rfl _ (zaw ho3)
  rw [if_neg (by rw [hc]; exact Bool.false_ne_true)] at h0 h1
  have g0:=zb1 ho (i:=objs.length) (x:=zcz t) (by simp)
  unfold zcz tkC at g0
  obtain ⟨X',u0,u1,u2,u3,L',hO',_,_,_⟩:=id ho
  have g1:=hO'.get (i:=p) (x:=prB σ.st X' σ.nodes u0 u1 u2 u3) (by simp)
  unfold prB at g1
  simp only [sxZ,z6,z7,z8,j5,j6,j7,j8,j9,x3,x4,x5,x6,x7,x8,x9,reduceCtorEq,↓reduceIte,g0,g1,c1,c3]
  refine zal (zkC ho hs (hw.obj (by omega) f r hs) (hlk f (by rw [hs]; simp)) hd t ht (fun h o ho => ?_) (fun h o σ' ho => ?_))
  ·simp only [sxZ,z6,z7,z8,j5,j6,j7,j8,j9,x3,x4,x5,x6,x7,x8,x9,reduceCtorEq,↓reduceIte]
   exact h0 h _ (zaw ho)
  ·simp only [sxZ,z6,z7,z8,j5,j6,j7,j8,j9,x3,x4,x5,x6,x7,x8,x9,reduceCtorEq,↓reduceIte]
   exact h1 h _ _ (zaw ho)
 rw [if_neg c3] at h0 h1
 by_cases c2:σ.st=2
 ·rw [if_pos c2] at h0 h1
  obtain ⟨f,r,hs⟩:∃ f r,σ.stk=f :: r:=by
   have:=hw.top (by omega)
   cases hs:σ.stk with
   | nil => exact absurd hs this
   | cons f r => exact ⟨f,r,rfl⟩
  simp only [sxZ,z6,z7,z8,j5,j6,j7,j8,j9,x3,x4,x5,x6,x7,x8,x9,reduceCtorEq,↓reduceIte,e0,e1,c2]
  refine zal (zkC hP1 hs (hw.obj (by omega) f r hs) (hlk f (by rw [hs]; simp)) hd t ht (fun h o ho => ?_) (fun h o σ' ho => ?_))
  ·simp only [sxZ,z6,z7,z8,j5,j6,j7,j8,j9,x3,x4,x5,x6,x7,x8,x9,reduceCtorEq,↓reduceIte]
   exact h0 h _ (zaw ho)
  ·simp only [sxZ,z6,z7,z8,j5,j6,j7,j8,j9,x3,x4,x5,x6,x7,x8,x9,reduceCtorEq,↓reduceIte]
   exact h1 h _ _ (zaw ho)
 rw [if_neg c2] at h0 h1
 by_cases c4:σ.st=4
 ·rw [if_pos c4] at h0 h1
  simp only [sxZ,z6,z7,z8,j5,j6,j7,j8,j9,x3,x4,x5,x6,x7,x8,x9,reduceCtorEq,↓reduceIte,e0,e1,c4]
  refine zal ((hq o1).mono ?_)
  rintro o3 x ⟨rfl,rfl⟩
  cases hp:isP t 58
  ·rw [if_neg (by rw [hp]; exact Bool.false_ne_true)] at h1
   simp only [sxZ,z6,z7,z8,j5,j6,j7,j8,j9,x3,x4,x5,x6,x7,x8,x9,reduceCtorEq,↓reduceIte]
   subst hY
   simp only [sxZ,z6,z7,z8,j5,j6,j7,j8,j9,x3,x4,x5,x6,x7,x8,x9,reduceCtorEq,↓reduceIte]
   exact h1 (by simp) _ _ (zaw hP1)
  ·rw [if_pos hp] at h0
   simp only [sxZ,z6,z7,z8,j5,j6,j7,j8,j9,x3,x4,x5,x6,x7,x8,x9,reduceCtorEq,↓reduceIte,e1]
   exact h0 rfl _ (setst 0 (.inl (by decide)))
 rw [if_neg c4] at h0 h1
 by_cases c5:σ.st=5
 ·rw [if_pos c5] at h0 h1
  obtain ⟨f,r,hs⟩:∃ f r,σ.stk=f :: r:=by
   have:=hw.top (by omega)
   cases hs:σ.stk with
   | nil => exact absurd hs this
   | cons f r => exact ⟨f,r,rfl⟩
  simp only [sxZ,z6,z7,z8,j5,j6,j7,j8,j9,x3,x4,x5,x6,x7,x8,x9,reduceCtorEq,↓reduceIte,e0,e1,c5]
  refine zal (goOn_k hNB' hP1 hs (by omega) hl hd t (fun h o ho => ?_) (fun h o σ' ho => ?_))
  ·simp only [sxZ,z6,z7,z8,j5,j6,j7,j8,j9,x3,x4,x5,x6,x7,x8,x9,reduceCtorEq,↓reduceIte]
   exact h0 h _ (zaw ho)
  ·simp only [sxZ,z6,z7,z8,j5,j6,j7,j8,j9,x3,x4,x5,x6,x7,x8,x9,reduceCtorEq,↓reduceIte]
   exact h1 h _ _ (zaw ho)
 rw [if_neg c5] at h0 h1
 by_cases c6:σ.st=6
 ·rw [if_pos c6] at h0 h1
  by_cases c7:t.1=1
  ·rw [if_pos c7] at h0
   simp only [sxZ,z6,z7,z8,j5,j6,j7,j8,j9,x3,x4,x5,x6,x7,x8,x9,reduceCtorEq,↓reduceIte,e0,e1,c6,c7]
   exact h0 rfl _ (setst 7 (.inr ⟨rfl,c6⟩))
  ·rw [if_neg c7] at h1
   simp only [sxZ,z6,z7,z8,j5,j6,j7,j8,j9,x3,x4,x5,x6,x7,x8,x9,reduceCtorEq,↓reduceIte,e0,e1,c6,c7]
   subst hY
   simp only [sxZ,z6,z7,z8,j5,j6,j7,j8,j9,x3,x4,x5,x6,x7,x8,x9,reduceCtorEq,↓reduceIte]
   exact h1 (by simp) _ _ (zaw hP1)
 rw [if_neg c6] at h1
 simp only [sxZ,z6,z7,z8,j5,j6,j7,j8,j9,x3,x4,x5,x6,x7,x8,x9,reduceCtorEq,↓reduceIte,e0,e1,c0,c1,c2,c3,c4,c5,c6]
 subst hY
 simp only [sxZ,z6,z7,z8,j5,j6,j7,j8,j9,x3,x4,x5,x6,x7,x8,x9,reduceCtorEq,↓reduceIte]
 exact h1 (by simp) _ _ (zaw hP1)
end
end
section
attribute [local irreducible] run
theorem WfM.mono {σ:Ms} {a b:Nat} (h:WfM σ a) (hab:a ≤ b):WfM σ b:=⟨h.top,h.obj,fun f hf => by have:=h.len f hf; omega,h.deep,h.few⟩
theorem zfi {t:Tk} (h:t.1=1) (c:UInt8):isP t c=false:=by simp [isP,h]
theorem take_end {σ:Ms} {t:Tk} (h:t.1=1) (h0:(zar σ t).1=0):(zar σ t).2.st=7:=by
 have hv:vkE t=0:=by
  have h1:=zfi h 91
  have h2:=zfi h 123
  simp [vkE,h,h1,h2]
 have hb:(zaN σ t).1=140:=by unfold zaN; rw [if_pos hv]
 have hcl:zdv σ t=false:=by
  unfold zdv
  split
  ·rfl
  ·exact zfi h _
 have hky:¬ (zhC σ t).1=0:=by
  unfold zhC
  split
  ·simp
  ·rw [if_pos (by omega)]; simp
 have hon:¬ (onM σ t).1=0:=by
  unfold onM
  split
  ·simp
  ·rw [hcl,zfi h]; simp
 unfold zar at h0 ⊢
 rw [hcl,zfi h] at h0 ⊢
 simp only [Bool.false_eq_true,if_false] at h0 ⊢
 by_cases c0:σ.st=0
 ·rw [if_pos c0] at h0; rw [hb] at h0; cases h0
 rw [if_neg c0] at h0 ⊢
 by_cases c1:σ.st=1
 ·rw [if_pos c1] at h0; rw [hb] at h0; cases h0
 rw [if_neg c1] at h0 ⊢
 by_cases c3:σ.st=3
 ·rw [if_pos c3] at h0; exact absurd h0 hky
 rw [if_neg c3] at h0 ⊢
 by_cases c2:σ.st=2
 ·rw [if_pos c2] at h0; exact absurd h0 hky
 rw [if_neg c2] at h0 ⊢
 by_cases c4:σ.st=4
 ·rw [if_pos c4] at h0; cases h0
 rw [if_neg c4] at h0 ⊢
 by_cases c5:σ.st=5
 ·rw [if_pos c5] at h0; exact absurd h0 hon
 rw [if_neg c5] at h0 ⊢
 by_cases c6:σ.st=6
 ·rw [if_pos c6,if_pos h]
 ·rw [if_neg c6] at h0; cases h0
theorem jres {P:Program} [Tabs P] {f:FuncId} {args:List AV} {objs:List OB} {K:List OB → AV → Prop} (r':AV) (hc:zad P f args objs (fun o r => (∀ G I y,Den G I r y → Den G I r' y) ∧ K o r')):zad P f args objs K:=by
 intro C _ G I w hin hm ys hd
 refine (hc C G I w hin hm ys hd).mono ?_
 rintro e w' ⟨y,objs',r,G',I',he,⟨hr,hk⟩,h1,h2,h3,h4,hy⟩
 exact ⟨y,objs',r',G',I',he,hk,h1,h2,h3,h4,hr _ _ _ hy⟩
def zvC:List AV:=[.i .i64 0,.s [],.nil,.nil]
def zdR (R:JV × Int × Int):AV:=.tup [.agg (zaq R.1),.i .i64 R.2.1,.i .i64 R.2.2]
theorem den_zv {a e:Int} {G:Gh} {I:Imm} {y:Value} (h:Den G I (.tup [.agg zvC,.i .i64 a,.i .i64 e]) y):Den G I (zdR (jvZ,a,e)) y:=by
 unfold zdR jvZ
 rw [zaq,zau]
 unfold zvC at h
 simp only [zae,Den] at h ⊢
 obtain ⟨ys,h1,y0,l0,rfl,⟨zs,rfl,⟨z0,m0,rfl,q0,z1,m1,rfl,q1,z2,m2,rfl,q2,z3,m3,rfl,q3,q4⟩,hz⟩,h2⟩:=h
 refine ⟨_,h1,_,_,rfl,⟨_,rfl,⟨_,_,rfl,q0,_,_,rfl,q1,_,_,rfl,?_,_,_,rfl,?_,q4⟩,hz⟩,h2⟩
 ·exact ⟨none,0,[],q2,⟨Nat.le_refl _,fun ad h => by cases h⟩,rfl,by simp,by simp⟩
 ·exact ⟨none,0,[],q3,⟨Nat.le_refl _,fun ad h => by cases h⟩,rfl,by simp,by simp⟩
section
variable [Tabs Tryz.prog] [Pow Tryz.prog] [Utf Tryz.prog] {objs:List OB} {K:List OB → AV → Prop}
theorem zeJ (s:List UInt8) (hs:s.length ≤ 140737488351232) (hk:K objs (zdR (za8 s))):zad Tryz.prog 9 [.s s] objs K:=by
 refine jres (zdR (za8 s)) ?_
 refine zbb is_jsondoc_Parse rfl fun C _ => ?_
 have fin:∀ {o:List OB} {a e:Int},za8 s=(jvZ,a,e) → ((∀ G I y,Den G I (.tup [.agg zvC,.i .i64 a,.i .i64 e]) y → Den G I (zdR (za8 s)) y) ∧ K objs (zdR (za8 s))):=fun {o a e} h => ⟨fun G I y hy => by rw [h]; exact den_zv hy,hk⟩
 rw [c_jsondoc_Parse]
 refine zaa fun Y hY => ?_
 simp only [sxZ,z6,z7,z8,j5,j6,j7,j8,j9,x3,x4,x5,x6,x7,x8,x9,reduceCtorEq,↓reduceIte]
 subst hY
 refine zaa fun Y hY => ?_
 by_cases c1:(1048576:Int) < s.length
 ·simp only [sxZ,z6,z7,z8,j5,j6,j7,j8,j9,x3,x4,x5,x6,x7,x8,x9,reduceCtorEq,↓reduceIte,c1]
  exact fin (o:=[]) (by unfold za8; rw [if_pos (by omega)])
 have hs':s.length ≤ 1048576:=by omega
 simp only [sxZ,z6,z7,z8,j5,j6,j7,j8,j9,x3,x4,x5,x6,x7,x8,x9,reduceCtorEq,↓reduceIte,c1]
 subst hY
 refine zaa fun Y hY => ?_
 simp only [sxZ,z6,z7,z8,j5,j6,j7,j8,j9,x3,x4,x5,x6,x7,x8,x9,reduceCtorEq,↓reduceIte]
 subst hY
 refine zaa fun Y hY => ?_
 simp only [sxZ,z6,z7,z8,j5,j6,j7,j8,j9,x3,x4,x5,x6,x7,x8,x9,reduceCtorEq,↓reduceIte]
 subst hY
 refine zaa fun Y hY => ?_
 simp only [sxZ,z6,z7,z8,j5,j6,j7,j8,j9,x3,x4,x5,x6,x7,x8,x9,reduceCtorEq,↓reduceIte]
 have hNB:zcl [(0,OB.box 26 zvC)]:=zbV rfl (fun z hz => by cases hz)
 have last:∀ (σ:Ms) (a:Nat) (o:List OB) (tm:List AV),PrO [(0,.box 26 zvC)] 1 σ o → σ.st=7 → MRes s 0 ms0 (σ.root,(a:Int),0) → tm.length=42 → tm[2]? = some (.p 0 0) → tm[5]? = some (.p 1 0) → tm[6]? = some (.i .i64 (a:Int)) →
   run Tryz.prog C [.code Y] o tm (endK [.celln 2 4,.tmp 3,.tmp 4] fun r => (∀ G I y,Den G I r y → Den G I (zdR (za8 s)) y) ∧ K objs (zdR (za8 s))):=by
  intro σ a o tm hP h7 hR hlen t2 t5 t6
  have e:=zdQ hs' hR
  obtain ⟨X,r0,r1,r2,r3,L,hO,hX,hpl,hr⟩:=id hP
  have hroot:=hr (.inr h7)
  have g0:=zb1 hP (i:=0) (x:=.box 26 zvC) (by simp)
  have g1:=hO.get (i:=1) (x:=prB σ.st X σ.nodes r0 r1 r2 r3) (by simp)
  have hlt:=pr_lt hP (i:=0) (x:=.box 26 zvC) (by simp)
  have gs:∀ x,(o.set 0 x)[0]? = some x:=fun x => List.getElem?_set_self hlt
  unfold prB at g1
  unfold zvC at g0
  subst hY
  simp only [sxZ,z6,z7,z8,j5,j6,j7,j8,j9,x3,x4,x5,x6,x7,x8,x9,reduceCtorEq,↓reduceIte,List.getElem?_set,hlen,t2,t5,t6,g0,g1,gs]
  rw [zap] at hroot
  injection hroot with q0 hroot
  injection hroot with q1 hroot
  injection hroot with q2 hroot
  injection hroot with q3 _
  subst q0 q1 q2 q3
  simp only [pub,AV.plain,zaJ,zcX,sxZ,z6,z7,z8,j5,j6,j7,j8,j9,x3,x4,x5,x6,x7,x8,x9,reduceCtorEq,↓reduceIte]
  refine ⟨fun G I y hy => ?_,hk⟩
  rw [← e,zdR,zap]
  exact hy
 refine zaO (fun n o tm => ∃ (σ:Ms) (a c:Nat),n=(if σ.st=7 then 0 else s.length - a + 1) ∧ PrO [(0,.box 26 zvC)] 1 σ o ∧ WfM σ c ∧ a ≤ s.length ∧ (σ.st=7 ∨ c ≤ a) ∧ (∀ R,MRes s a σ R → MRes s 0 ms0 R) ∧
   tm.length=42 ∧ tm[0]? = some (.s s) ∧ tm[2]? = some (.p 0 0) ∧ tm[5]? = some (.p 1 0) ∧ tm[6]? = some (.i .i64 (a:Int))) (s.length + 1) ⟨ms0,0,0,by rw [if_neg (by decide),Nat.sub_zero],?_,wf0 0,Nat.zero_le _,.inr (Nat.le_refl _),fun R h => h,rfl,rfl,rfl,rfl,rfl⟩ ?_
 ·exact ⟨.nil,.i .i64 0,.s [],.nil,.nil,[(0,.box 26 zvC)],⟨by simp,fun x hx => by
   simp only [List.mem_cons,List.not_mem_nil,or_false] at hx
   rcases hx with rfl | rfl <;> rfl⟩,.inl ⟨rfl,rfl,rfl⟩,rfl,fun h => by rcases h with h | h <;> cases h⟩
 rintro n o tm ⟨σ,a,c,rfl,hP,hw,hal,hca,hM,hlen,t0,t2,t5,t6⟩
 obtain ⟨X,r0,r1,r2,r3,L,hO,hX,hpl,hr⟩:=id hP
 have e1:=hO.get (i:=1) (x:=prB σ.st X σ.nodes r0 r1 r2 r3) (by simp)
 unfold prB at e1
 refine zaa fun Z hZ => ?_
 by_cases c7:σ.st=7
 ·simp only [sxZ,z6,z7,z8,j5,j6,j7,j8,j9,x3,x4,x5,x6,x7,x8,x9,reduceCtorEq,↓reduceIte,List.getElem?_set,hlen,t5,e1,c7]
  refine last σ a o _ hP c7 (hM _ (.fin c7)) ?_ ?_ ?_ ?_
  all_goals simp only [List.length_set,List.getElem?_set,hlen,t2,t5,t6,Nat.reduceEqDiff,if_false,reduceIte]
 simp only [sxZ,z6,z7,z8,j5,j6,j7,j8,j9,x3,x4,x5,x6,x7,x8,x9,reduceCtorEq,↓reduceIte,List.getElem?_set,hlen,t5,e1,c7]
 have hca:c ≤ a:=hca.resolve_left c7
 subst hZ
 have hN:=zjJ (s:=s) (a:=(a:Int)) (by omega)
 rw [zaX]
 refine zaa fun Z hZ => ?_
 simp only [sxZ,z6,z7,z8,j5,j6,j7,j8,j9,x3,x4,x5,x6,x7,x8,x9,reduceCtorEq,↓reduceIte,List.getElem?_set,hlen,t0,t6]
 refine zal (zlx s a hs ?_)
 unfold zmT
 have f1:∀ x y z,OB.box 51 [.i .i64 x,.s y,.i .i64 z]=zcz (x,y,z):=fun _ _ _ => rfl
 simp only [sxZ,z6,z7,z8,j5,j6,j7,j8,j9,x3,x4,x5,x6,x7,x8,x9,reduceCtorEq,↓reduceIte,List.getElem?_set,hlen,gn1,sn1]
 rw [f1]
 have hP1:=zhq hP (zcz (zaB s (a:Int)).1)
 have hR0:¬ (zaB s (a:Int)).2.2=0 → za8 s=(jvZ,(a:Int),(zaB s (a:Int)).2.2):=fun he => (zdQ hs' (hM _ (.tok c7 he))).symm
 have hR1:(zaB s (a:Int)).2.2=0 → ¬ (zar σ (zaB s (a:Int)).1).1=0 → za8 s=(jvZ,(zaB s (a:Int)).1.2.2,(zar σ (zaB s (a:Int)).1).1):=fun he ht => (zdQ hs' (hM _ (.bad c7 he ht))).symm
 have hR2:(zaB s (a:Int)).2.2=0 → (zar σ (zaB s (a:Int)).1).1=0 → ∀ R,MRes s (zaB s (a:Int)).2.1 (zar σ (zaB s (a:Int)).1).2 R → MRes s 0 ms0 R:=fun he ht R hR => hM _ (.step c7 he ht hR)
 have hend:=fun h1 h2 => take_end (σ:=σ) (t:=(zaB s (a:Int)).1) h1 h2
 generalize o ++ [zcz (zaB s (a:Int)).1]=o1 at hP1 ⊢
 generalize zaB s (a:Int)=N at hN hP1 hR0 hR1 hR2 hend ⊢
 obtain ⟨T,to,e⟩:=N
 simp only at hN hP1 hR0 hR1 hR2 hend ⊢
 subst hZ
 refine zaa fun Z hZ => ?_
 by_cases c2:e=0
 rotate_left
 ·have h2:=zb1 hP1 (i:=0) (x:=.box 26 zvC) (by simp)
  have hlt:=pr_lt hP1 (i:=0) (x:=.box 26 zvC) (by simp)
  have gs:∀ x,(o1.set 0 x)[0]? = some x:=fun x => List.getElem?_set_self hlt
  unfold zvC at h2
  simp only [sxZ,z6,z7,z8,j5,j6,j7,j8,j9,x3,x4,x5,x6,x7,x8,x9,reduceCtorEq,↓reduceIte,List.getElem?_set,hlen,t2,t6,c2,h2,gs]
  exact fin (o:=[]) (hR0 c2)
 subst c2
 obtain ⟨⟨n1,n2,n3,n4⟩,n5,n6,n7,n8,n9⟩:=hN rfl
 simp only [sxZ,z6,z7,z8,j5,j6,j7,j8,j9,x3,x4,x5,x6,x7,x8,x9,reduceCtorEq,↓reduceIte,List.getElem?_set,hlen]
 refine zbf (fun t => t.length=42 ∧ t[0]? = some (.s s) ∧ t[2]? = some (.p 0 0) ∧ t[5]? = some (.p 1 0) ∧ t[7]? = some (.p o.length 0) ∧ t[8]? = some (.i .i64 to)) ?_ ?_
 ·simp only [sxZ,z6,z7,z8,j5,j6,j7,j8,j9,x3,x4,x5,x6,x7,x8,x9,reduceCtorEq,↓reduceIte,List.length_set,List.getElem?_set,hlen,t0,t2,t5,and_self]
 clear t0 t2 t5 t6 hlen
 rintro tm ⟨hlen,t0,t2,t5,t7,t8⟩
 have h7:=zb1 hP1 (i:=o.length) (x:=zcz T) (by simp)
 have hNB1:zcl [(o.length,zcz T),(0,OB.box 26 zvC)]:=zbV rfl hNB
 unfold zcz tkC at h7
 subst hZ
 refine zaa fun Z hZ => ?_
 refine zaa fun Z2 hZ2 => ?_
 simp only [sxZ,z6,z7,z8,j5,j6,j7,j8,j9,x3,x4,x5,x6,x7,x8,x9,reduceCtorEq,↓reduceIte,List.getElem?_set,hlen,t5,t7,h7]
 refine zal (take_k hNB1 hP1 hw (by omega) c7 T (by omega) (fun he o2 ho => ?_) (fun he o2 σ' ho => ?_))
 ·simp only [sxZ,z6,z7,z8,j5,j6,j7,j8,j9,x3,x4,x5,x6,x7,x8,x9,reduceCtorEq,↓reduceIte,List.getElem?_set,hlen]
  subst hZ2
  simp only [sxZ,z6,z7,z8,j5,j6,j7,j8,j9,x3,x4,x5,x6,x7,x8,x9,reduceCtorEq,↓reduceIte,List.getElem?_set,hlen]
  subst hZ
  simp only [sxZ,z6,z7,z8,j5,j6,j7,j8,j9,x3,x4,x5,x6,x7,x8,x9,reduceCtorEq,↓reduceIte,List.getElem?_set,hlen,t8]
  obtain ⟨b,rfl⟩:=Int.eq_ofNat_of_zero_le (show 0 ≤ to by omega)
  have hw2:=wf_take hw he
  have hdec:(if (zar σ T).2.st=7 then 0 else s.length - b + 1) < s.length - a + 1 ∧ ((zar σ T).2.st=7 ∨ c + 1 ≤ b):=by
   by_cases hT:T.1=1
   ·have:=hend hT he
    rw [if_pos this]
    exact ⟨by omega,.inl this⟩
   ·have:=n3 hT
    constructor
    ·split <;> omega
    ·exact .inr (by omega)
  refine ⟨_,hdec.1,_,b,c + 1,rfl,zaw ho,hw2,by omega,hdec.2,hR2 rfl he,?_⟩
  simp only [sxZ,z6,z7,z8,j5,j6,j7,j8,j9,x3,x4,x5,x6,x7,x8,x9,reduceCtorEq,↓reduceIte,List.length_set,List.getElem?_set,hlen,t0,t2,t5,and_self]
 ·have hx:=hR1 rfl he
  simp only [sxZ,z6,z7,z8,j5,j6,j7,j8,j9,x3,x4,x5,x6,x7,x8,x9,reduceCtorEq,↓reduceIte,List.getElem?_set,hlen]
  have g7:=zb1 ho (i:=o.length) (x:=zcz T) (by simp)
  have g0:=zb1 ho (i:=0) (x:=.box 26 zvC) (by simp)
  have hlt:=pr_lt ho (i:=0) (x:=.box 26 zvC) (by simp)
  have gs:∀ x,(o2.set 0 x)[0]? = some x:=fun x => List.getElem?_set_self hlt
  have hne:¬ o.length=0:=fun h => by
   obtain ⟨B,A,hB,_⟩:=zdP hP1
   exact hB.ne (A:=_ :: A) (B:=[]) h
  unfold zcz tkC at g7
  unfold zvC at g0
  subst hZ2
  simp only [sxZ,z6,z7,z8,j5,j6,j7,j8,j9,x3,x4,x5,x6,x7,x8,x9,reduceCtorEq,↓reduceIte,List.getElem?_set,hlen,he,t2,t7,g7,g0,gs,hne]
  exact fin (o:=[]) hx
end
end
end Go.Proofs.YthmdohgkmdkeeaaGreatDoor
namespace Go.Proofs.YthmdohgkmdkeeaaGreatDoor
open Go.RowKit Sx
section
attribute [local irreducible] run
section
variable [Tabs Tryz.prog] {objs:List OB} {K:List OB → AV → Prop} {L:List (Nat × OB)} {p:Nat} {s:List UInt8} {ρ:Rs}
end
end
end Go.Proofs.YthmdohgkmdkeeaaGreatDoor
namespace Go.Proofs.YthmdohgkmdkeeaaGreatDoor
open Go.RowKit Sx
section
attribute [local irreducible] run
def zvB:OB:=.box 26 [.i .i64 0,.s [],.nil,.nil]
def giv (n:Nat) (xs:List AV) (X:AV):Prop:=(n=0 ∧ xs=[] ∧ X=.nil) ∨ X=.row n xs
theorem zod {n:Nat} {xs:List AV} {X:AV} (h:giv n xs X) {G:Gh} {I:Imm} {y:Value} (hd:Den G I X y):Den G I (.row n xs) y:=by
 rcases h with ⟨rfl,rfl,rfl⟩ | rfl
 ·exact zdV hd
 ·exact hd
section
variable {P:Program} [Tabs P] {f:FuncId} {args:List AV} {objs:List OB} {K:List OB → AV → Prop}
end
end
end Go.Proofs.YthmdohgkmdkeeaaGreatDoor
namespace Go.Proofs.YthmdohgkmdkeeaaGreatDoor
open Nat renaming reduceAdd → z6, reduceSub → z7, reduceLeDiff → z8, reduceLT → j5, reduceMul → j6, reduceEqDiff → j7
open Int renaming reduceToNat → j8, reduceAdd → j9, reduceSub → x3, reduceMul → x4, reduceNeg → x5, reduceLT → x6, reduceLE → x7, reduceEq → x8, reduceNe → x9
open Go.RowKit Sx
section
attribute [local irreducible] run
theorem zhB:∀ l:List JV,l.length ≤ JV.sizes l
 | [] => Nat.zero_le _
 | v :: l => by
  rw [JV.sizes,List.length_cons]
  have h1:=zhB l
  have h2:=size_eq v
  omega
section
variable [Tabs Tryz.prog]
theorem long_k:∀ (m:Nat) (v:JV),v.size < m → JKp v → v.size ≤ 1000 → ze1 v=true → ∀ {objs:List OB} {K:List OB → AV → Prop},K objs (.b false) → zad Tryz.prog 52 [.agg (zaq v)] objs K:=by
 intro m
 induction m with
 | zero => intro v h; omega
 | succ m ih =>
  intro v hm hv hsz0 hsv objs K hk
  obtain ⟨l1,l2,l3,l4⟩:=hv.lens
  have hkl:v.keys.length ≤ 1000:=by
   have h1:=size_eq v
   have h2:=zhB v.items
   rcases zeG hsv with ⟨_,h,_⟩ | ⟨_,h,_⟩ | ⟨_,h,_⟩ <;> omega
  have hsi:∀ (i:Nat) (h:i < v.items.length),ze1 v.items[i]=true:=fun i h => by
   rcases zeG hsv with ⟨_,_,h0⟩ | ⟨_,_,h0⟩ | ⟨_,_,_,h0⟩
   ·omega
   ·exact ze0 h0 h
   ·exact ze0 h0 h
  refine zbb is_ref15_long (by simp only [zam,AV.plain,zbr,Bool.and_self]) fun C _ => ?_
  rw [c_ref15_long]
  have hjv:=zap v
  rw [hjv]
  refine zaa fun Z hZ => ?_
  simp only [sxZ,z6,z7,z8,j5,j6,j7,j8,j9,x3,x4,x5,x6,x7,x8,x9,reduceCtorEq,↓reduceIte]
  subst hZ
  refine zaa fun Z hZ => ?_
  simp only [sxZ,z6,z7,z8,j5,j6,j7,j8,j9,x3,x4,x5,x6,x7,x8,x9,reduceCtorEq,↓reduceIte]
  subst hZ
  refine zaa fun Z hZ => ?_
  refine zaa fun W hW => ?_
  simp only [sxZ,z6,z7,z8,j5,j6,j7,j8,j9,x3,x4,x5,x6,x7,x8,x9,reduceCtorEq,↓reduceIte]
  subst hW
  rw [zaX]
  refine zaO (fun n o tm => ∃ (i:Nat) (b:Int),i ≤ v.keys.length ∧ n=v.keys.length - i ∧ o=[OB.box 26 [.i .i64 v.kind,.s v.text,.row v.keys.length (v.keys.map .s),.row v.items.length (zac v.items)]] ∧ 0 ≤ b ∧ b ≤ 300 + 300 * (i:Int) ∧ tm.length=35 ∧ tm[1]? = some (.p 0 0) ∧ tm[3]? = some (.i .i64 b) ∧ tm[12]? = some (.row v.keys.length (v.keys.map .s)) ∧ tm[13]? = some (.i .i64 (v.keys.length:Int)) ∧ tm[14]? = some (.i .i64 (i:Int))) v.keys.length ⟨0,(v.text.length:Int),Nat.zero_le _,rfl,rfl,by omega,by omega,rfl,rfl,rfl,rfl,rfl,rfl⟩ ?_
  rintro n _ tm ⟨i,b,hi,rfl,rfl,hb,hb2,hlen,t1,t3,t12,t13,t14⟩
  refine zaa fun W hW => ?_
  by_cases hlt:(i:Int) < (v.keys.length:Int)
  ·have hi':i < v.keys.length:=by omega
   have kv:(v.keys.map AV.s)[i * 1]? = some (.s v.keys[i]):=by rw [Nat.mul_one,List.getElem?_map,List.getElem?_eq_getElem hi']; rfl
   have kl:=l4 _ (List.getElem_mem hi')
   generalize v.keys[i]=x at kv kl
   simp only [sxZ,z6,z7,z8,j5,j6,j7,j8,j9,x3,x4,x5,x6,x7,x8,x9,reduceCtorEq,↓reduceIte,List.getElem?_set,hlen,t12,t13,t14,hlt]
   subst hW
   refine zaa fun W hW => ?_
   simp only [sxZ,z6,z7,z8,j5,j6,j7,j8,j9,x3,x4,x5,x6,x7,x8,x9,reduceCtorEq,↓reduceIte,List.getElem?_set,hlen]
   subst hW
   refine zaa fun V hV => ?_
   rw [zaX]
   refine zaa fun W hW => ?_
   simp only [sxZ,z6,z7,z8,j5,j6,j7,j8,j9,x3,x4,x5,x6,x7,x8,x9,reduceCtorEq,↓reduceIte,List.getElem?_set,hlen,t12,t14,kv,List.length_map]
   refine ⟨⟨by omega,by omega,by omega⟩,?_⟩
   subst hW
   simp only [sxZ,z6,z7,z8,j5,j6,j7,j8,j9,x3,x4,x5,x6,x7,x8,x9,reduceCtorEq,↓reduceIte,List.getElem?_set,hlen,t3]
   refine ⟨⟨by omega,by omega⟩,?_⟩
   subst hV
   simp only [sxZ,z6,z7,z8,j5,j6,j7,j8,j9,x3,x4,x5,x6,x7,x8,x9,reduceCtorEq,↓reduceIte,List.getElem?_set,hlen,t1,t12,t13,t14]
   exact ⟨by omega,v.keys.length - (i + 1),by omega,i + 1,b + x.length,by omega,rfl,by omega,by omega,rfl,rfl⟩
  simp only [sxZ,z6,z7,z8,j5,j6,j7,j8,j9,x3,x4,x5,x6,x7,x8,x9,reduceCtorEq,↓reduceIte,List.getElem?_set,hlen,t12,t13,t14,hlt]
  subst hW
  simp only [sxZ,z6,z7,z8,j5,j6,j7,j8,j9,x3,x4,x5,x6,x7,x8,x9,reduceCtorEq,↓reduceIte,List.getElem?_set,hlen]
  have c9:¬ (1048576:Int) < b:=by omega
  subst hZ
  refine zbf (fun tm => tm.length=35 ∧ tm[1]? = some (.p 0 0) ∧ tm[3]? = some (.i .i64 b)) ?_ ?_
  ·simp only [List.length_set,List.getElem?_set,hlen,t1,t3,Nat.reduceEqDiff,if_false,reduceIte,and_self]
  clear hlen t1 t3 t12 t13 t14
  rintro tm ⟨hlen,t1,t3⟩
  refine zaa fun Z hZ => ?_
  simp only [sxZ,z6,z7,z8,j5,j6,j7,j8,j9,x3,x4,x5,x6,x7,x8,x9,reduceCtorEq,↓reduceIte,List.getElem?_set,hlen,t3,c9]
  subst hZ
  refine zaa fun Z hZ => ?_
  refine zaa fun W hW => ?_
  simp only [sxZ,z6,z7,z8,j5,j6,j7,j8,j9,x3,x4,x5,x6,x7,x8,x9,reduceCtorEq,↓reduceIte,List.getElem?_set,hlen,t1]
  subst hW
  rw [zaX]
  refine zaO (fun n o tm => ∃ (i:Nat),i ≤ v.items.length ∧ n=v.items.length - i ∧ tm.length=35 ∧ tm[26]? = some (.row v.items.length (zac v.items)) ∧ tm[27]? = some (.i .i64 (v.items.length:Int)) ∧ tm[28]? = some (.i .i64 (i:Int))) v.items.length ⟨0,Nat.zero_le _,rfl,?_⟩ ?_
  ·simp only [sxZ,z6,z7,z8,j5,j6,j7,j8,j9,x3,x4,x5,x6,x7,x8,x9,reduceCtorEq,↓reduceIte,List.length_set,List.getElem?_set,hlen,Int.cast_ofNat_Int,and_self]
  clear hlen t1 t3
  rintro n o tm ⟨i,hi,rfl,hlen,t26,t27,t28⟩
  refine zaa fun W hW => ?_
  by_cases hlt:(i:Int) < (v.items.length:Int)
  ·have hi':i < v.items.length:=by omega
   have hjc:=ziI hi'
   have hjl:=zaV v.items
   have hit:=hv.its hi'
   have hsz:=zcp hi'
   have hsx:=hsi i hi'
   generalize v.items[i]=x at hjc hit hsz hsx
   have hcall:=fun {objs:List OB} {K:List OB → AV → Prop} (h) => ih x (by omega) hit (by omega) hsx (objs:=objs) (K:=K) h
   have hjx:=zap x
   rw [hjx] at hjc hcall
   simp only [sxZ,z6,z7,z8,j5,j6,j7,j8,j9,x3,x4,x5,x6,x7,x8,x9,reduceCtorEq,↓reduceIte,List.getElem?_set,hlen,t26,t27,t28,hlt]
   subst hW
   refine zaa fun W hW => ?_
   simp only [sxZ,z6,z7,z8,j5,j6,j7,j8,j9,x3,x4,x5,x6,x7,x8,x9,reduceCtorEq,↓reduceIte,List.getElem?_set,hlen]
   subst hW
   refine zaa fun V hV => ?_
   rw [zaX]
   refine zaa fun W hW => ?_
   simp only [sxZ,z6,z7,z8,j5,j6,j7,j8,j9,x3,x4,x5,x6,x7,x8,x9,reduceCtorEq,↓reduceIte,List.getElem?_set,hlen,t26,t28,hjc]
   refine ⟨⟨by omega,by omega,by omega⟩,by omega,?_⟩
   simp only [sxZ,z6,z7,z8,j5,j6,j7,j8,j9,x3,x4,x5,x6,x7,x8,x9,reduceCtorEq,↓reduceIte,List.getElem?_set,hlen,gn1,sn1]
   subst hW
   refine zaa fun W hW => ?_
   simp only [sxZ,z6,z7,z8,j5,j6,j7,j8,j9,x3,x4,x5,x6,x7,x8,x9,reduceCtorEq,↓reduceIte,List.getElem?_set,hlen,gn1]
   refine zal (hcall ?_)
   simp only [sxZ,z6,z7,z8,j5,j6,j7,j8,j9,x3,x4,x5,x6,x7,x8,x9,reduceCtorEq,↓reduceIte,List.getElem?_set,hlen]
   subst hW
   simp only [sxZ,z6,z7,z8,j5,j6,j7,j8,j9,x3,x4,x5,x6,x7,x8,x9,reduceCtorEq,↓reduceIte,List.getElem?_set,hlen]
   subst hV
   simp only [sxZ,z6,z7,z8,j5,j6,j7,j8,j9,x3,x4,x5,x6,x7,x8,x9,reduceCtorEq,↓reduceIte,List.getElem?_set,hlen,t26,t27,t28]
   exact ⟨by omega,v.items.length - (i + 1),by omega,i + 1,by omega,rfl,rfl⟩
  simp only [sxZ,z6,z7,z8,j5,j6,j7,j8,j9,x3,x4,x5,x6,x7,x8,x9,reduceCtorEq,↓reduceIte,List.getElem?_set,hlen,t26,t27,t28,hlt]
  subst hW
  subst hZ
  simp only [sxZ,z6,z7,z8,j5,j6,j7,j8,j9,x3,x4,x5,x6,x7,x8,x9,reduceCtorEq,↓reduceIte,List.getElem?_set,hlen]
  exact hk
end
end
end Go.Proofs.YthmdohgkmdkeeaaGreatDoor
namespace Go.Proofs.YthmdohgkmdkeeaaGreatDoor
open Go.RowKit Sx
section
attribute [local irreducible] run
section
variable [Tabs Tryz.prog] {objs:List OB} {K:List OB → AV → Prop} {L:List (Nat × OB)}
end
end
end Go.Proofs.YthmdohgkmdkeeaaGreatDoor
namespace Go.Proofs.YthmdohgkmdkeeaaGreatDoor
open Go.RowKit Sx
section
attribute [local irreducible] run
section
variable [Tabs Tryz.prog] [Utf Tryz.prog] {objs:List OB} {K:List OB → AV → Prop} {L:List (Nat × OB)} {p:Nat} {s:List UInt8} {ρ:Rs}
end
end
end Go.Proofs.YthmdohgkmdkeeaaGreatDoor
namespace Go.Proofs.YthmdohgkmdkeeaaGreatDoor
open Go.RowKit Sx
section
attribute [local irreducible] run
def SlP (ks:List (List UInt8)) (its:List JV) (X:AV) (R1:List (Nat × OB)) (Y:AV) (R2:List (Nat × OB)):Prop :=
 (ks=[] ∧ its=[] ∧ X=.nil ∧ R1=[] ∧ Y=.nil ∧ R2=[]) ∨ ∃ b1 g1 b2 g2,X=.orow b1 g1 ∧ R1=[(b1,.orow 9 1 g1 ks.length (ks.map .s))] ∧ Y=.orow b2 g2 ∧ R2=[(b2,.orow 26 4 g2 its.length (zac its))]
theorem SlP.k {ks:List (List UInt8)} {its:List JV} {X Y:AV} {R1 R2:List (Nat × OB)} (h:SlP ks its X R1 Y R2):SlO 9 1 ks.length (ks.map .s) X R1:=by
 rcases h with ⟨rfl,rfl,rfl,rfl,rfl,rfl⟩ | ⟨b1,g1,b2,g2,rfl,rfl,rfl,rfl⟩
 ·exact .inl ⟨rfl,rfl,rfl,rfl⟩
 ·exact .inr ⟨_,_,rfl,rfl⟩
theorem SlP.i {ks:List (List UInt8)} {its:List JV} {X Y:AV} {R1 R2:List (Nat × OB)} (h:SlP ks its X R1 Y R2):SlO 26 4 its.length (zac its) Y R2:=by
 rcases h with ⟨rfl,rfl,rfl,rfl,rfl,rfl⟩ | ⟨b1,g1,b2,g2,rfl,rfl,rfl,rfl⟩
 ·exact .inl ⟨rfl,zau,rfl,rfl⟩
 ·exact .inr ⟨_,_,rfl,rfl⟩
theorem SlP.flat {ks:List (List UInt8)} {its:List JV} {X Y:AV} {R1 R2:List (Nat × OB)} (h:SlP ks its X R1 Y R2):X.flat=true ∧ Y.flat=true:=by
 rcases h with ⟨rfl,rfl,rfl,rfl,rfl,rfl⟩ | ⟨b1,g1,b2,g2,rfl,rfl,rfl,rfl⟩ <;> exact ⟨rfl,rfl⟩
section
variable [Tabs Tryz.prog] [Utf Tryz.prog] {objs:List OB} {K:List OB → AV → Prop} {L:List (Nat × OB)} {p:Nat} {s:List UInt8} {ρ:Rs}
end
end
end Go.Proofs.YthmdohgkmdkeeaaGreatDoor
namespace Go.Proofs.YthmdohgkmdkeeaaGreatDoor
open Nat renaming reduceAdd → z6, reduceSub → z7, reduceLeDiff → z8, reduceLT → j5, reduceMul → j6, reduceEqDiff → j7
open Int renaming reduceToNat → j8, reduceAdd → j9, reduceSub → x3, reduceMul → x4, reduceNeg → x5, reduceLT → x6, reduceLE → x7, reduceEq → x8, reduceNe → x9
open Go.RowKit Sx
section
attribute [local irreducible] run
mutual
/-- with its keys in order -/
def zbv:JV → JV
 | .mk k t ks its => if k=6 then .mk k t [] (zcK its) else .mk k t (zd8 ks.length ks) ((zd8 ks.length ks).map fun key => ((zcK its)[zew key ks]?).getD jvZ)
def zcK:List JV → List JV
 | [] => []
 | v :: l => zbv v :: zcK l
end
theorem ziz (v:JV):zbv v=if v.kind=6 then .mk v.kind v.text [] (zcK v.items) else .mk v.kind v.text (zd8 v.keys.length v.keys) ((zd8 v.keys.length v.keys).map fun key => ((zcK v.items)[zew key v.keys]?).getD jvZ):=by cases v; rw [zbv]; rfl
theorem zcE:∀ l:List JV,(zcK l).length=l.length
 | [] => by rw [zcK]
 | v :: l => by rw [zcK,List.length_cons,zcE l,List.length_cons]
theorem zeH:∀ {l:List JV} {i:Nat} (hi:i < l.length),(zcK l)[i]? = some (zbv l[i])
 | a :: l,0,hi => by rw [zcK]; rfl
 | a :: l,i + 1,hi => by rw [zcK]; simpa using zeH (l:=l) (i:=i) (by simpa using hi)
def bvB (v:JV):OB:=.box 26 [.i .i64 v.kind,.s v.text,.row v.keys.length (v.keys.map .s),.row v.items.length (zac v.items)]
def oB (v:JV) (X Y:AV):OB:=.box 26 [.i .i64 v.kind,.s v.text,X,Y]
section
variable [Tabs Tryz.prog]
theorem order_k:∀ (m:Nat) (v:JV),v.size < m → ze1 v=true → JOk v → JBd v → ∀ {objs:List OB} {K:List OB → AV → Prop},K objs (.agg (zaq (zbv v))) → zad Tryz.prog 54 [.agg (zaq v)] objs K:=by
 intro m
 induction m with
 | zero => intro v h; omega
 | succ m ih =>
  intro v hm hsv hv hbd objs K hk
  obtain ⟨l1,l2⟩:=hbd.lens
  have kvd:=zeG hsv
  refine jres (.agg (zaq (zbv v))) ?_
  refine zbb is_ref15_order (by simp only [zam,AV.plain,zbr,Bool.and_self]) fun C _ => ?_
  have cv:∀ {ks:List (List UInt8)} {its:List JV} {X' Y':AV},zbv v=.mk v.kind v.text ks its → giv ks.length (ks.map .s) X' → giv its.length (zac its) Y' → ∀ G I y,Den G I (.agg [.i .i64 v.kind,.s v.text,X',Y']) y → Den G I (.agg (zaq (zbv v))) y:=by
   intro ks its X' Y' he h1 h2 G I y hy
   rw [he,zaq]
   simp only [zae,Den] at hy ⊢
   obtain ⟨zs,rfl,⟨z0,m0,rfl,q0,z1,m1,rfl,q1,z2,m2,rfl,q2,z3,m3,rfl,q3,q4⟩,hz⟩:=hy
   exact ⟨_,rfl,⟨_,_,rfl,q0,_,_,rfl,q1,_,_,rfl,zod h1 q2,_,_,rfl,zod h2 q3,q4⟩,hz⟩
  rw [c_ref15_order]
  have hjv:=zap v
  rw [hjv]
  refine zaa fun Z hZ => ?_
  simp only [sxZ,z6,z7,z8,j5,j6,j7,j8,j9,x3,x4,x5,x6,x7,x8,x9,reduceCtorEq,↓reduceIte]
  subst hZ
  refine zaa fun Z hZ => ?_
  simp only [sxZ,z6,z7,z8,j5,j6,j7,j8,j9,x3,x4,x5,x6,x7,x8,x9,reduceCtorEq,↓reduceIte]
  have hO:zaE ((0,bvB v) :: (1,zvB) :: (2,oB v .nil .nil) :: ([] ++ ([] ++ []))) [bvB v,zvB,oB v .nil .nil]:=⟨by simp,fun x hx => by
   simp only [List.mem_cons,List.not_mem_nil,or_false,List.nil_append] at hx
   rcases hx with rfl | rfl | rfl <;> rfl⟩
  have f0:[OB.box 26 [.i .i64 v.kind,.s v.text,.row v.keys.length (v.keys.map .s),.row v.items.length (zac v.items)],OB.box 26 [.i .i64 0,.s [],.nil,.nil],OB.box 26 [.i .i64 v.kind,.s v.text,.nil,.nil]]=[bvB v,zvB,oB v .nil .nil]:=rfl
  rw [f0]
  generalize [bvB v,zvB,oB v .nil .nil]=o at hO ⊢
  have st:∀ (o:List OB) (X Y:AV) (R1 R2:List (Nat × OB)),zaE ((0,bvB v) :: (1,zvB) :: (2,oB v X Y) :: (R1 ++ (R2 ++ []))) o → o[0]? = some (.box 26 [.i .i64 v.kind,.s v.text,.row v.keys.length (v.keys.map .s),.row v.items.length (zac v.items)]) ∧ o[1]? = some (.box 26 [.i .i64 0,.s [],.nil,.nil]) ∧ o[2]? = some (.box 26 [.i .i64 v.kind,.s v.text,X,Y]) ∧ (∀ x,(o.set 1 x)[1]? = some x) :=
   fun o X Y R1 R2 h => ⟨h.get (by simp [bvB]),h.get (by simp [zvB]),h.get (by simp [oB]),fun x => List.getElem?_set_self (h.lt (i:=1) (x:=zvB) (by simp))⟩
  obtain ⟨e0,e1,e2,s1⟩:=st _ _ _ _ _ hO
  subst hZ
  refine zbf (fun tm => tm.length=63 ∧ tm[1]? = some (.p 0 0) ∧ tm[2]? = some (.p 1 0) ∧ tm[3]? = some (.p 2 0)) ?_ ?_
  ·exact ⟨rfl,rfl,rfl,rfl⟩
  rintro tm ⟨hlen,t1,t2,t3⟩
  refine zaa fun Z hZ => ?_
  by_cases c6:v.kind=6
  ·have hsi:zd2 v.items=true:=by
    rcases kvd with ⟨h0,_⟩ | ⟨_,_,h⟩ | ⟨h0,_⟩
    ·omega
    ·exact h
    ·omega
   have hoj:zbv v=.mk v.kind v.text [] (zcK v.items):=by rw [ziz,if_pos c6]
   rw [c6] at e0
   simp only [sxZ,z6,z7,z8,j5,j6,j7,j8,j9,x3,x4,x5,x6,x7,x8,x9,reduceCtorEq,↓reduceIte,List.getElem?_set,hlen,t1,e0,c6]
   refine zaO (fun n o tm => ∃ (i:Nat) (acc:List JV) (Y:AV) (R2:List (Nat × OB)),i ≤ v.items.length ∧ n=v.items.length - i ∧ acc=(zcK v.items).take i ∧ acc.length=i ∧ SlO 26 4 acc.length (zac acc) Y R2 ∧ zaE ((0,bvB v) :: (1,zvB) :: (2,oB v .nil Y) :: ([] ++ (R2 ++ []))) o ∧ tm.length=63 ∧ tm[1]? = some (.p 0 0) ∧ tm[2]? = some (.p 1 0) ∧ tm[3]? = some (.p 2 0) ∧ tm[19]? = some (.row v.items.length (zac v.items)) ∧ tm[20]? = some (.i .i64 (v.items.length:Int)) ∧ tm[21]? = some (.i .i64 (i:Int))) v.items.length ⟨0,[],.nil,[],Nat.zero_le _,rfl,rfl,rfl,.inl ⟨rfl,zau,rfl,rfl⟩,hO,?_⟩ ?_
   ·simp only [sxZ,z6,z7,z8,j5,j6,j7,j8,j9,x3,x4,x5,x6,x7,x8,x9,reduceCtorEq,↓reduceIte,List.length_set,List.getElem?_set,hlen,t1,t2,t3,Int.cast_ofNat_Int,and_self]
   clear hlen t1 t2 t3 hO e0 e1 e2 s1
   rintro n o tm ⟨i,acc,Y,R2,hi,rfl,ha,hal,hS,hO,hlen,t1,t2,t3,t19,t20,t21⟩
   obtain ⟨e0,e1,e2,s1⟩:=st _ _ _ _ _ hO
   refine zaa fun W hW => ?_
   by_cases hlt:(i:Int) < (v.items.length:Int)
   ·have hi':i < v.items.length:=by omega
    have hjc:=ziI hi'
    have hjl:=zaV v.items
    have hsz:=zcp hi'
    have hoi:=zeH hi'
    have hcall:=fun {objs:List OB} {K:List OB → AV → Prop} (h:K objs (.agg (zaq (zbv v.items[i])))) => ih v.items[i] (by omega) (ze0 hsi hi') (hv.its hi') (hbd.its hi') (objs:=objs) (K:=K) h
    have hacc:acc ++ [zbv v.items[i]]=(zcK v.items).take (i + 1):=by
     rw [ha]
     have h1:i < (zcK v.items).length:=by rw [zcE]; exact hi'
     rw [List.take_add_one,hoi]; rfl
    generalize v.items[i]=x at hjc hcall hacc
    generalize zbv x=y at hcall hacc
    have hjx:=zap x
    obtain ⟨c0,c1,c2,c3,hcv⟩:∃ c0 c1 c2 c3,zaq y=[c0,c1,c2,c3]:=⟨_,_,_,_,zap y⟩
    rw [hjx] at hjc hcall
    rw [hcv] at hcall
    simp only [sxZ,z6,z7,z8,j5,j6,j7,j8,j9,x3,x4,x5,x6,x7,x8,x9,reduceCtorEq,↓reduceIte,List.getElem?_set,hlen,t19,t20,t21,hlt]
    subst hW
    refine zaa fun W hW => ?_
    simp only [sxZ,z6,z7,z8,j5,j6,j7,j8,j9,x3,x4,x5,x6,x7,x8,x9,reduceCtorEq,↓reduceIte,List.getElem?_set,hlen]
    subst hW
    refine zaa fun V hV => ?_
    rw [zaX]
    refine zaa fun W hW => ?_
    simp only [sxZ,z6,z7,z8,j5,j6,j7,j8,j9,x3,x4,x5,x6,x7,x8,x9,reduceCtorEq,↓reduceIte,List.getElem?_set,hlen,t19,t21,hjc]
    refine ⟨⟨by omega,by omega,by omega⟩,by omega,?_⟩
    simp only [sxZ,z6,z7,z8,j5,j6,j7,j8,j9,x3,x4,x5,x6,x7,x8,x9,reduceCtorEq,↓reduceIte,List.getElem?_set,hlen,gn1,sn1]
    have hO2:=hO.new (.box 26 [.i .i64 x.kind,.s x.text,.row x.keys.length (x.keys.map .s),.row x.items.length (zac x.items)])
    have ei:=hO2.get (i:=o.length) (x:=.box 26 [.i .i64 x.kind,.s x.text,.row x.keys.length (x.keys.map .s),.row x.items.length (zac x.items)]) (by simp)
    have hO3:zaE ((0,bvB v) :: (1,zvB) :: (2,oB v .nil Y) :: ([] ++ (R2 ++ []))) (o ++ [.box 26 [.i .i64 x.kind,.s x.text,.row x.keys.length (x.keys.map .s),.row x.items.length (zac x.items)]]):=hO2.sub (List.sublist_cons_self _ _)
    clear hO hO2 e0 e1 e2 s1
    generalize o.length=qi at ei ⊢
    generalize o ++ [OB.box 26 [.i .i64 x.kind,.s x.text,.row x.keys.length (x.keys.map .s),.row x.items.length (zac x.items)]]=o at ei hO3 ⊢
    obtain ⟨e0,e1,e2,s1⟩:=st _ _ _ _ _ hO3
    subst hW
    refine zaM (fun o tm => ∃ Y' R2',SlO 26 4 (acc ++ [y]).length (zac (acc ++ [y])) Y' R2' ∧ zaE ((0,bvB v) :: (1,zvB) :: (2,oB v .nil Y') :: ([] ++ (R2' ++ []))) o ∧ tm.length=63 ∧ tm[1]? = some (.p 0 0) ∧ tm[2]? = some (.p 1 0) ∧ tm[3]? = some (.p 2 0) ∧ tm[19]? = some (.row v.items.length (zac v.items)) ∧ tm[20]? = some (.i .i64 (v.items.length:Int)) ∧ tm[21]? = some (.i .i64 (i:Int))) ?_ ?_
    ·simp only [sxZ,z6,z7,z8,j5,j6,j7,j8,j9,x3,x4,x5,x6,x7,x8,x9,reduceCtorEq,↓reduceIte,List.getElem?_set,hlen,t3,e2,ei]
     refine zff (hcall ⟨rfl,rfl⟩) ?_
     rcases hS with ⟨z1,z2,rfl,rfl⟩ | ⟨b,g,rfl,rfl⟩
     ·have a0:acc=[]:=List.eq_nil_of_length_eq_zero z1
      have hlt0:=(List.getElem?_eq_some_iff.1 e2).1
      have hne:¬ o.length=2:=by omega
      have gx:∀ z,(o ++ [z])[2]? = some (.box 26 [.i .i64 v.kind,.s v.text,.nil,.nil]):=fun z => by rw [List.getElem?_append_left hlt0]; exact e2
      simp only [sxZ,z6,z7,z8,j5,j6,j7,j8,j9,x3,x4,x5,x6,x7,x8,x9,reduceCtorEq,↓reduceIte,List.getElem?_set,hlen,t3,gn1,sn1,gx,hne,zab,List.length_set,t1,t2,t19,t20,t21,and_self,and_true]
      have hN:=hO3.new (.orow 26 4 0 1 [c0,c1,c2,c3])
      have hR:=hN.set (A:=[(o.length,OB.orow 26 4 0 1 [c0,c1,c2,c3]),(0,bvB v),(1,zvB)]) (oB v .nil (.orow o.length 0))
      refine ⟨_,[(o.length,OB.orow 26 4 0 1 [c0,c1,c2,c3])],.inr ⟨_,_,rfl,by rw [a0,List.nil_append,zay,zau,hcv]; rfl⟩,hR.perm ?_⟩
      exact List.perm_append_comm (l₁:=[(o.length,OB.orow 26 4 0 1 [c0,c1,c2,c3])]) (l₂:=[(0,bvB v),(1,zvB),(2,oB v .nil (.orow o.length 0))])
     ·have hl2:acc.length ≤ 1099511627776:=by omega
      have e5:=hO3.get (i:=b) (x:=.orow 26 4 g acc.length (zac acc)) (by simp)
      have hlt4:=(List.getElem?_eq_some_iff.1 e5).1
      have hne:¬ b=2:=by
       intro h
       have:=hO3.1
       simp only [List.map_cons,List.map_append,List.nodup_cons] at this
       exact this.2.2.1 (by simp [h])
      have gs:∀ z,(o.set b z)[b]? = some z:=fun z => List.getElem?_set_self hlt4
      have gx:∀ z,(o.set b z)[2]? = some (.box 26 [.i .i64 v.kind,.s v.text,.nil,.orow b g]):=fun z => by rw [List.getElem?_set_ne hne]; exact e2
      have hjl:=zaV acc
      simp only [sxZ,z6,z7,z8,j5,j6,j7,j8,j9,x3,x4,x5,x6,x7,x8,x9,reduceCtorEq,↓reduceIte,List.getElem?_set,hlen,t3,e5,gs,gx,hne,zab,List.length_set,t1,t2,t19,t20,t21,and_self,and_true]
      refine ⟨⟨by omega,by omega⟩,?_⟩
      have hN:=hO3.set (A:=[(0,bvB v),(1,zvB),(2,oB v .nil (.orow b g))]) (.orow 26 4 (g + 1) (acc.length + 1) (zac acc ++ [c0,c1,c2,c3]))
      have hR:=hN.set (A:=[(0,bvB v),(1,zvB)]) (oB v .nil (.orow b (g + 1)))
      exact ⟨_,[(b,.orow 26 4 (g + 1) (acc.length + 1) (zac acc ++ [c0,c1,c2,c3]))],.inr ⟨_,_,rfl,by rw [zdu,zay,zau,hcv]; rfl⟩,hR⟩
    ·clear hlen t1 t2 t3 t19 t20 t21 e0 e1 e2 s1 ei hO3 hS
     rintro o5 tm ⟨Y',R2',hS,hO5,hlen,t1,t2,t3,t19,t20,t21⟩
     subst hV
     simp only [sxZ,z6,z7,z8,j5,j6,j7,j8,j9,x3,x4,x5,x6,x7,x8,x9,reduceCtorEq,↓reduceIte,List.getElem?_set,hlen,t1,t2,t3,t19,t20,t21]
     exact ⟨by omega,v.items.length - (i + 1),by omega,i + 1,acc ++ [y],Y',R2',by omega,rfl,hacc,by rw [List.length_append,hal]; rfl,hS,by simpa using hO5,rfl⟩
   have hn:i=v.items.length:=by omega
   rw [hn,List.take_of_length_le (by rw [zcE]; omega)] at ha
   simp only [sxZ,z6,z7,z8,j5,j6,j7,j8,j9,x3,x4,x5,x6,x7,x8,x9,reduceCtorEq,↓reduceIte,List.getElem?_set,hlen,t19,t20,t21,hlt]
   subst hW
   rw [← ha] at hoj
   rcases hS with ⟨z1,z2,rfl,rfl⟩ | ⟨b,g,rfl,rfl⟩
   ·simp only [sxZ,z6,z7,z8,j5,j6,j7,j8,j9,x3,x4,x5,x6,x7,x8,x9,reduceCtorEq,↓reduceIte,List.getElem?_set,hlen,t2,t3,e1,e2,s1]
    exact ⟨cv hoj (.inl ⟨rfl,rfl,rfl⟩) (.inl ⟨z1,z2,rfl⟩),hk⟩
   ·have hO2:=zaE.set (A:=[(0,bvB v)]) (OB.box 26 [.i .i64 v.kind,.s v.text,.nil,.orow b g]) hO
    have eb:=hO2.get (i:=b) (x:=.orow 26 4 g acc.length (zac acc)) (by simp)
    simp only [sxZ,z6,z7,z8,j5,j6,j7,j8,j9,x3,x4,x5,x6,x7,x8,x9,reduceCtorEq,↓reduceIte,List.getElem?_set,hlen,t2,t3,e1,e2,s1,eb,ziv]
    exact ⟨cv hoj (.inl ⟨rfl,rfl,rfl⟩) (.inr rfl),hk⟩
  have hlk:v.keys.length=v.items.length ∧ v.keys.Nodup:=by
   rcases kvd with ⟨_,h1,h2⟩ | ⟨h0,_⟩ | ⟨_,h1,h2,_⟩
   ·have:v.keys=[]:=List.eq_nil_of_length_eq_zero h1
    exact ⟨by omega,by rw [this]; exact List.nodup_nil⟩
   ·exact absurd h0 c6
   ·exact ⟨h1,h2⟩
  have hoj:zbv v=.mk v.kind v.text (zd8 v.keys.length v.keys) ((zd8 v.keys.length v.keys).map fun key => ((zcK v.items)[zew key v.keys]?).getD jvZ):=by rw [ziz,if_neg c6]
  have hperm:=za2 v.keys.length v.keys
  have hSl:=hperm.length_eq
  have hgv:=fun (key:List UInt8) {objs:List OB} {K:List OB → AV → Prop} (h) => zkQ v key hv (objs:=objs) (K:=K) h
  rw [hjv] at hgv
  simp only [sxZ,z6,z7,z8,j5,j6,j7,j8,j9,x3,x4,x5,x6,x7,x8,x9,reduceCtorEq,↓reduceIte,List.getElem?_set,hlen,t1,e0,c6]
  subst hZ
  refine zaa fun Z hZ => ?_
  refine zaa fun W hW => ?_
  simp only [sxZ,z6,z7,z8,j5,j6,j7,j8,j9,x3,x4,x5,x6,x7,x8,x9,reduceCtorEq,↓reduceIte,List.getElem?_set,hlen,t1,e0]
  refine zal (zjd v.keys.length v.keys (Nat.le_refl _) l1 ?_)
  generalize zd8 v.keys.length v.keys=S at hoj hperm hSl ⊢
  simp only [sxZ,z6,z7,z8,j5,j6,j7,j8,j9,x3,x4,x5,x6,x7,x8,x9,reduceCtorEq,↓reduceIte,List.getElem?_set,hlen]
  subst hW
  rw [zaX]
  refine zaO (fun n o tm => ∃ (i:Nat) (ks:List (List UInt8)) (its:List JV) (X:AV) (R1:List (Nat × OB)) (Y:AV) (R2:List (Nat × OB)),i ≤ S.length ∧ n=S.length - i ∧ ks=S.take i ∧ its=(S.map fun key => ((zcK v.items)[zew key v.keys]?).getD jvZ).take i ∧ ks.length=i ∧ its.length=i ∧ SlP ks its X R1 Y R2 ∧ zaE ((0,bvB v) :: (1,zvB) :: (2,oB v X Y) :: (R1 ++ (R2 ++ []))) o ∧ tm.length=63 ∧ tm[1]? = some (.p 0 0) ∧ tm[2]? = some (.p 1 0) ∧ tm[3]? = some (.p 2 0) ∧ tm[36]? = some (.row S.length (S.map .s)) ∧ tm[37]? = some (.i .i64 (S.length:Int)) ∧ tm[38]? = some (.i .i64 (i:Int))) S.length ⟨0,[],[],.nil,[],.nil,[],Nat.zero_le _,rfl,rfl,rfl,rfl,rfl,.inl ⟨rfl,rfl,rfl,rfl,rfl,rfl⟩,hO,?_⟩ ?_
  ·simp only [sxZ,z6,z7,z8,j5,j6,j7,j8,j9,x3,x4,x5,x6,x7,x8,x9,reduceCtorEq,↓reduceIte,List.length_set,List.getElem?_set,hlen,t1,t2,t3,Int.cast_ofNat_Int,and_self]
  clear hlen t1 t2 t3 hO e0 e1 e2 s1
  rintro n o tm ⟨i,ks,its,X,R1,Y,R2,hi,rfl,hks,hits,hkl,hil,hS,hO,hlen,t1,t2,t3,t36,t37,t38⟩
  obtain ⟨e0,e1,e2,s1⟩:=st _ _ _ _ _ hO
  refine zaa fun W hW => ?_
  by_cases hlt:(i:Int) < (S.length:Int)
  ·have hi':i < S.length:=by omega
   have kv:(S.map AV.s)[i * 1]? = some (.s S[i]):=by rw [Nat.mul_one,List.getElem?_map,List.getElem?_eq_getElem hi']; rfl
   have hmem:S[i] ∈ v.keys:=hperm.mem_iff.1 (List.getElem_mem hi')
   have hks2:ks ++ [S[i]]=S.take (i + 1):=by rw [hks,List.take_add_one,List.getElem?_eq_getElem hi']; rfl
   have hits2:its ++ [((zcK v.items)[zew S[i] v.keys]?).getD jvZ]=(S.map fun key => ((zcK v.items)[zew key v.keys]?).getD jvZ).take (i + 1):=by
    rw [hits,List.take_add_one,List.getElem?_map,List.getElem?_eq_getElem hi']; rfl
   generalize S[i]=key at kv hmem hks2 hits2
   obtain ⟨j,hj⟩:=List.mem_iff_getElem?.1 hmem
   obtain ⟨hj1,hj2⟩:=List.getElem?_eq_some_iff.1 hj
   have k7:v.kind=7 ∧ zd2 v.items=true:=by
    rcases kvd with ⟨_,h1,h2⟩ | ⟨h0,_⟩ | ⟨h,_,_,h2⟩
    ·omega
    ·exact absurd h0 c6
    ·exact ⟨h,h2⟩
   have hj3:j < v.items.length:=by omega
   have hgo:=ziN k7.1 hlk.1 hlk.2 hj1
   have hidx:=zc0 hlk.2 hj1
   rw [hj2] at hgo hidx
   have hgv:=@hgv key
   rw [hgo] at hgv
   rw [hidx,zeH hj3,Option.getD_some] at hits2
   have hsz:=zcp hj3
   have hcall:=fun {objs:List OB} {K:List OB → AV → Prop} (h:K objs (.agg (zaq (zbv v.items[j])))) => ih v.items[j] (by omega) (ze0 k7.2 hj3) (hv.its hj3) (hbd.its hj3) (objs:=objs) (K:=K) h
   generalize v.items[j]=x at hgv hcall hits2
   generalize zbv x=y at hcall hits2
   have hjx:=zap x
   obtain ⟨c0,c1,c2,c3,hcv⟩:∃ c0 c1 c2 c3,zaq y=[c0,c1,c2,c3]:=⟨_,_,_,_,zap y⟩
   unfold zhJ at hgv
   simp only at hgv
   rw [hjx] at hgv hcall
   rw [hcv] at hcall
   simp only [sxZ,z6,z7,z8,j5,j6,j7,j8,j9,x3,x4,x5,x6,x7,x8,x9,reduceCtorEq,↓reduceIte,List.getElem?_set,hlen,t36,t37,t38,hlt]
   subst hW
   refine zaa fun W hW => ?_
   simp only [sxZ,z6,z7,z8,j5,j6,j7,j8,j9,x3,x4,x5,x6,x7,x8,x9,reduceCtorEq,↓reduceIte,List.getElem?_set,hlen]
   subst hW
   refine zaa fun V hV => ?_
   rw [zaX]
   refine zaa fun W hW => ?_
   simp only [sxZ,z6,z7,z8,j5,j6,j7,j8,j9,x3,x4,x5,x6,x7,x8,x9,reduceCtorEq,↓reduceIte,List.getElem?_set,hlen,t36,t38,kv,List.length_map]
   refine ⟨⟨by omega,by omega,by omega⟩,?_⟩
   subst hW
   refine zaa fun W hW => ?_
   simp only [sxZ,z6,z7,z8,j5,j6,j7,j8,j9,x3,x4,x5,x6,x7,x8,x9,reduceCtorEq,↓reduceIte,List.getElem?_set,hlen,t1,e0]
   refine zal (hgv ?_)
   simp only [sxZ,z6,z7,z8,j5,j6,j7,j8,j9,x3,x4,x5,x6,x7,x8,x9,reduceCtorEq,↓reduceIte,List.getElem?_set,hlen,gn1,sn1]
   have hO2:=hO.new (.box 26 [.i .i64 x.kind,.s x.text,.row x.keys.length (x.keys.map .s),.row x.items.length (zac x.items)])
   clear hO e0 e1 e2 s1
   generalize o.length=qi at hO2 ⊢
   generalize o ++ [OB.box 26 [.i .i64 x.kind,.s x.text,.row x.keys.length (x.keys.map .s),.row x.items.length (zac x.items)]]=o8 at hO2 ⊢
   have hO8p:zaE ((0,bvB v) :: (1,zvB) :: (2,oB v X Y) :: (R1 ++ (R2 ++ []))) o8:=hO2.sub (List.sublist_cons_self _ _)
   have ei:=hO2.get (i:=qi) (x:=.box 26 [.i .i64 x.kind,.s x.text,.row x.keys.length (x.keys.map .s),.row x.items.length (zac x.items)]) (by simp)
   obtain ⟨e0,e1,e3,s1⟩:=st _ _ _ _ _ hO8p
   subst hW
   refine zaM (fun o tm => ∃ X' R1' Y' R2',SlP (ks ++ [key]) (its ++ [y]) X' R1' Y' R2' ∧ zaE ((0,bvB v) :: (1,zvB) :: (2,oB v X' Y') :: (R1' ++ (R2' ++ []))) o ∧ tm.length=63 ∧ tm[1]? = some (.p 0 0) ∧ tm[2]? = some (.p 1 0) ∧ tm[3]? = some (.p 2 0) ∧ tm[36]? = some (.row S.length (S.map .s)) ∧ tm[37]? = some (.i .i64 (S.length:Int)) ∧ tm[38]? = some (.i .i64 (i:Int))) ?_ ?_
   ·rcases hS with ⟨z1,z2,rfl,rfl,rfl,rfl⟩ | ⟨b1,g1,b2,g2,rfl,rfl,rfl,rfl⟩
    ·have hlq:=(List.getElem?_eq_some_iff.1 e3).1
     have hli:=(List.getElem?_eq_some_iff.1 ei).1
     have n1:¬ 2=o8.length:=by omega
     have n2:¬ qi=o8.length:=by omega
     have h1:∀ x,(o8 ++ [x])[2]? = some (.box 26 [.i .i64 v.kind,.s v.text,.nil,.nil]):=fun x => by rw [List.getElem?_append_left hlq]; exact e3
     have h2:∀ z,(o8 ++ [z])[qi]? = some (.box 26 [.i .i64 x.kind,.s x.text,.row x.keys.length (x.keys.map .s),.row x.items.length (zac x.items)]):=fun z => by rw [List.getElem?_append_left hli]; exact ei
     have h3:∀ x y,(o8 ++ [x] ++ [y])[2]? = some (.box 26 [.i .i64 v.kind,.s v.text,.nil,.nil]):=fun x y => by rw [List.getElem?_append_left (by simp; omega)]; exact h1 x
     have h4:∀ x y z,((o8 ++ [x] ++ [y]).set 2 z)[2]? = some z:=fun x y z => List.getElem?_set_self (by simp; omega)
     subst z1 z2
     simp only [sxZ,z6,z7,z8,j5,j6,j7,j8,j9,x3,x4,x5,x6,x7,x8,x9,reduceCtorEq,↓reduceIte,List.getElem?_set,hlen,t3,e3,ei,gn1,sn1,h1,h2,h3,h4,n1,n2]
     refine zff (hcall ⟨rfl,rfl⟩) ?_
     simp only [sxZ,z6,z7,z8,j5,j6,j7,j8,j9,x3,x4,x5,x6,x7,x8,x9,reduceCtorEq,↓reduceIte,List.getElem?_set,hlen,t3,e3,ei,gn1,sn1,h1,h2,h3,h4,n1,n2,zab,List.length_set,List.set_set,t1,t2,t36,t37,t38,and_self,and_true,not_false_eq_true,true_and]
     have hN:=(hO8p.new (.orow 9 1 0 1 [AV.s key])).new (.orow 26 4 0 1 [c0,c1,c2,c3])
     have elen:(o8 ++ [OB.orow 9 1 0 1 [AV.s key]]).length=o8.length + 1:=by simp
     rw [elen] at hN
     have hR:=hN.set (A:=[(o8.length + 1,OB.orow 26 4 0 1 [c0,c1,c2,c3]),(o8.length,OB.orow 9 1 0 1 [AV.s key]),(0,bvB v),(1,zvB)]) (oB v (.orow o8.length 0) (.orow (o8.length + 1) 0))
     refine ⟨_,[(o8.length,OB.orow 9 1 0 1 [AV.s key])],_,[(o8.length + 1,OB.orow 26 4 0 1 [c0,c1,c2,c3])],.inr ⟨_,_,_,_,rfl,rfl,rfl,by rw [zay,zau,hcv]; rfl⟩,hR.perm ?_⟩
     refine (List.perm_append_comm (l₁:=[(o8.length + 1,OB.orow 26 4 0 1 [c0,c1,c2,c3]),(o8.length,OB.orow 9 1 0 1 [AV.s key])]) (l₂:=[(0,bvB v),(1,zvB),(2,oB v (.orow o8.length 0) (.orow (o8.length + 1) 0))])).trans ?_
     exact List.Perm.cons _ (List.Perm.cons _ (List.Perm.cons _ (List.Perm.swap _ _ _)))
    ·have eb1:=hO8p.get (i:=b1) (x:=.orow 9 1 g1 ks.length (ks.map .s)) (by simp)
     have eb2:=hO8p.get (i:=b2) (x:=.orow 26 4 g2 its.length (zac its)) (by simp)
     have hlq:=(List.getElem?_eq_some_iff.1 e3).1
     have hl1:=(List.getElem?_eq_some_iff.1 eb1).1
     have hl2:=(List.getElem?_eq_some_iff.1 eb2).1
     have hnd8:=hO2.1
     simp only [List.map_cons,List.map_append,List.map_nil,List.nodup_cons,List.cons_append,List.nil_append,List.mem_cons,List.mem_append,List.not_mem_nil,or_false,not_or] at hnd8
     have n1:¬ 2=b1:=hnd8.2.2.2.1.1
     have n2:¬ qi=b1:=hnd8.1.2.2.2.1
     have n3:¬ b1=b2:=hnd8.2.2.2.2.1
     have n4:¬ 2=b2:=hnd8.2.2.2.1.2
     have n1':¬ b1=2:=fun h => n1 h.symm
     have n2':¬ b1=qi:=fun h => n2 h.symm
     have n4':¬ b2=2:=fun h => n4 h.symm
     have h0:∀ x,(o8.set b1 x)[b1]? = some x:=fun x => List.getElem?_set_self hl1
     have h1:∀ x,(o8.set b1 x)[2]? = some (.box 26 [.i .i64 v.kind,.s v.text,.orow b1 g1,.orow b2 g2]):=fun x => by rw [List.getElem?_set_ne n1']; exact e3
     have h2:∀ z,(o8.set b1 z)[qi]? = some (.box 26 [.i .i64 x.kind,.s x.text,.row x.keys.length (x.keys.map .s),.row x.items.length (zac x.items)]):=fun z => by rw [List.getElem?_set_ne n2']; exact ei
     have h5:∀ x,(o8.set b1 x)[b2]? = some (.orow 26 4 g2 its.length (zac its)):=fun x => by rw [List.getElem?_set_ne n3]; exact eb2
     have h3:∀ x y,((o8.set b1 x).set b2 y)[2]? = some (.box 26 [.i .i64 v.kind,.s v.text,.orow b1 g1,.orow b2 g2]):=fun x y => by rw [List.getElem?_set_ne n4']; exact h1 x
     have h4:∀ x y z,(((o8.set b1 x).set b2 y).set 2 z)[2]? = some z:=fun x y z => List.getElem?_set_self (by simp; omega)
     have hjl:=zaV its
     simp only [sxZ,z6,z7,z8,j5,j6,j7,j8,j9,x3,x4,x5,x6,x7,x8,x9,reduceCtorEq,↓reduceIte,List.getElem?_set,hlen,t3,e3,ei,eb1,h0,h1,h2,h3,h4,h5,n1,n2]
     refine ⟨⟨by omega,by omega⟩,?_⟩
     refine zff (hcall ⟨rfl,rfl⟩) ?_
     simp only [sxZ,z6,z7,z8,j5,j6,j7,j8,j9,x3,x4,x5,x6,x7,x8,x9,reduceCtorEq,↓reduceIte,List.getElem?_set,hlen,t3,e3,ei,eb1,h0,h1,h2,h3,h4,h5,n1,n2,zab,List.length_set,List.set_set,t1,t2,t36,t37,t38,and_self,and_true,not_false_eq_true,true_and]
     refine ⟨⟨by omega,by omega⟩,?_⟩
     have hN:=hO8p.set (A:=[(0,bvB v),(1,zvB),(2,oB v (.orow b1 g1) (.orow b2 g2))]) (.orow 9 1 (g1 + 1) (ks.length + 1) (ks.map AV.s ++ [AV.s key]))
     have hN:=hN.set (A:=[(0,bvB v),(1,zvB),(2,oB v (.orow b1 g1) (.orow b2 g2)),(b1,OB.orow 9 1 (g1 + 1) (ks.length + 1) (ks.map AV.s ++ [AV.s key]))]) (.orow 26 4 (g2 + 1) (its.length + 1) (zac its ++ [c0,c1,c2,c3]))
     have hR:=hN.set (A:=[(0,bvB v),(1,zvB)]) (oB v (.orow b1 (g1 + 1)) (.orow b2 (g2 + 1)))
     exact ⟨_,[(b1,OB.orow 9 1 (g1 + 1) (ks.length + 1) (ks.map AV.s ++ [AV.s key]))],_,[(b2,OB.orow 26 4 (g2 + 1) (its.length + 1) (zac its ++ [c0,c1,c2,c3]))],.inr ⟨_,_,_,_,rfl,by rw [List.map_append,List.length_append]; rfl,rfl,by rw [zdu,zay,zau,hcv,List.length_append]; rfl⟩,hR⟩
   ·clear hlen t1 t2 t3 t36 t37 t38 e0 e1 e3 s1 ei hO2 hO8p hS
    rintro o5 tm ⟨X',R1',Y',R2',hS,hO5,hlen,t1,t2,t3,t36,t37,t38⟩
    subst hV
    simp only [sxZ,z6,z7,z8,j5,j6,j7,j8,j9,x3,x4,x5,x6,x7,x8,x9,reduceCtorEq,↓reduceIte,List.getElem?_set,hlen,t1,t2,t3,t36,t37,t38]
    exact ⟨by omega,S.length - (i + 1),by omega,i + 1,ks ++ [key],its ++ [y],X',R1',Y',R2',by omega,rfl,hks2,hits2,by rw [List.length_append,hkl]; rfl,by rw [List.length_append,hil]; rfl,hS,by simpa using hO5,rfl⟩
  have hn:i=S.length:=by omega
  rw [hn,List.take_of_length_le (Nat.le_refl _)] at hks
  rw [hn,List.take_of_length_le (by simp)] at hits
  rw [← hits] at hoj
  rw [← hks] at hoj
  simp only [sxZ,z6,z7,z8,j5,j6,j7,j8,j9,x3,x4,x5,x6,x7,x8,x9,reduceCtorEq,↓reduceIte,List.getElem?_set,hlen,t36,t37,t38,hlt]
  subst hW
  subst hZ
  rcases hS with ⟨z1,z2,rfl,rfl,rfl,rfl⟩ | ⟨b1,g1,b2,g2,rfl,rfl,rfl,rfl⟩
  ·simp only [sxZ,z6,z7,z8,j5,j6,j7,j8,j9,x3,x4,x5,x6,x7,x8,x9,reduceCtorEq,↓reduceIte,List.getElem?_set,hlen,t2,t3,e1,e2,s1]
   exact ⟨cv hoj (.inl ⟨by rw [z1]; rfl,by rw [z1]; rfl,rfl⟩) (.inl ⟨by rw [z2]; rfl,by rw [z2,zau],rfl⟩),hk⟩
  ·have hO2:=zaE.set (A:=[(0,bvB v)]) (OB.box 26 [.i .i64 v.kind,.s v.text,.orow b1 g1,.orow b2 g2]) hO
   have eb1:=hO2.get (i:=b1) (x:=.orow 9 1 g1 ks.length (ks.map .s)) (by simp)
   have eb2:=hO2.get (i:=b2) (x:=.orow 26 4 g2 its.length (zac its)) (by simp)
   simp only [sxZ,z6,z7,z8,j5,j6,j7,j8,j9,x3,x4,x5,x6,x7,x8,x9,reduceCtorEq,↓reduceIte,List.getElem?_set,hlen,t2,t3,e1,e2,s1,eb1,eb2,ziv,zfb]
   exact ⟨cv hoj (.inr rfl) (.inr rfl),hk⟩
end
end
end Go.Proofs.YthmdohgkmdkeeaaGreatDoor
namespace Go.Proofs.YthmdohgkmdkeeaaGreatDoor
open Go.RowKit Sx
theorem tnews1 (W:World) (a:Value):∀ j u,[a][j]? = some u → (W.alloc (.cells #[a] 5)).cell? ((⟨W.heap.size,0,none⟩:Addr).add j)=some u:=by
 intro j u hj
 rw [zav,World.cell?_alloc_at _ _ _ _ rfl]
 simpa using hj
theorem tnews2 (W:World) (a b:Value):∀ j u,[a,b][j]? = some u → (W.alloc (.cells #[a,b] 5)).cell? ((⟨W.heap.size,0,none⟩:Addr).add j)=some u:=by
 intro j u hj
 rw [zav,World.cell?_alloc_at _ _ _ _ rfl]
 simpa using hj
theorem tnews6 (W:World) (a b c d e f:Value):∀ j u,[a,b,c,d,e,f][j]? = some u → (W.alloc (.cells #[a,b,c,d,e,f] 5)).cell? ((⟨W.heap.size,0,none⟩:Addr).add j)=some u:=by
 intro j u hj
 rw [zav,World.cell?_alloc_at _ _ _ _ rfl]
 simpa using hj
theorem zk4 (c:UInt8) (i j:Nat) (hi:i=c.toNat / 16) (hj:j=c.toNat % 16) (h1:i < ByteArray.size { data:=#[48,49,50,51,52,53,54,55,56,57,97,98,99,100,101,102] }) (h2:j < ByteArray.size { data:=#[48,49,50,51,52,53,54,55,56,57,97,98,99,100,101,102] }) :
  bv [92,117,48,48,zdE (c.toNat / 16),zdE (c.toNat % 16)]=[.int .u8 92,.int .u8 117,.int .u8 48,.int .u8 48,.int .u8 (({ data:=#[48,49,50,51,52,53,54,55,56,57,97,98,99,100,101,102] }:ByteArray)[i]).toNat,.int .u8 (({ data:=#[48,49,50,51,52,53,54,55,56,57,97,98,99,100,101,102] }:ByteArray)[j]).toNat]:=by
 have key:∀ (k:Nat) (h:k < ByteArray.size { data:=#[48,49,50,51,52,53,54,55,56,57,97,98,99,100,101,102] }),(({ data:=#[48,49,50,51,52,53,54,55,56,57,97,98,99,100,101,102] }:ByteArray)[k])=zdE k:=by
  intro k h
  have h3:k < 16:=h
  have h4:=hexS_at ⟨k,h3⟩
  have h':k < [(48:UInt8),49,50,51,52,53,54,55,56,57,97,98,99,100,101,102].length:=h
  rw [← h4,List.getD_eq_getElem?_getD,List.getElem?_eq_getElem h']
  rfl
 rw [key i h1,key j h2,hi,hj]
 rfl
theorem brow_lit (w:World) (B:Nat) (hB:B ≤ w.heap.size):zdi (w.alloc (.cells #[.int .u8 34] 5)) B (.slice (some ⟨w.heap.size,0,none⟩) 1 1) [34]:=by
 refine ⟨by simp [bv],.inr ⟨w.heap.size,1,#[.int .u8 34],by simp,hB,heap_alloc_new w _,by simp,by simp [maxLen],by simp,?_⟩⟩
 simp [bv]
theorem zmo (s:ByteArray) (k:Nat) (h:k < s.size):quoP s.data.toList (k + 1)=quoP s.data.toList k ++ zbJ s[k]:=by
 rw [← zmp s.data.toList k (by rw [zah]; exact h),at_list s k h]
set_option maxRecDepth 1000000 in
set_option maxHeartbeats 4000000 in
theorem zkN (s:ByteArray) (w:World) (hs:s.size ≤ 140737488351232) :
  Calls Tryz.prog 77 #[.string s] w fun e w' => e=.returned (resV (zdM s.data.toList)) ∧ Qb w w':=by
 have hmx:=zbB
 by_cases c0:(1048576:Int) < s.size
 ·have hE:zdM s.data.toList=(5,[]):=by unfold zdM; rw [if_pos (by rw [zah]; omega)]
  rw [hE]
  go_enter Tryz.func77,Tryz.ntmps77
  go_wp2_with fail
  go_ret2
  exact ⟨rfl,Qb.refl _⟩
 rcases hv:zaQ s.data.toList with _ | _
 ·have hE:zdM s.data.toList=(7,[]):=by unfold zdM; rw [if_neg (by rw [zah]; omega),if_pos hv]
  rw [hE]
  go_enter Tryz.func77,Tryz.ntmps77
  go_wp2_with fail
  refine (zef s _ hs).mono ?_
  rintro e w1 ⟨rfl,hq1⟩
  rw [hv]
  go_wp2_with fail
  go_ret2
  exact ⟨rfl,hq1⟩
 ·have hE:zdM s.data.toList=(0,zcC s.data.toList):=by unfold zdM; rw [if_neg (by rw [zah]; omega),if_neg (by rw [hv]; simp)]
  have HE:=Lib.hid hE
  clear hE
  go_enter Tryz.func77,Tryz.ntmps77
  go_wp2_with fail
  refine (zef s _ hs).mono ?_
  rintro e w1 ⟨rfl,hq1⟩
  rw [hv]
  go_wp2_with fail
  have hB1:w.heap.size ≤ w1.heap.size:=hq1.size
  go_loopw [4,5,6] (fun v i _ wr => ∃ k:Nat,∃ l,k ≤ s.size ∧ i=.int .i64 k ∧ zdi wr w.heap.size v l ∧ l.length ≤ 6 * k + 1 ∧ Hid (l=quoP s.data.toList k) ∧ Qb w wr) (fun _ i _ _ => s.size - (intOf i).toNat)
  case atStart => exact ⟨0,[34],Nat.zero_le _,rfl,brow_lit _ _ hB1,Nat.le_refl _,Lib.hid rfl,hq1.alloc _⟩
  case round =>
   obtain ⟨k,l,hk,rfl,hrow,hlen,HL,hq⟩:=hrel
   have hB:w.heap.size ≤ wr.heap.size:=hq.size
   by_cases hlt:k < s.size
   ·have HS:=Lib.hid (zmo s k hlt)
    generalize hc:s[k]=c at *
    by_cases n34:c=34
    ·have d34:(((c.toNat:Nat):Int) == 34)=true:=by rw [n34]; rfl
     have HQ:Hid (zbJ c=[92,c]):=Lib.hid (by rw [n34]; rfl)
     clear n34
     go_wp2_with (at_builtin; refine za4 rfl (.tmp 34) (.tmp 36) rfl w.heap.size _ l [92,c] rfl (hrow.alloc _) _ _ _ rfl rfl (tnews2 _ _ _) (by simp; omega) (by simp; omega) ?_; intro v1 w1 hr1 hb1)
     go_roundw
     case rel => exact ⟨k + 1,_,by omega,by go_num,hr1,by simp; omega,Lib.hid (by rw [HS.out,HL.out,HQ.out]),Below.trans (hq.alloc _) hb1⟩
     case measure => simp [intOf]; omega
    by_cases n92:c=92
    ·have d92:(((c.toNat:Nat):Int) == 92)=true:=by rw [n92]; rfl
     have d34:(((c.toNat:Nat):Int) == 34)=false:=by rw [n92]; rfl
     have HQ:Hid (zbJ c=[92,c]):=Lib.hid (by rw [n92]; rfl)
     clear n92
     go_wp2_with (at_builtin; refine za4 rfl (.tmp 34) (.tmp 36) rfl w.heap.size _ l [92,c] rfl (hrow.alloc _) _ _ _ rfl rfl (tnews2 _ _ _) (by simp; omega) (by simp; omega) ?_; intro v1 w1 hr1 hb1)
     go_roundw
     case rel => exact ⟨k + 1,_,by omega,by go_num,hr1,by simp; omega,Lib.hid (by rw [HS.out,HL.out,HQ.out]),Below.trans (hq.alloc _) hb1⟩
     case measure => simp [intOf]; omega
    by_cases n8:c=8
    ·have d8:(((c.toNat:Nat):Int) == 8)=true:=by rw [n8]; rfl
     have d34:(((c.toNat:Nat):Int) == 34)=false:=by rw [n8]; rfl
     have d92:(((c.toNat:Nat):Int) == 92)=false:=by rw [n8]; rfl
     have HQ:Hid (zbJ c=[92,98]):=Lib.hid (by rw [n8]; rfl)
     clear n8
     go_wp2_with (at_builtin; refine zaR rfl (.tmp 41) (.const (.string ⟨#[92,98]⟩)) rfl w.heap.size _ l rfl hrow _ rfl (by show l.length + 2 ≤ _; omega) (by omega) ?_; intro v1 w1 hr1 hb1)
     go_roundw
     case rel => exact ⟨k + 1,_,by omega,by go_num,hr1,by simp; omega,Lib.hid (by rw [HS.out,HL.out,HQ.out]),Below.trans hq hb1⟩
     case measure => simp [intOf]; omega
    by_cases n12:c=12
    ·have d12:(((c.toNat:Nat):Int) == 12)=true:=by rw [n12]; rfl
     have d34:(((c.toNat:Nat):Int) == 34)=false:=by rw [n12]; rfl
     have d92:(((c.toNat:Nat):Int) == 92)=false:=by rw [n12]; rfl
     have d8:(((c.toNat:Nat):Int) == 8)=false:=by rw [n12]; rfl
     have HQ:Hid (zbJ c=[92,102]):=Lib.hid (by rw [n12]; rfl)
     clear n12
     go_wp2_with (at_builtin; refine zaR rfl (.tmp 46) (.const (.string ⟨#[92,102]⟩)) rfl w.heap.size _ l rfl hrow _ rfl (by show l.length + 2 ≤ _; omega) (by omega) ?_; intro v1 w1 hr1 hb1)
     go_roundw
     case rel => exact ⟨k + 1,_,by omega,by go_num,hr1,by simp; omega,Lib.hid (by rw [HS.out,HL.out,HQ.out]),Below.trans hq hb1⟩
     case measure => simp [intOf]; omega
    by_cases n10:c=10
    ·have d10:(((c.toNat:Nat):Int) == 10)=true:=by rw [n10]; rfl
     have d34:(((c.toNat:Nat):Int) == 34)=false:=by rw [n10]; rfl
     have d92:(((c.toNat:Nat):Int) == 92)=false:=by rw [n10]; rfl
     have d8:(((c.toNat:Nat):Int) == 8)=false:=by rw [n10]; rfl
     have d12:(((c.toNat:Nat):Int) == 12)=false:=by rw [n10]; rfl
     have HQ:Hid (zbJ c=[92,110]):=Lib.hid (by rw [n10]; rfl)
     clear n10
     go_wp2_with (at_builtin; refine zaR rfl (.tmp 51) (.const (.string ⟨#[92,110]⟩)) rfl w.heap.size _ l rfl hrow _ rfl (by show l.length + 2 ≤ _; omega) (by omega) ?_; intro v1 w1 hr1 hb1)
     go_roundw
     case rel => exact ⟨k + 1,_,by omega,by go_num,hr1,by simp; omega,Lib.hid (by rw [HS.out,HL.out,HQ.out]),Below.trans hq hb1⟩
     case measure => simp [intOf]; omega
    by_cases n13:c=13
    ·have d13:(((c.toNat:Nat):Int) == 13)=true:=by rw [n13]; rfl
     have d34:(((c.toNat:Nat):Int) == 34)=false:=by rw [n13]; rfl
     have d92:(((c.toNat:Nat):Int) == 92)=false:=by rw [n13]; rfl
     have d8:(((c.toNat:Nat):Int) == 8)=false:=by rw [n13]; rfl
     have d12:(((c.toNat:Nat):Int) == 12)=false:=by rw [n13]; rfl
     have d10:(((c.toNat:Nat):Int) == 10)=false:=by rw [n13]; rfl
     have HQ:Hid (zbJ c=[92,114]):=Lib.hid (by rw [n13]; rfl)
     clear n13
     go_wp2_with (at_builtin; refine zaR rfl (.tmp 56) (.const (.string ⟨#[92,114]⟩)) rfl w.heap.size _ l rfl hrow _ rfl (by show l.length + 2 ≤ _; omega) (by omega) ?_; intro v1 w1 hr1 hb1)
     go_roundw
     case rel => exact ⟨k + 1,_,by omega,by go_num,hr1,by simp; omega,Lib.hid (by rw [HS.out,HL.out,HQ.out]),Below.trans hq hb1⟩
     case measure => simp [intOf]; omega
    by_cases n9:c=9
    ·have d9:(((c.toNat:Nat):Int) == 9)=true:=by rw [n9]; rfl
     have d34:(((c.toNat:Nat):Int) == 34)=false:=by rw [n9]; rfl
     have d92:(((c.toNat:Nat):Int) == 92)=false:=by rw [n9]; rfl
     have d8:(((c.toNat:Nat):Int) == 8)=false:=by rw [n9]; rfl
     have d12:(((c.toNat:Nat):Int) == 12)=false:=by rw [n9]; rfl
     have d10:(((c.toNat:Nat):Int) == 10)=false:=by rw [n9]; rfl
     have d13:(((c.toNat:Nat):Int) == 13)=false:=by rw [n9]; rfl
     have HQ:Hid (zbJ c=[92,116]):=Lib.hid (by rw [n9]; rfl)
     clear n9
     go_wp2_with (at_builtin; refine zaR rfl (.tmp 61) (.const (.string ⟨#[92,116]⟩)) rfl w.heap.size _ l rfl hrow _ rfl (by show l.length + 2 ≤ _; omega) (by omega) ?_; intro v1 w1 hr1 hb1)
     go_roundw
     case rel => exact ⟨k + 1,_,by omega,by go_num,hr1,by simp; omega,Lib.hid (by rw [HS.out,HL.out,HQ.out]),Below.trans hq hb1⟩
     case measure => simp [intOf]; omega
    have hq0:zbJ c=if c.toNat < 32 then [92,117,48,48,zdE (c.toNat / 16),zdE (c.toNat % 16)] else [c]:=quoB_hex n34 n92 n8 n12 n10 n13 n9
    have d34:(((c.toNat:Nat):Int) == 34)=false:=by rw [beq_eq_false_iff_ne]; intro h; exact n34 ((zbL (by decide)).1 h)
    have d92:(((c.toNat:Nat):Int) == 92)=false:=by rw [beq_eq_false_iff_ne]; intro h; exact n92 ((zbL (by decide)).1 h)
    have d8:(((c.toNat:Nat):Int) == 8)=false:=by rw [beq_eq_false_iff_ne]; intro h; exact n8 ((zbL (by decide)).1 h)
    have d12:(((c.toNat:Nat):Int) == 12)=false:=by rw [beq_eq_false_iff_ne]; intro h; exact n12 ((zbL (by decide)).1 h)
    have d10:(((c.toNat:Nat):Int) == 10)=false:=by rw [beq_eq_false_iff_ne]; intro h; exact n10 ((zbL (by decide)).1 h)
    have d13:(((c.toNat:Nat):Int) == 13)=false:=by rw [beq_eq_false_iff_ne]; intro h; exact n13 ((zbL (by decide)).1 h)
    have d9:(((c.toNat:Nat):Int) == 9)=false:=by rw [beq_eq_false_iff_ne]; intro h; exact n9 ((zbL (by decide)).1 h)
    clear n34 n92 n8 n12 n10 n13 n9
    by_cases c8:((c.toNat:Nat):Int) < 32
    ·rw [if_pos (by omega)] at hq0
     have HQ:=Lib.hid hq0
     clear hq0
     have a1:(0:Int) ≤ (c.toNat:Int) / 16:=by omega
     have a2:(c.toNat:Int) / 16 < 16:=by omega
     have b1:(0:Int) ≤ (c.toNat:Int) % 16:=by omega
     have b2:(c.toNat:Int) % 16 < 16:=by omega
     have e1:IntKind.u8.wrap ((c.toNat:Int) / 16)=(c.toNat:Int) / 16:=by
      have:=c.toNat_lt
      simp [IntKind.wrap,IntKind.bits,IntKind.signed]; omega
     have e2:IntKind.u8.wrap ((c.toNat:Int) % 16)=(c.toNat:Int) % 16:=by
      have:=c.toNat_lt
      simp [IntKind.wrap,IntKind.bits,IntKind.signed]; omega
     have e3:((c.toNat:Nat):Int).tmod 16=(c.toNat:Int) % 16:=Int.tmod_eq_emod_of_nonneg (by omega)
     have hcells:=Lib.hid (zk4 c ((c.toNat:Int) / 16).toNat ((c.toNat:Int) % 16).toNat (by omega) (by omega) (by show _ < 16; omega) (by show _ < 16; omega))
     go_wp2_with fail
     go_region_law (first | (refine zeV rfl (.tmp 66) (.tmp 73) rfl w.heap.size _ l [92,117,48,48,zdE (c.toNat / 16),zdE (c.toNat % 16)] rfl (zdi.drew (hrow.alloc _)) _ _ _ rfl rfl (by rw [hcells.out]; exact tnews6 _ _ _ _ _ _ _) (by simp; omega) (by simp; omega) ?_; intro v1 w1 hr1 hb1) | fail)
     all_goals have hb2:=Below.trans ((hq.alloc _).drew) hb1
     all_goals (try go_wp2_with fail)
     all_goals
      go_roundw
      case rel => exact ⟨k + 1,_,by omega,by go_num,hr1,by simp; omega,Lib.hid (by rw [HS.out,HL.out,HQ.out]),hb2⟩
      case measure => simp [intOf]; omega
    ·rw [if_neg (by omega)] at hq0
     have HQ:=Lib.hid hq0
     clear hq0
     go_wp2_with (at_builtin; refine za4 rfl (.tmp 23) (.tmp 25) rfl w.heap.size _ l [c] rfl (hrow.alloc _) _ _ _ rfl rfl (tnews1 _ _) (by simp; omega) (by simp; omega) ?_; intro v1 w1 hr1 hb1)
     go_roundw
     case rel => exact ⟨k + 1,_,by omega,by go_num,hr1,by simp; omega,Lib.hid (by rw [HS.out,HL.out,HQ.out]),Below.trans (hq.alloc _) hb1⟩
     case measure => simp [intOf]; omega
   ·have hke:k=s.size:=by omega
    have HZ:Hid (l ++ [34]=zcC s.data.toList):=Lib.hid (by
     have h:=quoP_end s.data.toList
     rw [zah] at h
     rw [HL.out,hke]
     unfold quoP zcC
     rw [← zah,List.take_length]; rfl)
    go_wp2_with (at_builtin; refine za4 rfl (.tmp 75) (.tmp 76) rfl w.heap.size _ l [34] rfl (hrow.alloc _) _ _ _ rfl rfl (tnews1 _ _) (by simp; omega) (by simp; omega) ?_; intro v1 w1 hr1 hb1; have hst:=row_str hr1)
    go_ret2
    exact ⟨by rw [HE.out,← HZ.out]; rfl,Below.trans (hq.alloc _) hb1⟩
end Go.Proofs.YthmdohgkmdkeeaaGreatDoor
namespace Go.Proofs.YthmdohgkmdkeeaaGreatDoor
open Nat renaming reduceAdd → z6, reduceSub → z7, reduceLeDiff → z8, reduceLT → j5, reduceMul → j6, reduceEqDiff → j7
open Int renaming reduceToNat → j8, reduceAdd → j9, reduceSub → x3, reduceMul → x4, reduceNeg → x5, reduceLT → x6, reduceLE → x7, reduceEq → x8, reduceNe → x9
open Go.RowKit Sx
section
attribute [local irreducible] run
def zgp:List UInt8:=[110,117,108,108]
mutual
/-- the text of a value -/
def wrJ:JV → List UInt8
 | .mk k t ks its => if k=1 then zgp else if k=2 then zc1 else if k=3 then zeR else if k=4 then t else if k=5 then (zdM t).2 else if k=7 then 123 :: (wrI true true ks its ++ [125]) else 91 :: (wrI false true ks its ++ [93])
/-- .. of its members: objects', the first one -/
def wrI:Bool → Bool → List (List UInt8) → List JV → List UInt8
 | _,_,_,[] => []
 | o,f,ks,v :: l => (if f=true then [] else [44]) ++ ((if o=true then (zdM (ks.head?.getD [])).2 ++ [58] else []) ++ (wrJ v ++ wrI o false ks.tail l))
end
theorem wrJ_eq (v:JV):wrJ v=if v.kind=1 then zgp else if v.kind=2 then zc1 else if v.kind=3 then zeR else if v.kind=4 then v.text else if v.kind=5 then (zdM v.text).2 else if v.kind=7 then 123 :: (wrI true true v.keys v.items ++ [125]) else 91 :: (wrI false true v.keys v.items ++ [93]):=by cases v; rw [wrJ]; rfl
theorem zjw (s:List UInt8):(zdM s).2.length ≤ 6 * s.length + 2:=by
 unfold zdM
 split
 ·exact Nat.zero_le _
 split
 ·exact Nat.zero_le _
 ·show (zcC s).length ≤ _
  unfold zcC
  have:=zjx s
  rw [List.length_cons,List.length_append,List.length_cons,List.length_nil]; omega
mutual
theorem zf3:∀ v:JV,JKp v → (wrJ v).length + 1804 ≤ 4000 * v.size
 | .mk k t ks its,h => by
  obtain ⟨l1,l2,l3,l4⟩:=h.lens
  have hs:=size_eq (.mk k t ks its)
  have hi:∀ o f,(wrI o f ks its).length ≤ 4000 * JV.sizes its:=fun o f => zic its (by rw [JKp] at h; exact h.2.2.2.2) o f ks l4
  have hq:=zjw t
  have h1:=hi true true
  have h2:=hi false true
  simp only [JV.items,JV.text,JV.keys] at hs l3 l4
  rw [wrJ]
  split
  ·show 4 + 1804 ≤ _; omega
  split
  ·show 5 + 1804 ≤ _; omega
  split
  ·show 4 + 1804 ≤ _; omega
  split
  ·omega
  split
  ·omega
  split
  ·simp only [List.length_cons,List.length_append,List.length_nil]; omega
  ·simp only [List.length_cons,List.length_append,List.length_nil]; omega
theorem zic:∀ (l:List JV),zd3 l → ∀ (o f:Bool) (ks:List (List UInt8)),(∀ k ∈ ks,k.length ≤ 300) → (wrI o f ks l).length ≤ 4000 * JV.sizes l
 | [],_,o,f,ks,_ => by rw [wrI]; exact Nat.zero_le _
 | v :: l,h,o,f,ks,hk => by
  rw [zd3] at h
  have h1:=zf3 v h.1
  have h2:=zic l h.2 o false ks.tail (fun k hk' => hk k (List.mem_of_mem_tail hk'))
  have h3:(zdM (ks.head?.getD [])).2.length ≤ 1802:=by
   have:=zjw (ks.head?.getD [])
   cases ks with
   | nil => simp at this ⊢; omega
   | cons a ks =>
    have:=hk a (by simp)
    simp at *
    omega
  rw [wrI,JV.sizes]
  have h4:(if f=true then ([]:List UInt8) else [44]).length ≤ 1:=by cases f <;> simp
  have h5:(if o=true then (zdM (ks.head?.getD [])).2 ++ [58] else []).length ≤ 1803:=by cases o <;> simp <;> omega
  simp only [List.length_append]
  omega
end
mutual
/-- objects have as many keys as items, wherever -/
def WfW:JV → Prop
 | .mk k t ks its => (k=7 → ks.length=its.length) ∧ zoF its
def zoF:List JV → Prop
 | [] => True
 | v :: l => WfW v ∧ zoF l
end
theorem zlp:∀ {l:List JV} (h:zoF l) {i:Nat} (hi:i < l.length),WfW l[i]
 | a :: l,h,0,hi => by rw [zoF] at h; exact h.1
 | a :: l,h,i + 1,hi => by rw [zoF] at h; exact zlp h.2 (by simpa using hi)
theorem WfW.its {v:JV} (h:WfW v) {i:Nat} (hi:i < v.items.length):WfW v.items[i]:=by
 cases v with
 | mk k t ks its => rw [WfW] at h; exact zlp h.2 hi
theorem WfW.len {v:JV} (h:WfW v):v.kind=7 → v.keys.length=v.items.length:=by
 cases v with
 | mk k t ks its => rw [WfW] at h; exact h.1
theorem wrI_drop (o:Bool):∀ (ks:List (List UInt8)) (l:List JV) (f:Bool) {i:Nat} (hi:i < l.length),(o=true → i < ks.length) →
  wrI o f (ks.drop i) (l.drop i)=(if f=true then [] else [44]) ++ ((if o=true then (zdM (ks[i]?.getD [])).2 ++ [58] else []) ++ (wrJ l[i] ++ wrI o false (ks.drop (i + 1)) (l.drop (i + 1)))):=by
 intro ks l f i hi hk
 rw [zgr hi,wrI,List.tail_drop]
 congr 2
 cases o with
 | false => rfl
 | true =>
  have h1:=hk rfl
  rw [List.head?_drop]
section
variable {P:Program} [Tabs P] {C:Cx}
theorem zeI {E sz by' n m:Nat} {xs ys:List AV} {X:AV} {R A B:List (Nat × OB)} {o:List OB} {d:Option Nat} {r:List SO} {k:List IT} {tm:List AV} {F:zaF}
  (hS:SlO E sz n xs X R) (hO:zaE (A ++ (R ++ B)) o) (c:ys.length=m * sz ∧ (n + m) * by' ≤ 140737488355328 ∧ n + m ≤ 140737488355328)
  (next:∀ X' R' o',SlO E sz (n + m) (xs ++ ys) X' R' → zaE (A ++ (R' ++ B)) o' → run P C (.ops r :: k) o' (zan tm d X') F):kAp2 P C X E sz by' m ys d r k o tm F:=by
 rcases hS with ⟨rfl,rfl,rfl,rfl⟩ | ⟨b,g,rfl,rfl⟩
 ·rw [znu]
  rw [Nat.zero_add] at c
  refine ⟨c,next _ [(o.length,.orow E sz 0 m ys)] _ (.inr ⟨_,_,rfl,by rw [Nat.zero_add]; rfl⟩) ?_⟩
  exact (hO.new _).perm (List.perm_middle.symm)
 ·rw [znt,hO.get (i:=b) (x:=.orow E sz g n xs) (by simp),zns]
  exact ⟨c,next _ [(b,.orow E sz (g + 1) (n + m) (xs ++ ys))] _ (.inr ⟨_,_,rfl,rfl⟩) (hO.set _)⟩
theorem znk {E n:Nat} {xs:List AV} {l:List UInt8} {X:AV} {R A B:List (Nat × OB)} {o:List OB} {d:Option Nat} {r:List SO} {k:List IT} {tm:List AV} {F:zaF}
  (hS:SlO E 1 n xs X R) (hO:zaE (A ++ (R ++ B)) o) (c:n + l.length ≤ 140737488355328)
  (next:∀ X' R' o',SlO E 1 (n + l.length) (xs ++ byA l) X' R' → zaE (A ++ (R' ++ B)) o' → run P C (.ops r :: k) o' (zan tm d X') F):kAs P C X (.s l) E d r k o tm F:=by
 rcases hS with ⟨rfl,rfl,rfl,rfl⟩ | ⟨b,g,rfl,rfl⟩
 ·rw [kAs_n]
  rw [Nat.zero_add] at c
  refine ⟨c,next _ [(o.length,.orow E 1 0 l.length (byA l))] _ (.inr ⟨_,_,rfl,by rw [Nat.zero_add]; rfl⟩) ?_⟩
  exact (hO.new _).perm (List.perm_middle.symm)
 ·rw [kAs_o,hO.get (i:=b) (x:=.orow E 1 g n xs) (by simp),znl]
  exact ⟨c,next _ [(b,.orow E 1 (g + 1) (n + l.length) (xs ++ byA l))] _ (.inr ⟨_,_,rfl,rfl⟩) (hO.set _)⟩
theorem zge {E n:Nat} {a b:List UInt8} {X:AV} {R:List (Nat × OB)} (h:SlO E 1 (a.length + n) (byA a ++ byA b) X R) (hn:b.length=n):SlO E 1 (a ++ b).length (byA (a ++ b)) X R:=by
 rw [List.length_append,zk8,hn]; exact h
end
section
variable [Tabs Tryz.prog]
theorem zhb (s:List UInt8) (hs:s.length ≤ 140737488351232) {objs:List OB} {K:List OB → AV → Prop} (hk:K objs (.tup [.s (zdM s).2,.i .i64 (zdM s).1])):zad Tryz.prog 77 [.s s] objs K :=
 conv (vs:=[.string (S s)]) rfl rfl (fun w => zkN (S s) w (by rw [zch]; exact hs)) hk
theorem write_k:∀ (m:Nat) (v:JV),v.size < m → v.size ≤ 100000 → JKp v → WfW v → ∀ {objs:List OB} {K:List OB → AV → Prop},K objs (.s (wrJ v)) → zad Tryz.prog 53 [.agg (zaq v)] objs K:=by
 intro m
 induction m with
 | zero => intro v h; omega
 | succ m ih =>
  intro v hm hsz hv hw objs K hk
  obtain ⟨l1,l2,l3,l4⟩:=hv.lens
  have hwl:=zf3 v hv
  refine zbb is_ref15_write (by simp only [zam,AV.plain,zbr,Bool.and_self]) fun C _ => ?_
  rw [c_ref15_write]
  have hjv:=zap v
  rw [hjv]
  refine zaa fun Z hZ => ?_
  simp only [sxZ,z6,z7,z8,j5,j6,j7,j8,j9,x3,x4,x5,x6,x7,x8,x9,reduceCtorEq,↓reduceIte]
  rw [wrJ_eq] at hk hwl
  subst hZ
  refine zaa fun Z hZ => ?_
  refine zaa fun W hW => ?_
  simp only [sxZ,z6,z7,z8,j5,j6,j7,j8,j9,x3,x4,x5,x6,x7,x8,x9,reduceCtorEq,↓reduceIte]
  subst hW
  rw [zaX]
  by_cases a1:v.kind=1
  ·rw [if_pos a1] at hk
   simp only [sxZ,z6,z7,z8,j5,j6,j7,j8,j9,x3,x4,x5,x6,x7,x8,x9,reduceCtorEq,↓reduceIte,a1]
   exact hk
  rw [if_neg a1] at hk hwl
  by_cases a2:v.kind=2
  ·rw [if_pos a2] at hk
   simp only [sxZ,z6,z7,z8,j5,j6,j7,j8,j9,x3,x4,x5,x6,x7,x8,x9,reduceCtorEq,↓reduceIte,a2]
   exact hk
  rw [if_neg a2] at hk hwl
  by_cases a3:v.kind=3
  ·rw [if_pos a3] at hk
   simp only [sxZ,z6,z7,z8,j5,j6,j7,j8,j9,x3,x4,x5,x6,x7,x8,x9,reduceCtorEq,↓reduceIte,a3]
   exact hk
  rw [if_neg a3] at hk hwl
  by_cases a4:v.kind=4
  ·rw [if_pos a4] at hk
   simp only [sxZ,z6,z7,z8,j5,j6,j7,j8,j9,x3,x4,x5,x6,x7,x8,x9,reduceCtorEq,↓reduceIte,a4]
   exact hk
  rw [if_neg a4] at hk hwl
  by_cases a5:v.kind=5
  ·rw [if_pos a5] at hk
   simp only [sxZ,z6,z7,z8,j5,j6,j7,j8,j9,x3,x4,x5,x6,x7,x8,x9,reduceCtorEq,↓reduceIte,a5]
   refine zal (zhb v.text (by omega) ?_)
   simp only [sxZ,z6,z7,z8,j5,j6,j7,j8,j9,x3,x4,x5,x6,x7,x8,x9,reduceCtorEq,↓reduceIte]
   exact hk
  rw [if_neg a5] at hk hwl
  simp only [sxZ,z6,z7,z8,j5,j6,j7,j8,j9,x3,x4,x5,x6,x7,x8,x9,reduceCtorEq,↓reduceIte,a1,a2,a3,a4,a5]
  have f0:[OB.box 26 [.i .i64 v.kind,.s v.text,.row v.keys.length (v.keys.map .s),.row v.items.length (zac v.items)]]=[bvB v]:=rfl
  rw [f0]
  have hO:zaE [(0,bvB v)] [bvB v]:=⟨by simp,fun x hx => by
   simp only [List.mem_cons,List.not_mem_nil,or_false] at hx
   rcases hx with rfl <;> rfl⟩
  subst hZ
  refine zbf (fun tm => tm.length=77 ∧ tm[1]? = some (.p 0 0)) ?_ ?_
  ·exact ⟨rfl,rfl⟩
  rintro tm ⟨hlen,t1⟩
  refine zaa fun Z hZ => ?_
  simp only [sxZ,z6,z7,z8,j5,j6,j7,j8,j9,x3,x4,x5,x6,x7,x8,x9,reduceCtorEq,↓reduceIte,List.getElem?_set,hlen]
  subst hZ
  refine zaa fun Z hZ => ?_
  refine zaa fun W hW => ?_
  have eb2:[bvB v][0]? = some (OB.box 26 [.i .i64 v.kind,.s v.text,.row v.keys.length (v.keys.map .s),.row v.items.length (zac v.items)]):=rfl
  generalize [bvB v]=o at hO eb2 ⊢
  simp only [sxZ,z6,z7,z8,j5,j6,j7,j8,j9,x3,x4,x5,x6,x7,x8,x9,reduceCtorEq,↓reduceIte,List.getElem?_set,hlen,t1,eb2]
  subst hW
  rw [zaX]
  obtain ⟨o7,ho7⟩:∃ o7,o7=decide (v.kind=7):=⟨_,rfl⟩
  have hbody:(wrI o7 true v.keys v.items).length + 2 + 1804 ≤ 4000 * v.size:=by
   by_cases a7:v.kind=7
   ·rw [if_pos a7,List.length_cons,List.length_append,List.length_cons,List.length_nil] at hwl
    rw [ho7,decide_eq_true a7]; omega
   ·rw [if_neg a7,List.length_cons,List.length_append,List.length_cons,List.length_nil] at hwl
    rw [ho7,decide_eq_false a7]; omega
  refine zaO (fun n o tm => ∃ (i:Nat) (txt:List UInt8) (X:AV) (R:List (Nat × OB)),i ≤ v.items.length ∧ n=v.items.length - i ∧ wrI o7 true v.keys v.items=txt ++ wrI o7 (decide (i=0)) (v.keys.drop i) (v.items.drop i) ∧ SlO 5 1 txt.length (byA txt) X R ∧ zaE ((0,bvB v) :: (R ++ [])) o ∧ tm.length=77 ∧ tm[1]? = some (.p 0 0) ∧ tm[5]? = some X ∧ tm[32]? = some (.row v.items.length (zac v.items)) ∧ tm[33]? = some (.i .i64 (v.items.length:Int)) ∧ tm[34]? = some (.i .i64 (i:Int))) v.items.length ⟨0,[],.nil,[],Nat.zero_le _,rfl,rfl,.inl ⟨rfl,rfl,rfl,rfl⟩,hO,?_⟩ ?_
  ·simp only [sxZ,z6,z7,z8,j5,j6,j7,j8,j9,x3,x4,x5,x6,x7,x8,x9,reduceCtorEq,↓reduceIte,List.length_set,List.getElem?_set,hlen,t1,Int.cast_ofNat_Int,and_self]
  clear hlen t1 hO eb2
  rintro n o tm ⟨i,txt,X,R,hi,rfl,htx,hS,hO,hlen,t1,t5,t32,t33,t34⟩
  refine zaa fun W hW => ?_
  by_cases hlt:(i:Int) < (v.items.length:Int)
  ·have hi':i < v.items.length:=by omega
   have hki:v.kind=7 → i < v.keys.length:=fun h => by have:=hw.len h; omega
   have hjc:=ziI hi'
   have hjl:=zaV v.items
   have hsx:=zcp hi'
   have hcall:=fun {objs:List OB} {K:List OB → AV → Prop} (h:K objs (.s (wrJ v.items[i]))) => ih v.items[i] (by omega) (by omega) (hv.its hi') (hw.its hi') (objs:=objs) (K:=K) h
   rw [wrI_drop o7 v.keys v.items _ hi' (fun h => hki (by rw [ho7] at h; exact of_decide_eq_true h))] at htx
   generalize v.items[i]=x at hjc hcall htx
   generalize wrJ x=wx at hcall htx
   have hjx:=zap x
   rw [hjx] at hjc hcall
   simp only [sxZ,z6,z7,z8,j5,j6,j7,j8,j9,x3,x4,x5,x6,x7,x8,x9,reduceCtorEq,↓reduceIte,List.getElem?_set,hlen,t32,t33,t34,hlt]
   subst hW
   refine zaa fun W hW => ?_
   simp only [sxZ,z6,z7,z8,j5,j6,j7,j8,j9,x3,x4,x5,x6,x7,x8,x9,reduceCtorEq,↓reduceIte,List.getElem?_set,hlen]
   subst hW
   refine zaa fun V hV => ?_
   rw [zaX]
   refine zaa fun W hW => ?_
   simp only [sxZ,z6,z7,z8,j5,j6,j7,j8,j9,x3,x4,x5,x6,x7,x8,x9,reduceCtorEq,↓reduceIte,List.getElem?_set,hlen,t32,t34,hjc]
   refine ⟨⟨by omega,by omega,by omega⟩,by omega,?_⟩
   simp only [sxZ,z6,z7,z8,j5,j6,j7,j8,j9,x3,x4,x5,x6,x7,x8,x9,reduceCtorEq,↓reduceIte,List.getElem?_set,hlen,gn1,sn1]
   have hO2:=hO.new (.box 26 [.i .i64 x.kind,.s x.text,.row x.keys.length (x.keys.map .s),.row x.items.length (zac x.items)])
   have hO2:zaE ((0,bvB v) :: (o.length,OB.box 26 [.i .i64 x.kind,.s x.text,.row x.keys.length (x.keys.map .s),.row x.items.length (zac x.items)]) :: (R ++ [])) (o ++ [.box 26 [.i .i64 x.kind,.s x.text,.row x.keys.length (x.keys.map .s),.row x.items.length (zac x.items)]]):=hO2.perm (List.Perm.swap _ _ _)
   clear hO
   generalize o.length=q at hO2 ⊢
   generalize o ++ [OB.box 26 [.i .i64 x.kind,.s x.text,.row x.keys.length (x.keys.map .s),.row x.items.length (zac x.items)]]=o at hO2 ⊢
   refine zbf (fun tm => tm.length=77 ∧ tm[1]? = some (.p 0 0) ∧ tm[5]? = some X ∧ tm[6]? = some (.i .i64 (i:Int)) ∧ tm[7]? = some (.p q 0) ∧ tm[32]? = some (.row v.items.length (zac v.items)) ∧ tm[33]? = some (.i .i64 (v.items.length:Int)) ∧ tm[34]? = some (.i .i64 (i:Int))) ?_ ?_
   ·simp only [sxZ,z6,z7,z8,j5,j6,j7,j8,j9,x3,x4,x5,x6,x7,x8,x9,reduceCtorEq,↓reduceIte,List.length_set,List.getElem?_set,hlen,t1,t5,t32,t33,t34,and_self]
   clear hlen t1 t5 t32 t33 t34
   rintro tm ⟨hlen,t1,t5,t6,t7,t32,t33,t34⟩
   subst hW
   refine zaa fun W hW => ?_
   have htl:=congrArg List.length htx
   simp only [List.length_append] at htl
   refine zaM (fun o tm => ∃ X R,SlO 5 1 (txt ++ (if decide (i=0)=true then [] else [44])).length (byA (txt ++ (if decide (i=0)=true then [] else [44]))) X R ∧ zaE ((0,bvB v) :: (q,OB.box 26 [.i .i64 x.kind,.s x.text,.row x.keys.length (x.keys.map .s),.row x.items.length (zac x.items)]) :: (R ++ [])) o ∧ tm.length=77 ∧ tm[1]? = some (.p 0 0) ∧ tm[5]? = some X ∧ tm[6]? = some (.i .i64 (i:Int)) ∧ tm[7]? = some (.p q 0) ∧ tm[32]? = some (.row v.items.length (zac v.items)) ∧ tm[33]? = some (.i .i64 (v.items.length:Int)) ∧ tm[34]? = some (.i .i64 (i:Int))) ?_ ?_
   ·cases i with
    | zero =>
     have z:¬ (0:Int) < ((0:Nat):Int):=by decide
     simp only [sxZ,z6,z7,z8,j5,j6,j7,j8,j9,x3,x4,x5,x6,x7,x8,x9,reduceCtorEq,↓reduceIte,List.getElem?_set,hlen,t6,z,zab,List.length_set,t1,t5,t7,t32,t33,t34,and_self,decide_true,if_true,List.append_nil]
     exact ⟨X,R,hS,by simpa using hO2,rfl⟩
    | succ i =>
     have z:(0:Int) < ((i + 1:Nat):Int):=by omega
     have z2:¬ (i + 1=0):=by omega
     simp only [sxZ,z6,z7,z8,j5,j6,j7,j8,j9,x3,x4,x5,x6,x7,x8,x9,reduceCtorEq,↓reduceIte,List.getElem?_set,hlen,t6,z,z2,zab,List.length_set,t1,t5,t7,t32,t33,t34,and_self,decide_false,Bool.false_eq_true,if_false]
     refine zeI (A:=[(0,bvB v),(q,OB.box 26 [.i .i64 x.kind,.s x.text,.row x.keys.length (x.keys.map .s),.row x.items.length (zac x.items)])]) (B:=[]) hS hO2 ⟨rfl,by omega,by omega⟩ ?_
     intro X' R' o' hS' hO'
     simp only [sxZ,z6,z7,z8,j5,j6,j7,j8,j9,x3,x4,x5,x6,x7,x8,x9,reduceCtorEq,↓reduceIte,List.getElem?_set,hlen,zab,List.length_set,t1,t5,t6,t7,t32,t33,t34,and_self]
     exact ⟨X',R',by simpa only [List.length_append,List.length_cons,List.length_nil,Nat.zero_add] using (zge hS' (b:=[44]) rfl),by simpa using hO',rfl⟩
   clear hlen t1 t5 t6 t7 t32 t33 t34 hO2 hS
   rintro o tm ⟨X,R,hS,hO2,hlen,t1,t5,t6,t7,t32,t33,t34⟩
   generalize (if decide (i=0)=true then ([]:List UInt8) else [44])=cm at htx htl hS
   have hcm:cm.length ≤ (txt ++ cm).length:=by rw [List.length_append]; omega
   rw [← List.append_assoc] at htx
   have hcl:(txt ++ cm).length=txt.length + cm.length:=List.length_append
   generalize txt ++ cm=txt at htx hS hcl
   subst hW
   refine zaa fun W hW => ?_
   refine zaM (fun o tm => ∃ X R,SlO 5 1 (txt ++ (if o7=true then (zdM (v.keys[i]?.getD [])).2 ++ [58] else [])).length (byA (txt ++ (if o7=true then (zdM (v.keys[i]?.getD [])).2 ++ [58] else []))) X R ∧ zaE ((0,bvB v) :: (q,OB.box 26 [.i .i64 x.kind,.s x.text,.row x.keys.length (x.keys.map .s),.row x.items.length (zac x.items)]) :: (R ++ [])) o ∧ tm.length=77 ∧ tm[1]? = some (.p 0 0) ∧ tm[5]? = some X ∧ tm[6]? = some (.i .i64 (i:Int)) ∧ tm[7]? = some (.p q 0) ∧ tm[32]? = some (.row v.items.length (zac v.items)) ∧ tm[33]? = some (.i .i64 (v.items.length:Int)) ∧ tm[34]? = some (.i .i64 (i:Int))) ?_ ?_
   ·have e0:=hO2.get (i:=0) (x:=bvB v) (by simp)
    have e0:o[0]? = some (OB.box 26 [.i .i64 v.kind,.s v.text,.row v.keys.length (v.keys.map .s),.row v.items.length (zac v.items)]):=e0
    by_cases a7:v.kind=7
    ·have hik:=hki a7
     have ho:o7=true:=by rw [ho7]; exact decide_eq_true a7
     have kv:(v.keys.map AV.s)[i * 1]? = some (.s v.keys[i]):=by rw [Nat.mul_one,List.getElem?_map,List.getElem?_eq_getElem hik]; rfl
     have hkl:=l4 _ (List.getElem_mem hik)
     have hke:v.keys[i]?.getD []=v.keys[i]:=by rw [List.getElem?_eq_getElem hik]; rfl
     have hb2:=hbody
     rw [ho] at hb2
     rw [ho,if_pos rfl,hke] at htl
     rw [ho,if_pos rfl,hke]
     generalize v.keys[i]=key at kv hkl htl
     rw [List.length_append,List.length_cons,List.length_nil] at htl
     simp only [sxZ,z6,z7,z8,j5,j6,j7,j8,j9,x3,x4,x5,x6,x7,x8,x9,reduceCtorEq,↓reduceIte,List.getElem?_set,hlen,t1,t6,e0,a7,kv]
     have hml:(v.keys.map AV.s).length=v.keys.length:=List.length_map _
     refine ⟨⟨by omega,by omega,by omega⟩,?_⟩
     refine zal (zhb key (by omega) ?_)
     simp only [sxZ,z6,z7,z8,j5,j6,j7,j8,j9,x3,x4,x5,x6,x7,x8,x9,reduceCtorEq,↓reduceIte,List.getElem?_set,hlen,t5]
     refine znk (A:=[(0,bvB v),(q,OB.box 26 [.i .i64 x.kind,.s x.text,.row x.keys.length (x.keys.map .s),.row x.items.length (zac x.items)])]) (B:=[]) hS hO2 (by omega) ?_
     intro X' R' o' hS' hO'
     simp only [sxZ,z6,z7,z8,j5,j6,j7,j8,j9,x3,x4,x5,x6,x7,x8,x9,reduceCtorEq,↓reduceIte,List.getElem?_set,hlen]
     refine zeI (A:=[(0,bvB v),(q,OB.box 26 [.i .i64 x.kind,.s x.text,.row x.keys.length (x.keys.map .s),.row x.items.length (zac x.items)])]) (B:=[]) (zge hS' rfl) hO' ⟨rfl,by rw [List.length_append]; omega,by rw [List.length_append]; omega⟩ ?_
     intro X2 R2 o2 hS2 hO2
     simp only [sxZ,z6,z7,z8,j5,j6,j7,j8,j9,x3,x4,x5,x6,x7,x8,x9,reduceCtorEq,↓reduceIte,List.getElem?_set,hlen,zab,List.length_set,t1,t5,t6,t7,t32,t33,t34,and_self]
     rw [← List.append_assoc]
     exact ⟨X2,R2,by simpa only [List.length_append,List.length_cons,List.length_nil,Nat.zero_add,Nat.add_assoc] using (zge hS2 (b:=[58]) rfl),by simpa using hO2,rfl⟩
    ·have ho:o7=false:=by rw [ho7]; exact decide_eq_false a7
     rw [ho,if_neg (by decide),List.append_nil]
     simp only [sxZ,z6,z7,z8,j5,j6,j7,j8,j9,x3,x4,x5,x6,x7,x8,x9,reduceCtorEq,↓reduceIte,List.getElem?_set,hlen,zab,List.length_set,t1,t5,t6,t7,t32,t33,t34,e0,a7,and_self]
     exact ⟨X,R,hS,by simpa using hO2,rfl⟩
   clear hlen t1 t5 t6 t7 t32 t33 t34 hO2 hS
   rintro o tm ⟨X,R,hS,hO2,hlen,t1,t5,t6,t7,t32,t33,t34⟩
   generalize (if o7=true then (zdM (v.keys[i]?.getD [])).2 ++ [58] else [])=kk at htx htl hS
   rw [← List.append_assoc] at htx
   have hkl:(txt ++ kk).length=txt.length + kk.length:=List.length_append
   generalize txt ++ kk=txt at htx hS hkl
   have eq:=hO2.get (i:=q) (x:=OB.box 26 [.i .i64 x.kind,.s x.text,.row x.keys.length (x.keys.map .s),.row x.items.length (zac x.items)]) (by simp)
   subst hW
   simp only [sxZ,z6,z7,z8,j5,j6,j7,j8,j9,x3,x4,x5,x6,x7,x8,x9,reduceCtorEq,↓reduceIte,List.getElem?_set,hlen,t5,t7,eq]
   refine zal (hcall ?_)
   simp only [sxZ,z6,z7,z8,j5,j6,j7,j8,j9,x3,x4,x5,x6,x7,x8,x9,reduceCtorEq,↓reduceIte,List.getElem?_set,hlen]
   refine znk (A:=[(0,bvB v),(q,OB.box 26 [.i .i64 x.kind,.s x.text,.row x.keys.length (x.keys.map .s),.row x.items.length (zac x.items)])]) (B:=[]) hS hO2 (by omega) ?_
   intro X' R' o' hS' hO'
   have hO3:zaE ((0,bvB v) :: (R' ++ [])) o':=hO'.sub (List.Sublist.cons_cons _ (List.sublist_cons_self _ _))
   subst hV
   simp only [sxZ,z6,z7,z8,j5,j6,j7,j8,j9,x3,x4,x5,x6,x7,x8,x9,reduceCtorEq,↓reduceIte,List.getElem?_set,hlen,List.length_set,t1,t32,t33,t34]
   refine ⟨by omega,v.items.length - (i + 1),by omega,i + 1,txt ++ wx,X',R',by omega,rfl,?_,zge hS' rfl,by simpa using hO3,rfl,rfl⟩
   rw [htx,List.append_assoc,decide_eq_false (by omega)]
  simp only [sxZ,z6,z7,z8,j5,j6,j7,j8,j9,x3,x4,x5,x6,x7,x8,x9,reduceCtorEq,↓reduceIte,List.getElem?_set,hlen,t32,t33,t34,hlt]
  subst hW
  have hn:i=v.items.length:=by omega
  rw [List.drop_of_length_le (l:=v.items) (by omega),wrI,List.append_nil] at htx
  have e0:o[0]? = some (OB.box 26 [.i .i64 v.kind,.s v.text,.row v.keys.length (v.keys.map .s),.row v.items.length (zac v.items)]):=hO.get (i:=0) (x:=bvB v) (by simp)
  have fin:∀ {Y:AV},Y=.s (if v.kind=7 then 123 :: (txt ++ [125]) else 91 :: (txt ++ [93])) → K objs Y:=by
   rintro Y rfl
   by_cases a7:v.kind=7
   ·rw [if_pos a7] at hk ⊢
    rw [show o7=true by rw [ho7]; exact decide_eq_true a7] at htx
    rw [← htx]; exact hk
   ·rw [if_neg a7] at hk ⊢
    rw [show o7=false by rw [ho7]; exact decide_eq_false a7] at htx
    rw [← htx]; exact hk
  have htl:=congrArg List.length htx
  subst hZ
  rcases hS with ⟨z1,z2,rfl,rfl⟩ | ⟨b,g,rfl,rfl⟩
  ·have hz:=List.eq_nil_of_length_eq_zero z1
   by_cases a7:v.kind=7
   ·simp only [sxZ,z6,z7,z8,j5,j6,j7,j8,j9,x3,x4,x5,x6,x7,x8,x9,reduceCtorEq,↓reduceIte,List.getElem?_set,hlen,t1,t5,e0,a7]
    exact fin (by rw [if_pos a7,hz]; rfl)
   ·simp only [sxZ,z6,z7,z8,j5,j6,j7,j8,j9,x3,x4,x5,x6,x7,x8,x9,reduceCtorEq,↓reduceIte,List.getElem?_set,hlen,t1,t5,e0,a7]
    exact fin (by rw [if_neg a7,hz]; rfl)
  ·have eb:=hO.get (i:=b) (x:=.orow 5 1 g txt.length (byA txt)) (by simp)
   by_cases a7:v.kind=7
   ·simp only [sxZ,z6,z7,z8,j5,j6,j7,j8,j9,x3,x4,x5,x6,x7,x8,x9,reduceCtorEq,↓reduceIte,List.getElem?_set,hlen,t1,t5,e0,a7,eb]
    refine kCb2_o _ _ _ _ ?_
    simp only [sxZ,z6,z7,z8,j5,j6,j7,j8,j9,x3,x4,x5,x6,x7,x8,x9,reduceCtorEq,↓reduceIte,List.getElem?_set,hlen]
    refine ⟨by omega,by omega,?_⟩
    exact fin (by rw [if_pos a7])
   ·simp only [sxZ,z6,z7,z8,j5,j6,j7,j8,j9,x3,x4,x5,x6,x7,x8,x9,reduceCtorEq,↓reduceIte,List.getElem?_set,hlen,t1,t5,e0,a7,eb]
    refine kCb2_o _ _ _ _ ?_
    simp only [sxZ,z6,z7,z8,j5,j6,j7,j8,j9,x3,x4,x5,x6,x7,x8,x9,reduceCtorEq,↓reduceIte,List.getElem?_set,hlen]
    refine ⟨by omega,by omega,?_⟩
    exact fin (by rw [if_neg a7])
end
end
end Go.Proofs.YthmdohgkmdkeeaaGreatDoor
namespace Go.Proofs.YthmdohgkmdkeeaaGreatDoor
open Go.RowKit Sx
section
attribute [local irreducible] run
def ziK (c:UInt8):Bool:=zbG c [44,93,125,58,91,123,32,9,10,13,34]
def Dl (r:List UInt8):Prop:=∀ c,r[0]? = some c → ziK c=true
theorem dl_all:∀ n:Fin 256,ziK (UInt8.ofNat n.val)=true → zai (UInt8.ofNat n.val)=false ∧ zcY (UInt8.ofNat n.val)=false:=by decide +kernel
theorem dl_no {c:UInt8} (h:ziK c=true):zai c=false ∧ zcY c=false:=by
 have h3:=dl_all ⟨c.toNat,c.toNat_lt⟩
 simp only [UInt8.ofNat_toNat] at h3
 exact h3 h
theorem dl_nil:Dl []:=fun c h => by cases h
theorem zdy {c:UInt8} {r:List UInt8} (h:ziK c=true):Dl (c :: r):=fun d hd => by
 simp only [List.getElem?_cons_zero,Option.some.injEq] at hd
 rw [← hd]; exact h
theorem dl_run {r:List UInt8} (h:Dl r):zaL r=0:=by
 cases r with
 | nil => rfl
 | cons c t => unfold zaL; rw [if_neg (by rw [(dl_no (h c rfl)).1]; exact Bool.false_ne_true)]
theorem dl_word {r:List UInt8} (h:Dl r):za5 r=0:=by
 cases r with
 | nil => rfl
 | cons c t => unfold za5; rw [if_neg (by rw [(dl_no (h c rfl)).2]; exact Bool.false_ne_true)]
theorem zlS {r:List UInt8} (h:Dl r):∀ x:List UInt8,zaL (x ++ r)=zaL x
 | [] => dl_run h
 | c :: t => by
  rw [List.cons_append]
  unfold zaL
  rw [zlS h t]
theorem zfp {x r:List UInt8} (h:Dl r) {t:Nat} (ht:t ≤ x.length) {c:UInt8} (hc:ziK c=false):((x ++ r)[t]? = some c)=(x[t]? = some c):=by
 by_cases h1:t < x.length
 ·rw [List.getElem?_append_left h1]
 ·obtain rfl:t=x.length:=by omega
  rw [List.getElem?_append_right (Nat.le_refl _),Nat.sub_self,List.getElem?_eq_none (Nat.le_refl _)]
  refine propext ⟨fun h2 => ?_,fun h2 => by cases h2⟩
  rw [h c h2] at hc
  cases hc
theorem zgz {x r:List UInt8} (h:Dl r) {t:Nat} (ht:t ≤ x.length):zaL ((x ++ r).drop t)=zaL (x.drop t):=by
 rw [List.drop_append_of_le_length ht,zlS h]
theorem zjf (x:List UInt8):zaY x ≤ x.length:=by
 unfold zaY
 split
 ·rename_i h; exact (List.getElem?_eq_some_iff.1 h).1
 ·exact Nat.zero_le _
theorem zi6 (x:List UInt8):zaA x ≤ x.length:=by
 unfold zaA
 split
 ·rename_i h; exact (List.getElem?_eq_some_iff.1 h).1
 ·have h1:=zdq (x.drop (zaY x))
  have h2:=zjf x
  rw [List.length_drop] at h1
  omega
theorem frac_le (x:List UInt8) {t:Nat} (ht:t ≤ x.length):zbx x t ≤ x.length:=by
 unfold zbx
 split
 ·rename_i h; exact zaH x _ h.2
 ·exact ht
theorem zjH {x r:List UInt8} (h:Dl r):zcW (x ++ r)=zcW x:=by
 have e1:zaY (x ++ r)=zaY x:=by
  unfold zaY
  simp only [zfp h (Nat.zero_le _) (show ziK 45=false from rfl)]
 have e2:zaA (x ++ r)=zaA x:=by
  unfold zaA
  rw [e1]
  simp only [zfp h (zjf x) (show ziK 48=false from rfl),zgz h (zjf x)]
 have e3:∀ t,t ≤ x.length → zbx (x ++ r) t=zbx x t:=by
  intro t ht
  unfold zbx
  simp only [zfp h ht (show ziK 46=false from rfl)]
  by_cases h1:x[t]? = some 46
  ·have h2:=(List.getElem?_eq_some_iff.1 h1).1
   rw [zgz h (by omega)]
  ·rw [if_neg (fun k => h1 k.1),if_neg (fun k => h1 k.1)]
 have e4:∀ t,t ≤ x.length → ziQ (x ++ r) t=ziQ x t:=by
  intro t ht
  unfold ziQ
  simp only [zfp h ht (show ziK 101=false from rfl),zfp h ht (show ziK 69=false from rfl)]
  by_cases h1:x[t]? = some 101 ∨ x[t]? = some 69
  ·have h2:t < x.length:=by rcases h1 with h1 | h1 <;> exact (List.getElem?_eq_some_iff.1 h1).1
   have e5:zaP (x ++ r) t=zaP x t:=by
    unfold zaP
    simp only [zfp h (show t + 1 ≤ x.length by omega) (show ziK 43=false from rfl),zfp h (show t + 1 ≤ x.length by omega) (show ziK 45=false from rfl)]
   have e6:zaP x t ≤ x.length:=by
    unfold zaP
    split
    ·rename_i h3
     rcases h3 with h3 | h3
     ·have:=(List.getElem?_eq_some_iff.1 h3).1; omega
     ·have:=(List.getElem?_eq_some_iff.1 h3).1; omega
    ·omega
   rw [e5,zgz h e6]
  ·rw [if_neg (fun k => h1 k.1),if_neg (fun k => h1 k.1)]
 unfold zcW
 rw [e1,e2,zgz h (zjf x),e3 _ (zi6 x),e4 _ (frac_le x (zi6 x))]
def zgK (k:Int) (x b m:List UInt8):Prop:=zaI (b ++ m)=(0,k,x,b.length) ∧ ∃ c t,b=c :: t ∧ zbs c=false
theorem zlw {c:UInt8} (m:List UInt8) (h:zbG c [123,125,91,93,58,44]=true) (hw:zbs c=false):zgK 2 [c] [c] m:=by
 refine ⟨?_,c,[],rfl,hw⟩
 show zaI (c :: m)=_
 rw [zaI,if_pos h]; rfl
theorem zil {s:List UInt8} (m:List UInt8) (hv:zaQ s=true):zgK 3 s (zcC s) m:=by
 refine ⟨?_,34,_,rfl,rfl⟩
 have hl:s.length ≤ (s.flatMap zbJ).length:=by
  clear hv
  induction s with
  | nil => simp
  | cons c t ih =>
   have:=quo_len c
   rw [List.flatMap_cons,List.length_append,List.length_cons]; omega
 have hq:=quo_back m s.length s [] ((s.flatMap zbJ ++ 34 :: m).length + 1) 0 (Nat.le_refl _) (of_decide_eq_true hv) (by rw [List.length_append]; omega)
 have e:zcC s ++ m=34 :: (s.flatMap zbJ ++ 34 :: m):=by simp [zcC]
 rw [e,read_quo hq,if_neg (by simp)]
 simp [zcC]
theorem tok_word {x:List UInt8} {m:List UInt8} (hx:x=zgp ∨ x=zc1 ∨ x=zeR) (hd:Dl m):zgK 5 x x m:=by
 have hw:=dl_word hd
 rcases hx with rfl | rfl | rfl
 ·refine ⟨?_,_,_,rfl,rfl⟩
  have e:za5 (zgp ++ m)=4:=by
   show za5 (110 :: 117 :: 108 :: 108 :: m)=4
   simp only [za5,hw]; rfl
  show zaI (110 :: 117 :: 108 :: 108 :: m)=_
  have e:za5 (110 :: 117 :: 108 :: 108 :: m)=4:=e
  rw [zaI,if_neg (by decide),if_neg (by decide),if_neg (by decide),e]
  simp [zgp]
 ·refine ⟨?_,_,_,rfl,rfl⟩
  have e:za5 (102 :: 97 :: 108 :: 115 :: 101 :: m)=5:=by
   simp only [za5,hw]; rfl
  show zaI (102 :: 97 :: 108 :: 115 :: 101 :: m)=_
  rw [zaI,if_neg (by decide),if_neg (by decide),if_neg (by decide),e]
  simp [zc1]
 ·refine ⟨?_,_,_,rfl,rfl⟩
  have e:za5 (116 :: 114 :: 117 :: 101 :: m)=4:=by
   simp only [za5,hw]; rfl
  show zaI (116 :: 114 :: 117 :: 101 :: m)=_
  rw [zaI,if_neg (by decide),if_neg (by decide),if_neg (by decide),e]
  simp [zeR]
theorem zjF {x:List UInt8} (h:(zcF x).1=0):zcW x=x.length ∧ ∃ c t,x=c :: t ∧ (c=45 ∨ zai c=true):=by
 unfold zcF at h
 by_cases h1:x=[] ∨ ¬ zcW x=x.length
 ·rw [if_pos h1] at h; cases h
 ·have h2:zcW x=x.length:=Classical.not_not.1 (fun k => h1 (.inr k))
  have h3:¬ x=[]:=fun k => h1 (.inl k)
  refine ⟨h2,?_⟩
  cases x with
  | nil => exact absurd rfl h3
  | cons c t =>
   refine ⟨c,t,rfl,?_⟩
   by_cases h4:c=45
   ·exact .inl h4
   ·right
    have h5:¬ zaL ((c :: t).drop (zaY (c :: t)))=0:=fun k => by
     unfold zcW at h2; rw [if_pos k] at h2; simp at h2
    have h6:zaY (c :: t)=0:=by
     unfold zaY; rw [if_neg (by simpa using h4)]
    rw [h6,List.drop_zero,zaL] at h5
    by_cases h7:zai c=true
    ·exact h7
    ·rw [if_neg h7] at h5; exact absurd rfl h5
theorem num_byte:∀ n:Fin 256,(UInt8.ofNat n.val=45 ∨ zai (UInt8.ofNat n.val)=true) → zbG (UInt8.ofNat n.val) [123,125,91,93,58,44]=false ∧ UInt8.ofNat n.val ≠ 34 ∧ zbs (UInt8.ofNat n.val)=false:=by decide +kernel
theorem tok_num {x:List UInt8} {m:List UInt8} (h:(zcF x).1=0) (hd:Dl m):zgK 4 x x m:=by
 obtain ⟨h1,c,t,rfl,hc⟩:=zjF h
 have h2:=zjH (x:=c :: t) hd
 have h3:=num_byte ⟨c.toNat,c.toNat_lt⟩
 simp only [UInt8.ofNat_toNat] at h3
 obtain ⟨b1,b2,b3⟩:=h3 hc
 refine ⟨?_,c,t,rfl,b3⟩
 rw [h1] at h2
 rw [List.cons_append] at h2 ⊢
 rw [zaI,if_neg (by rw [b1]; exact Bool.false_ne_true),if_neg b2,if_pos hc,h2,if_neg (by simp)]
 have:(c :: (t ++ m)).take (c :: t).length=c :: t:=by rw [← List.cons_append,List.take_left]
 rw [this]
def zb4 (w:List UInt8):Prop:=∀ c ∈ w,zbs c=true
theorem zgR:∀ {w:List UInt8} (h:zb4 w) {c:UInt8} {t:List UInt8},zbs c=false → zaS (w ++ c :: t)=w.length
 | [],_,c,t,hc => by show zaS (c :: t)=0; rw [zaS,if_neg (by rw [hc]; exact Bool.false_ne_true)]
 | d :: w,h,c,t,hc => by
  rw [List.cons_append,zaS,if_pos (h d (by simp)),zgR (fun x hx => h x (by simp [hx])) hc,List.length_cons]
theorem zgS:∀ {w:List UInt8} (h:zb4 w),zaS w=w.length
 | [],_ => rfl
 | d :: w,h => by rw [zaS,if_pos (h d (by simp)),zgS (fun x hx => h x (by simp [hx])),List.length_cons]
theorem zjI {s:List UInt8} {a:Nat} {w b m x:List UInt8} {k:Int} (ha:a ≤ s.length) (hs:s.drop a=w ++ (b ++ m)) (hw:zb4 w) (h:zgK k x b m) :
  zaB s (a:Int)=((k,x,((a + w.length:Nat):Int)),((a + w.length + b.length:Nat):Int),0):=by
 obtain ⟨h1,c,t,rfl,hc⟩:=h
 unfold zaB
 rw [if_neg (by omega)]
 simp only [Int.toNat_natCast]
 have e:zaS (s.drop a)=w.length:=by rw [hs]; exact zgR hw hc
 rw [e,← List.drop_drop,hs,List.drop_left,h1]
 simp
theorem next_end {s:List UInt8} {a:Nat} (ha:a ≤ s.length) (hw:zb4 (s.drop a)):zaB s (a:Int)=((1,[],(s.length:Int)),(s.length:Int),0):=by
 unfold zaB
 rw [if_neg (by omega)]
 simp only [Int.toNat_natCast]
 rw [zgS hw,List.length_drop,show a + (s.length - a)=s.length by omega,List.drop_length]
 simp [zaI]
def Spl:List (Int × List UInt8) → List UInt8 → List UInt8 → Prop
 | [],l,r => l=r
 | (k,x) :: ts,l,r => ∃ w b m,l=w ++ (b ++ m) ∧ zb4 w ∧ zgK k x b m ∧ Spl ts m r
theorem zlI:∀ {a b:List (Int × List UInt8)} {l m r:List UInt8},Spl a l m → Spl b m r → Spl (a ++ b) l r
 | [],b,l,m,r,h,k => by rw [show l=m from h]; exact k
 | (k,x) :: a,b,l,m,r,h,k' => by
  obtain ⟨w,c,n,h1,h2,h3,h4⟩:=h
  exact ⟨w,c,n,h1,h2,h3,zlI h4 k'⟩
theorem zlG {t:Int × List UInt8} {ts:List (Int × List UInt8)} {l r w:List UInt8} (hw:zb4 w) (h:Spl (t :: ts) l r):Spl (t :: ts) (w ++ l) r:=by
 obtain ⟨k,x⟩:=t
 obtain ⟨w',b,m,rfl,h2,h3,h4⟩:=h
 exact ⟨w ++ w',b,m,by rw [List.append_assoc],fun c hc => (List.mem_append.1 hc).elim (hw c) (h2 c),h3,h4⟩
theorem spl_one {k:Int} {x b m:List UInt8} (h:zgK k x b m):Spl [(k,x)] (b ++ m) m:=⟨[],b,m,rfl,(fun c hc => by cases hc),h,rfl⟩
def zb8:Ms → List (Int × List UInt8) → Option Ms
 | σ,[] => some σ
 | σ,(k,x) :: ts => if σ.st=7 ∨ ¬ (zar σ (k,x,0)).1=0 then none else zb8 (zar σ (k,x,0)).2 ts
theorem zeF (σ:Ms) (k p:Int) (x:List UInt8):zar σ (k,x,p)=zar σ (k,x,0):=rfl
theorem zaT {σ σ':Ms} {k:Int} {x:List UInt8} {ts:List (Int × List UInt8)} (h7:¬ σ.st=7) (h:zar σ (k,x,0)=(0,σ')):zb8 σ ((k,x) :: ts)=zb8 σ' ts:=by
 rw [zb8,h,if_neg (fun k => k.elim h7 (fun k => k rfl))]
theorem mrun (s:List UInt8):∀ (ts:List (Int × List UInt8)) (σ σ':Ms) (a:Nat) (r:List UInt8),a ≤ s.length → Spl ts (s.drop a) r → zb8 σ ts=some σ' → ∃ b:Nat,b ≤ s.length ∧ s.drop b=r ∧ ∀ R,MRes s b σ' R → MRes s a σ R
 | [],σ,σ',a,r,ha,h,hr => by
  rw [zb8] at hr
  cases hr
  exact ⟨a,ha,h,fun R h => h⟩
 | (k,x) :: ts,σ,σ',a,r,ha,h,hr => by
  obtain ⟨w,b,m,h1,h2,h3,h4⟩:=h
  have hn:=zjI ha h1 h2 h3
  rw [zb8] at hr
  by_cases hc:σ.st=7 ∨ ¬ (zar σ (k,x,0)).1=0
  ·rw [if_pos hc] at hr; cases hr
  rw [if_neg hc] at hr
  have hl:=congrArg List.length h1
  rw [List.length_drop,List.length_append,List.length_append] at hl
  have hd:s.drop (a + w.length + b.length)=m:=by
   rw [Nat.add_assoc,← List.drop_drop,h1,← List.append_assoc,← List.length_append,List.drop_left]
  obtain ⟨q,q1,q2,q3⟩:=mrun s ts _ σ' (a + w.length + b.length) r (by omega) (by rw [hd]; exact h4) hr
  refine ⟨q,q1,q2,fun R hR => ?_⟩
  have h5:=q3 R hR
  have h7:¬ σ.st=7:=fun k => hc (.inl k)
  have h0:(zar σ (k,x,0)).1=0:=Classical.not_not.1 fun k => hc (.inr k)
  refine MRes.step h7 (by rw [hn]) (by rw [hn,zeF]; exact h0) ?_
  rw [hn,zeF]
  exact h5
theorem zk0 {s:List UInt8} {ts:List (Int × List UInt8)} {r:List UInt8} {n:Nat} {v:JV} (h:Spl ts s r) (hr:zb4 r) (hm:zb8 ms0 ts=some ⟨6,[],n,v⟩):MRes s 0 ms0 (v,(s.length:Int),0):=by
 obtain ⟨b,h1,h2,h3⟩:=mrun s ts ms0 _ 0 r (Nat.zero_le _) h hm
 refine h3 _ ?_
 have hn:=next_end h1 (by rw [h2]; exact hr)
 have ht:zar ⟨6,[],n,v⟩ (1,[],(s.length:Int))=(0,⟨7,[],n,v⟩):=by simp [zar]
 refine MRes.step (by simp) (by rw [hn]) (by rw [hn,ht]) ?_
 rw [hn,ht]
 exact MRes.fin rfl
theorem mres_bad {s:List UInt8} {ts:List (Int × List UInt8)} {r w b m x:List UInt8} {k e:Int} {σ σ':Ms} (h:Spl ts s r) (hm:zb8 ms0 ts=some σ) (h7:¬ σ.st=7) (hr:r=w ++ (b ++ m)) (hw:zb4 w) (ht:zgK k x b m) (hb:zar σ (k,x,0)=(e,σ')) (he:¬ e=0):MRes s 0 ms0 (jvZ,((s.length - (b ++ m).length:Nat):Int),e):=by
 obtain ⟨q,h1,h2,h3⟩:=mrun s ts ms0 _ 0 r (Nat.zero_le _) h hm
 refine h3 _ ?_
 have hn:=zjI h1 (h2.trans hr) hw ht
 have hl:=congrArg List.length (h2.trans hr)
 rw [List.length_drop,List.length_append] at hl
 have h5:=MRes.bad (s:=s) (a:=(q:Int)) (σ:=σ) h7 (by rw [hn]) (by rw [hn,zeF,hb]; exact he)
 rw [hn,zeF,hb] at h5
 rw [show s.length - (b ++ m).length=q + w.length by omega]
 exact h5
end
end Go.Proofs.YthmdohgkmdkeeaaGreatDoor
namespace Go.Proofs.YthmdohgkmdkeeaaGreatDoor
open Go.RowKit Sx
section
attribute [local irreducible] run
mutual
/-- a value that is written and read, d deep -/
def RdJ:JV → Nat → Prop
 | .mk k t ks its,d =>
  ((k=1 ∨ k=2 ∨ k=3) ∧ t=[] ∧ ks=[] ∧ its=[]) ∨ (k=4 ∧ zcF t=(0,t) ∧ ks=[] ∧ its=[]) ∨ (k=5 ∧ (zaQ t=true ∧ t.length ≤ 1048576) ∧ ks=[] ∧ its=[]) ∨
  (k=6 ∧ t=[] ∧ ks=[] ∧ d < 64 ∧ RdL its (d + 1)) ∨ (k=7 ∧ t=[] ∧ ks.length=its.length ∧ ks.Nodup ∧ (∀ x ∈ ks,zaQ x=true ∧ x.length ≤ 1048576) ∧ d < 64 ∧ RdL its (d + 1))
def RdL:List JV → Nat → Prop
 | [],_ => True
 | v :: l,d => RdJ v d ∧ RdL l d
end
theorem zgi:∀ {l:List JV} {d:Nat},RdL l d ↔ ∀ x ∈ l,RdJ x d
 | [],d => by rw [RdL]; simp
 | v :: l,d => by rw [RdL,zgi (l:=l)]; simp
mutual
/-- the tokens of a value -/
def zgW:JV → List (Int × List UInt8)
 | .mk k t ks its => if k=1 then [(5,zgp)] else if k=2 then [(5,zc1)] else if k=3 then [(5,zeR)] else if k=4 then [(4,t)] else if k=5 then [(3,t)] else if k=7 then (2,[123]) :: (zdD true true ks its ++ [(2,[125])]) else (2,[91]) :: (zdD false true ks its ++ [(2,[93])])
def zdD:Bool → Bool → List (List UInt8) → List JV → List (Int × List UInt8)
 | _,_,_,[] => []
 | o,f,ks,v :: l => (if f=true then [] else [(2,[44])]) ++ ((if o=true then [(3,ks.head?.getD []),(2,[58])] else []) ++ (zgW v ++ zdD o false ks.tail l))
end
theorem zoo {st:Int} (h:st=1 ∨ st=5) (its:List JV) (S:List Fr) (n:Nat) (r:JV):zar ⟨st,⟨false,[],its⟩ :: S,n,r⟩ (2,[93],0)=(0,zcN ⟨st,S,n,r⟩ (.mk 6 [] [] its)):=by
 rcases h with rfl | rfl <;> simp [zar,onM,zdv,isP,zcw,Fr.val]
theorem zon {st:Int} (h:st=3 ∨ st=5) (ks:List (List UInt8)) (its:List JV) (S:List Fr) (n:Nat) (r:JV):zar ⟨st,⟨true,ks,its⟩ :: S,n,r⟩ (2,[125],0)=(0,zcN ⟨st,S,n,r⟩ (.mk 7 [] ks its)):=by
 rcases h with rfl | rfl <;> simp [zar,onM,zdv,isP,zcw,Fr.val]
theorem zcn {σ:Ms} {t:Tk} (hst:σ.st=0 ∨ σ.st=1) (h1:isP t 93=false) (h2:isP t 125=false):zar σ t=zaN σ t:=by
 unfold zar
 rcases hst with h | h
 ·rw [if_pos h]
 ·rw [if_neg (by omega),if_pos h]
  have:zdv σ t=false:=by
   unfold zdv
   cases σ.stk with
   | nil => rfl
   | cons f r =>
    show isP t (if f.obj=true then 125 else 93)=false
    split <;> assumption
  rw [this,if_neg Bool.false_ne_true]
theorem zel {σ:Ms} {t:Tk} {k:Int} {x:List UInt8} (hv:vkE t=k) (h0:k ≠ 0) (h6:k ≠ 6) (h7:k ≠ 7) (hx:zga t=(0,x)) (hn:σ.nodes + 1 ≤ 20000):zaN σ t=(0,zcN ⟨σ.st,σ.stk,σ.nodes + 1,σ.root⟩ (.mk k x [] [])):=by
 unfold zaN
 rw [hv,hx,if_neg h0,if_neg (by omega),if_neg (by simp),if_neg (by omega)]
theorem zf0 {σ:Ms} {t:Tk} {k:Int} (o:Bool) (hv:vkE t=k) (hk:k=if o=true then 7 else 6) (hd:σ.stk.length < 64) (hn:σ.nodes + 1 ≤ 20000):zaN σ t=(0,zbK σ o):=by
 unfold zaN
 have:decide (vkE t=7)=o:=by rw [hv,hk]; cases o <;> simp
 rw [this,hv,if_neg (by rw [hk]; cases o <;> simp),if_pos (by rw [hk]; cases o <;> simp),if_neg (by omega),if_neg (by omega)]
mutual
theorem ziq:∀ (v:JV) (d:Nat),RdJ v d → ∀ (σ:Ms) (ts:List (Int × List UInt8)),(σ.st=0 ∨ σ.st=1) → σ.stk.length=d → σ.nodes + v.size ≤ 20000 → zb8 σ (zgW v ++ ts)=zb8 (zcN ⟨σ.st,σ.stk,σ.nodes + v.size,σ.root⟩ v) ts
 | .mk k t ks its,d,h,σ,ts,hst,hd,hn => by
  have ha:=zlR its (d + 1)
  have ho:=zir its (d + 1)
  rw [RdJ] at h
  have h7:¬ σ.st=7:=by omega
  have hsz:JV.size (.mk k t ks its)=JV.sizes its + 1:=size_eq _
  rw [hsz] at hn ⊢
  rw [zgW]
  rcases h with ⟨hk,rfl,rfl,rfl⟩ | ⟨rfl,hx,rfl,rfl⟩ | ⟨rfl,_,rfl,rfl⟩ | ⟨rfl,rfl,rfl,hd2,hl⟩ | ⟨rfl,rfl,hlen,hnd,_,hd2,hl⟩
  ·have hz:JV.sizes [] + 1=1:=by rw [JV.sizes]
   rw [hz] at hn ⊢
   have key:∀ x:List UInt8,vkE (5,x,0)=k → k ≠ 0 → k ≠ 6 → k ≠ 7 → zb8 σ ([(5,x)] ++ ts)=zb8 (zcN ⟨σ.st,σ.stk,σ.nodes + 1,σ.root⟩ (.mk k [] [] [])) ts:=by
    intro x hv h0 h6 h7'
    refine zaT h7 ?_
    rw [zcn hst (by simp [isP]) (by simp [isP])]
    exact zel hv h0 h6 h7' (by unfold zga; rw [hv,if_neg (by omega),if_neg (by omega)]) hn
   rcases hk with rfl | rfl | rfl
   ·exact key zgp rfl (by decide) (by decide) (by decide)
   ·exact key zc1 rfl (by decide) (by decide) (by decide)
   ·exact key zeR rfl (by decide) (by decide) (by decide)
  ·have hz:JV.sizes [] + 1=1:=by rw [JV.sizes]
   rw [hz] at hn ⊢
   have hv:vkE (4,t,0)=4:=by simp [vkE]
   show zb8 σ ((4,t) :: ts)=_
   refine zaT h7 ?_
   rw [zcn hst (by simp [isP]) (by simp [isP])]
   exact zel hv (by decide) (by decide) (by decide) (by unfold zga; rw [if_pos hv,hx]) hn
  ·have hz:JV.sizes [] + 1=1:=by rw [JV.sizes]
   rw [hz] at hn ⊢
   have hv:vkE (3,t,0)=5:=by simp [vkE]
   show zb8 σ ((3,t) :: ts)=_
   refine zaT h7 ?_
   rw [zcn hst (by simp [isP]) (by simp [isP])]
   exact zel hv (by decide) (by decide) (by decide) (by unfold zga; rw [if_neg (by rw [hv]; decide),if_pos hv]) hn
  ·show zb8 σ ((2,[91]) :: ((zdD false true [] its ++ [(2,[93])]) ++ ts))=_
   rw [List.append_assoc]
   rw [zaT h7 ((zcn hst rfl rfl).trans (zf0 (k:=6) false rfl rfl (by omega) (by omega)))]
   have h1:=ha hl true 1 σ.stk (σ.nodes + 1) σ.root [] [] ([(2,[93])] ++ ts) rfl (by omega) (by omega)
   show zb8 ⟨1,⟨false,[],[]⟩ :: σ.stk,σ.nodes + 1,σ.root⟩ _=_
   rw [h1,List.nil_append]
   have hs:(if its.isEmpty=true then (1:Int) else 5)=1 ∨ (if its.isEmpty=true then (1:Int) else 5)=5:=by
    split
    ·exact .inl rfl
    ·exact .inr rfl
   generalize (if its.isEmpty=true then (1:Int) else 5)=st at hs
   show zb8 _ ((2,[93]) :: ts)=_
   rw [zaT (by show ¬ st=7; omega) (zoo hs its _ _ _),zbH st σ.st,show σ.nodes + 1 + JV.sizes its=σ.nodes + (JV.sizes its + 1) by omega]
  ·show zb8 σ ((2,[123]) :: ((zdD true true ks its ++ [(2,[125])]) ++ ts))=_
   rw [List.append_assoc]
   rw [zaT h7 ((zcn hst rfl rfl).trans (zf0 (k:=7) true rfl rfl (by omega) (by omega)))]
   have h1:=ho hl true 3 σ.stk (σ.nodes + 1) σ.root ks [] [] ([(2,[125])] ++ ts) rfl hlen (by rw [List.nil_append]; exact hnd) (by omega) (by omega)
   show zb8 ⟨3,⟨true,[],[]⟩ :: σ.stk,σ.nodes + 1,σ.root⟩ _=_
   rw [h1,List.nil_append,List.nil_append]
   have hs:(if its.isEmpty=true then (3:Int) else 5)=3 ∨ (if its.isEmpty=true then (3:Int) else 5)=5:=by
    split
    ·exact .inl rfl
    ·exact .inr rfl
   generalize (if its.isEmpty=true then (3:Int) else 5)=st at hs
   show zb8 _ ((2,[125]) :: ts)=_
   rw [zaT (by show ¬ st=7; omega) (zon hs ks its _ _ _),zbH st σ.st,show σ.nodes + 1 + JV.sizes its=σ.nodes + (JV.sizes its + 1) by omega]
theorem zlR:∀ (l:List JV) (d:Nat),RdL l d → ∀ (f:Bool) (st:Int) (S:List Fr) (n:Nat) (r:JV) (ks:List (List UInt8)) (its0:List JV) (ts:List (Int × List UInt8)),(st=if f=true then 1 else 5) → S.length + 1=d → n + JV.sizes l ≤ 20000 →
  zb8 ⟨st,⟨false,[],its0⟩ :: S,n,r⟩ (zdD false f ks l ++ ts)=zb8 ⟨if l.isEmpty=true then st else 5,⟨false,[],its0 ++ l⟩ :: S,n + JV.sizes l,r⟩ ts
 | [],d,h,f,st,S,n,r,ks,its0,ts,hst,hd,hn => by
  rw [zdD,JV.sizes,List.append_nil]; rfl
 | v :: l,d,h,f,st,S,n,r,ks,its0,ts,hst,hd,hn => by
  rw [RdL] at h
  rw [JV.sizes] at hn ⊢
  have hv:=ziq v d h.1
  have hl:=fun ts => zlR l d h.2 false 5 S (n + v.size) r ks.tail (its0 ++ [v]) ts rfl hd (by omega)
  have e5:(if l.isEmpty=true then (5:Int) else 5)=5:=by split <;> rfl
  have rest:∀ st',(st'=0 ∨ st'=1) → zb8 ⟨st',⟨false,[],its0⟩ :: S,n,r⟩ (zgW v ++ (zdD false false ks.tail l ++ ts))=zb8 ⟨5,⟨false,[],its0 ++ v :: l⟩ :: S,n + (v.size + JV.sizes l),r⟩ ts:=by
   intro st' h'
   rw [hv ⟨st',⟨false,[],its0⟩ :: S,n,r⟩ _ h' (by show S.length + 1=d; omega) (by show n + v.size ≤ 20000; omega)]
   show zb8 ⟨5,⟨false,[],its0 ++ [v]⟩ :: S,n + v.size,r⟩ _=_
   rw [hl,e5,List.append_assoc,Nat.add_assoc]
   rfl
  rw [zdD]
  show zb8 _ (_ ++ ([] ++ (zgW v ++ zdD false false ks.tail l)) ++ ts)=zb8 ⟨5,_,_,_⟩ ts
  rw [List.nil_append]
  cases f with
  | true =>
   rw [if_pos rfl] at hst
   subst hst
   show zb8 _ ([] ++ (zgW v ++ zdD false false ks.tail l) ++ ts)=_
   rw [List.nil_append,List.append_assoc]
   exact rest 1 (.inr rfl)
  | false =>
   rw [if_neg Bool.false_ne_true] at hst
   subst hst
   show zb8 _ ((2,[44]) :: ((zgW v ++ zdD false false ks.tail l) ++ ts))=_
   rw [List.append_assoc,zaT (σ':=⟨0,⟨false,[],its0⟩ :: S,n,r⟩) (by show ¬ (5:Int)=7; decide) (by simp [zar,onM,zdv,isP])]
   exact rest 0 (.inl rfl)
theorem zir:∀ (l:List JV) (d:Nat),RdL l d → ∀ (f:Bool) (st:Int) (S:List Fr) (n:Nat) (r:JV) (ks ks0:List (List UInt8)) (its0:List JV) (ts:List (Int × List UInt8)),(st=if f=true then 3 else 5) → ks.length=l.length → (ks0 ++ ks).Nodup → S.length + 1=d → n + JV.sizes l ≤ 20000 →
  zb8 ⟨st,⟨true,ks0,its0⟩ :: S,n,r⟩ (zdD true f ks l ++ ts)=zb8 ⟨if l.isEmpty=true then st else 5,⟨true,ks0 ++ ks,its0 ++ l⟩ :: S,n + JV.sizes l,r⟩ ts
 | [],d,h,f,st,S,n,r,ks,ks0,its0,ts,hst,hlen,hnd,hd,hn => by
  have:ks=[]:=List.eq_nil_of_length_eq_zero hlen
  subst this
  rw [zdD,JV.sizes,List.append_nil,List.append_nil]; rfl
 | v :: l,d,h,f,st,S,n,r,[],ks0,its0,ts,hst,hlen,hnd,hd,hn => by cases hlen
 | v :: l,d,h,f,st,S,n,r,key :: ks,ks0,its0,ts,hst,hlen,hnd,hd,hn => by
  rw [RdL] at h
  rw [JV.sizes] at hn ⊢
  have hv:=ziq v d h.1
  have hnd2:((ks0 ++ [key]) ++ ks).Nodup:=by rw [List.append_assoc]; exact hnd
  have hl:=fun ts => zir l d h.2 false 5 S (n + v.size) r ks (ks0 ++ [key]) (its0 ++ [v]) ts rfl (by simpa using hlen) hnd2 hd (by omega)
  have e5:(if l.isEmpty=true then (5:Int) else 5)=5:=by split <;> rfl
  have hmem:¬ key ∈ ks0:=fun hm => (List.nodup_append.1 hnd).2.2 key hm key (by simp) rfl
  have rest:∀ st',(st'=2 ∨ st'=3) → zb8 ⟨st',⟨true,ks0,its0⟩ :: S,n,r⟩ ((3,key) :: (2,[58]) :: (zgW v ++ (zdD true false ks l ++ ts)))=zb8 ⟨5,⟨true,ks0 ++ key :: ks,its0 ++ v :: l⟩ :: S,n + (v.size + JV.sizes l),r⟩ ts:=by
   intro st' h'
   rw [zaT (σ':=⟨4,⟨true,ks0 ++ [key],its0⟩ :: S,n,r⟩) (by show ¬ st'=7; omega) (by rcases h' with rfl | rfl <;> simp [zar,zhC,zdv,isP,hmem])]
   rw [zaT (σ':=⟨0,⟨true,ks0 ++ [key],its0⟩ :: S,n,r⟩) (by show ¬ (4:Int)=7; decide) (by simp [zar,isP])]
   rw [hv ⟨0,⟨true,ks0 ++ [key],its0⟩ :: S,n,r⟩ _ (.inl rfl) (by show S.length + 1=d; omega) (by show n + v.size ≤ 20000; omega)]
   show zb8 ⟨5,⟨true,ks0 ++ [key],its0 ++ [v]⟩ :: S,n + v.size,r⟩ _=_
   rw [hl,e5,List.append_assoc,List.append_assoc,Nat.add_assoc]
   rfl
  rw [zdD]
  show zb8 _ (_ ++ ([(3,key),(2,[58])] ++ (zgW v ++ zdD true false ks l)) ++ ts)=zb8 ⟨5,_,_,_⟩ ts
  cases f with
  | true =>
   rw [if_pos rfl] at hst
   subst hst
   show zb8 _ ((3,key) :: (2,[58]) :: ((zgW v ++ zdD true false ks l) ++ ts))=_
   rw [List.append_assoc]
   exact rest 3 (.inr rfl)
  | false =>
   rw [if_neg Bool.false_ne_true] at hst
   subst hst
   show zb8 _ ((2,[44]) :: (3,key) :: (2,[58]) :: ((zgW v ++ zdD true false ks l) ++ ts))=_
   rw [List.append_assoc,zaT (σ':=⟨2,⟨true,ks0,its0⟩ :: S,n,r⟩) (by show ¬ (5:Int)=7; decide) (by simp [zar,onM,zdv,isP])]
   exact rest 2 (.inl rfl)
end
end
end Go.Proofs.YthmdohgkmdkeeaaGreatDoor
namespace Go.Proofs.YthmdohgkmdkeeaaGreatDoor
open Go.RowKit Sx
section
attribute [local irreducible] run
def puL:List UInt8:=[44,58,91,93,123,125]
def whL:List UInt8:=[32,9,13,10]
def kSp (sp:List UInt8) (i:Nat):Nat:=(sp[i % sp.length]?.getD 0).toNat
def preS (k:Nat):List UInt8:=if k % 2=1 then [whL[k / 2 % 4]?.getD 0] else []
def zhr (k:Nat):List UInt8:=if k / 8 % 2=1 then [whL[k / 16 % 4]?.getD 0] else []
def za9 (sp:List UInt8):List UInt8 → Bool → Nat → List UInt8
 | [],_,_ => []
 | c :: t,ins,i =>
  if ins=true ∧ c=92 then (match t with
   | [] => [c]
   | d :: t' => c :: d :: za9 sp t' true (i + 2))
  else preS (if ins=false ∧ zbG c puL=true then kSp sp i else 0) ++ (c :: (zhr (if ins=false ∧ zbG c puL=true then kSp sp i else 0) ++ za9 sp t (if c=34 then !ins else ins) (i + 1)))
theorem wh_all:∀ n:Fin 4,zbs (whL[n.val]?.getD 0)=true:=by decide +kernel
theorem zho (k:Nat):zb4 (preS k):=by
 intro c hc
 unfold preS at hc
 split at hc
 ·rw [List.mem_singleton] at hc
  rw [hc]
  exact wh_all ⟨k / 2 % 4,by omega⟩
 ·cases hc
theorem zkV (k:Nat):zb4 (zhr k):=by
 intro c hc
 unfold zhr at hc
 split at hc
 ·rw [List.mem_singleton] at hc
  rw [hc]
  exact wh_all ⟨k / 16 % 4,by omega⟩
 ·cases hc
theorem zbo {sp:List UInt8} {c:UInt8} {t:List UInt8} {ins:Bool} {i:Nat} (h:¬ (ins=true ∧ c=92)):za9 sp (c :: t) ins i=preS (if ins=false ∧ zbG c puL=true then kSp sp i else 0) ++ (c :: (zhr (if ins=false ∧ zbG c puL=true then kSp sp i else 0) ++ za9 sp t (if c=34 then !ins else ins) (i + 1))):=by
 rw [za9.eq_def]; exact if_neg h
theorem zbP {sp:List UInt8} {d:UInt8} {t:List UInt8} {i:Nat}:za9 sp (92 :: d :: t) true i=92 :: d :: za9 sp t true (i + 2):=by
 rw [za9.eq_def]; exact if_pos ⟨rfl,rfl⟩
theorem zkH {sp:List UInt8} {c:UInt8} {t:List UInt8} {i:Nat} (h:zbG c puL=false) (h34:c ≠ 34):za9 sp (c :: t) false i=c :: za9 sp t false (i + 1):=by
 rw [zbo (by simp),if_neg (by rw [h]; simp),if_neg h34]; rfl
theorem zco {sp:List UInt8} {c:UInt8} {t:List UInt8} {i:Nat} (h92:c ≠ 92) (h34:c ≠ 34):za9 sp (c :: t) true i=c :: za9 sp t true (i + 1):=by
 rw [zbo (by simp [h92]),if_neg (by simp),if_neg h34]; rfl
theorem sprd_in {sp:List UInt8} {t:List UInt8} {i:Nat}:za9 sp (34 :: t) false i=34 :: za9 sp t true (i + 1):=by
 rw [zbo (by simp),if_neg (by decide),if_pos rfl]; rfl
theorem sprd_out {sp:List UInt8} {t:List UInt8} {i:Nat}:za9 sp (34 :: t) true i=34 :: za9 sp t false (i + 1):=by
 rw [zbo (by decide),if_neg (by decide),if_pos rfl]; rfl
theorem sprd_pu {sp:List UInt8} {c:UInt8} {t:List UInt8} {i:Nat} (h:zbG c puL=true) (h34:c ≠ 34):za9 sp (c :: t) false i=preS (kSp sp i) ++ (c :: (zhr (kSp sp i) ++ za9 sp t false (i + 1))):=by
 rw [zbo (by simp),if_pos ⟨rfl,h⟩,if_neg h34]
theorem zj6:∀ n:Fin 16,zdE n.val ≠ 34 ∧ zdE n.val ≠ 92:=by decide +kernel
theorem zlE (sp:List UInt8) (c:UInt8) (r:List UInt8) (i:Nat):za9 sp (zbJ c ++ r) true i=zbJ c ++ za9 sp r true (i + (zbJ c).length):=by
 unfold zbJ
 by_cases c1:c=34 ∨ c=92
 ·rw [if_pos c1]; exact zbP
 rw [if_neg c1]
 by_cases c2:c=8
 ·rw [if_pos c2]; exact zbP
 rw [if_neg c2]
 by_cases c3:c=12
 ·rw [if_pos c3]; exact zbP
 rw [if_neg c3]
 by_cases c4:c=10
 ·rw [if_pos c4]; exact zbP
 rw [if_neg c4]
 by_cases c5:c=13
 ·rw [if_pos c5]; exact zbP
 rw [if_neg c5]
 by_cases c6:c=9
 ·rw [if_pos c6]; exact zbP
 rw [if_neg c6]
 by_cases c7:c.toNat < 32
 ·rw [if_pos c7]
  have h1:=zj6 ⟨c.toNat / 16,by omega⟩
  have h2:=zj6 ⟨c.toNat % 16,by omega⟩
  simp only at h1 h2
  generalize zdE (c.toNat / 16)=a at *
  generalize zdE (c.toNat % 16)=b at *
  show za9 sp (92 :: 117 :: 48 :: 48 :: a :: b :: r) true i=92 :: 117 :: 48 :: 48 :: a :: b :: za9 sp r true (i + 6)
  rw [zbP,zco (by decide) (by decide),zco (by decide) (by decide),zco h1.2 h1.1,zco h2.2 h2.1]
 ·rw [if_neg c7]
  exact zco (fun h => c1 (.inr h)) (fun h => c1 (.inl h))
theorem zg3 (sp:List UInt8):∀ (s r:List UInt8) (i:Nat),za9 sp (s.flatMap zbJ ++ r) true i=s.flatMap zbJ ++ za9 sp r true (i + (s.flatMap zbJ).length)
 | [],r,i => by simp
 | c :: s,r,i => by
  rw [List.flatMap_cons,List.append_assoc,zlE,zg3 sp s,List.append_assoc,List.length_append,Nat.add_assoc]
theorem zjc (sp s r:List UInt8) (i:Nat):za9 sp (zcC s ++ r) false i=zcC s ++ za9 sp r false (i + (zcC s).length):=by
 have e:zcC s ++ r=34 :: (s.flatMap zbJ ++ 34 :: r):=by simp [zcC]
 rw [e,sprd_in,zg3,sprd_out]
 have e2:i + (zcC s).length=i + 1 + (s.flatMap zbJ).length + 1:=by simp [zcC]; omega
 rw [e2]
 simp [zcC]
def Calm (x:List UInt8):Prop:=∀ c ∈ x,zbG c puL=false ∧ c ≠ 34
theorem zeW (sp:List UInt8):∀ (x:List UInt8),Calm x → ∀ (r:List UInt8) (i:Nat),za9 sp (x ++ r) false i=x ++ za9 sp r false (i + x.length)
 | [],_,r,i => by simp
 | c :: x,h,r,i => by
  have h1:=h c (by simp)
  rw [List.cons_append,zkH h1.1 h1.2,zeW sp x (fun d hd => h d (by simp [hd])),List.length_cons,List.cons_append,show i + 1 + x.length=i + (x.length + 1) by omega]
theorem dl_pu:∀ n:Fin 256,(zbG (UInt8.ofNat n.val) puL=true ∨ UInt8.ofNat n.val=34) → ziK (UInt8.ofNat n.val)=true:=by decide +kernel
theorem num_calm {x:List UInt8} (h:(zcF x).1=0):Calm x:=by
 obtain ⟨h1,_⟩:=zjF h
 intro c hc
 have h3:=dl_pu ⟨c.toNat,c.toNat_lt⟩
 simp only [UInt8.ofNat_toNat] at h3
 have key:¬ ziK c=true:=by
  intro hd
  obtain ⟨a,b,rfl⟩:=List.append_of_mem hc
  have h4:=zjH (x:=a) (zdy (r:=b) hd)
  rw [h1] at h4
  have h5:=ziC a
  rw [List.length_append,List.length_cons] at h4
  omega
 refine ⟨?_,fun e => key (h3 (.inr e))⟩
 cases h6:zbG c puL with
 | false => rfl
 | true => exact absurd (h3 (.inl h6)) key
theorem zdI:∀ (l:List UInt8) (ins:Bool) (i:Nat),za9 [] l ins i=l
 | [],ins,i => by rw [za9]
 | [c],ins,i => by
  by_cases h:ins=true ∧ c=92
  ·rw [za9.eq_def]; exact if_pos h
  ·have k0:kSp [] i=0:=rfl
   rw [zbo h,k0,zdI,ite_self]; rfl
 | c :: d :: t,ins,i => by
  by_cases h:ins=true ∧ c=92
  ·obtain ⟨rfl,rfl⟩:=h
   rw [zbP,zdI]
  ·have k0:kSp [] i=0:=rfl
   rw [zbo h,k0,zdI,ite_self]; rfl
def zc7 (ts:List (Int × List UInt8)) (l r:List UInt8):Prop:=∃ w,zb4 w ∧ Spl ts l (w ++ r)
theorem zlo {a b:List UInt8} (ha:zb4 a) (hb:zb4 b):zb4 (a ++ b):=fun c hc => (List.mem_append.1 hc).elim (ha c) (hb c)
theorem zgQ:zb4 []:=fun c hc => by cases hc
theorem zc7.app {a b:List (Int × List UInt8)} {l m r:List UInt8} (h:zc7 a l m) (k:zc7 b m r):zc7 (a ++ b) l r:=by
 obtain ⟨w,hw,h1⟩:=h
 obtain ⟨w',hw',h2⟩:=k
 cases b with
 | nil =>
  rw [show m=w' ++ r from h2,← List.append_assoc] at h1
  exact ⟨w ++ w',zlo hw hw',by rw [List.append_nil]; exact h1⟩
 | cons t b => exact ⟨w',hw',zlI h1 (zlG hw h2)⟩
theorem zc7.none (r:List UInt8):zc7 [] r r:=⟨[],zgQ,rfl⟩
theorem zc7.tok {k:Int} {x b r:List UInt8} (h:zgK k x b r):zc7 [(k,x)] (b ++ r) r:=⟨[],zgQ,spl_one h⟩
theorem zc7.pu {c:UInt8} (sp t:List UInt8) (i:Nat) (h:zbG c puL=true) (h2:zbG c [123,125,91,93,58,44]=true) (h34:c ≠ 34) (hw:zbs c=false):zc7 [(2,[c])] (za9 sp (c :: t) false i) (za9 sp t false (i + 1)):=by
 rw [sprd_pu h h34]
 refine ⟨zhr (kSp sp i),zkV _,?_⟩
 exact ⟨preS (kSp sp i),[c],_,rfl,zho _,zlw _ h2 hw,rfl⟩
theorem white_dl:∀ n:Fin 256,zbs (UInt8.ofNat n.val)=true → ziK (UInt8.ofNat n.val)=true:=by decide +kernel
theorem zlF {sp r:List UInt8} {i:Nat} (h:Dl r):Dl (za9 sp r false i):=by
 cases r with
 | nil => rw [za9]; exact dl_nil
 | cons c t =>
  have hc:=h c rfl
  rw [zbo (by simp)]
  generalize (if false=false ∧ zbG c puL=true then kSp sp i else 0)=k
  have hw:=zho k
  cases hp:preS k with
  | nil => exact zdy hc
  | cons d u =>
   have h1:=hw d (by rw [hp]; simp)
   have h3:=white_dl ⟨d.toNat,d.toNat_lt⟩
   simp only [UInt8.ofNat_toNat] at h3
   exact zdy (h3 h1)
theorem dl_items (o:Bool) (ks:List (List UInt8)) (l:List JV) {r:List UInt8} (h:Dl r):Dl (wrI o false ks l ++ r):=by
 cases l with
 | nil => rw [wrI]; exact h
 | cons v l => rw [wrI]; exact zdy rfl
theorem zfa {s:List UInt8} (h:zaQ s=true ∧ s.length ≤ 1048576):(zdM s).2=zcC s:=by
 unfold zdM
 rw [if_neg (by omega),if_neg (by rw [h.1]; simp)]
mutual
theorem zlH (sp:List UInt8):∀ (v:JV) (d:Nat),RdJ v d → ∀ (r:List UInt8) (i:Nat),Dl r → zc7 (zgW v) (za9 sp (wrJ v ++ r) false i) (za9 sp r false (i + (wrJ v).length))
 | .mk k t ks its,d,h,r,i,hr => by
  have hi:=fun o (hl:RdL its (d + 1)) (hk:o=true → ks.length=its.length ∧ ∀ x ∈ ks,zaQ x=true ∧ x.length ≤ 1048576) => zeY sp its (d + 1) hl o true ks hk
  rw [RdJ] at h
  rw [zgW,wrJ]
  have word:∀ x,x=zgp ∨ x=zc1 ∨ x=zeR → zc7 [(5,x)] (za9 sp (x ++ r) false i) (za9 sp r false (i + x.length)):=by
   intro x hx
   have hc:Calm x:=by
    rcases hx with rfl | rfl | rfl
    ·exact of_decide_eq_true (p:=∀ c ∈ zgp,zbG c puL=false ∧ c ≠ 34) (by decide)
    ·exact of_decide_eq_true (p:=∀ c ∈ zc1,zbG c puL=false ∧ c ≠ 34) (by decide)
    ·exact of_decide_eq_true (p:=∀ c ∈ zeR,zbG c puL=false ∧ c ≠ 34) (by decide)
   rw [zeW sp x hc]
   exact zc7.tok (tok_word hx (zlF hr))
  rcases h with ⟨hk,rfl,rfl,rfl⟩ | ⟨rfl,hx,rfl,rfl⟩ | ⟨rfl,hx,rfl,rfl⟩ | ⟨rfl,rfl,rfl,hd2,hl⟩ | ⟨rfl,rfl,hlen,hnd,hv,hd2,hl⟩
  ·rcases hk with rfl | rfl | rfl
   ·exact word _ (.inl rfl)
   ·exact word _ (.inr (.inl rfl))
   ·exact word _ (.inr (.inr rfl))
  ·show zc7 [(4,t)] (za9 sp (t ++ r) false i) (za9 sp r false (i + t.length))
   have hx:(zcF t).1=0:=by rw [hx]
   rw [zeW sp t (num_calm hx)]
   exact zc7.tok (tok_num hx (zlF hr))
  ·show zc7 [(3,t)] (za9 sp ((zdM t).2 ++ r) false i) (za9 sp r false (i + ((zdM t).2).length))
   rw [zfa hx,zjc]
   exact zc7.tok (zil _ hx.1)
  ·have h1:=hi false hl (fun h => by cases h)
   show zc7 ([(2,[91])] ++ (zdD false true [] its ++ [(2,[93])])) (za9 sp (91 :: ((wrI false true [] its ++ [93]) ++ r)) false i) (za9 sp r false (i + (91 :: (wrI false true [] its ++ [93])).length))
   rw [List.append_assoc]
   refine (zc7.pu sp _ i rfl rfl (by decide) rfl).app ((h1 ([93] ++ r) (i + 1) (zdy rfl)).app ?_)
   have h2:=zc7.pu sp r (i + 1 + (wrI false true [] its).length) (c:=93) rfl rfl (by decide) rfl
   rw [show i + 1 + (wrI false true [] its).length + 1=i + (91 :: (wrI false true [] its ++ [93])).length by rw [List.length_cons,List.length_append]; simp only [List.length_cons,List.length_nil]; omega] at h2
   exact h2
  ·have h1:=hi true hl (fun h => ⟨hlen,hv⟩)
   show zc7 ([(2,[123])] ++ (zdD true true ks its ++ [(2,[125])])) (za9 sp (123 :: ((wrI true true ks its ++ [125]) ++ r)) false i) (za9 sp r false (i + (123 :: (wrI true true ks its ++ [125])).length))
   rw [List.append_assoc]
   refine (zc7.pu sp _ i rfl rfl (by decide) rfl).app ((h1 ([125] ++ r) (i + 1) (zdy rfl)).app ?_)
   have h2:=zc7.pu sp r (i + 1 + (wrI true true ks its).length) (c:=125) rfl rfl (by decide) rfl
   rw [show i + 1 + (wrI true true ks its).length + 1=i + (123 :: (wrI true true ks its ++ [125])).length by rw [List.length_cons,List.length_append]; simp only [List.length_cons,List.length_nil]; omega] at h2
   exact h2
theorem zeY (sp:List UInt8):∀ (l:List JV) (d:Nat),RdL l d → ∀ (o f:Bool) (ks:List (List UInt8)),(o=true → ks.length=l.length ∧ ∀ x ∈ ks,zaQ x=true ∧ x.length ≤ 1048576) → ∀ (r:List UInt8) (i:Nat),Dl r → zc7 (zdD o f ks l) (za9 sp (wrI o f ks l ++ r) false i) (za9 sp r false (i + (wrI o f ks l).length))
 | [],d,h,o,f,ks,hk,r,i,hr => by
  rw [zdD,wrI]
  exact zc7.none _
 | v :: l,d,h,o,f,ks,hk,r,i,hr => by
  rw [RdL] at h
  rw [zdD,wrI]
  have h1:=zlH sp v d h.1
  have h2:=zeY sp l d h.2 o false ks.tail (fun ho => by
   obtain ⟨k1,k2⟩:=hk ho
   refine ⟨by rw [List.length_tail,k1,List.length_cons]; rfl,fun x hx => k2 x (List.mem_of_mem_tail hx)⟩)
  have rest:∀ j,zc7 (zgW v ++ zdD o false ks.tail l) (za9 sp ((wrJ v ++ wrI o false ks.tail l) ++ r) false j) (za9 sp r false (j + (wrJ v ++ wrI o false ks.tail l).length)):=by
   intro j
   rw [List.append_assoc,List.length_append,← Nat.add_assoc]
   exact (h1 _ j (dl_items o ks.tail l hr)).app (h2 r _ hr)
  have keys:∀ j,zc7 ((if o=true then [(3,ks.head?.getD []),(2,[58])] else []) ++ (zgW v ++ zdD o false ks.tail l)) (za9 sp (((if o=true then (zdM (ks.head?.getD [])).2 ++ [58] else []) ++ (wrJ v ++ wrI o false ks.tail l)) ++ r) false j) (za9 sp r false (j + ((if o=true then (zdM (ks.head?.getD [])).2 ++ [58] else []) ++ (wrJ v ++ wrI o false ks.tail l)).length)):=by
   intro j
   cases o with
   | false => exact rest j
   | true =>
    obtain ⟨k1,k2⟩:=hk rfl
    cases ks with
    | nil => cases k1
    | cons key ks =>
     have hx:=k2 key (by simp)
     show zc7 ([(3,key)] ++ ([(2,[58])] ++ (zgW v ++ zdD true false ks l))) (za9 sp ((((zdM key).2 ++ [58]) ++ (wrJ v ++ wrI true false ks l)) ++ r) false j) (za9 sp r false (j + (((zdM key).2 ++ [58]) ++ (wrJ v ++ wrI true false ks l)).length))
     rw [zfa hx,List.append_assoc,List.append_assoc,zjc]
     refine (zc7.tok (zil _ hx.1)).app ((zc7.pu sp _ _ rfl rfl (by decide) rfl).app ?_)
     have h3:zc7 (zgW v ++ zdD true false ks l) (za9 sp ((wrJ v ++ wrI true false ks l) ++ r) false (j + (zcC key).length + 1)) (za9 sp r false (j + (zcC key).length + 1 + (wrJ v ++ wrI true false ks l).length)):=rest (j + (zcC key).length + 1)
     rw [show j + (zcC key).length + 1 + (wrJ v ++ wrI true false ks l).length=j + ((zcC key ++ [58]) ++ (wrJ v ++ wrI true false ks l)).length by simp only [List.length_append,List.length_cons,List.length_nil]; omega] at h3
     exact h3
  cases f with
  | true => exact keys i
  | false =>
   show zc7 ([(2,[44])] ++ _) (za9 sp (44 :: (_ ++ r)) false i) _
   refine (zc7.pu sp _ i rfl rfl (by decide) rfl).app ?_
   have h3:=keys (i + 1)
   rw [Nat.add_right_comm] at h3
   exact h3
end
theorem zmj (sp:List UInt8) {v:JV} (h:RdJ v 0) (hs:v.size ≤ 20000) (hl:(za9 sp (wrJ v) false 0).length ≤ 1048576):za8 (za9 sp (wrJ v) false 0)=(v,((za9 sp (wrJ v) false 0).length:Int),0):=by
 have h1:=zlH sp v 0 h [] 0 dl_nil
 rw [List.append_nil] at h1
 obtain ⟨w,hw,h2⟩:=h1
 have hm:=ziq v 0 h ms0 [] (.inl rfl) rfl (by show 0 + v.size ≤ 20000; omega)
 rw [List.append_nil,zb8] at hm
 refine (zdQ hl (zk0 h2 ?_ hm)).symm
 rw [za9,List.append_nil]
 exact hw
end
end Go.Proofs.YthmdohgkmdkeeaaGreatDoor
namespace Go.Proofs.YthmdohgkmdkeeaaGreatDoor
open Go.RowKit Sx
section
attribute [local irreducible] run
theorem zgs:∀ (l:List JV) (d n:Int),0 ≤ n → 0 < zdt l d n → zdt l d n ≤ 20000 → ∀ x ∈ l,0 < zbQ x d ∧ zbQ x d ≤ 20000
 | [],d,n,h0,h1,h2,x,hx => by cases hx
 | v :: l,d,n,h0,h1,h2,x,hx => by
  rw [zdt] at h1 h2
  have hb:=zgt v d
  by_cases c1:zbQ v d=0
  ·rw [if_pos c1] at h1; omega
  rw [if_neg c1] at h1 h2
  by_cases c2:20000 < n + zbQ v d
  ·rw [if_pos c2] at h2; omega
  rw [if_neg c2] at h1 h2
  rcases List.mem_cons.1 hx with rfl | hx
  ·omega
  ·exact zgs l d _ (by omega) h1 h2 x hx
theorem zdW:∀ {l:List JV},zd3 l ↔ ∀ x ∈ l,JKp x
 | [] => by rw [zd3]; simp
 | v :: l => by rw [zd3,zdW (l:=l)]; simp
mutual
/-- a valid value -/
theorem rd_of:∀ (v:JV) (d:Nat),ze1 v=true → JKp v → 0 < zbQ v d → zbQ v d ≤ 20000 → RdJ v d
 | .mk k t ks its,d,hs,hk,h1,h2 => by
  obtain ⟨l1,l2,l3,l4⟩:=hk.lens
  have hi:=rdL_of its (d + 1)
  have hki:zd3 its:=by rw [JKp] at hk; exact hk.2.2.2.2
  rw [zbQ] at h1 h2
  rw [ze1] at hs
  simp only [JV.text,JV.keys,JV.items] at l1 l2 l3 l4
  rw [RdJ]
  by_cases a1:k=1 ∨ k=3 ∨ k=2
  ·rw [if_pos a1] at hs
   simp only [Bool.and_eq_true,decide_eq_true_eq] at hs
   exact .inl ⟨by omega,hs.1,List.eq_nil_of_length_eq_zero hs.2.1,List.eq_nil_of_length_eq_zero hs.2.2⟩
  rw [if_neg a1] at hs
  by_cases a4:k=4
  ·rw [if_pos a4] at hs
   simp only [Bool.and_eq_true,decide_eq_true_eq] at hs
   exact .inr (.inl ⟨a4,Prod.ext hs.1 hs.2.1,List.eq_nil_of_length_eq_zero hs.2.2.1,List.eq_nil_of_length_eq_zero hs.2.2.2⟩)
  rw [if_neg a4] at hs
  by_cases a5:k=5
  ·rw [if_pos a5] at hs
   simp only [Bool.and_eq_true,decide_eq_true_eq] at hs
   exact .inr (.inr (.inl ⟨a5,⟨hs.1,by omega⟩,List.eq_nil_of_length_eq_zero hs.2.1,List.eq_nil_of_length_eq_zero hs.2.2⟩))
  rw [if_neg a5] at hs
  by_cases a6:k=6
  ·rw [if_pos a6] at hs
   simp only [Bool.and_eq_true,decide_eq_true_eq] at hs
   have hin:(if k=6 ∨ k=7 then (d:Int) + 1 else (d:Int))=(d:Int) + 1:=if_pos (.inl a6)
   rw [hin] at h1 h2
   by_cases c64:64 < (d:Int) + 1
   ·rw [if_pos c64] at h1; omega
   rw [if_neg c64] at h1 h2
   exact .inr (.inr (.inr (.inl ⟨a6,hs.1,List.eq_nil_of_length_eq_zero hs.2.1,by omega,hi hs.2.2 hki (fun x hx => zgs its _ 1 (by decide) h1 h2 x hx)⟩)))
  rw [if_neg a6] at hs
  by_cases a7:k=7
  ·rw [if_pos a7] at hs
   unfold zfq at hs
   simp only [Bool.and_eq_true,decide_eq_true_eq,List.all_eq_true] at hs
   have hin:(if k=6 ∨ k=7 then (d:Int) + 1 else (d:Int))=(d:Int) + 1:=if_pos (.inr a7)
   rw [hin] at h1 h2
   by_cases c64:64 < (d:Int) + 1
   ·rw [if_pos c64] at h1; omega
   rw [if_neg c64] at h1 h2
   exact .inr (.inr (.inr (.inr ⟨a7,hs.1,hs.2.1,hs.2.2.1.1,fun x hx => ⟨hs.2.2.1.2 x hx,by have:=l4 x hx; omega⟩,by omega,hi hs.2.2.2 hki (fun x hx => zgs its _ 1 (by decide) h1 h2 x hx)⟩)))
  rw [if_neg a7] at hs
  cases hs
theorem rdL_of:∀ (l:List JV) (d:Nat),zd2 l=true → zd3 l → (∀ x ∈ l,0 < zbQ x (d:Int) ∧ zbQ x (d:Int) ≤ 20000) → RdL l d
 | [],d,hs,hk,h => by rw [RdL]; trivial
 | v :: l,d,hs,hk,h => by
  rw [zd2,Bool.and_eq_true] at hs
  rw [zd3] at hk
  rw [RdL]
  have h0:=h v (by simp)
  exact ⟨rd_of v d hs.1 hk.1 h0.1 h0.2,rdL_of l d hs.2 hk.2 fun x hx => h x (by simp [hx])⟩
end
theorem rd_val {v:JV} (h:zgM v=true) (hk:JKp v):RdJ v 0:=by
 unfold zgM at h
 simp only [Bool.and_eq_true,decide_eq_true_eq] at h
 exact rd_of v 0 h.2 hk h.1.1 h.1.2
mutual
theorem zjt:∀ (v:JV) (d:Nat),RdJ v d → ze1 v=true
 | .mk k t ks its,d,h => by
  have hi:=zmk its (d + 1)
  rw [RdJ] at h
  rw [ze1]
  rcases h with ⟨hk,rfl,rfl,rfl⟩ | ⟨rfl,hx,rfl,rfl⟩ | ⟨rfl,hx,rfl,rfl⟩ | ⟨rfl,rfl,rfl,hd2,hl⟩ | ⟨rfl,rfl,hlen,hnd,hv,hd2,hl⟩
  ·rw [if_pos (by omega)]; rfl
  ·rw [if_neg (by decide),if_pos rfl,hx]; simp
  ·rw [if_neg (by decide),if_neg (by decide),if_pos rfl,hx.1]; rfl
  ·rw [if_neg (by decide),if_neg (by decide),if_neg (by decide),if_pos rfl,hi hl]; rfl
  ·rw [if_neg (by decide),if_neg (by decide),if_neg (by decide),if_neg (by decide),if_pos rfl,hi hl]
   unfold zfq
   have:ks.all zaQ=true:=List.all_eq_true.2 fun x hx => (hv x hx).1
   rw [this,decide_eq_true hnd,decide_eq_true hlen]; rfl
theorem zmk:∀ (l:List JV) (d:Nat),RdL l d → zd2 l=true
 | [],d,h => by rw [zd2]
 | v :: l,d,h => by rw [RdL] at h; rw [zd2,zjt v d h.1,zmk l d h.2]; rfl
end
mutual
theorem rd_wf:∀ (v:JV) (d:Nat),RdJ v d → WfW v
 | .mk k t ks its,d,h => by
  have hi:=rdL_wf its (d + 1)
  rw [RdJ] at h
  rw [WfW]
  rcases h with ⟨hk,rfl,rfl,rfl⟩ | ⟨rfl,hx,rfl,rfl⟩ | ⟨rfl,hx,rfl,rfl⟩ | ⟨rfl,rfl,rfl,hd2,hl⟩ | ⟨rfl,rfl,hlen,hnd,hv,hd2,hl⟩
  ·exact ⟨fun _ => rfl,by rw [zoF]; trivial⟩
  ·exact ⟨fun _ => rfl,by rw [zoF]; trivial⟩
  ·exact ⟨fun _ => rfl,by rw [zoF]; trivial⟩
  ·exact ⟨fun h => absurd h (by decide),hi hl⟩
  ·exact ⟨fun _ => hlen,hi hl⟩
theorem rdL_wf:∀ (l:List JV) (d:Nat),RdL l d → zoF l
 | [],d,h => by rw [zoF]; trivial
 | v :: l,d,h => by rw [RdL] at h; rw [zoF]; exact ⟨rd_wf v d h.1,rdL_wf l d h.2⟩
end
theorem ord_perm {ks:List (List UInt8)} {l:List JV} (hnd:ks.Nodup) (hlen:ks.length=l.length) (n:Nat):((zd8 n ks).map fun key => (l[zew key ks]?).getD jvZ).Perm l:=by
 have e:(ks.map fun key => (l[zew key ks]?).getD jvZ)=l:=by
  apply List.ext_getElem (by rw [List.length_map,hlen])
  intro i h1 h2
  rw [List.getElem_map,zc0 hnd,List.getElem?_eq_getElem h2]; rfl
 have:=(za2 n ks).map fun key => (l[zew key ks]?).getD jvZ
 rw [e] at this
 exact this
theorem zkJ {a b:List JV} (h:a.Perm b):JV.sizes a=JV.sizes b:=by
 induction h with
 | nil => rfl
 | cons x h ih => rw [JV.sizes,JV.sizes,ih]
 | swap x y l => rw [JV.sizes,JV.sizes,JV.sizes,JV.sizes]; omega
 | trans h1 h2 i1 i2 => rw [i1,i2]
theorem zdS {v:JV} {d:Nat} (h:RdJ v d):(v.items=[] ∧ v.keys=[] ∧ zbv v=v ∧ v.kind ≠ 6 ∧ v.kind ≠ 7) ∨ (v.kind=6 ∧ v.keys=[] ∧ zbv v=.mk 6 v.text [] (zcK v.items)) ∨
  (v.kind=7 ∧ v.keys.length=v.items.length ∧ v.keys.Nodup ∧ ∃ S its,zbv v=.mk 7 v.text S its ∧ S=zd8 v.keys.length v.keys ∧ its=(S.map fun key => ((zcK v.items)[zew key v.keys]?).getD jvZ) ∧ S.Perm v.keys ∧ its.Perm (zcK v.items)):=by
 cases v with
 | mk k t ks its =>
  rw [RdJ] at h
  have z:∀ k:Int,k ≠ 6 → zbv (.mk k t [] [])=.mk k t [] []:=fun k hk => by
   rw [zbv,if_neg hk]; rfl
  rcases h with ⟨hk,rfl,rfl,rfl⟩ | ⟨rfl,hx,rfl,rfl⟩ | ⟨rfl,hx,rfl,rfl⟩ | ⟨rfl,rfl,rfl,hd2,hl⟩ | ⟨rfl,rfl,hlen,hnd,hv,hd2,hl⟩
  ·exact .inl ⟨rfl,rfl,z k (by omega),by show k ≠ 6; omega,by show k ≠ 7; omega⟩
  ·exact .inl ⟨rfl,rfl,z _ (by decide),by show (4:Int) ≠ 6; decide,by show (4:Int) ≠ 7; decide⟩
  ·exact .inl ⟨rfl,rfl,z _ (by decide),by show (5:Int) ≠ 6; decide,by show (5:Int) ≠ 7; decide⟩
  ·exact .inr (.inl ⟨rfl,rfl,by rw [zbv,if_pos rfl]; rfl⟩)
  ·refine .inr (.inr ⟨rfl,hlen,hnd,_,_,by rw [zbv,if_neg (by decide)]; rfl,rfl,rfl,za2 _ _,?_⟩)
   exact ord_perm hnd (by rw [zcE]; exact hlen) _
mutual
theorem ord_rd:∀ (v:JV) (d:Nat),RdJ v d → RdJ (zbv v) d
 | .mk k t ks its,d,h => by
  have hi:=zmD its (d + 1)
  have hc:=zdS h
  have h0:=h
  rw [RdJ] at h
  rcases hc with ⟨_,_,e,_⟩ | ⟨k6,_,e⟩ | ⟨k7,hlen,hnd,S,its',e,_,_,hS,hI⟩
  ·rw [e]; exact h0
  ·simp only [JV.kind,JV.text,JV.items] at k6 e
   rw [e,RdJ]
   rcases h with ⟨hk,_⟩ | ⟨h,_⟩ | ⟨h,_⟩ | ⟨_,rfl,rfl,hd2,hl⟩ | ⟨h,_⟩
   ·omega
   ·omega
   ·omega
   ·exact .inr (.inr (.inr (.inl ⟨rfl,rfl,rfl,hd2,hi hl⟩)))
   ·omega
  ·simp only [JV.kind,JV.text,JV.items,JV.keys] at k7 e hlen hnd hS hI
   rw [e,RdJ]
   rcases h with ⟨hk,_⟩ | ⟨h,_⟩ | ⟨h,_⟩ | ⟨h,_⟩ | ⟨_,rfl,_,_,hv,hd2,hl⟩
   ·omega
   ·omega
   ·omega
   ·omega
   ·have hl2:=hi hl
    rw [zgi] at hl2
    exact .inr (.inr (.inr (.inr ⟨rfl,rfl,by rw [hS.length_eq,hI.length_eq,zcE]; exact hlen,hS.nodup_iff.2 hnd,fun x hx => hv x (hS.mem_iff.1 hx),hd2,zgi.2 fun x hx => hl2 x (hI.mem_iff.1 hx)⟩)))
theorem zmD:∀ (l:List JV) (d:Nat),RdL l d → RdL (zcK l) d
 | [],d,h => by rw [zcK,RdL]; trivial
 | v :: l,d,h => by rw [RdL] at h; rw [zcK,RdL]; exact ⟨ord_rd v d h.1,zmD l d h.2⟩
end
mutual
theorem zjB:∀ (v:JV) (d:Nat),RdJ v d → (zbv v).size=v.size
 | .mk k t ks its,d,h => by
  have hi:=zht its (d + 1)
  have hc:=zdS h
  rw [RdJ] at h
  have hl:RdL its (d + 1):=by
   rcases h with ⟨_,_,_,rfl⟩ | ⟨_,_,_,rfl⟩ | ⟨_,_,_,rfl⟩ | ⟨_,_,_,_,hl⟩ | ⟨_,_,_,_,_,_,hl⟩
   ·rw [RdL]; trivial
   ·rw [RdL]; trivial
   ·rw [RdL]; trivial
   ·exact hl
   ·exact hl
  have h1:=hi hl
  rcases hc with ⟨_,_,e,_⟩ | ⟨k6,_,e⟩ | ⟨k7,hlen,hnd,S,its',e,_,_,hS,hI⟩
  ·rw [e]
  ·rw [e,size_eq,size_eq]
   show JV.sizes (zcK its) + 1=_
   rw [h1]; rfl
  ·rw [e,size_eq,size_eq]
   show JV.sizes its' + 1=_
   rw [zkJ hI]
   show JV.sizes (zcK its) + 1=_
   rw [h1]; rfl
theorem zht:∀ (l:List JV) (d:Nat),RdL l d → JV.sizes (zcK l)=JV.sizes l
 | [],d,h => by rw [zcK]
 | v :: l,d,h => by rw [RdL] at h; rw [zcK,JV.sizes,JV.sizes,zjB v d h.1,zht l d h.2]
end
mutual
theorem ord_kp:∀ (v:JV) (d:Nat),RdJ v d → JKp v → JKp (zbv v)
 | .mk k t ks its,d,h,hk => by
  have hi:=zmE its (d + 1)
  have hc:=zdS h
  obtain ⟨l1,l2,l3,l4⟩:=hk.lens
  have hki:zd3 its:=by rw [JKp] at hk; exact hk.2.2.2.2
  rw [RdJ] at h
  have hl:RdL its (d + 1):=by
   rcases h with ⟨_,_,_,rfl⟩ | ⟨_,_,_,rfl⟩ | ⟨_,_,_,rfl⟩ | ⟨_,_,_,_,hl⟩ | ⟨_,_,_,_,_,_,hl⟩
   ·rw [RdL]; trivial
   ·rw [RdL]; trivial
   ·rw [RdL]; trivial
   ·exact hl
   ·exact hl
  have h1:=hi hl hki
  simp only [JV.text,JV.keys,JV.items] at l1 l2 l3 l4 hc
  rcases hc with ⟨_,_,e,_⟩ | ⟨k6,_,e⟩ | ⟨k7,hlen,hnd,S,its',e,_,_,hS,hI⟩
  ·rw [e]; exact hk
  ·rw [e,JKp]
   exact ⟨by simp,by rw [zcE]; exact l2,l3,by simp,h1⟩
  ·rw [e,JKp]
   exact ⟨by rw [hS.length_eq]; exact l1,by rw [hI.length_eq,zcE]; exact l2,l3,fun x hx => l4 x (hS.mem_iff.1 hx),zdW.2 fun x hx => zdW.1 h1 x (hI.mem_iff.1 hx)⟩
theorem zmE:∀ (l:List JV) (d:Nat),RdL l d → zd3 l → zd3 (zcK l)
 | [],d,h,hk => by rw [zcK]; exact hk
 | v :: l,d,h,hk => by rw [RdL] at h; rw [zd3] at hk; rw [zcK,zd3]; exact ⟨ord_kp v d h.1 hk.1,zmE l d h.2 hk.2⟩
end
theorem znA:∀ (l:List JV) (w:JV) (ks:List (List UInt8)),(∀ (i:Nat) (h1:i < ks.length) (h2:i < l.length),(zfU w ks[i]).2=true ∧ jeqJ l[i] (zfU w ks[i]).1=true) → zlf ks l w=true
 | [],w,ks,_ => by rw [zlf]
 | v :: l,w,[],_ => by rw [zlf]
 | v :: l,w,k :: ks,hw => by
  have h0:=hw 0 (by simp) (by simp)
  simp only [List.getElem_cons_zero] at h0
  rw [zlf]
  simp only [h0]
  rw [znA l w ks fun i h1 h2 => by
   have:=hw (i + 1) (by simpa using h1) (by simpa using h2)
   simpa only [List.getElem_cons_succ] using this]
  rfl
mutual
/-- in order or not: equal -/
theorem ord_eq:∀ (v:JV) (d:Nat),RdJ v d → jeqJ (zbv v) v=true
 | .mk k t ks its,d,h => by
  have hi:=zmF its (d + 1)
  have hc:=zdS h
  have hs:=zjt _ _ h
  rw [RdJ] at h
  have hl:RdL its (d + 1):=by
   rcases h with ⟨_,_,_,rfl⟩ | ⟨_,_,_,rfl⟩ | ⟨_,_,_,rfl⟩ | ⟨_,_,_,_,hl⟩ | ⟨_,_,_,_,_,_,hl⟩
   ·rw [RdL]; trivial
   ·rw [RdL]; trivial
   ·rw [RdL]; trivial
   ·exact hl
   ·exact hl
  have h1:=hi hl
  rcases hc with ⟨_,_,e,_⟩ | ⟨k6,_,e⟩ | ⟨k7,hlen,hnd,S,its',e,hS0,hI0,hS,hI⟩
  ·rw [e]; exact zfh _ hs
  ·simp only [JV.kind,JV.text,JV.items] at k6 e
   rw [e,ziH,k6]
   show (decide ((6:Int)=6) && _)=true
   rw [if_neg (by show ¬ ((6:Int)=1 ∨ (6:Int)=2 ∨ (6:Int)=3); decide),if_neg (by show ¬ ((6:Int)=4 ∨ (6:Int)=5); decide),if_pos (show (JV.mk 6 t [] (zcK its)).kind=6 from rfl)]
   exact h1.1
  ·simp only [JV.kind,JV.text,JV.items,JV.keys] at k7 e hlen hnd hS hI hS0 hI0
   rw [e,ziH,k7]
   show (decide ((7:Int)=7) && _)=true
   rw [if_neg (by show ¬ ((7:Int)=1 ∨ (7:Int)=2 ∨ (7:Int)=3); decide),if_neg (by show ¬ ((7:Int)=4 ∨ (7:Int)=5); decide),if_neg (by show ¬ (7:Int)=6; decide),if_pos (show (JV.mk 7 t S its').kind=7 from rfl)]
   show (true && (decide (S.length=ks.length) && zlf S its' (.mk 7 t ks its)))=true
   rw [decide_eq_true hS.length_eq,Bool.true_and,Bool.true_and]
   refine znA its' _ S fun i q1 q2 => ?_
   have hm:S[i] ∈ ks:=hS.mem_iff.1 (List.getElem_mem q1)
   obtain ⟨j,hj1,hj2⟩:=List.mem_iff_getElem.1 hm
   have hg:=ziN (v:=.mk 7 t ks its) rfl hlen hnd hj1
   have e2:its'[i]=zbv (its[j]'(by omega)):=by
    have:its'[i]? = some (zbv (its[j]'(by omega))):=by
     rw [hI0,List.getElem?_map,List.getElem?_eq_getElem q1,← hj2]
     show some ((zcK its)[zew ks[j] ks]?.getD jvZ)=_
     rw [zc0 hnd hj1,zeH (by omega)]; rfl
    rw [List.getElem?_eq_getElem q2] at this
    exact Option.some.inj this
   rw [e2,← hj2]
   have hg:zfU (.mk 7 t ks its) ks[j]=(its[j]'(by omega),true):=hg
   rw [hg]
   exact ⟨rfl,h1.2 j (by omega)⟩
theorem zmF:∀ (l:List JV) (d:Nat),RdL l d → jeqL (zcK l) l=true ∧ ∀ (i:Nat) (h:i < l.length),jeqJ (zbv l[i]) l[i]=true
 | [],d,h => ⟨by rw [zcK,jeqL]; rfl,fun i h => by simp at h⟩
 | v :: l,d,h => by
  rw [RdL] at h
  have h1:=ord_eq v d h.1
  have h2:=zmF l d h.2
  refine ⟨by rw [zcK,jeqL,h1,h2.1]; rfl,fun i hi => ?_⟩
  cases i with
  | zero => exact h1
  | succ i => exact h2.2 i (by simpa using hi)
end
end
end Go.Proofs.YthmdohgkmdkeeaaGreatDoor
namespace Go.Proofs.YthmdohgkmdkeeaaGreatDoor
end Go.Proofs.YthmdohgkmdkeeaaGreatDoor
namespace Go.Proofs.YthmdohgkmdkeeaaGreatDoor
open Go.RowKit Sx
section
attribute [local irreducible] run
end
end Go.Proofs.YthmdohgkmdkeeaaGreatDoor
namespace Go.Proofs.YthmdohgkmdkeeaaGreatDoor
open Go.RowKit Sx
section
attribute [local irreducible] run
def EscOk:List UInt8 → Bool → Prop
 | [],_ => True
 | c :: t,ins =>
  if ins=true ∧ c=92 then (match t with
   | [] => False
   | d :: t' => EscOk t' true)
  else EscOk t (if c=34 then !ins else ins)
def Bal (l:List UInt8):Prop:=∀ r,EscOk r false → EscOk (l ++ r) false
theorem Bal.app {a b:List UInt8} (h:Bal a) (k:Bal b):Bal (a ++ b):=fun r hr => by rw [List.append_assoc]; exact h _ (k r hr)
section
variable [Tabs Tryz.prog]
end
end
end Go.Proofs.YthmdohgkmdkeeaaGreatDoor
namespace Go.Proofs.YthmdohgkmdkeeaaGreatDoor
open Nat renaming reduceAdd → z6, reduceSub → z7, reduceLeDiff → z8, reduceLT → j5, reduceMul → j6, reduceEqDiff → j7
open Int renaming reduceToNat → j8, reduceAdd → j9, reduceSub → x3, reduceMul → x4, reduceNeg → x5, reduceLT → x6, reduceLE → x7, reduceEq → x8, reduceNe → x9
open Go.RowKit Sx
section
attribute [local irreducible] run
def wrE (v:JV):List UInt8 × Int:=if zgM v=true then (wrJ (zbv v),0) else ([],8)
theorem zgl {v:JV} (h:zgM v=true) (hk:JKp v):RdJ v 0 ∧ RdJ (zbv v) 0 ∧ ze1 v=true ∧ ze1 (zbv v)=true ∧ JKp (zbv v) ∧ WfW (zbv v) ∧ (zbv v).size=v.size ∧ jeqJ (zbv v) v=true:=by
 have h0:=rd_val h hk
 have h1:=ord_rd v 0 h0
 exact ⟨h0,h1,zjt _ _ h0,zjt _ _ h1,ord_kp v 0 h0 hk,rd_wf _ _ h1,zjB v 0 h0,ord_eq v 0 h0⟩
theorem zib {v:JV} (h:zgM v=true) (hk:JKp v):(wrJ (zbv v)).length + 1804 ≤ 4000 * v.size:=by
 obtain ⟨_,_,_,_,h5,_,h7,_⟩:=zgl h hk
 have:=zf3 (zbv v) h5
 rw [h7] at this
 exact this
section
variable [Tabs Tryz.prog]
theorem zlk (v:JV) (hv:JKp v) (ho:JOk v) (hs:v.size ≤ 250) {objs:List OB} {K:List OB → AV → Prop} (hk:K objs (.tup [.s (wrE v).1,.i .i64 (wrE v).2])):zad Tryz.prog 32 [.agg (zaq v)] objs K:=by
 refine zbb is_ref15_Write (by simp only [zam,AV.plain,zbr,Bool.and_self]) fun C _ => ?_
 rw [c_ref15_Write]
 have hc:=fun {objs:List OB} {K:List OB → AV → Prop} (h) => zlq v hv (objs:=objs) (K:=K) h
 have hl:=fun (hsv:ze1 v=true) {objs:List OB} {K:List OB → AV → Prop} (h) => long_k (v.size + 1) v (Nat.lt_succ_self _) hv (by omega) hsv (objs:=objs) (K:=K) h
 have hr:=fun (hsv:ze1 v=true) {objs:List OB} {K:List OB → AV → Prop} (h) => order_k (v.size + 1) v (Nat.lt_succ_self _) hsv ho hv.bd (objs:=objs) (K:=K) h
 have hw:=fun (h5:JKp (zbv v)) (h6:WfW (zbv v)) (h7:(zbv v).size=v.size) {objs:List OB} {K:List OB → AV → Prop} (h) => write_k ((zbv v).size + 1) (zbv v) (Nat.lt_succ_self _) (by omega) h5 h6 (objs:=objs) (K:=K) h
 have hall:=fun (h:zgM v=true) => zgl h hv
 have hlen:=fun (h:zgM v=true) => zib h hv
 unfold wrE at hk
 generalize zgM v=b at hc hk hall hlen
 generalize wrJ (zbv v)=T at hk hw hlen
 obtain ⟨q0,q1,q2,q3,hq⟩:∃ q0 q1 q2 q3,zaq v=[q0,q1,q2,q3]:=⟨_,_,_,_,zap v⟩
 obtain ⟨p0,p1,p2,p3,hp⟩:∃ q0 q1 q2 q3,zaq (zbv v)=[q0,q1,q2,q3]:=⟨_,_,_,_,zap (zbv v)⟩
 rw [hq] at hc hl hr ⊢
 rw [hp] at hr hw
 refine zaa fun Z hZ => ?_
 simp only [sxZ,z6,z7,z8,j5,j6,j7,j8,j9,x3,x4,x5,x6,x7,x8,x9,reduceCtorEq,↓reduceIte]
 subst hZ
 refine zaa fun Z hZ => ?_
 simp only [sxZ,z6,z7,z8,j5,j6,j7,j8,j9,x3,x4,x5,x6,x7,x8,x9,reduceCtorEq,↓reduceIte]
 refine zal (hc ?_)
 cases b with
 | false =>
  simp only [sxZ,z6,z7,z8,j5,j6,j7,j8,j9,x3,x4,x5,x6,x7,x8,x9,reduceCtorEq,↓reduceIte]
  exact hk
 | true =>
  obtain ⟨h0,h1,h2,h3,h5,h6,h7,h8⟩:=hall rfl
  have hlen:=hlen rfl
  rw [if_pos rfl] at hk
  simp only [sxZ,z6,z7,z8,j5,j6,j7,j8,j9,x3,x4,x5,x6,x7,x8,x9,reduceCtorEq,↓reduceIte]
  subst hZ
  refine zaa fun Z hZ => ?_
  simp only [sxZ,z6,z7,z8,j5,j6,j7,j8,j9,x3,x4,x5,x6,x7,x8,x9,reduceCtorEq,↓reduceIte]
  refine zal (hl h2 ?_)
  simp only [sxZ,z6,z7,z8,j5,j6,j7,j8,j9,x3,x4,x5,x6,x7,x8,x9,reduceCtorEq,↓reduceIte]
  subst hZ
  refine zaa fun Z hZ => ?_
  simp only [sxZ,z6,z7,z8,j5,j6,j7,j8,j9,x3,x4,x5,x6,x7,x8,x9,reduceCtorEq,↓reduceIte]
  refine zal (hr h2 ?_)
  simp only [sxZ,z6,z7,z8,j5,j6,j7,j8,j9,x3,x4,x5,x6,x7,x8,x9,reduceCtorEq,↓reduceIte]
  refine zal (hw h5 h6 h7 ?_)
  simp only [sxZ,z6,z7,z8,j5,j6,j7,j8,j9,x3,x4,x5,x6,x7,x8,x9,reduceCtorEq,↓reduceIte]
  subst hZ
  refine zaa fun Z hZ => ?_
  have c9:¬ (1048576:Int) < T.length:=by omega
  simp only [sxZ,z6,z7,z8,j5,j6,j7,j8,j9,x3,x4,x5,x6,x7,x8,x9,reduceCtorEq,↓reduceIte,c9]
  subst hZ
  simp only [sxZ,z6,z7,z8,j5,j6,j7,j8,j9,x3,x4,x5,x6,x7,x8,x9,reduceCtorEq,↓reduceIte]
  exact hk
theorem zfg (v:JV) (hv:JKp v) (ho:JOk v) (hs:v.size ≤ 250) {objs:List OB} {K:List OB → AV → Prop} (hk:K objs (.tup [.s (wrE v).1,.i .i64 (wrE v).2])):zad Tryz.prog 18 [.agg (zaq v)] objs K:=by
 refine zbb is_json_Write (by simp only [zam,AV.plain,zbr,Bool.and_self]) fun C _ => ?_
 rw [c_json_Write]
 have hc:=fun {objs:List OB} {K:List OB → AV → Prop} (h) => zlk v hv ho hs (objs:=objs) (K:=K) h
 generalize wrE v=b at hc hk
 obtain ⟨q0,q1,q2,q3,hq⟩:∃ q0 q1 q2 q3,zaq v=[q0,q1,q2,q3]:=⟨_,_,_,_,zap v⟩
 rw [hq] at hc ⊢
 refine zaa fun Z hZ => ?_
 simp only [sxZ,z6,z7,z8,j5,j6,j7,j8,j9,x3,x4,x5,x6,x7,x8,x9,reduceCtorEq,↓reduceIte]
 subst hZ
 refine zaa fun Z hZ => ?_
 simp only [sxZ,z6,z7,z8,j5,j6,j7,j8,j9,x3,x4,x5,x6,x7,x8,x9,reduceCtorEq,↓reduceIte]
 refine zal (hc ?_)
 simp only [sxZ,z6,z7,z8,j5,j6,j7,j8,j9,x3,x4,x5,x6,x7,x8,x9,reduceCtorEq,↓reduceIte]
 subst hZ
 simp only [sxZ,z6,z7,z8,j5,j6,j7,j8,j9,x3,x4,x5,x6,x7,x8,x9,reduceCtorEq,↓reduceIte]
 exact hk
end
end
end Go.Proofs.YthmdohgkmdkeeaaGreatDoor
namespace Go.Proofs.YthmdohgkmdkeeaaGreatDoor
open Go.RowKit Sx
section
attribute [local irreducible] run
section
variable [Tabs Tryz.prog] [Utf Tryz.prog] {p:Nat} {s:List UInt8}
end
end
end Go.Proofs.YthmdohgkmdkeeaaGreatDoor
namespace Go.Proofs.YthmdohgkmdkeeaaGreatDoor
open Go.RowKit Sx
section
attribute [local irreducible] run
theorem js_ex1:za8 [123,34,97,34,58,91,49,44,50,46,53,48,93,44,34,98,34,58,110,117,108,108,125]=(.mk 7 [] [[97],[98]] [.mk 6 [] [] [.mk 4 [49] [] [],.mk 4 [50,53,101,45,49] [] []],.mk 1 [] [] []],23,0):=by kernel_rfl
theorem js_ex2:za8 [123,34,97,34,58,49,44,34,97,34,58,50,125]=(jvZ,7,143):=by kernel_rfl
end
end Go.Proofs.YthmdohgkmdkeeaaGreatDoor
namespace Go.Proofs.YthmdohgkmdkeeaaGreatDoor
open Sx
theorem sl_str:∀ {gs:List (List AV)},(∀ g ∈ gs,ShT .s g) → ∃ l:List (List UInt8),gs.flatten=l.map .s ∧ gs.length=l.length ∧ ∀ x ∈ l,x.length ≤ 140737488351232
 | [],_ => ⟨[],rfl,rfl,by simp⟩
 | g :: gs,h => by
  obtain ⟨l,h1,h2,h3⟩:=sl_str (fun x hx => h x (List.mem_cons_of_mem _ hx))
  obtain ⟨x,rfl,hw⟩:=h g (List.mem_cons_self ..)
  refine ⟨x :: l,by rw [List.flatten_cons,h1]; rfl,by rw [List.length_cons,List.length_cons,h2],fun y hy => ?_⟩
  rcases List.mem_cons.1 hy with rfl | hy
  ·exact hw
  ·exact h3 y hy
end Go.Proofs.YthmdohgkmdkeeaaGreatDoor
namespace Go.Proofs.YthmdohgkmdkeeaaGreatDoor
open Nat renaming reduceAdd → z6, reduceSub → z7, reduceLeDiff → z8, reduceLT → j5, reduceMul → j6, reduceEqDiff → j7
open Int renaming reduceToNat → j8, reduceAdd → j9, reduceSub → x3, reduceMul → x4, reduceNeg → x5, reduceLT → x6, reduceLE → x7, reduceEq → x8, reduceNe → x9
open Go.RowKit Sx
section
attribute [local irreducible] run
section
variable [Tabs Tryz.prog] [Pow Tryz.prog] [Utf Tryz.prog] {objs:List OB} {K:List OB → AV → Prop}
theorem saneJs_k (hk:K objs (.b true)):zad Tryz.prog 8 [] objs K:=by
 refine zbb is_law14_sane rfl fun C _ => ?_
 rw [c_law14_sane]
 refine zaa fun Y hY => ?_
 simp only [sxZ,z6,z7,z8,j5,j6,j7,j8,j9,x3,x4,x5,x6,x7,x8,x9,reduceCtorEq,↓reduceIte]
 subst hY
 refine zaa fun Y hY => ?_
 simp only [sxZ,z6,z7,z8,j5,j6,j7,j8,j9,x3,x4,x5,x6,x7,x8,x9,reduceCtorEq,↓reduceIte]
 refine zal (zeJ _ (by decide) ?_)
 rw [js_ex1]
 simp only [zdR,zaq,zac,List.map_cons,List.map_nil,List.length_cons,List.length_nil,List.cons_append,List.nil_append,sxZ,z6,z7,z8,j5,j6,j7,j8,j9,x3,x4,x5,x6,x7,x8,x9,reduceCtorEq,↓reduceIte]
 subst hY
 refine zaa fun Y hY => ?_
 simp only [sxZ,z6,z7,z8,j5,j6,j7,j8,j9,x3,x4,x5,x6,x7,x8,x9,reduceCtorEq,↓reduceIte]
 refine zal (zeJ _ (by decide) ?_)
 rw [js_ex2]
 simp only [zdR,jvZ,zaq,zac,List.map_cons,List.map_nil,List.length_cons,List.length_nil,List.cons_append,List.nil_append,sxZ,z6,z7,z8,j5,j6,j7,j8,j9,x3,x4,x5,x6,x7,x8,x9,reduceCtorEq,↓reduceIte]
 subst hY
 simp only [sxZ,z6,z7,z8,j5,j6,j7,j8,j9,x3,x4,x5,x6,x7,x8,x9,reduceCtorEq,↓reduceIte,Int.cast_ofNat_Int,decide_true]
 exact hk
end
end
end Go.Proofs.YthmdohgkmdkeeaaGreatDoor
namespace Go.Proofs.YthmdohgkmdkeeaaGreatDoor
open Go.RowKit Sx
section
attribute [local irreducible] run
section
variable [Tabs Tryz.prog] [Utf Tryz.prog] {objs:List OB} {K:List OB → AV → Prop}
end
section
variable [Tabs Tryz.prog] [Pow Tryz.prog] [Utf Tryz.prog]
end
end
end Go.Proofs.YthmdohgkmdkeeaaGreatDoor
namespace Go.Proofs.YthmdohgkmdkeeaaGreatDoor
open Go.RowKit Sx
section
attribute [local irreducible] run
section
variable [Tabs Tryz.prog]
end
end
end Go.Proofs.YthmdohgkmdkeeaaGreatDoor
namespace Go.Proofs.YthmdohgkmdkeeaaGreatDoor
open Go.RowKit Sx
section
attribute [local irreducible] run
section
variable [Tabs Tryz.prog]
end
end
end Go.Proofs.YthmdohgkmdkeeaaGreatDoor
namespace Go.Proofs.YthmdohgkmdkeeaaGreatDoor
open Go.RowKit Sx
section
attribute [local irreducible] run
section
variable [Tabs Tryz.prog] {objs:List OB} {K:List OB → AV → Prop}
end
section
variable [Tabs Tryz.prog] [Pow Tryz.prog] [Utf Tryz.prog]
end
end
end Go.Proofs.YthmdohgkmdkeeaaGreatDoor
namespace Go.Proofs.YthmdohgkmdkeeaaGreatDoor
open Go.RowKit Sx
section
attribute [local irreducible] run
section
variable [Tabs Tryz.prog] {objs:List OB} {K:List OB → AV → Prop}
end
section
variable [Tabs Tryz.prog] [Pow Tryz.prog] [Utf Tryz.prog]
end
end
end Go.Proofs.YthmdohgkmdkeeaaGreatDoor
namespace Go.Proofs.YthmdohgkmdkeeaaGreatDoor
open Go.RowKit Sx
section
attribute [local irreducible] run
theorem preS_len (k:Nat):(preS k).length ≤ 1:=by unfold preS; split <;> simp
theorem zmz (k:Nat):(zhr k).length ≤ 1:=by unfold zhr; split <;> simp
theorem zgd (sp:List UInt8):∀ (n:Nat) (l:List UInt8) (ins:Bool) (i:Nat),l.length ≤ n → (za9 sp l ins i).length ≤ 3 * l.length
 | n,[],ins,i,h => by rw [za9]; simp
 | 0,c :: t,ins,i,h => by simp at h
 | n + 1,c :: t,ins,i,h => by
  have ht:t.length ≤ n:=by simpa using h
  by_cases hc:ins=true ∧ c=92
  ·obtain ⟨rfl,rfl⟩:=hc
   cases t with
   | nil => rw [za9.eq_def]; simp
   | cons d t =>
    have:=zgd sp n t true (i + 2) (by simp only [List.length_cons] at ht; omega)
    rw [zbP]
    simp only [List.length_cons]; omega
  ·rw [zbo hc]
   have h1:=preS_len (if ins=false ∧ zbG c puL=true then kSp sp i else 0)
   have h2:=zmz (if ins=false ∧ zbG c puL=true then kSp sp i else 0)
   have h3:=zgd sp n t (if c=34 then !ins else ins) (i + 1) ht
   simp only [List.length_append,List.length_cons]
   omega
theorem back_all {v:JV} (h:zgM v=true) (hk:JKp v) (hs:v.size ≤ 80) (sp:List UInt8):za8 (za9 sp (wrJ (zbv v)) false 0)=(zbv v,((za9 sp (wrJ (zbv v)) false 0).length:Int),0):=by
 obtain ⟨_,h1,_,_,_,_,h7,_⟩:=zgl h hk
 have hl:=zib h hk
 have h3:=zgd sp _ (wrJ (zbv v)) false 0 (Nat.le_refl _)
 exact zmj sp h1 (by omega) (by omega)
theorem back_one {v:JV} (h:zgM v=true) (hk:JKp v) (hs:v.size ≤ 80):za8 (wrJ (zbv v))=(zbv v,((wrJ (zbv v)).length:Int),0):=by
 have:=back_all h hk hs []
 rw [zdI] at this
 exact this
section
variable [Tabs Tryz.prog] [Pow Tryz.prog] [Utf Tryz.prog]
end
end
end Go.Proofs.YthmdohgkmdkeeaaGreatDoor
namespace Go.Proofs.YthmdohgkmdkeeaaGreatDoor
open Go.RowKit Sx
section
attribute [local irreducible] run
end
end Go.Proofs.YthmdohgkmdkeeaaGreatDoor
