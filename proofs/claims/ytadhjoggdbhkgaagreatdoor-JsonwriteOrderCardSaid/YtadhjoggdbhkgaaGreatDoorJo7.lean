/- The texts that the proofs of these statements reach, in their order, as few files. -/
import Derived.Test.YtadhjoggdbhkgaaGreatDoorProg
import Derived.Test.YtadhjoggdbhkgaaGreatDoorJo6
set_option linter.unusedVariables false
set_option linter.unusedSimpArgs false
set_option maxRecDepth 100000
namespace Go.Proofs.YtadhjoggdbhkgaaGreatDoor
open Nat renaming reduceAdd → z6, reduceSub → z7, reduceLeDiff → z8, reduceLT → j4, reduceMul → j5, reduceEqDiff → j6
open Int renaming reduceToNat → j7, reduceAdd → j8, reduceSub → j9, reduceMul → x4, reduceNeg → x5, reduceLT → x6, reduceLE → x7, reduceEq → x8, reduceNe → x9
open Go.RowKit Sx
section
attribute [local irreducible] run
theorem zn2 {a b:List JV} (h:a.Perm b) (d:Nat):zd5 a d=zd5 b d:=by
 induction h with
 | nil => rfl
 | cons x h ih => rw [zd5,zd5,ih]
 | swap x y l => rw [zd5,zd5,zd5,zd5,← Bool.and_assoc,← Bool.and_assoc,Bool.and_comm (zj8 y d)]
 | trans h1 h2 i1 i2 => rw [i1,i2]
theorem zkA {a b:List (List UInt8)} (h:a.Perm b):zcs a=zcs b:=by
 unfold zcs
 rw [decide_eq_decide.2 h.nodup_iff]
 congr 1
 rw [Bool.eq_iff_iff,List.all_eq_true,List.all_eq_true]
 exact ⟨fun k x hx => k x (h.mem_iff.2 hx),fun k x hx => k x (h.mem_iff.1 hx)⟩
def rot {α:Type} (k:Nat) (l:List α):List α:=l.drop k ++ l.take k
theorem zaO {α:Type} (k:Nat) (l:List α):(rot k l).Perm l:=by
 unfold rot
 exact List.perm_append_comm.trans (by rw [List.take_append_drop])
theorem zlr {α:Type} {k:Nat} {l:List α} (hk:k ≤ l.length) {j:Nat} (hj:j < (rot k l).length):(rot k l)[j]? = l[if j < l.length - k then k + j else j - (l.length - k)]?:=by
 have hl:j < l.length:=by rw [(zaO k l).length_eq] at hj; exact hj
 unfold rot
 by_cases c:j < l.length - k
 ·rw [if_pos c,List.getElem?_append_left (by rw [List.length_drop]; exact c),List.getElem?_drop]
 ·rw [if_neg c,List.getElem?_append_right (by rw [List.length_drop]; omega),List.length_drop,List.getElem?_take,if_pos (by omega)]
def ziM (k:Nat) (v:JV):JV:=.mk v.kind v.text (rot k v.keys) (rot k v.items)
theorem ziL (k:Nat) (v:JV):(ziM k v).size=v.size:=by
 rw [size_eq,size_eq]
 show JV.sizes (rot k v.items) + 1=_
 rw [zfk (zaO k v.items)]
theorem rot_ok {k:Nat} {v:JV} (h:JOk v):JOk (ziM k v):=by
 cases v with
 | mk q t ks its =>
  rw [JOk] at h
  unfold ziM
  rw [JOk]
  refine ⟨h.1,h.2.1,?_,fun x hx => h.2.2.2.1 x ((zaO k ks).mem_iff.1 hx),?_,zep.2 fun x hx => zep.1 h.2.2.2.2.2 x ((zaO k its).mem_iff.1 hx)⟩
  ·show (rot k ks).length ≤ _; rw [(zaO k ks).length_eq]; exact h.2.2.1
  ·show (rot k its).length ≤ _; rw [(zaO k its).length_eq]; exact h.2.2.2.2.1
theorem rot_kp {k:Nat} {v:JV} (h:JKp v):JKp (ziM k v):=by
 cases v with
 | mk q t ks its =>
  rw [JKp] at h
  unfold ziM
  rw [JKp]
  refine ⟨?_,?_,h.2.2.1,fun x hx => h.2.2.2.1 x ((zaO k ks).mem_iff.1 hx),zga.2 fun x hx => zga.1 h.2.2.2.2 x ((zaO k its).mem_iff.1 hx)⟩
  ·show (rot k ks).length ≤ _; rw [(zaO k ks).length_eq]; exact h.1
  ·show (rot k its).length ≤ _; rw [(zaO k its).length_eq]; exact h.2.1
theorem rot_val {k:Nat} {v:JV} (h7:v.kind=7) (hs:v.size ≤ 20000):zfg (ziM k v)=zfg v:=by
 rw [zfP _ (by rw [ziL]; exact hs),zfP v hs,ziq,ziq]
 have e:(ziM k v).kind=7:=h7
 rw [e,h7,if_neg (by decide),if_neg (by decide),if_neg (by decide),if_neg (by decide),if_pos rfl,if_neg (by decide),if_neg (by decide),if_neg (by decide),if_neg (by decide),if_pos rfl]
 show ((decide ((rot k v.keys).length=(rot k v.items).length) && zn3 (ziM k v) 1) && zcs (rot k v.keys))=_
 rw [(zaO k v.keys).length_eq,(zaO k v.items).length_eq,zkA (zaO k v.keys)]
 have:zn3 (ziM k v) 1=zn3 v 1:=by
  unfold zn3
  show (_ && zd5 (rot k v.items) 1)=_
  rw [zn2 (zaO k v.items)]; rfl
 rw [this]
theorem rot_ord {k:Nat} {v:JV} (h7:v.kind=7) (hl:v.keys.length=v.items.length) (hn:v.keys.Nodup) (hk:k ≤ v.keys.length):zcn (ziM k v)=zcn v:=by
 have e:(ziM k v).kind ≠ 6:=by show v.kind ≠ 6; omega
 rw [zh2,zh2,if_neg e,if_neg (by omega)]
 show JV.mk v.kind v.text (zcJ (rot k v.keys).length (rot k v.keys)) ((zcJ (rot k v.keys).length (rot k v.keys)).map fun key => ((zcv (rot k v.items))[zjz key (rot k v.keys)]?).getD jvZ)=_
 have hp:=zaO k v.keys
 have hl2:(rot k v.keys).length=(rot k v.items).length:=by rw [hp.length_eq,(zaO k v.items).length_eq,hl]
 rw [zh1 (l:=rot k v.items) (m:=v.items) (hp.nodup_iff.2 hn) hn hl2 hl hp,zgJ hp]
 intro i j h1 h2 he
 have g1:=zlr (l:=v.keys) hk h1
 have g2:=zlr (k:=k) (l:=v.items) (by omega) (j:=i) (by omega)
 rw [← hl] at g2
 generalize hf:(if i < v.keys.length - k then k + i else i - (v.keys.length - k))=f at g1 g2
 have hfl:f < v.keys.length:=by
  rw [hp.length_eq] at h1
  rw [← hf]; split <;> omega
 rw [List.getElem?_eq_getElem h1,List.getElem?_eq_getElem hfl,he] at g1
 have hij:j=f:=by
  have q1:=zbX hn h2
  have q2:=zbX hn hfl
  rw [Option.some.inj g1,q2] at q1
  exact q1.symm
 subst hij
 rw [List.getElem?_eq_getElem (by omega),List.getElem?_eq_getElem (by omega)] at g2
 rw [Option.some.inj g2]
theorem rot_wr {k:Nat} {v:JV} (h7:v.kind=7) (hl:v.keys.length=v.items.length) (hk:k ≤ v.keys.length) (hp:JKp v) (hs:v.size ≤ 80):wrE (ziM k v)=wrE v:=by
 unfold wrE
 rw [rot_val h7 (by omega)]
 cases hb:zfg v with
 | false => rfl
 | true =>
  have hr:=zlT hb hp hs
  obtain ⟨_,_,hn,_⟩:=obj_of hr.rd h7
  rw [rot_ord h7 hl hn hk]
theorem zdE:∀ (k:Nat) (l:List JV),(zac l).drop (k * 4)=zac (l.drop k)
 | 0,l => by rw [Nat.zero_mul]; rfl
 | k + 1,[] => by rw [List.drop_nil,zat,List.drop_nil]
 | k + 1,v :: l => by
  rw [List.drop_succ_cons,zax,← zdE k l,List.drop_append,List.drop_of_length_le (by rw [zbB]; omega),zbB,List.nil_append]
  congr 1
  omega
theorem zdD:∀ (k:Nat) (l:List JV),(zac l).take (k * 4)=zac (l.take k)
 | 0,l => by rw [Nat.zero_mul,List.take_zero,List.take_zero,zat]
 | k + 1,[] => by rw [List.take_nil,zat,List.take_nil]
 | k + 1,v :: l => by
  rw [List.take_succ_cons,zax,zax,← zdD k l,List.take_append,List.take_of_length_le (by rw [zbB]; omega),zbB]
  congr 2
  omega
section
variable [Tabs Tryz.prog] [Pow Tryz.prog] [Utf Tryz.prog]
theorem jsonwriteOrder_c (r0:RV) (w0:RVok r0) (n1:Int) (w1:(Lit.int .u8 n1).wf=true):zah Tryz.prog 6 [.agg (zdy r0),.i .u8 n1] [] (fun _ r => r=.b true):=by
 have hv:=rv_ok r0 w0
 rw [ziY]
 generalize rvJ r0=v at hv
 have hn1:0 ≤ n1 ∧ n1 ≤ 255:=by simpa [Lit.wf,IntKind.min,IntKind.max,IntKind.signed,IntKind.bits] using w1
 clear w1
 refine zbI is_law15_JsonwriteOrder (by simp only [zas,AV.plain,zbO,Bool.and_self]) fun C _ => ?_
 rw [c_law15_JsonwriteOrder]
 have hjv:=zaq v
 have k1:=fun {objs:List OB} {K:List OB → AV → Prop} (h:∀ b,(b=true → JKp v ∧ (v.size:Int) ≤ 40) → K objs (.b b)) => zhb v 40 hv (by decide) (by decide) (objs:=objs) (K:=K) h
 have k2:=fun {objs:List OB} {K:List OB → AV → Prop} (hp:JKp v) (hs:v.size ≤ 80) (h) => ziC v hv hp hs (objs:=objs) (K:=K) h
 rw [hjv] at k1 k2 ⊢
 refine zab fun Y hY => ?_
 simp only [sxZ,z6,z7,z8,j4,j5,j6,j7,j8,j9,x4,x5,x6,x7,x8,x9,reduceCtorEq,↓reduceIte]
 subst hY
 refine zab fun Y hY => ?_
 simp only [sxZ,z6,z7,z8,j4,j5,j6,j7,j8,j9,x4,x5,x6,x7,x8,x9,reduceCtorEq,↓reduceIte]
 refine zal (saneJw_k ?_)
 simp only [sxZ,z6,z7,z8,j4,j5,j6,j7,j8,j9,x4,x5,x6,x7,x8,x9,reduceCtorEq,↓reduceIte,Bool.not_true]
 subst hY
 refine zab fun Y hY => ?_
 simp only [sxZ,z6,z7,z8,j4,j5,j6,j7,j8,j9,x4,x5,x6,x7,x8,x9,reduceCtorEq,↓reduceIte]
 refine zal (k1 fun b' hb => ?_)
 cases b' with
 | false => simp only [sxZ,z6,z7,z8,j4,j5,j6,j7,j8,j9,x4,x5,x6,x7,x8,x9,reduceCtorEq,↓reduceIte,Bool.not_false]
 | true =>
 obtain ⟨hb,hs⟩:=hb rfl
 by_cases h7:v.kind=7
 rotate_left
 ·simp only [sxZ,z6,z7,z8,j4,j5,j6,j7,j8,j9,x4,x5,x6,x7,x8,x9,reduceCtorEq,↓reduceIte,Bool.not_true,h7]
 by_cases hl:v.keys.length=v.items.length
 rotate_left
 ·have hl2:¬ (v.keys.length:Int)=(v.items.length:Int):=by omega
  simp only [sxZ,z6,z7,z8,j4,j5,j6,j7,j8,j9,x4,x5,x6,x7,x8,x9,reduceCtorEq,↓reduceIte,Bool.not_true,h7,hl2]
 have hl2:(v.keys.length:Int)=(v.items.length:Int):=by omega
 by_cases h0:(v.items.length:Int)=0
 ·simp only [sxZ,z6,z7,z8,j4,j5,j6,j7,j8,j9,x4,x5,x6,x7,x8,x9,reduceCtorEq,↓reduceIte,Bool.not_true,h7,hl2,h0]
 simp only [sxZ,z6,z7,z8,j4,j5,j6,j7,j8,j9,x4,x5,x6,x7,x8,x9,reduceCtorEq,↓reduceIte,Bool.not_true,h7,hl2,h0]
 subst hY
 refine zab fun Y hY => ?_
 have hkk:(IntKind.i64.wrap n1).tmod (v.keys.length:Int)=((n1.toNat % v.keys.length:Nat):Int):=by
  rw [IntWalk.i64_in n1 (by omega)]
  obtain ⟨m,rfl⟩:=Int.eq_ofNat_of_zero_le hn1.1
  rfl
 have hkl:n1.toNat % v.keys.length < v.keys.length:=Nat.mod_lt _ (by omega)
 simp only [sxZ,z6,z7,z8,j4,j5,j6,j7,j8,j9,x4,x5,x6,x7,x8,x9,reduceCtorEq,↓reduceIte,hkk]
 refine ⟨by omega,?_⟩
 generalize n1.toNat % v.keys.length=k at hkl ⊢
 subst hY
 refine zab fun Y hY => ?_
 simp only [sxZ,z6,z7,z8,j4,j5,j6,j7,j8,j9,x4,x5,x6,x7,x8,x9,reduceCtorEq,↓reduceIte]
 subst hY
 refine zab fun Y hY => ?_
 simp only [sxZ,z6,z7,z8,j4,j5,j6,j7,j8,j9,x4,x5,x6,x7,x8,x9,reduceCtorEq,↓reduceIte]
 have hrk:List.drop (k * 1) (List.take (v.keys.length * 1) (List.map AV.s v.keys)) ++ List.take (k * 1) (List.map AV.s v.keys)=(rot k v.keys).map AV.s:=by
  unfold rot
  rw [Nat.mul_one,Nat.mul_one,List.take_of_length_le (by simp),List.map_append,List.map_drop,List.map_take]
 have hri:List.drop (k * 4) (List.take (v.items.length * 4) (zac v.items)) ++ List.take (k * 4) (zac v.items)=zac (rot k v.items):=by
  unfold rot
  rw [List.take_of_length_le (by rw [zaR]; exact Nat.le_refl _),zcA,zdE,zdD]
 have hkn:v.keys.length - k + k=v.keys.length:=by omega
 have hin:v.items.length - k + k=v.items.length:=by omega
 have hli:=zaR v.items
 have hsz:=size_eq v
 have hle:=zdC v.items
 rw [hrk,hkn]
 refine ⟨⟨by omega,by omega⟩,⟨by simp,by omega,by omega⟩,⟨by omega,by omega⟩,⟨by simp; omega,by omega,by omega⟩,?_⟩
 subst hY
 refine zab fun Y hY => ?_
 simp only [sxZ,z6,z7,z8,j4,j5,j6,j7,j8,j9,x4,x5,x6,x7,x8,x9,reduceCtorEq,↓reduceIte]
 rw [hri,hin]
 refine ⟨⟨by omega,by omega⟩,⟨by simp [hli]; omega,by omega,by omega⟩,⟨by omega,by omega⟩,⟨by simp [hli]; omega,by omega,by omega⟩,?_⟩
 subst hY
 refine zab fun Y hY => ?_
 simp only [sxZ,z6,z7,z8,j4,j5,j6,j7,j8,j9,x4,x5,x6,x7,x8,x9,reduceCtorEq,↓reduceIte]
 have hw:=fun {objs:List OB} {K:List OB → AV → Prop} (h) => ziC (ziM k v) (rot_ok hv) (rot_kp hb) (by rw [ziL]; omega) (objs:=objs) (K:=K) h
 rw [rot_wr h7 hl (by omega) hb (by omega)] at hw
 have hjw:zao (ziM k v)=[.i .i64 7,.s v.text,.row v.keys.length ((rot k v.keys).map .s),.row v.items.length (zac (rot k v.items))]:=by
  rw [zaq]
  show [AV.i .i64 v.kind,.s v.text,.row (rot k v.keys).length ((rot k v.keys).map .s),.row (rot k v.items).length (zac (rot k v.items))]=_
  rw [(zaO k v.keys).length_eq,(zaO k v.items).length_eq,h7]
 rw [hjw] at hw
 rw [h7] at k2
 generalize wrE v=E at k2 hw
 refine zal (k2 hb (by omega) ?_)
 simp only [sxZ,z6,z7,z8,j4,j5,j6,j7,j8,j9,x4,x5,x6,x7,x8,x9,reduceCtorEq,↓reduceIte]
 subst hY
 refine zab fun Y hY => ?_
 simp only [sxZ,z6,z7,z8,j4,j5,j6,j7,j8,j9,x4,x5,x6,x7,x8,x9,reduceCtorEq,↓reduceIte]
 refine zal (zhw (E1:=9) (s1:=1) (n1:=v.keys.length) (xs1:=(rot k v.keys).map .s) (E2:=25) (s2:=4) (n2:=v.items.length) (xs2:=zac (rot k v.items)) (xs2':=zac (rot k v.items)) (A:=[]) (B:=[]) (A':=[]) (B':=[]) (r:=.tup [.s E.1,.i .i64 E.2]) (.inr ⟨2,1,rfl,rfl⟩) ⟨by simp,fun x hx => by
   simp only [List.mem_cons,List.not_mem_nil,or_false,List.nil_append,List.append_nil] at hx
   rcases hx with rfl; rfl⟩ (zfT _) (.inr ⟨3,1,rfl,rfl⟩) ⟨by simp,fun x hx => by
   simp only [List.mem_cons,List.not_mem_nil,or_false,List.nil_append,List.append_nil] at hx
   rcases hx with rfl; rfl⟩ (zcQ _) (fun _ _ h => h) rfl ?_ (hw rfl))
 simp only [sxZ,z6,z7,z8,j4,j5,j6,j7,j8,j9,x4,x5,x6,x7,x8,x9,reduceCtorEq,↓reduceIte]
 subst hY
 simp only [sxZ,z6,z7,z8,j4,j5,j6,j7,j8,j9,x4,x5,x6,x7,x8,x9,reduceCtorEq,↓reduceIte]
end
end
end Go.Proofs.YtadhjoggdbhkgaaGreatDoor
namespace Go.Proofs.YtadhjoggdbhkgaaGreatDoor
open Go.RowKit Sx
theorem zcZ {P:Program} {w w':World} {name:String} {k:IntKind} {zs:List Int} (h:Lib.TabIs P w name k zs) (hk:∀ k,k < w.heap.size → w'.heap[k]? = w.heap[k]?):Lib.TabIs P w' name k zs:=by
 unfold Lib.TabIs World.var? at *
 cases hg:P.globalNamed name with
 | none => simp [hg] at h
 | some g =>
  simp only [hg,Option.bind_some] at h ⊢
  have hlt:g < w.heap.size:=by
   rcases Nat.lt_or_ge g w.heap.size with h' | h'
   ·exact h'
   ·rw [Array.getElem?_eq_none h'] at h; simp at h
  rw [hk g hlt]
  exact h
instance tabsN : Tabs Tryz.prog := ⟨fun w => w.ShapedOpen Tryz.prog ∧ Lib.TabIs Tryz.prog w "internal/strconv.uint64pow10" .u64 Lib.pow10Tab, fun _ _ h hk _ => ⟨zeE h.1 hk, zcZ h.2 hk⟩⟩
instance tabsN_shp:Shp Tryz.prog:=⟨fun _ h => h.1⟩
instance tabsN_pow:Pow Tryz.prog:=⟨fun _ h => h.2⟩
end Go.Proofs.YtadhjoggdbhkgaaGreatDoor
namespace Go.Proofs.YtadhjoggdbhkgaaGreatDoor
open Go.RowKit Sx
theorem utabs_of {w : World} (h0 : Lib.TabIs Tryz.prog w "webfinger/utf8text.lengths" .i64 lensT) (h1 : Lib.TabIs Tryz.prog w "webfinger/utf8text.mosts" .i64 mostT) : UTabs w :=
 ⟨fun i hi => h0.cell (by kernel_rfl) i hi,fun i hi => h1.cell (by kernel_rfl) i hi⟩
instance (priority := high) tabsU : Tabs Tryz.prog := ⟨fun w => w.ShapedOpen Tryz.prog ∧ Lib.TabIs Tryz.prog w "internal/strconv.uint64pow10" .u64 Lib.pow10Tab ∧ Lib.TabIs Tryz.prog w "webfinger/utf8text.lengths" .i64 lensT ∧ Lib.TabIs Tryz.prog w "webfinger/utf8text.mosts" .i64 mostT, fun _ _ h hk _ => ⟨zeE h.1 hk, zcZ h.2.1 hk, zcZ h.2.2.1 hk, zcZ h.2.2.2 hk⟩⟩
instance (priority:=high) tabsU_shp:Shp Tryz.prog:=⟨fun _ h => h.1⟩
instance (priority:=high) tabsU_pow:Pow Tryz.prog:=⟨fun _ h => h.2.1⟩
instance (priority:=high) tabsU_utf:Utf Tryz.prog:=⟨fun _ h => utabs_of h.2.2.1 h.2.2.2⟩
end Go.Proofs.YtadhjoggdbhkgaaGreatDoor
