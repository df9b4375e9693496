/- The texts that the proofs of these statements reach, in their order, as few files. -/
import Derived.Shelf.Strings.Builder1
import Derived.Shelf.Strings.Builder2
import Derived.Shelf.Small.Utf8
import Derived.Shelf.Small.Strs
import Derived.Shelf.Small.Wraps
import Derived.Shelf.Strings.BuilderF
import Derived.Shelf.Strings.BuilderK
import Derived.Shelf.Utf8.RuneCount
import Derived.Shelf.Strings.Builder2Cap
import Derived.Shelf.Strconv.Itoa0
import Derived.Shelf.Strconv.Itoa1
import Derived.Shelf.LaysM
import Derived.Shelf.Strconv.Itoa2
import Derived.Shelf.Strconv.Itoa3
import Derived.Shelf.Strings.Search1
import Derived.Shelf.Strings.Search2
import Derived.Shelf.Strings.Search3
import Derived.Shelf.Strings.Cut
import Derived.Shelf.Strings.Count
import Derived.Shelf.Strings.Shaped
import Derived.Shelf.Strings.Prefix
import Derived.Shelf.Strings.Split
import Derived.Shelf.Strings.Replace
import Derived.Shelf.Strings.SplitShaped
import Derived.Shelf.Unicode.Decode
import Derived.Shelf.Strings.Runes
import Derived.Shelf.Strings.RuneCount
import Derived.Shelf.Strings.IndexAny
import Derived.Shelf.Strings.AsciiSet
import Derived.Shelf.Strings.IndexAnyAll
import Derived.Shelf.Strings.Explode
import Derived.Shelf.Unicode.DecodeSlow
import Derived.Shelf.Unicode.DecodeAny
import Derived.Shelf.Strings.BuilderCap
import Derived.Test.YtbeoijfmfkifeaaGreatDoorProg
import Derived.WalkKit
import Derived.WalkLawsBesides
import Derived.WalkSmall
import Derived.WalkSpells
import Derived.Lib.Hide
import Derived.Lib.IndexAny
import Derived.ShutString
import Derived.Lib.Strings
import Derived.Deep.QuietTactic
import Derived.BigQuiet
import Derived.Laws.BytesArg
import Derived.Laws.IdiomStrings
import Derived.Lib.ConvBytes
import Derived.Lib.AppendStr
import Derived.Lib.LaidTab
import Derived.Lib.ItoaNum
import Derived.ChangeAgain
import Derived.Laws.Rows
import Derived.Lib.ItoaMem
import Derived.Lib.ItoaLen
import Derived.Lib.Walk
import Derived.Lib.ItoaWalk
import Derived.Lib.AppendIntMem
import Derived.BigCall
import Derived.BigGuard
import Derived.Test.YtbeoijfmfkifeaaGreatDoorCk3
set_option linter.unusedVariables false
set_option linter.unusedSimpArgs false
set_option maxRecDepth 100000
namespace Go.Proofs.YtbeoijfmfkifeaaGreatDoor.Sx
open Go.RowKit
def zdb (b gen n:Nat) (xs:List AV):AV → AV
 | .orow b' g' => if b'=b ∧ g'=gen then .row n xs else .orow b' g'
 | x => x
def subOB (b gen n:Nat) (xs:List AV):OB → OB
 | .box T cs => .box T (cs.map (zdb b gen n xs))
 | x => x
def pubO (objs:List OB) (b gen n:Nat) (xs:List AV):List OB:=(objs.map (subOB b gen n xs)).set b .dead
def zeg (G:Gh) (b gen:Nat):Gh:=⟨G.blk,fun x => if x=b then some (gen + 1,.slice none 0 0) else G.cur x⟩
theorem zeR {G:Gh} {b gen:Nat} {v:Value} (h:G.cur b=some (gen,v)):G.le (zeg G b gen) where
 blk:=fun _ _ h => h
 cur:=fun x n w hx => by
  by_cases hb:x=b
  ·subst hb
   rw [h] at hx; injection hx with hx; injection hx with h1 h2
   exact ⟨gen + 1,.slice none 0 0,by simp [zeg],.inr (by omega)⟩
  ·exact ⟨n,w,by simp [zeg,hb,hx],.inl ⟨rfl,rfl⟩⟩
theorem zb1 {G:Gh} {b gen:Nat} (hb:G.blk b=none) {x g:Nat} (h:(zeg G b gen).own x=some g):x ≠ b ∧ G.own x=some g:=by
 by_cases hx:x=b
 ·subst hx
  exfalso
  unfold Gh.own zeg at h
  simp only [hb] at h
  simp [Value.ownBlock] at h
 ·refine ⟨hx,?_⟩
  unfold Gh.own zeg at h
  simp only [if_neg hx] at h
  exact h
def zg7 (I:Imm) (G:Gh) (b:Nat) (w:World):Imm:=fun g o v => I g o v ∨ (w.cell? ⟨g,o,none⟩=some v ∧ G.own b=some g)
theorem zjL {G:Gh} {I:Imm} {objs:List OB} {w:World} (hm:MemOk G I objs w) {b E sz gen n:Nat} {xs:List AV} (hb:objs[b]? = some (.orow E sz gen n xs)) (x:AV) (y:Value) (h:Den G I x y):Den (zeg G b gen) (zg7 I G b w) (zdb b gen n xs x) y:=by
 obtain ⟨v',vs,m1,m2,m3,m4,m5⟩:=hm.row b E sz gen n xs hb
 have hG:=zeR m1
 have hI:Imm.le I (zg7 I G b w):=fun _ _ _ h => .inl h
 have other:zdb b gen n xs x=x → Den (zeg G b gen) (zg7 I G b w) (zdb b gen n xs x) y:=fun e => by rw [e]; exact Den.mono hG hI x y h
 cases x with
 | orow b' g' =>
  by_cases hh:b'=b ∧ g'=gen
  ·obtain ⟨rfl,rfl⟩:=hh
   have e:zdb b' g' n xs (.orow b' g')=.row n xs:=by simp [zdb]
   rw [e]
   simp only [Den] at h ⊢
   obtain ⟨g0,v,k1,k2,k3,_⟩:=h
   rw [k1] at m1; injection m1 with m1; injection m1 with m1 m6
   have hv:=k3 m1.symm
   subst m1 m6 hv
   have hown:=zaH m5 k1
   have q1:=zac.mono hG hI xs vs m3
   rcases m2.2 with ⟨rfl,rfl⟩ | ⟨g,cap,cur,rfl,hx1,hx2,hx3,hx4⟩
   ·have hvs:vs=[]:=List.eq_nil_of_length_eq_zero (by simpa using m2.1)
    subst hvs
    exact ⟨none,0,[],rfl,⟨Nat.le_refl _,by intro _ e; cases e⟩,q1,by simp,by simp⟩
   ·refine ⟨some ⟨g,0,none⟩,cap,vs,rfl,⟨hx3,by rintro _ ⟨⟩ _; rfl⟩,q1,m4,fun j u hj => ⟨g,0,rfl,.inr ⟨?_,hown⟩⟩⟩
    have:=m2.cells (g:=g) rfl j u hj
    rwa [zam] at this
  ·exact other (by simp only [zdb,if_neg hh])
 | _ => exact other rfl
theorem zdW {G:Gh} {I:Imm} {objs:List OB} {w:World} (hm:MemOk G I objs w) {b E sz gen n:Nat} {xs:List AV} (hb:objs[b]? = some (.orow E sz gen n xs)):∀ (l:List AV) (ys:List Value),zac G I l ys → zac (zeg G b gen) (zg7 I G b w) (l.map (zdb b gen n xs)) ys
 | [],ys,h => by simpa [zac] using h
 | x :: l,ys,h => by
  simp only [zac] at h
  obtain ⟨y,ys',rfl,h1,h2⟩:=h
  exact zac.cons (zjL hm hb x y h1) (zdW hm hb l ys' h2)
theorem mem_pub {P:Program} [Tabs P] {C:Cx} {G:Gh} {I:Imm} {w:World} {objs:List OB} {b E sz gen n:Nat} {xs:List AV} (hb:objs[b]? = some (.orow E sz gen n xs)) (hin:In C G I w) (hm:MemOk G I objs w) :
  In C (zeg G b gen) (zg7 I G b w) w ∧ MemOk (zeg G b gen) (zg7 I G b w) (pubO objs b gen n xs) w:=by
 obtain ⟨v',vs,m1,m2,m3,m4,m5⟩:=hm.row b E sz gen n xs hb
 have hlt:b < objs.length:=by
  by_cases h:b < objs.length
  ·exact h
  ·rw [List.getElem?_eq_none (by omega)] at hb; cases hb
 have hG:=zeR m1
 have hI:Imm.le I (zg7 I G b w):=fun _ _ _ h => .inl h
 have hin':In C (zeg G b gen) (zg7 I G b w) w:={
  os:=hin.os,tape:=hin.tape,output:=hin.output,size:=hin.size,block:=hin.block
  imm:=fun g o v h => .inl (hin.imm g o v h)
  news:=fun g o v h => by
   rcases h with h | ⟨_,h⟩
   ·exact hin.news g o v h
   ·exact .inr (hin.blk b g h)
  blk:=fun x g h => hin.blk x g (zb1 m5 h).2
  gh:=hin.gh.trans hG }
 have hat:∀ x o,(pubO objs b gen n xs)[x]? = some o → o=.dead ∨ (x ≠ b ∧ ∃ o',objs[x]? = some o' ∧ subOB b gen n xs o'=o):=by
  intro x o h
  unfold pubO at h
  by_cases hx:x=b
  ·subst hx
   rw [List.getElem?_set_self (by simpa using hlt)] at h
   injection h with h; exact .inl h.symm
  ·rw [List.getElem?_set_ne (Ne.symm hx),List.getElem?_map] at h
   obtain ⟨o',h1,h2⟩:=Option.map_eq_some_iff.1 h
   exact .inr ⟨hx,o',h1,h2⟩
 have hm':MemOk (zeg G b gen) (zg7 I G b w) (pubO objs b gen n xs) w:={
  imm:=fun g o v h => by
   rcases h with h | ⟨h,_⟩
   ·exact hm.imm g o v h
   ·exact h
  box:=fun x T cs h => by
   rcases hat x _ h with h | ⟨hx,o',h1,h2⟩
   ·cases h
   ·cases o' with
    | box T' cs' =>
     injection h2 with e1 e2
     subst e1 e2
     obtain ⟨g,ys,k1,k2,k3,k4⟩:=hm.box x _ _ h1
     exact ⟨g,ys,k1,k2,zdW hm hb _ _ k3,k4⟩
    | orow => cases h2
    | mpk => cases h2
    | dead => cases h2
  row:=fun x E' sz' gen' n' xs' h => by
   rcases hat x _ h with h | ⟨hx,o',h1,h2⟩
   ·cases h
   ·cases o' with
    | box T' cs' => cases h2
    | orow =>
     injection h2 with e1 e2 e3 e4 e5
     subst e1 e2 e3 e4 e5
     obtain ⟨v,ys,k1,k2,k3,k4,k5⟩:=hm.row x _ _ _ _ _ h1
     exact ⟨v,ys,by simp [zeg,hx,k1],k2,zac.mono hG hI _ _ k3,k4,k5⟩
    | mpk => cases h2
    | dead => cases h2
  map:=fun x hh es h => by
   rcases hat x _ h with h | ⟨hx,o',h1,h2⟩
   ·cases h
   ·cases o' with
    | box T' cs' => cases h2
    | orow => cases h2
    | mpk =>
     injection h2 with e1 e2
     subst e1 e2
     obtain ⟨g,en,ck,k1,k2,k3⟩:=hm.map x _ _ h1
     exact ⟨g,en,ck,k1,k2,k3.mono hG hI⟩
    | dead => cases h2
  inj:=fun x x' g h h' => hm.inj x x' g (zb1 m5 h).2 (zb1 m5 h').2
  lt:=fun x g h => hm.lt x g (zb1 m5 h).2
  apart:=fun x g o v h h' => by
   obtain ⟨hx,h1⟩:=zb1 m5 h
   rcases h' with h' | ⟨_,h'⟩
   ·exact hm.apart x g o v h1 h'
   ·exact hx (hm.inj x b g h1 h')
  fresh:=fun x hx => by
   have hx':objs.length ≤ x:=by simpa [pubO] using hx
   obtain ⟨k1,k2⟩:=hm.fresh x hx'
   exact ⟨k1,by simp [zeg,k2]; omega⟩ }
 exact ⟨hin',hm'⟩
end Go.Proofs.YtbeoijfmfkifeaaGreatDoor.Sx
namespace Go.Proofs.YtbeoijfmfkifeaaGreatDoor.Sx
open Go.RowKit
def zgK (b gen n:Nat) (xs:List AV):AV → AV
 | .agg cs => .agg (cs.map (zdb b gen n xs))
 | x => zdb b gen n xs x
theorem den_sub2 {G:Gh} {I:Imm} {objs:List OB} {w:World} (hm:MemOk G I objs w) {b E sz gen n:Nat} {xs:List AV} (hb:objs[b]? = some (.orow E sz gen n xs)) (x:AV) (y:Value) (h:Den G I x y):Den (zeg G b gen) (zg7 I G b w) (zgK b gen n xs x) y:=by
 cases x with
 | agg cs =>
  simp only [Den,zgK] at h ⊢
  obtain ⟨ys,h1,h2,h3⟩:=h
  exact ⟨ys,h1,zdW hm hb cs ys h2,h3⟩
 | _ => exact zjL hm hb _ y h
theorem zey {G:Gh} {I:Imm} {objs:List OB} {w:World} (hm:MemOk G I objs w) {b E sz gen n:Nat} {xs:List AV} (hb:objs[b]? = some (.orow E sz gen n xs)):∀ (l:List AV) (ys:List Value),zac G I l ys → zac (zeg G b gen) (zg7 I G b w) (l.map (zgK b gen n xs)) ys
 | [],ys,h => by simpa [zac] using h
 | x :: l,ys,h => by
  simp only [zac,List.map_cons] at h ⊢
  obtain ⟨y,ys',h1,h2,h3⟩:=h
  exact ⟨y,ys',h1,den_sub2 hm hb x y h2,zey hm hb l ys' h3⟩
theorem zfa {P:Program} [Tabs P] {f:FuncId} {args:List AV} {objs:List OB} {K:List OB → AV → Prop} {b E sz gen n:Nat} {xs:List AV} (hb:objs[b]? = some (.orow E sz gen n xs)) (hc:zae P f (args.map (zgK b gen n xs)) (pubO objs b gen n xs) K):zae P f args objs K:=by
 intro C _ G I w hin hm ys hd
 obtain ⟨v',vs,m1,m2,m3,m4,m5⟩:=hm.row b E sz gen n xs hb
 have hG:=zeR m1
 have hI:Imm.le I (zg7 I G b w):=fun _ _ _ h => .inl h
 obtain ⟨hin',hm'⟩:=mem_pub (P:=P) hb hin hm
 refine (hc C _ _ w hin' hm' ys (zey hm hb _ _ hd)).mono ?_
 rintro e w' ⟨y,objs',r,G',I',he,hk,h1,h2,h3,h4,hy⟩
 exact ⟨y,objs',r,G',I',he,hk,hG.trans h1,fun g o v h => h2 g o v (hI g o v h),h3,h4,hy⟩
end Go.Proofs.YtbeoijfmfkifeaaGreatDoor.Sx
/-
 DERIVED: THE SHELF's CONTRACTS AT THIS DUMP,IN PLAIN WORDS (tools/lay-plain.mjs out of 'TryzShelf.lean',which tools/lay-shelf.mjs wrote): THE SAME DECLARATIONS UNDER THE SAME NAMES: 'import','namespace','open','def','theorem' AND NOTHING ELSE: no command of the shelf's: FOR A HAND-IN. Each laying: the table of numbers ('.._ren') and one theorem,a field a fact of the dump's own or the kernel's comparison; each contract: ONE APPLICATION.
-/
namespace Go.Proofs
open Go.Shelf
def Tryz.lays219_ren:Go.Shelf.Ren:=⟨fun | 219 => 155 | 217 => 189 | 225 => 190 | 224 => 191 | 267 => 192 | 266 => 215 | 314 => 216 | n => n,fun | 9 => 9 | 3 => 3 | 4 => 4 | 5 => 5 | 46 => 128 | 146 => 211 | 51 => 210 | n => n,fun | 1 => 0 | n => n⟩
theorem Tryz.lays219:Go.Proofs.Lays.n219 Tryz.prog Tryz.lays219_ren:={
 mixed:=by kernel_rfl
 f217:=Tryz.func189.trans (congrArg some (by kernel_rfl))
 f219:=Tryz.func155.trans (congrArg some (by kernel_rfl))
 f224:=Tryz.func191.trans (congrArg some (by kernel_rfl))
 f225:=Tryz.func190.trans (congrArg some (by kernel_rfl))
 f266:=Tryz.func215.trans (congrArg some (by kernel_rfl))
 f267:=Tryz.func192.trans (congrArg some (by kernel_rfl))
 f314:=Tryz.func216.trans (congrArg some (by kernel_rfl))
 t3:=Tryz.underlying3
 a3:=Tryz.isAgg3
 z3:=Tryz.sizeOf3
 v3:=Tryz.zeroValue3
 t4:=Tryz.underlying4
 a4:=Tryz.isAgg4
 z4:=Tryz.sizeOf4
 v4:=Tryz.zeroValue4
 t5:=Tryz.underlying5
 a5:=Tryz.isAgg5
 z5:=Tryz.sizeOf5
 v5:=Tryz.zeroValue5
 t9:=Tryz.underlying9
 a9:=Tryz.isAgg9
 z9:=Tryz.sizeOf9
 v9:=Tryz.zeroValue9
 t46:=Tryz.underlying128
 a46:=Tryz.isAgg128
 z46:=Tryz.sizeOf128
 v46:=Tryz.zeroValue128
 t51:=Tryz.underlying210
 a51:=Tryz.isAgg210
 z51:=Tryz.sizeOf210
 v51:=Tryz.zeroValue210
 t146:=Tryz.underlying211
 a146:=Tryz.isAgg211
 z146:=Tryz.sizeOf211
 v146:=Tryz.zeroValue211
 g1:=by kernel_rfl }
open Go.RowKit Go.Lib in
/-- internal/stringslite.Index (what strings.Index calls) AT A substr OF ONE BYTE c: IT RETURNS 'Lib.indexByte s c'; the world is as it was. (LAID: no walk: one application.) -/
theorem Tryz.stringslite_Index_one (s:ByteArray) (c:UInt8) (w:World) :
  Calls Tryz.prog 155 #[.string s,.string ⟨#[c]⟩] w fun e w' => e=.returned (.int .i64 (Lib.indexByte s.data.toList c)) ∧ w'=w:=Any.stringslite_Index_one Tryz.lays219 s c w
end Go.Proofs
namespace Go.Proofs.YtbeoijfmfkifeaaGreatDoor
open Go.RowKit
theorem dd {p q:Prop} [Decidable p] [Decidable q] (h:p ↔ q):decide p=decide q:=decide_eq_decide.2 h
abbrev S (l:List UInt8):ByteArray:=⟨l.toArray⟩
theorem S_size (l:List UInt8):(S l).size=l.length:=size_of_list l
theorem S_of (s:ByteArray):S s.data.toList=s:=rfl
theorem zaK (s:ByteArray):s.data.toList.length=s.size:=rfl
theorem zjh (s:ByteArray) (k:Nat) (h:k < s.size):s.data.toList.getD k 0=s[k]:=by
 rw [List.getD_eq_getElem?_getD,List.getElem?_eq_getElem (by rw [zaK]; exact h)]; rfl
theorem zhp (s:ByteArray) (k:Nat) (h:k < s.size):s.data.toList.take (k + 1)=s.data.toList.take k ++ [s[k]]:=by
 rw [List.take_succ_eq_append_getElem (by simpa using h)]; rfl
theorem zer (s:ByteArray) (k:Nat) (h:k < s.size):s.data.toList.drop k=s[k] :: s.data.toList.drop (k + 1):=by
 rw [List.drop_eq_getElem_cons (by simpa using h)]; rfl
def Qb (w w':World):Prop:=Below w.heap.size w w'
theorem Qb.refl (w:World):Qb w w:=Below.refl _ _
theorem Qb.trans {a b c:World} (h:Qb a b) (k:Qb b c):Qb a c:=Below.trans h (Below.mono k h.size)
theorem Qb.alloc {a b:World} (h:Qb a b) (o:Obj):Qb a (b.alloc o):=Below.alloc h h.size o
theorem Qb.drew {a b:World} (h:Qb a b):Qb a b.drew:=Below.drew h
theorem Qb.drewN {a b:World} (h:Qb a b) (n:Nat):Qb a (b.drewN n):=below_drewN h n
theorem Qb.set {a b:World} (h:Qb a b) {p:Addr} (hp:a.heap.size ≤ p.block) (u:Value):Qb a (b.setCell p u):=Below.setCell h hp u
theorem Qb.grown {a b c:World} (h:Qb a b) {row:Option Nat} (hg:b.grownBy c row) (hr:∀ k,row=some k → a.heap.size ≤ k):Qb a c:=Below.grown h hg h.size hr
theorem Qb.size {a b:World} (h:Qb a b):a.heap.size ≤ b.heap.size:=Below.size h
end Go.Proofs.YtbeoijfmfkifeaaGreatDoor
namespace Go.Proofs.YtbeoijfmfkifeaaGreatDoor
open Go.RowKit
def ziP (c:UInt8):Bool:=decide (65 ≤ c.toNat ∧ c.toNat ≤ 90)
def lowB (c:UInt8):UInt8:=if ziP c then c + 32 else c
end Go.Proofs.YtbeoijfmfkifeaaGreatDoor
namespace Go.Proofs.YtbeoijfmfkifeaaGreatDoor
open Go.RowKit
def bv (l:List UInt8):List Value:=l.map fun c => .int .u8 c.toNat
theorem zjT (l:List UInt8):(bv l).length=l.length:=by simp [bv]
theorem bv_set (l:List UInt8) (i:Nat) (c:UInt8):(bv l).set i (.int .u8 c.toNat)=bv (l.set i c):=by simp [bv,List.map_set]
theorem bv_get (l:List UInt8) (i:Nat) (h:i < l.length):(bv l)[i]? = some (.int .u8 l[i].toNat):=by simp [bv,h]
def zcI (w:World) (base:Nat) (v:Value) (l:List UInt8):Prop:=w.ownsRow base 5 1 v l.length (bv l)
theorem zcI.nil (w:World) (base:Nat):zcI w base (.slice none 0 0) []:=World.ownsRow_nil w base _ _
theorem zcI.drew {w:World} {base:Nat} {v:Value} {l:List UInt8} (h:zcI w base v l):zcI w.drew base v l:=h
theorem zcI.drewN {w:World} {base:Nat} {v:Value} {l:List UInt8} (h:zcI w base v l) (n:Nat):zcI (w.drewN n) base v l:=h
theorem zcI.alloc {w:World} {base:Nat} {v:Value} {l:List UInt8} (h:zcI w base v l) (o:Obj):zcI (w.alloc o) base v l:=World.ownsRow.alloc h o
theorem zcI.cell {w:World} {B g n cap:Nat} {l:List UInt8} (h:zcI w B (.slice (some ⟨g,0,none⟩) n cap) l) (j:Nat) (hj:j < l.length):w.cell? ⟨g,j,none⟩=some (.int .u8 l[j].toNat):=by
 have h':=h
 rcases h'.2 with ⟨e,_⟩ | ⟨g',cap',cur,e,_⟩
 ·simp at e
 ·simp only [Value.slice.injEq] at e
  obtain ⟨_,rfl,_⟩:=e
  rw [World.ownsRow.cellAt (h:World.ownsRow _ _ _ _ _ _ _) j (by omega),bv_get l j hj]
theorem zcI.frozen {w:World} {B g n cap:Nat} {l:List UInt8} (h:zcI w B (.slice (some ⟨g,0,none⟩) n cap) l) (j:Nat):w.frozen? ⟨g,j,none⟩=false:=by
 have h':=h
 rcases h'.2 with ⟨e,_⟩ | ⟨g',cap',cur,e,_⟩
 ·simp at e
 ·simp only [Value.slice.injEq] at e
  obtain ⟨_,rfl,_⟩:=e
  exact World.ownsRow.frozenAt (h:World.ownsRow _ _ _ _ _ _ _) j
theorem zcI.stored {w:World} {B g n cap:Nat} {l:List UInt8} (h:zcI w B (.slice (some ⟨g,0,none⟩) n cap) l) (j:Nat) (c:UInt8) :
  zcI (w.setCell ⟨g,j,none⟩ (.int .u8 c.toNat)) B (.slice (some ⟨g,0,none⟩) n cap) (l.set j c):=by
 have h':=h
 rcases h'.2 with ⟨e,_⟩ | ⟨g',cap',cur,e,_⟩
 ·simp at e
 ·simp only [Value.slice.injEq] at e
  obtain ⟨_,rfl,_⟩:=e
  have:=(World.ownsRow.stored (h:World.ownsRow _ _ _ _ _ _ _) j (.int .u8 c.toNat)).1
  unfold zcI
  rw [← bv_set,List.length_set]
  exact this
def Crow (w:World) (g:Nat) (l:List UInt8):Prop:=∀ j (h:j < l.length),w.cell? ⟨g,j,none⟩=some (.int .u8 l[j].toNat) ∧ w.frozen? ⟨g,j,none⟩=false
theorem zam (g j:Nat):(⟨g,0,none⟩:Addr).add j=⟨g,j,none⟩:=by unfold Addr.add; split <;> simp_all
theorem Crow.str {w:World} {g:Nat} {l:List UInt8} (h:Crow w g l) (n cap:Nat) (hn:n=l.length) :
  (convert 25 9 (.slice (some ⟨g,0,none⟩) n cap)).run Tryz.prog w=.ok (.string ⟨l.toArray⟩) w:=by
 subst hn
 exact run_convert_bytes_back w _ _ 5 _ cap l Tryz.underlying25 Tryz.underlying5 Tryz.underlying9 (fun j hj => by rw [zam]; exact (h j hj).1)
theorem Crow.stored {w:World} {g:Nat} {l:List UInt8} (h:Crow w g l) (k:Nat) (hk:k < l.length) (c:UInt8) :
  Crow (w.setCell ⟨g,k,none⟩ (.int .u8 c.toNat)) g (l.set k c):=by
 intro j hj
 rw [List.length_set] at hj
 refine ⟨?_,(World.frozen?_setCell _ _ _ _).trans (h j hj).2⟩
 by_cases e:k=j
 ·subst e
  rw [World.cell?_setCell_same _ _ _ (h k hj).1]
  simp
 ·rw [World.cell?_setCell_other _ _ _ _ (fun e2 => e (by injection e2)),(h j hj).1]
  simp [e]
theorem ze8 (w:World) (s:ByteArray):Crow (Lib.bytesWorld w 5 s) w.heap.size s.data.toList:=by
 intro j hj
 rw [zaK] at hj
 refine ⟨?_,?_⟩
 ·rw [Lib.bytesWorld_cell w _ s j hj,zjh s j hj]; rfl
 ·have hs:(Lib.bytesCells w 5 s).size ≠ j:=by
   have:s.size ≤ (Lib.bytesCells w 5 s).size:=by
    simp only [Lib.bytesCells,Array.size_append,Array.size_map]
    exact Nat.le_add_right _ _
   omega
  simp [World.frozen?,Lib.bytesWorld_at_new]
  omega
theorem zdH (w:World) (e:TypeId) (s:ByteArray):Qb w (Lib.bytesWorld w e s):=by
 refine ⟨rfl,rfl,rfl,by rw [Lib.bytesWorld_size]; omega,fun k hk => Lib.bytesWorld_at_old w e s k hk⟩
theorem zgZ (s:ByteArray) (w:World) :
  (convert 9 25 (.string s)).run Tryz.prog w=.ok (.slice (some ⟨w.heap.size,0,none⟩) s.size (grownCap w s.size 0 5)) (Lib.bytesWorld w 5 s) :=
 Lib.run_convert_string_bytes w _ _ _ s Tryz.underlying9 Tryz.underlying25 Tryz.underlying5
end Go.Proofs.YtbeoijfmfkifeaaGreatDoor
namespace Go.Proofs.YtbeoijfmfkifeaaGreatDoor
open Go.RowKit
def zd4 (l:List UInt8):List UInt8:=l.map lowB
theorem take_all (s:ByteArray) (k:Nat) (h:¬ k < s.size):s.data.toList.take k=s.data.toList:=List.take_of_length_le (by rw [zaK]; omega)
theorem zfJ (s:ByteArray) (k:Nat) (hk:k < s.size) :
  (zd4 (s.data.toList.take k) ++ s.data.toList.drop k).set k (lowB s[k])=zd4 (s.data.toList.take (k + 1)) ++ s.data.toList.drop (k + 1):=by
 have h1:(zd4 (s.data.toList.take k)).length=k:=by simp only [zd4,List.length_map,List.length_take,zaK]; omega
 rw [List.set_append_right _ _ (by omega),h1,Nat.sub_self,zer s k hk,List.set_cons_zero,zhp s k hk]
 simp only [zd4,List.map_append,List.map_cons,List.map_nil,List.append_assoc,List.singleton_append]
theorem zfK (s:ByteArray) (k:Nat) (hk:k < s.size) (h:k < (zd4 (s.data.toList.take k) ++ s.data.toList.drop k).length) :
  (zd4 (s.data.toList.take k) ++ s.data.toList.drop k)[k]'h=s[k]:=by
 have h1:(zd4 (s.data.toList.take k)).length=k:=by simp only [zd4,List.length_map,List.length_take,zaK]; omega
 rw [List.getElem_append_right (by omega)]
 simp only [h1,Nat.sub_self]
 simp only [zer s k hk,List.getElem_cons_zero]
theorem lowB_cap {c:UInt8} (h1:65 ≤ (c.toNat:Int)) (h2:(c.toNat:Int) ≤ 90):((c.toNat:Int) + 32) % 256=((lowB c).toNat:Int):=by
 have:ziP c=true:=by unfold ziP; exact decide_eq_true (by omega)
 simp [lowB,this,UInt8.toNat_add]
theorem zim {c:UInt8} (h1:65 ≤ (c.toNat:Int)) (h2:(c.toNat:Int) ≤ 90):((c.toNat:Int) + 32)=((lowB c).toNat:Int):=by
 rw [← lowB_cap h1 h2]; omega
theorem zfL {c:UInt8} (h:¬ (65 ≤ (c.toNat:Int) ∧ (c.toNat:Int) ≤ 90)):lowB c=c:=by
 have:ziP c=false:=by unfold ziP; exact decide_eq_false (by omega)
 simp [lowB,this]
theorem zgS (s:ByteArray) (w:World) (hs:s.size ≤ 140737488351232) :
  Calls Tryz.prog 48 #[.string s] w fun e w' => e=.returned (.string (S (zd4 s.data.toList))) ∧ Qb w w':=by
 have hcv:=zgZ s
 go_enter Tryz.func48,Tryz.ntmps48
 go_wp2_with fail
 clear hcv
 go_loopw [4,9] (fun _ i wr => ∃ k:Nat,k ≤ s.size ∧ i=.int .i64 k ∧ Crow wr w.heap.size (zd4 (s.data.toList.take k) ++ s.data.toList.drop k) ∧ Qb w wr) (fun _ i _ => s.size - (intOf i).toNat)
 case atStart => exact ⟨0,Nat.zero_le _,rfl,ze8 w s,zdH w _ s⟩
 case round =>
  obtain ⟨k,hk,rfl,hrow,hq⟩:=hrel
  by_cases hlt:k < s.size
  ·have hlen:k < (zd4 (s.data.toList.take k) ++ s.data.toList.drop k).length:=by simp only [zd4,List.length_append,List.length_map,List.length_take,List.length_drop,zaK]; omega
   obtain ⟨hc,hf⟩:=hrow k hlen
   rw [zfK s k hlt] at hc
   have hrow':=hrow.stored k hlen (lowB s[k])
   rw [zfJ s k hlt] at hrow'
   have hsame:lowB s[k]=s[k] → Crow wr w.heap.size (zd4 (s.data.toList.take (k + 1)) ++ s.data.toList.drop (k + 1)):=fun e => by
    rw [← zfJ s k hlt,e,← zfK s k hlt hlen,List.set_getElem_self]
    exact hrow
   clear hrow hlen
   have HR:=Lib.hid (And.intro hrow' hsame)
   clear hsame
   clear hrow'
   go_wp2_with fail
   ·have h1:65 ≤ (s[k].toNat:Int):=by assumption
    have h2:(s[k].toNat:Int) ≤ 90:=by assumption
    go_roundw
    case rel =>
     refine ⟨k + 1,by omega,by go_num,?_,hq.set (Nat.le_refl _) _⟩
     rw [zim h1 h2]
     exact HR.out.1
    case measure => simp [intOf]; omega
   ·have h2:90 < (s[k].toNat:Int):=by assumption
    go_roundw
    case rel => exact ⟨k + 1,by omega,by go_num,HR.out.2 (zfL (by omega)),hq⟩
    case measure => simp [intOf]; omega
   ·have h2:¬ 65 ≤ (s[k].toNat:Int):=by assumption
    go_roundw
    case rel => exact ⟨k + 1,by omega,by go_num,HR.out.2 (zfL (by omega)),hq⟩
    case measure => simp [intOf]; omega
  ·obtain rfl:k=s.size:=by omega
   have hl:zd4 (s.data.toList.take s.size) ++ s.data.toList.drop s.size=zd4 s.data.toList:=by
    rw [take_all s _ (by omega),List.drop_of_length_le (by rw [zaK]; omega),List.append_nil]
   rw [hl] at hrow
   have hst:=hrow.str s.size (grownCap w s.size 0 5) (by simp [zd4,zaK])
   clear hl hrow
   go_wp2
   go_ret
   exact ⟨rfl,hq⟩
def zb8 (c:UInt8):Bool:=decide (c.toNat=32 ∨ c.toNat=9)
def rdw (l:List UInt8):List UInt8:=(l.reverse.dropWhile zb8).reverse
def trimL (l:List UInt8):List UInt8:=rdw (l.dropWhile zb8)
theorem rdw_snoc (l:List UInt8) (x:UInt8):rdw (l ++ [x])=if zb8 x=true then rdw l else l ++ [x]:=by
 unfold rdw
 rw [List.reverse_append,List.reverse_singleton,List.singleton_append,List.dropWhile_cons]
 split <;> simp
def TP (n:Nat) (l:List UInt8) (f t:Nat):Prop :=
 ∃ A M B,l=A ++ M ++ B ∧ (∀ a ∈ A,zb8 a=true) ∧ (∀ b ∈ B,zb8 b=true) ∧ M.dropWhile zb8=M ∧ rdw M=M ∧
  ((M=[] ∧ f=n ∧ t=0) ∨ (M ≠ [] ∧ f=A.length ∧ t=A.length + M.length))
theorem TP.other {n:Nat} {l:List UInt8} {f t:Nat} {c:UInt8} (h:TP n l f t) (hc:zb8 c=false) (hl:l.length < n):TP n (l ++ [c]) (min f l.length) (l.length + 1):=by
 obtain ⟨A,M,B,rfl,hA,hB,h1,h2,h3⟩:=h
 rcases h3 with ⟨rfl,rfl,rfl⟩ | ⟨h3,rfl,rfl⟩
 ·refine ⟨A ++ B,[c],[],by simp,?_,by simp,by simp [hc],by simp [rdw,hc],.inr ⟨by simp,?_,?_⟩⟩
  ·intro a ha
   rcases List.mem_append.1 ha with ha | ha
   ·exact hA a ha
   ·exact hB a ha
  ·simp at hl ⊢; omega
  ·simp
 ·refine ⟨A,M ++ B ++ [c],[],by simp,hA,by simp,?_,?_,.inr ⟨by simp,?_,?_⟩⟩
  ·cases M with
   | nil => exact absurd rfl h3
   | cons x M =>
    have hx:¬ zb8 x=true:=by
     intro hx
     rw [List.dropWhile_cons,if_pos hx] at h1
     have:=congrArg List.length h1
     have h4:=(List.dropWhile_sublist (p:=zb8) (l:=M)).length_le
     simp at this
     omega
    simp only [List.cons_append]
    rw [List.dropWhile_cons,if_neg hx]
  ·rw [rdw_snoc,if_neg (by rw [hc]; exact Bool.false_ne_true)]
  ·simp
  ·simp; omega
theorem zgR {B:List UInt8} (hB:∀ b ∈ B,zb8 b=true) (l:List UInt8):rdw (l ++ B)=rdw l:=by
 unfold rdw
 rw [List.reverse_append,List.dropWhile_append_of_pos]
 intro a ha
 exact hB a (List.mem_reverse.1 ha)
theorem TP.done {l:List UInt8} {f t:Nat} (h:TP l.length l f t):(t ≤ f ∧ trimL l=[]) ∨ (f < t ∧ t ≤ l.length ∧ trimL l=(l.drop f).take (t - f)):=by
 obtain ⟨A,M,B,rfl,hA,hB,h1,h2,h3⟩:=h
 have ht:trimL (A ++ M ++ B)=rdw ((M ++ B).dropWhile zb8):=by
  unfold trimL
  rw [List.append_assoc,List.dropWhile_append_of_pos hA]
 rcases h3 with ⟨rfl,rfl,rfl⟩ | ⟨h3,rfl,rfl⟩
 ·refine .inl ⟨Nat.zero_le _,?_⟩
  rw [ht,List.nil_append,← List.append_nil B,List.dropWhile_append_of_pos hB]
  rfl
 ·have hp:0 < M.length:=List.length_pos_iff.2 h3
  refine .inr ⟨by omega,by simp,?_⟩
  have hm:(M ++ B).dropWhile zb8=M ++ B:=by
   cases M with
   | nil => exact absurd rfl h3
   | cons x M =>
    have hx:¬ zb8 x=true:=by
     intro hx
     rw [List.dropWhile_cons,if_pos hx] at h1
     have:=congrArg List.length h1
     have h4:=(List.dropWhile_sublist (p:=zb8) (l:=M)).length_le
     simp at this
     omega
    simp only [List.cons_append]
    rw [List.dropWhile_cons,if_neg hx]
  rw [ht,hm,zgR hB,h2,List.append_assoc,List.drop_left,Nat.add_sub_cancel_left,List.take_left]
end Go.Proofs.YtbeoijfmfkifeaaGreatDoor
namespace Go.Proofs.YtbeoijfmfkifeaaGreatDoor.Sx
open Go.RowKit
theorem sxA:type_of% (And.intro @rn_nil (And.intro @rn_seq (And.intro @zhx (And.intro @rn_reg (And.intro @rn_drw (And.intro @rn_crs (And.intro @rst_n (And.intro @rst_c (And.intro @rcr_n (And.intro @rcr_c (And.intro @rn_crg (And.intro @za2 (And.intro @zfr (And.intro @zdh (And.intro @zcS (And.intro @rn_ret (And.intro @zhH (And.intro @zhc (And.intro @zff (And.intro @zhb (And.intro @zfe (And.intro @zhd (And.intro @xit_ap (And.intro @rn_ap (And.intro @apOk_n (And.intro @apOk_c (And.intro @zj2 (And.intro @zcs (And.intro @zdn (And.intro @zej (And.intro @zis (And.intro @zjS (And.intro @endK_n (And.intro @endK_r (And.intro @outO_s (And.intro @zh2 (And.intro @endI_n (And.intro @endI_r (And.intro @outJ_s (And.intro @zh3 (And.intro @rn_mv (And.intro @zip (And.intro @ziq (And.intro @zhy (And.intro @zfx (@rn_box)))))))))))))))))))))))))))))))))))))))))))))):=And.intro @rn_nil (And.intro @rn_seq (And.intro @zhx (And.intro @rn_reg (And.intro @rn_drw (And.intro @rn_crs (And.intro @rst_n (And.intro @rst_c (And.intro @rcr_n (And.intro @rcr_c (And.intro @rn_crg (And.intro @za2 (And.intro @zfr (And.intro @zdh (And.intro @zcS (And.intro @rn_ret (And.intro @zhH (And.intro @zhc (And.intro @zff (And.intro @zhb (And.intro @zfe (And.intro @zhd (And.intro @xit_ap (And.intro @rn_ap (And.intro @apOk_n (And.intro @apOk_c (And.intro @zj2 (And.intro @zcs (And.intro @zdn (And.intro @zej (And.intro @zis (And.intro @zjS (And.intro @endK_n (And.intro @endK_r (And.intro @outO_s (And.intro @zh2 (And.intro @endI_n (And.intro @endI_r (And.intro @outJ_s (And.intro @zh3 (And.intro @rn_mv (And.intro @zip (And.intro @ziq (And.intro @zhy (And.intro @zfx (@rn_box)))))))))))))))))))))))))))))))))))))))))))))
theorem sxB:type_of% (And.intro @kLit_s (And.intro @zhN (And.intro @zfw (And.intro @zee (And.intro @kLd1_p (And.intro @kLd1_r (And.intro @zfq (And.intro @kLdn_s (And.intro @kLdv_p (And.intro @kLdv_r (And.intro @zfp (And.intro @kSt2_b (And.intro @kSt_p (And.intro @zfn (And.intro @kNck_0 (And.intro @kNck_1 (And.intro @kNck_2 (And.intro @rn_nck (And.intro @kNot_0 (And.intro @rn_not (And.intro @ziL (And.intro @kAr_i8 (And.intro @ziN (And.intro @ziM (And.intro @kAr_u8 (And.intro @ziK (And.intro @ziJ (And.intro @ziI (And.intro @kNeg_0 (And.intro @rn_neg (And.intro @kCvi_0 (And.intro @rn_cvi (And.intro @kCvs_0 (And.intro @rn_cvs (And.intro @ziu (And.intro @zhB (And.intro @ziE (And.intro @zhF (And.intro @kFad_0 (And.intro @kFad_1 (And.intro @rn_fad (@ziF)))))))))))))))))))))))))))))))))))))))))):=And.intro @kLit_s (And.intro @zhN (And.intro @zfw (And.intro @zee (And.intro @kLd1_p (And.intro @kLd1_r (And.intro @zfq (And.intro @kLdn_s (And.intro @kLdv_p (And.intro @kLdv_r (And.intro @zfp (And.intro @kSt2_b (And.intro @kSt_p (And.intro @zfn (And.intro @kNck_0 (And.intro @kNck_1 (And.intro @kNck_2 (And.intro @rn_nck (And.intro @kNot_0 (And.intro @rn_not (And.intro @ziL (And.intro @kAr_i8 (And.intro @ziN (And.intro @ziM (And.intro @kAr_u8 (And.intro @ziK (And.intro @ziJ (And.intro @ziI (And.intro @kNeg_0 (And.intro @rn_neg (And.intro @kCvi_0 (And.intro @rn_cvi (And.intro @kCvs_0 (And.intro @rn_cvs (And.intro @ziu (And.intro @zhB (And.intro @ziE (And.intro @zhF (And.intro @kFad_0 (And.intro @kFad_1 (And.intro @rn_fad (@ziF)))))))))))))))))))))))))))))))))))))))))
theorem sxC:type_of% (And.intro @zhG (And.intro @kExt_0 (And.intro @rn_ext (And.intro @kLr2_o (And.intro @ziy (And.intro @zix (And.intro @ziw (And.intro @zhC (And.intro @zem (And.intro @zfP (And.intro @zdp (And.intro @zel (And.intro @kEqs_a (And.intro @rn_beq (And.intro @rn_eqs (And.intro @kIad_0 (And.intro @rn_iad (And.intro @ziD (And.intro @zhE (And.intro @kIdx_0 (And.intro @rn_idx (And.intro @kMks_0 (And.intro @rn_mks (And.intro @rn_bin (And.intro @zf3 (And.intro @zfQ (And.intro @zfW (And.intro @zfU (And.intro @zfT (And.intro @zf1 (And.intro @zfV (And.intro @zfX (And.intro @zfY (And.intro @zfZ (And.intro @zf0 (And.intro @zf2 (And.intro @zfS (And.intro @zfR (And.intro @svi_i (@zd8)))))))))))))))))))))))))))))))))))))))):=And.intro @zhG (And.intro @kExt_0 (And.intro @rn_ext (And.intro @kLr2_o (And.intro @ziy (And.intro @zix (And.intro @ziw (And.intro @zhC (And.intro @zem (And.intro @zfP (And.intro @zdp (And.intro @zel (And.intro @kEqs_a (And.intro @rn_beq (And.intro @rn_eqs (And.intro @kIad_0 (And.intro @rn_iad (And.intro @ziD (And.intro @zhE (And.intro @kIdx_0 (And.intro @rn_idx (And.intro @kMks_0 (And.intro @rn_mks (And.intro @rn_bin (And.intro @zf3 (And.intro @zfQ (And.intro @zfW (And.intro @zfU (And.intro @zfT (And.intro @zf1 (And.intro @zfV (And.intro @zfX (And.intro @zfY (And.intro @zfZ (And.intro @zf0 (And.intro @zf2 (And.intro @zfS (And.intro @zfR (And.intro @svi_i (@zd8)))))))))))))))))))))))))))))))))))))))
theorem sxD:type_of% (And.intro @zd7 (And.intro @kSl2_s (And.intro @kSl_s (And.intro @zhw (And.intro @kAp_s (And.intro @kAp2_o (And.intro @kAp2_n (And.intro @kAp3_o (And.intro @kAs_o (And.intro @kAs_n (And.intro @kAs2_o (And.intro @rn_app (And.intro @zhO (And.intro @kCb_o (And.intro @kCb_n (And.intro @zhJ (And.intro @rn_mkf (And.intro @kG_tt (And.intro @kG_tf (And.intro @kG_ft (And.intro @kG_ff (And.intro @kG_u (And.intro @kG_v (And.intro @kGD_tt (And.intro @kGD_tf (And.intro @kGD_ft (And.intro @kGD_ff (And.intro @kGD_u (And.intro @kGD_v (And.intro @zfs (And.intro @zed (And.intro @kC_t (And.intro @kC_f (And.intro @zhK (And.intro @zhM (And.intro @zft (And.intro @zfv (And.intro @drn_mv (And.intro @zgk (@zew)))))))))))))))))))))))))))))))))))))))):=And.intro @zd7 (And.intro @kSl2_s (And.intro @kSl_s (And.intro @zhw (And.intro @kAp_s (And.intro @kAp2_o (And.intro @kAp2_n (And.intro @kAp3_o (And.intro @kAs_o (And.intro @kAs_n (And.intro @kAs2_o (And.intro @rn_app (And.intro @zhO (And.intro @kCb_o (And.intro @kCb_n (And.intro @zhJ (And.intro @rn_mkf (And.intro @kG_tt (And.intro @kG_tf (And.intro @kG_ft (And.intro @kG_ff (And.intro @kG_u (And.intro @kG_v (And.intro @kGD_tt (And.intro @kGD_tf (And.intro @kGD_ft (And.intro @kGD_ff (And.intro @kGD_u (And.intro @kGD_v (And.intro @zfs (And.intro @zed (And.intro @kC_t (And.intro @kC_f (And.intro @zhK (And.intro @zhM (And.intro @zft (And.intro @zfv (And.intro @drn_mv (And.intro @zgk (@zew)))))))))))))))))))))))))))))))))))))))
theorem sxE:type_of% (And.intro @zgv (And.intro @zdw (And.intro @zeu (And.intro @zet (And.intro @zjv (And.intro @zjI (And.intro @zjJ (And.intro @zjE (And.intro @zjt (And.intro @zju (And.intro @zgq (And.intro @zjG (And.intro @zjF (And.intro @zgt (And.intro @zgj (And.intro @zjC (And.intro @zgs (And.intro @zgr (And.intro @zjB (And.intro @zjA (And.intro @zjD (And.intro @zgn (And.intro @zgo (And.intro @zjz (And.intro @zex (And.intro @zjH (And.intro @zes (And.intro @zjK (And.intro @zgw (@zjy)))))))))))))))))))))))))))))):=And.intro @zgv (And.intro @zdw (And.intro @zeu (And.intro @zet (And.intro @zjv (And.intro @zjI (And.intro @zjJ (And.intro @zjE (And.intro @zjt (And.intro @zju (And.intro @zgq (And.intro @zjG (And.intro @zjF (And.intro @zgt (And.intro @zgj (And.intro @zjC (And.intro @zgs (And.intro @zgr (And.intro @zjB (And.intro @zjA (And.intro @zjD (And.intro @zgn (And.intro @zgo (And.intro @zjz (And.intro @zex (And.intro @zjH (And.intro @zes (And.intro @zjK (And.intro @zgw (@zjy)))))))))))))))))))))))))))))
theorem sxF:type_of% (And.intro @kO_if (And.intro @pq_lit (And.intro @zipA_c (And.intro @zipA_n (And.intro @pq_and (And.intro @pq_or (And.intro @pq_xor (And.intro @pq_shl (And.intro @pq_shr (And.intro @pq_mn (And.intro @pq_mx (And.intro @pq_rsl (And.intro @zhV (And.intro @zhW (And.intro @zfA (And.intro @zhX (And.intro @pq_asl (And.intro @kCb_b (And.intro @pq_lss (And.intro @pq_leq (And.intro @pq_gtr (And.intro @pq_geq (And.intro @rn_pu (@drn_pu)))))))))))))))))))))))):=And.intro @kO_if (And.intro @pq_lit (And.intro @zipA_c (And.intro @zipA_n (And.intro @pq_and (And.intro @pq_or (And.intro @pq_xor (And.intro @pq_shl (And.intro @pq_shr (And.intro @pq_mn (And.intro @pq_mx (And.intro @pq_rsl (And.intro @zhV (And.intro @zhW (And.intro @zfA (And.intro @zhX (And.intro @pq_asl (And.intro @kCb_b (And.intro @pq_lss (And.intro @pq_leq (And.intro @pq_gtr (And.intro @pq_geq (And.intro @rn_pu (@drn_pu)))))))))))))))))))))))
theorem sxM:type_of% (And.intro @zhI (And.intro @kLd1_o (And.intro @ziA (And.intro @kLdv_o (And.intro @ziz (And.intro @kSt_o (And.intro @kSt3_o (And.intro @kNck_3 (And.intro @kFad_2 (And.intro @kIad_1 (And.intro @ziC (And.intro @zio (And.intro @kTrn_0 (And.intro @kTrn_1 (And.intro @kTrn_2 (And.intro @rn_trn (And.intro @zjs (And.intro @zhY (And.intro @zhZ (And.intro @pq_snn (And.intro @pq_snz (And.intro @pq_snr (And.intro @ziv (And.intro @ziB (And.intro @zhD (And.intro @zgp (@zj1))))))))))))))))))))))))))):=And.intro @zhI (And.intro @kLd1_o (And.intro @ziA (And.intro @kLdv_o (And.intro @ziz (And.intro @kSt_o (And.intro @kSt3_o (And.intro @kNck_3 (And.intro @kFad_2 (And.intro @kIad_1 (And.intro @ziC (And.intro @zio (And.intro @kTrn_0 (And.intro @kTrn_1 (And.intro @kTrn_2 (And.intro @rn_trn (And.intro @zjs (And.intro @zhY (And.intro @zhZ (And.intro @pq_snn (And.intro @pq_snz (And.intro @pq_snr (And.intro @ziv (And.intro @ziB (And.intro @zhD (And.intro @zgp (@zj1))))))))))))))))))))))))))
theorem sxN:type_of% (And.intro @rn_inv (And.intro @pq_mkp (And.intro @pq_mki (And.intro @pq_tas (And.intro @apG_n (And.intro @kCao_c (And.intro @zfu (And.intro @zev (And.intro @apG_s (And.intro @apB_tt (And.intro @apB_ff (And.intro @apB_tf (And.intro @apB_ft (And.intro @rn_mkz (And.intro @kMkz_i (And.intro @zjx (And.intro @zhA (And.intro @zhz (And.intro @kMkm_i (And.intro @rn_lk (And.intro @kLk_0 (And.intro @kLk2_m (And.intro @rn_mup (And.intro @kMup_0 (And.intro @zit (And.intro @zgm (And.intro @zgl (And.intro @drn_lk (And.intro @zjw (And.intro @lkA_tt (And.intro @lkA_tf (And.intro @lkA_nt (And.intro @lkA_nf (And.intro @apS_o (And.intro @apS_p (And.intro @zgF (And.intro @zgE (And.intro @zgD (And.intro @zgC (And.intro @pq_sl3 (And.intro @zhU (And.intro @zhL (And.intro @kCap_c (And.intro @zgu (And.intro @rn_cra (And.intro @rsb_n (And.intro @rsb_c (And.intro @hsV_n (@hsV_c))))))))))))))))))))))))))))))))))))))))))))))))):=And.intro @rn_inv (And.intro @pq_mkp (And.intro @pq_mki (And.intro @pq_tas (And.intro @apG_n (And.intro @kCao_c (And.intro @zfu (And.intro @zev (And.intro @apG_s (And.intro @apB_tt (And.intro @apB_ff (And.intro @apB_tf (And.intro @apB_ft (And.intro @rn_mkz (And.intro @kMkz_i (And.intro @zjx (And.intro @zhA (And.intro @zhz (And.intro @kMkm_i (And.intro @rn_lk (And.intro @kLk_0 (And.intro @kLk2_m (And.intro @rn_mup (And.intro @kMup_0 (And.intro @zit (And.intro @zgm (And.intro @zgl (And.intro @drn_lk (And.intro @zjw (And.intro @lkA_tt (And.intro @lkA_tf (And.intro @lkA_nt (And.intro @lkA_nf (And.intro @apS_o (And.intro @apS_p (And.intro @zgF (And.intro @zgE (And.intro @zgD (And.intro @zgC (And.intro @pq_sl3 (And.intro @zhU (And.intro @zhL (And.intro @kCap_c (And.intro @zgu (And.intro @rn_cra (And.intro @rsb_n (And.intro @rsb_c (And.intro @hsV_n (@hsV_c))))))))))))))))))))))))))))))))))))))))))))))))
theorem sxL:type_of% (And.intro @List.length_cons.{0} (And.intro @List.length_nil.{0} (And.intro @List.length_append.{0} (And.intro @List.length_replicate.{0} (And.intro @List.length_set.{0} (And.intro @List.cons_append.{0} (And.intro @List.nil_append.{0} (And.intro @List.append_nil.{0} (And.intro @List.getElem?_cons_zero.{0} (And.intro @List.getElem?_cons_succ.{0} (And.intro @List.getElem?_nil.{0} (And.intro @Option.getD_some.{0} (And.intro @Option.getD_none.{0} (And.intro @List.set_cons_zero.{0} (And.intro @List.set_cons_succ.{0} (And.intro @List.set_nil.{0} (And.intro @List.map_cons.{0,0} (And.intro @List.map_nil.{0,0} (And.intro @List.take_succ_cons.{0} (And.intro @List.take_zero.{0} (And.intro @List.drop_succ_cons.{0} (And.intro @List.drop_zero.{0} (And.intro @List.take_nil.{0} (And.intro @List.drop_nil.{0} (And.intro @List.take_length.{0} (And.intro @Int.toNat_natCast (And.intro @Int.toNat_natCast_add_one (And.intro @Bool.not_true (And.intro @Bool.not_false (And.intro @Bool.and_true (And.intro @Bool.true_and (And.intro @Bool.and_false (And.intro @Bool.false_and (And.intro @true_and (And.intro @and_true (And.intro @true_implies (And.intro @false_implies (And.intro @Option.bind_some.{0,0} (And.intro @Option.map_some.{0,0} (And.intro @Bool.false_eq_true (And.intro @Bool.true_eq_false (And.intro @decide_true (And.intro @decide_false (And.intro @not_true_eq_false (And.intro @not_false_eq_true (@beq_self_eq_true.{0})))))))))))))))))))))))))))))))))))))))))))))):=And.intro @List.length_cons.{0} (And.intro @List.length_nil.{0} (And.intro @List.length_append.{0} (And.intro @List.length_replicate.{0} (And.intro @List.length_set.{0} (And.intro @List.cons_append.{0} (And.intro @List.nil_append.{0} (And.intro @List.append_nil.{0} (And.intro @List.getElem?_cons_zero.{0} (And.intro @List.getElem?_cons_succ.{0} (And.intro @List.getElem?_nil.{0} (And.intro @Option.getD_some.{0} (And.intro @Option.getD_none.{0} (And.intro @List.set_cons_zero.{0} (And.intro @List.set_cons_succ.{0} (And.intro @List.set_nil.{0} (And.intro @List.map_cons.{0,0} (And.intro @List.map_nil.{0,0} (And.intro @List.take_succ_cons.{0} (And.intro @List.take_zero.{0} (And.intro @List.drop_succ_cons.{0} (And.intro @List.drop_zero.{0} (And.intro @List.take_nil.{0} (And.intro @List.drop_nil.{0} (And.intro @List.take_length.{0} (And.intro @Int.toNat_natCast (And.intro @Int.toNat_natCast_add_one (And.intro @Bool.not_true (And.intro @Bool.not_false (And.intro @Bool.and_true (And.intro @Bool.true_and (And.intro @Bool.and_false (And.intro @Bool.false_and (And.intro @true_and (And.intro @and_true (And.intro @true_implies (And.intro @false_implies (And.intro @Option.bind_some.{0,0} (And.intro @Option.map_some.{0,0} (And.intro @Bool.false_eq_true (And.intro @Bool.true_eq_false (And.intro @decide_true (And.intro @decide_false (And.intro @not_true_eq_false (And.intro @not_false_eq_true (@beq_self_eq_true.{0})))))))))))))))))))))))))))))))))))))))))))))
theorem sxZ:type_of% (And.intro @zfo (And.intro sxA (And.intro sxB (And.intro sxC (And.intro sxD (And.intro sxE (And.intro sxF (And.intro sxM (And.intro sxN (And.intro sxL (And.intro @forall_const.{1} (And.intro @implies_true.{1} (And.intro @implies_true.{0} (And.intro @if_true.{1} (And.intro @if_false.{1} (And.intro @ite_true.{1} (And.intro @ite_false.{1} (And.intro @exists_eq_left'.{1} (And.intro @exists_eq'.{1} (And.intro @ne_eq.{1} (And.intro @evs.eq_1 (And.intro @evs.eq_2 (And.intro @evp.eq_1 (And.intro @evp.eq_2 (And.intro @zaj.eq_1 (And.intro @zaj.eq_2 (And.intro @SV.ev.eq_1 (And.intro @SV.ev.eq_2 (And.intro @AV.flat.eq_1 (And.intro @AV.flat.eq_2 (And.intro @AV.one.eq_1 (And.intro @AV.one.eq_2 (And.intro @AV.one.eq_3 (And.intro @AV.one.eq_4 (And.intro @AV.one.eq_5 (And.intro @AV.cells.eq_1 (And.intro @AV.cells.eq_2 (And.intro @zbv.eq_1 (And.intro @zbv.eq_2 (And.intro @zgQ.eq_1 (And.intro @zgQ.eq_2 (And.intro @zgQ.eq_3 (And.intro @zeF.eq_1 (And.intro @zeF.eq_2 (And.intro @pub.eq_1 (And.intro @pub.eq_2 (And.intro @pub.eq_3 (And.intro @pub.eq_4 (And.intro @pub.eq_5 (And.intro @zcf.eq_1 (And.intro @zcf.eq_2 (And.intro @AV.plain.eq_1 (And.intro @AV.plain.eq_2 (And.intro @AV.plain.eq_3 (And.intro @AV.plain.eq_4 (And.intro @AV.plain.eq_5 (And.intro @AV.plain.eq_6 (And.intro @AV.plain.eq_7 (And.intro @AV.plain.eq_8 (And.intro @AV.plain.eq_9 (And.intro @AV.plain.eq_10 (And.intro @AV.plain.eq_11 (And.intro @AV.plain.eq_12 (And.intro @AV.plain.eq_13 (And.intro @zak.eq_1 (And.intro @zak.eq_2 (And.intro @zaT.eq_1 (And.intro @zaT.eq_2 (And.intro @zaT.eq_3 (And.intro @zaT.eq_4 (And.intro @zav.eq_1 (And.intro @zaZ.eq_1 (And.intro @zaZ.eq_2 (And.intro @eqA.eq_1 (And.intro @eqA.eq_2 (And.intro @eqA.eq_3 (And.intro @eqA.eq_4 (And.intro @eqA.eq_5 (And.intro @zgh.eq_1 (And.intro @zgh.eq_2 (And.intro @zgh.eq_3 (And.intro @List.replicate.eq_1.{0} (@List.replicate.eq_2.{0}))))))))))))))))))))))))))))))))))))))))))))))))))))))))))))))))))))))))))))))))))):=And.intro @zfo (And.intro sxA (And.intro sxB (And.intro sxC (And.intro sxD (And.intro sxE (And.intro sxF (And.intro sxM (And.intro sxN (And.intro sxL (And.intro @forall_const.{1} (And.intro @implies_true.{1} (And.intro @implies_true.{0} (And.intro @if_true.{1} (And.intro @if_false.{1} (And.intro @ite_true.{1} (And.intro @ite_false.{1} (And.intro @exists_eq_left'.{1} (And.intro @exists_eq'.{1} (And.intro @ne_eq.{1} (And.intro @evs.eq_1 (And.intro @evs.eq_2 (And.intro @evp.eq_1 (And.intro @evp.eq_2 (And.intro @zaj.eq_1 (And.intro @zaj.eq_2 (And.intro @SV.ev.eq_1 (And.intro @SV.ev.eq_2 (And.intro @AV.flat.eq_1 (And.intro @AV.flat.eq_2 (And.intro @AV.one.eq_1 (And.intro @AV.one.eq_2 (And.intro @AV.one.eq_3 (And.intro @AV.one.eq_4 (And.intro @AV.one.eq_5 (And.intro @AV.cells.eq_1 (And.intro @AV.cells.eq_2 (And.intro @zbv.eq_1 (And.intro @zbv.eq_2 (And.intro @zgQ.eq_1 (And.intro @zgQ.eq_2 (And.intro @zgQ.eq_3 (And.intro @zeF.eq_1 (And.intro @zeF.eq_2 (And.intro @pub.eq_1 (And.intro @pub.eq_2 (And.intro @pub.eq_3 (And.intro @pub.eq_4 (And.intro @pub.eq_5 (And.intro @zcf.eq_1 (And.intro @zcf.eq_2 (And.intro @AV.plain.eq_1 (And.intro @AV.plain.eq_2 (And.intro @AV.plain.eq_3 (And.intro @AV.plain.eq_4 (And.intro @AV.plain.eq_5 (And.intro @AV.plain.eq_6 (And.intro @AV.plain.eq_7 (And.intro @AV.plain.eq_8 (And.intro @AV.plain.eq_9 (And.intro @AV.plain.eq_10 (And.intro @AV.plain.eq_11 (And.intro @AV.plain.eq_12 (And.intro @AV.plain.eq_13 (And.intro @zak.eq_1 (And.intro @zak.eq_2 (And.intro @zaT.eq_1 (And.intro @zaT.eq_2 (And.intro @zaT.eq_3 (And.intro @zaT.eq_4 (And.intro @zav.eq_1 (And.intro @zaZ.eq_1 (And.intro @zaZ.eq_2 (And.intro @eqA.eq_1 (And.intro @eqA.eq_2 (And.intro @eqA.eq_3 (And.intro @eqA.eq_4 (And.intro @eqA.eq_5 (And.intro @zgh.eq_1 (And.intro @zgh.eq_2 (And.intro @zgh.eq_3 (And.intro @List.replicate.eq_1.{0} (@List.replicate.eq_2.{0}))))))))))))))))))))))))))))))))))))))))))))))))))))))))))))))))))))))))))))))))))
end Go.Proofs.YtbeoijfmfkifeaaGreatDoor.Sx
namespace Go.Proofs.YtbeoijfmfkifeaaGreatDoor
open Go.RowKit Sx
class Shp (P:Program) [Tabs P]:Prop where
 sh:∀ w:World,Tabs.T (P:=P) w → w.ShapedOpen P
class Pow (P:Program) [Tabs P]:Prop where
 pw : ∀ w : World, Tabs.T (P := P) w → Lib.TabIs P w "internal/strconv.uint64pow10" .u64 Lib.pow10Tab
theorem zcQ {P:Program} {w w':World} (h:w.ShapedOpen P) (hk:∀ k,k < w.heap.size → w'.heap[k]? = w.heap[k]?):w'.ShapedOpen P:=by
 have lt:∀ {k:Nat} {o:Obj},w.heap[k]? = some o → k < w.heap.size:=fun {k o} e => by
  rcases Nat.lt_or_ge k w.heap.size with h1 | h1
  ·exact h1
  ·rw [Array.getElem?_eq_none h1] at e; cases e
 refine ⟨fun g zero t hg hz => ?_,fun k hk1 hk2 => ?_⟩
 ·obtain ⟨cs,h1,h2,h3⟩:=h.1 g zero t hg hz
  refine ⟨cs,(hk g (lt h1)).trans h1,h2,fun hb => Row.ok_of_shape (fun b x hx => ?_) (h3 hb)⟩
  rcases Nat.lt_or_ge b w.heap.size with h4 | h4
  ·simpa [World.shape?,hk b h4] using hx
  ·simp [World.shape?,Array.getElem?_eq_none h4] at hx
 ·obtain ⟨o,o₀,h1,h2,h3⟩:=h.2 k hk1 hk2
  exact ⟨o,o₀,(hk k (lt h1)).trans h1,h2,h3⟩
mutual
/-- a value without memory, as it is -/
def val:AV → Option Value
 | .s l => some (.string ⟨l.toArray⟩)
 | .i k n => some (.int k n)
 | .b x => some (.bool x)
 | .agg cs => match vals cs with
  | some vs => if vs.all (·.oneCell')=true then some (.agg vs.toArray) else none
  | none => none
 | .tup cs => (vals cs).map fun vs => .tuple vs.toArray
 | _ => none
def vals:List AV → Option (List Value)
 | [] => some []
 | x :: xs => match val x,vals xs with
  | some v,some vs => some (v :: vs)
  | _,_ => none
end
mutual
theorem zcK (G:Gh) (I:Imm):∀ (x:AV) (v:Value),val x=some v → ∀ y,Den G I x y ↔ y=v
 | .s l,v,h,y => by simp only [val,Option.some.injEq] at h; subst h; simp [Den]
 | .i k n,v,h,y => by simp only [val,Option.some.injEq] at h; subst h; simp [Den]
 | .b x,v,h,y => by simp only [val,Option.some.injEq] at h; subst h; simp [Den]
 | .agg cs,v,h,y => by
  simp only [val] at h
  split at h
  ·rename_i vs h1
   split at h
   ·rename_i h2
    injection h with h; subst h
    simp only [Den]
    constructor
    ·rintro ⟨ys,rfl,k1,_⟩
     rw [(zbq G I cs vs h1 ys).1 k1]
    ·rintro rfl
     exact ⟨vs,rfl,(zbq G I cs vs h1 vs).2 rfl,fun u hu => (List.all_eq_true.1 h2) u hu⟩
   ·cases h
  ·cases h
 | .tup cs,v,h,y => by
  simp only [val,Option.map_eq_some_iff] at h
  obtain ⟨vs,h1,rfl⟩:=h
  simp only [Den]
  constructor
  ·rintro ⟨ys,rfl,k1⟩
   rw [(zbq G I cs vs h1 ys).1 k1]
  ·rintro rfl
   exact ⟨vs,rfl,(zbq G I cs vs h1 vs).2 rfl⟩
 | .p _ _,v,h,y => by simp [val] at h
 | .row _ _,v,h,y => by simp [val] at h
 | .prow _ _,v,h,y => by simp [val] at h
 | .orow _ _,v,h,y => by simp [val] at h
 | .porow _ _ _,v,h,y => by simp [val] at h
 | .bsl _ _ _,v,h,y => by simp [val] at h
 | .m _,v,h,y => by simp [val] at h
 | .ip _ _ _,v,h,y => by simp [val] at h
 | .zn _,v,h,y => by simp [val] at h
 | .nil,v,h,y => by simp [val] at h
 | .fn _ _ _,v,h,y => by simp [val] at h
 | .o _,v,h,y => by simp [val] at h
 | .u,v,h,y => by simp [val] at h
theorem zbq (G:Gh) (I:Imm):∀ (xs:List AV) (vs:List Value),vals xs=some vs → ∀ ys,zac G I xs ys ↔ ys=vs
 | [],vs,h,ys => by simp only [vals,Option.some.injEq] at h; subst h; simp [zac]
 | x :: xs,vs,h,ys => by
  simp only [vals] at h
  split at h
  ·rename_i v vs' h1 h2
   injection h with h; subst h
   simp only [zac]
   constructor
   ·rintro ⟨y,ys',rfl,k1,k2⟩
    rw [(zcK G I x v h1 y).1 k1,(zbq G I xs vs' h2 ys').1 k2]
   ·rintro rfl
    exact ⟨v,vs',rfl,(zcK G I x v h1 v).2 rfl,(zbq G I xs vs' h2 vs').2 rfl⟩
  ·cases h
end
section
variable {P:Program} [Tabs P] {f:FuncId} {args:List AV} {vs:List Value} {r:AV} {v:Value} {objs:List OB} {K:List OB → AV → Prop}
theorem conv (ha:vals args=some vs) (hr:val r=some v) (h:∀ w,Calls P f vs.toArray w fun e w' => e=.returned v ∧ Qb w w') (hk:K objs r):zae P f args objs K :=
 ze9 r hk fun G I w ys hm hd => by
  rw [(zbq G I args vs ha ys).1 hd]
  exact ⟨v,h w,(zcK G I r v hr v).2 rfl⟩
end
end Go.Proofs.YtbeoijfmfkifeaaGreatDoor
namespace Go.Proofs.YtbeoijfmfkifeaaGreatDoor
open Sx
theorem gn1 (l:List OB) (x:OB):(l ++ [x])[l.length]? = some x:=by simp
theorem sn1 (l:List OB) (x y:OB):(l ++ [x]).set l.length y=l ++ [y]:=by simp
end Go.Proofs.YtbeoijfmfkifeaaGreatDoor
namespace Go.Proofs.YtbeoijfmfkifeaaGreatDoor
open Go.RowKit Sx
def zg3 (w:World):Imm:=fun g o v => w.cell? ⟨g,o,none⟩=some v
theorem den_lndR {G:Gh} {I:Imm} {w:World} {objs:List OB} {b E sz gen n:Nat} {xs:List AV} {y:Value} (hb:objs[b]? = some (.orow E sz gen n xs)) (hp:zak xs=true) (hm:MemOk G I objs w) (h:Den G I (.orow b gen) y):Den Gh.none (zg3 w) (.row n xs) y:=by
 obtain ⟨v',vs,m1,m2,m3,m4,m5⟩:=hm.row b E sz gen n xs hb
 simp only [Den] at h ⊢
 obtain ⟨g0,v,k1,k2,k3,_⟩:=h
 rw [k1] at m1; injection m1 with m1; injection m1 with m1 m6
 have hv:=k3 m1.symm
 subst m1 m6 hv
 have q1:zac Gh.none (zg3 w) xs vs:=zac.plain (fun g o v hi => hm.imm g o v hi) _ _ hp m3
 rcases m2.2 with ⟨rfl,rfl⟩ | ⟨g,cap,cur,rfl,hx1,hx2,hx3,hx4⟩
 ·have hvs:vs=[]:=List.eq_nil_of_length_eq_zero (by simpa using m2.1)
  subst hvs
  exact ⟨none,0,[],rfl,⟨Nat.le_refl _,by intro _ e; cases e⟩,q1,by simp,by simp⟩
 ·refine ⟨some ⟨g,0,none⟩,cap,vs,rfl,⟨hx3,by rintro _ ⟨⟩ _; rfl⟩,q1,m4,fun j u hj => ⟨g,0,rfl,?_⟩⟩
  have:=m2.cells (g:=g) rfl j u hj
  rw [zam] at this
  rw [Nat.zero_add]
  exact this
theorem zg1 {P:Program} [Tabs P] {f:FuncId} {args args':List AV} {objs:List OB} {K:List OB → AV → Prop} (r:AV) {v:Value} (hr:val r=some v) (hk:K objs r)
  (hl:∀ (G:Gh) (I:Imm) (w:World) (ys:List Value),MemOk G I objs w → zac G I args ys → zac Gh.none (zg3 w) args' ys) (h:zae P f args' [] (fun _ r' => r'=r)):zae P f args objs K:=by
 refine zdz r hk fun G I w ys hT hm hd => ?_
 have hd':=hl G I w ys hm hd
 haveI:On P ⟨w,fun _ => False,zg3 w,Gh.none⟩:=⟨hT,fun _ h => h⟩
 have hc:=h ⟨w,fun _ => False,zg3 w,Gh.none⟩ Gh.none (zg3 w) w
  ⟨rfl,rfl,rfl,Nat.le_refl _,fun _ _ _ => rfl,fun _ _ _ h => h,fun _ _ _ h => .inl h,fun b g hb => by simp [Gh.own,Gh.none] at hb,Gh.le.refl _⟩
  ⟨fun _ _ _ h => h,by simp,by simp,by simp,fun b b' g hb => by simp [Gh.own,Gh.none] at hb,fun b g hb => by simp [Gh.own,Gh.none] at hb,fun b g o v hb => by simp [Gh.own,Gh.none] at hb,fun b _ => ⟨rfl,rfl⟩⟩ ys hd'
 refine ⟨v,hc.mono ?_,(zcK G I r v hr v).2 rfl⟩
 rintro e w' ⟨y,objs',r',G',I',rfl,rfl,_,_,hin,_,hy⟩
 rw [(zcK _ _ r' v hr y).1 hy]
 exact ⟨rfl,⟨hin.os,hin.tape,hin.output,hin.size,fun k hk => hin.block k hk (fun h => h)⟩⟩
theorem zc8 {P:Program} [Tabs P] {f:FuncId} {rest:List AV} {objs:List OB} {K:List OB → AV → Prop} {b E sz gen n:Nat} {xs:List AV} (r:AV) {v:Value} (hb:objs[b]? = some (.orow E sz gen n xs)) (hp:zak xs=true) (hq:zak rest=true) (hr:val r=some v) (hk:K objs r)
  (h:zae P f (.row n xs :: rest) [] (fun _ r' => r'=r)):zae P f (.orow b gen :: rest) objs K:=by
 refine zg1 r hr hk (fun G I w ys hm hd => ?_) h
 simp only [zac] at hd
 obtain ⟨y,ys',rfl,h1,h2⟩:=hd
 exact zac.cons (den_lndR hb hp hm h1) (zac.plain (fun g o v hi => hm.imm g o v hi) _ _ hq h2)
theorem zfc {P:Program} [Tabs P] {f:FuncId} {rest:List AV} {objs:List OB} {K:List OB → AV → Prop} (h:zae P f (.row 0 [] :: rest) objs K):zae P f (.nil :: rest) objs K:=by
 intro C _ G I w hin hm ys hd
 refine h C G I w hin hm ys ?_
 simp only [zac] at hd ⊢
 obtain ⟨y,ys',rfl,h1,h2⟩:=hd
 refine ⟨y,ys',rfl,?_,h2⟩
 simp only [zac,Den] at h1 ⊢
 exact ⟨none,0,[],h1,⟨Nat.le_refl _,fun ad h => by cases h⟩,rfl,by simp,by simp⟩
end Go.Proofs.YtbeoijfmfkifeaaGreatDoor
namespace Go.Proofs.YtbeoijfmfkifeaaGreatDoor
open Go.RowKit Sx
section
attribute [local irreducible] run
theorem zih {G:Gh} {I:Imm} {y:Value} (h:Den G I .nil y):Den G I (.row 0 []) y:=by
 simp only [zac,Den] at h ⊢
 exact ⟨none,0,[],h,⟨Nat.le_refl _,fun ad h => by cases h⟩,rfl,by simp,by simp⟩
theorem set_same {α:Type} {l:List α} {i:Nat} {x:α} (h:l[i]? = some x):l.set i x=l:=by
 obtain ⟨h1,h2⟩:=List.getElem?_eq_some_iff.1 h
 rw [← h2,List.set_getElem_self]
end
end Go.Proofs.YtbeoijfmfkifeaaGreatDoor
namespace Go.Proofs.YtbeoijfmfkifeaaGreatDoor
open Go.RowKit Sx
mutual
/-- what is known of a value without its rows -/
def zaD:AV → AV
 | .agg cs => .agg (zcc cs)
 | .tup cs => .tup (zcc cs)
 | .row n _ => .row n []
 | .s l => .s l
 | .i k n => .i k n
 | .b x => .b x
 | .nil => .nil
 | _ => .u
def zcc:List AV → List AV
 | [] => []
 | x :: xs => zaD x :: zcc xs
end
mutual
theorem zdy {G G':Gh} {I I':Imm}:∀ (x:AV) (y:Value),Den G I x y → Den G' I' (zaD x) y
 | .agg cs,y,h => by
  simp only [Den,zaD] at h ⊢
  obtain ⟨ys,h1,h2,h3⟩:=h
  exact ⟨ys,h1,zbU cs ys h2,h3⟩
 | .tup cs,y,h => by
  simp only [Den,zaD] at h ⊢
  obtain ⟨ys,h1,h2⟩:=h
  exact ⟨ys,h1,zbU cs ys h2⟩
 | .row n xs,y,h => by
  simp only [Den,zaD] at h ⊢
  obtain ⟨a,c,ys,h1,h2,_⟩:=h
  exact ⟨a,c,[],h1,h2,by simp [zac],by simp,by simp⟩
 | .s l,y,h => by simpa [Den,zaD] using h
 | .i k n,y,h => by simpa [Den,zaD] using h
 | .b x,y,h => by simpa [Den,zaD] using h
 | .nil,y,h => by simpa [Den,zaD] using h
 | .p _ _,y,h => by simp [Den,zaD]
 | .prow _ _,y,h => by simp [Den,zaD]
 | .crow _ _,y,h => by simp [Den,zaD]
 | .orow _ _,y,h => by simp [Den,zaD]
 | .porow _ _ _,y,h => by simp [Den,zaD]
 | .bsl _ _ _,y,h => by simp [Den,zaD]
 | .m _,y,h => by simp [Den,zaD]
 | .ip _ _ _,y,h => by simp [Den,zaD]
 | .zn _,y,h => by simp [Den,zaD]
 | .fn _ _ _,y,h => by simp [Den,zaD]
 | .o _,y,h => by simp [Den,zaD]
 | .u,y,h => by simp [Den,zaD]
theorem zbU {G G':Gh} {I I':Imm}:∀ (xs:List AV) (ys:List Value),zac G I xs ys → zac G' I' (zcc xs) ys
 | [],ys,h => by simpa [zac,zcc] using h
 | x :: xs,ys,h => by
  simp only [zac,zcc] at h ⊢
  obtain ⟨y,ys',h0,h1,h2⟩:=h
  exact ⟨y,ys',h0,zdy x y h1,zbU xs ys' h2⟩
end
inductive Lrs (objs:List OB):AV → AV → Prop
 | pl (x:AV):x.plain=true → Lrs objs x x
 | nil:Lrs objs .nil (.row 0 [])
 | agg (cs ds:List AV):cs.length=ds.length → (∀ (i:Nat) (x x':AV),cs[i]? = some x → ds[i]? = some x' → Lrs objs x x') → Lrs objs (.agg cs) (.agg ds)
 | row (n:Nat) (cs ds:List AV):cs.length=ds.length → (∀ (i:Nat) (x x':AV),cs[i]? = some x → ds[i]? = some x' → Lrs objs x x') → Lrs objs (.row n cs) (.row n ds)
 | orow (b g E sz n:Nat) (cs ds:List AV):objs[b]? = some (.orow E sz g n cs) → cs.length=ds.length → (∀ (i:Nat) (x x':AV),cs[i]? = some x → ds[i]? = some x' → Lrs objs x x') → Lrs objs (.orow b g) (.row n ds)
theorem zc5 {G G':Gh} {I I':Imm}:∀ (cs ds:List AV) (ys:List Value),cs.length=ds.length → (∀ (i:Nat) (x x':AV),cs[i]? = some x → ds[i]? = some x' → ∀ y,Den G I x y → Den G' I' x' y) → zac G I cs ys → zac G' I' ds ys
 | [],[],ys,_,_,h => by simpa [zac] using h
 | [],_ :: _,ys,hl,_,h => by simp at hl
 | _ :: _,[],ys,hl,_,h => by simp at hl
 | c :: cs,d :: ds,ys,hl,hi,h => by
  simp only [zac] at h ⊢
  obtain ⟨y,ys',h0,h1,h2⟩:=h
  exact ⟨y,ys',h0,hi 0 c d rfl rfl y h1,zc5 cs ds ys' (by simpa using hl) (fun i x x' hx hx' => hi (i + 1) x x' (by simpa using hx) (by simpa using hx')) h2⟩
theorem lrs_den {G:Gh} {I:Imm} {w:World} {objs:List OB} (hm:MemOk G I objs w) {x x':AV} (h:Lrs objs x x'):∀ y,Den G I x y → Den Gh.none (zg3 w) x' y:=by
 have hI:Imm.le I (zg3 w):=fun g o v hi => hm.imm g o v hi
 induction h with
 | pl x hp => exact fun y hy => Den.plain hI _ _ hp hy
 | nil => exact fun y hy => zih (by simpa [Den] using hy)
 | agg cs ds hl _ ih =>
  intro y hy
  simp only [Den] at hy ⊢
  obtain ⟨ys,h1,h2,h3⟩:=hy
  exact ⟨ys,h1,zc5 cs ds ys hl ih h2,h3⟩
 | row n cs ds hl _ ih =>
  intro y hy
  simp only [Den] at hy ⊢
  obtain ⟨a,c,ys,h1,h2,h3,h4,h5⟩:=hy
  refine ⟨a,c,ys,h1,h2,zc5 cs ds ys hl ih h3,h4,fun j u hj => ?_⟩
  obtain ⟨g,off,e,hi⟩:=h5 j u hj
  exact ⟨g,off,e,hI _ _ _ hi⟩
 | orow b gen E sz n cs ds hb hl _ ih =>
  intro y hy
  obtain ⟨v',vs,m1,m2,m3,m4,m5⟩:=hm.row b E sz gen n cs hb
  simp only [Den] at hy ⊢
  obtain ⟨g0,v,k1,k2,k3,_⟩:=hy
  rw [k1] at m1; injection m1 with m1; injection m1 with m1 m6
  have hv:=k3 m1.symm
  subst m1 m6 hv
  have q1:zac Gh.none (zg3 w) ds vs:=zc5 cs ds vs hl ih m3
  rcases m2.2 with ⟨rfl,rfl⟩ | ⟨g,cap,cur,rfl,hx1,hx2,hx3,hx4⟩
  ·have hvs:vs=[]:=List.eq_nil_of_length_eq_zero (by simpa using m2.1)
   subst hvs
   have hds:ds=[]:=List.eq_nil_of_length_eq_zero (by have:=q1.length; simpa using this)
   subst hds
   exact ⟨none,0,[],rfl,⟨Nat.le_refl _,by intro _ e; cases e⟩,q1,by simp,by simp⟩
  ·refine ⟨some ⟨g,0,none⟩,cap,vs,rfl,⟨hx3,by rintro _ ⟨⟩ _; rfl⟩,q1,m4,fun j u hj => ⟨g,0,rfl,?_⟩⟩
   have:=m2.cells (g:=g) rfl j u hj
   rw [zam] at this
   rw [Nat.zero_add]
   exact this
def All2 (objs:List OB):List AV → List AV → Prop
 | [],[] => True
 | x :: xs,y :: ys => Lrs objs x y ∧ All2 objs xs ys
 | _,_ => False
theorem zbu {objs:List OB}:∀ {cs ds:List AV},All2 objs cs ds → cs.length=ds.length ∧ ∀ (i:Nat) (x x':AV),cs[i]? = some x → ds[i]? = some x' → Lrs objs x x'
 | [],[],_ => ⟨rfl,fun i x x' h => by simp at h⟩
 | [],_ :: _,h => h.elim
 | _ :: _,[],h => h.elim
 | c :: cs,d :: ds,h => by
  obtain ⟨h1,h2⟩:=h
  obtain ⟨h3,h4⟩:=zbu h2
  refine ⟨by simp [h3],fun i x x' hx hx' => ?_⟩
  cases i with
  | zero =>
   simp only [List.getElem?_cons_zero,Option.some.injEq] at hx hx'
   subst hx hx'; exact h1
  | succ i => exact h4 i x x' (by simpa using hx) (by simpa using hx')
theorem lrs_agg {objs:List OB} {cs ds:List AV} (h:All2 objs cs ds):Lrs objs (.agg cs) (.agg ds):=.agg _ _ (zbu h).1 (zbu h).2
theorem lrs_row {objs:List OB} {n:Nat} {cs ds:List AV} (h:All2 objs cs ds):Lrs objs (.row n cs) (.row n ds):=.row _ _ _ (zbu h).1 (zbu h).2
theorem lrs_orow {objs:List OB} {b g n:Nat} {E:TypeId} {sz:Nat} {cs ds:List AV} (hb:objs[b]? = some (.orow E sz g n cs)) (h:All2 objs cs ds):Lrs objs (.orow b g) (.row n ds):=.orow _ _ _ _ _ _ _ hb (zbu h).1 (zbu h).2
theorem zfb {P:Program} [Tabs P] {f:FuncId} {args args':List AV} {objs:List OB} {K:List OB → AV → Prop} (r:AV) (hl:All2 objs args args') (hk:K objs (zaD r))
  (h:zae P f args' [] (fun _ r' => r'=r)):zae P f args objs K:=by
 intro C _ G I w hin hm ys hd
 have hd':zac Gh.none (zg3 w) args' ys:=zc5 args args' ys (zbu hl).1 (fun i x x' hx hx' y => lrs_den hm ((zbu hl).2 i x x' hx hx') y) hd
 haveI:On P ⟨w,fun _ => False,zg3 w,Gh.none⟩:=⟨hin.tab (P:=P),fun _ h => h⟩
 have hc:=h ⟨w,fun _ => False,zg3 w,Gh.none⟩ Gh.none (zg3 w) w
  ⟨rfl,rfl,rfl,Nat.le_refl _,fun _ _ _ => rfl,fun _ _ _ h => h,fun _ _ _ h => .inl h,fun b g hb => by simp [Gh.own,Gh.none] at hb,Gh.le.refl _⟩
  ⟨fun _ _ _ h => h,by simp,by simp,by simp,fun b b' g hb => by simp [Gh.own,Gh.none] at hb,fun b g hb => by simp [Gh.own,Gh.none] at hb,fun b g o v hb => by simp [Gh.own,Gh.none] at hb,fun b _ => ⟨rfl,rfl⟩⟩ ys hd'
 refine hc.mono ?_
 rintro e w' ⟨y,objs',r',G',I',rfl,rfl,_,_,hin',_,hy⟩
 have hg:w.grownBy w' none:=⟨hin'.os,hin'.tape,hin'.output,hin'.size,fun k hk _ => hin'.block k hk (fun h => h)⟩
 exact ⟨y,objs,_,G,I,rfl,hk,Gh.le.refl G,Imm.le.refl I,hin.evolve hg (by simp),hm.evolve hg,zdy _ y hy⟩
end Go.Proofs.YtbeoijfmfkifeaaGreatDoor
namespace Go.Proofs.YtbeoijfmfkifeaaGreatDoor.Sx
open Go.RowKit
def ownA:AV → Option (Nat × Nat)
 | .orow b g => some (b,g)
 | .agg cs => cs.findSome? fun x => match x with
  | .orow b g => some (b,g)
  | _ => none
 | _ => none
def freeA:AV → Bool
 | .orow _ _ => true
 | .agg cs => cs.all fun x => match x with
  | .orow _ _ => true
  | x => x.plain
 | x => x.plain
noncomputable def pubN (q:Qls) (f:Nat) (n:Nat):List AV → List OB → XV :=
 Nat.rec (motive:=fun _ => List AV → List OB → XV) (fun _ _ => .bad (.call f [])) (fun _ ih args objs => match args.findSome? ownA with
  | none => Bool.rec (motive:=fun _ => XV) (q.ci f args objs) (match q.cp f args with
   | .ok _ r => .ok objs r
   | .bad e => Bool.rec (motive:=fun _ => XV) (.bad e) (q.ci f args objs) (isM e)) (zak args)
  | some (b,g) => match objs[b]? with
   | some (.orow _ _ gen n xs) => if gen=g then zcE (args.map (zgK b gen n xs)) fun args => zcj (pubO objs b gen n xs) fun objs => ih args objs else .bad (.call f [])
   | _ => .bad (.call f [])) n
theorem zhT {P:Program} [Tabs P] {q:Qls} (hq:QlsOk P q) {f:Nat}:∀ (n:Nat) {args:List AV} {objs o:List OB} {r:AV},pubN q f n args objs=.ok o r → ∀ (K:List OB → AV → Prop),K o r → zae P f args objs K
 | 0,args,objs,o,r,h,K,hk => by cases h
 | n + 1,args,objs,o,r,h,K,hk => by
  have h:(match args.findSome? ownA with
  | none => Bool.rec (motive:=fun _ => XV) (q.ci f args objs) (match q.cp f args with
   | .ok _ r => .ok objs r
   | .bad e => Bool.rec (motive:=fun _ => XV) (.bad e) (q.ci f args objs) (isM e)) (zak args)
  | some (b,g) => match objs[b]? with
   | some (.orow _ _ gen n' xs) => if gen=g then zcE (args.map (zgK b gen n' xs)) fun args => zcj (pubO objs b gen n' xs) fun objs => pubN q f n args objs else .bad (.call f [])
   | _ => .bad (.call f []))=.ok o r:=h
  split at h
  ·cases e:zak args with
   | false => rw [e] at h; exact hq.ci _ _ _ _ _ h K hk
   | true =>
    rw [e] at h
    dsimp only at h
    split at h
    ·rename_i o' r' hc
     injection h with h1 h2
     subst h1 h2
     exact hq.cp _ _ _ _ hc _ _ hk
    ·obtain ⟨_,h⟩:=samB (o:=o) h
     exact hq.ci _ _ _ _ _ h K hk
  ·split at h
   ·rename_i E sz gen n' xs hb
    split at h
    ·rename_i b g _ hg
     subst hg
     rw [za1,zci] at h
     exact zfa hb (zhT hq n h K hk)
    ·cases h
   ·cases h
mutual
/-- the value, its rows laid open -/
def exL:Nat → List OB → AV → Option AV
 | 0,_,_ => none
 | k + 1,objs,.agg cs => (exLs k objs cs).map .agg
 | k + 1,objs,.orow b gen => match objs[b]? with
  | some (.orow _ _ gen' n xs) => if gen'=gen then (exLs k objs xs).map (.row n) else none
  | _ => none
 | k + 1,objs,.row n xs => (exLs k objs xs).map (.row n)
 | k + 1,objs,x => if x.plain=true then some x else none
def exLs:Nat → List OB → List AV → Option (List AV)
 | 0,_,_ => none
 | k + 1,_,[] => some []
 | k + 1,objs,x :: xs => match exL k objs x,exLs k objs xs with
  | some y,some ys => some (y :: ys)
  | _,_ => none
end
mutual
theorem exL_ok:∀ {k:Nat} {objs:List OB} {x r:AV},exL k objs x=some r → Lrs objs x r
 | 0,objs,x,r,h => by rw [exL] at h; cases h
 | k + 1,objs,x,r,h => by
  cases x with
  | agg cs =>
   simp only [exL] at h; obtain ⟨ys,hy,rfl⟩:=Option.map_eq_some_iff.1 h; exact lrs_agg (zc3 hy)
  | row n cs =>
   simp only [exL] at h; obtain ⟨ys,hy,rfl⟩:=Option.map_eq_some_iff.1 h; exact lrs_row (zc3 hy)
  | orow b gen =>
   simp only [exL] at h
   split at h
   ·rename_i E sz gen' n xs hb
    split at h
    ·rename_i hg
     subst hg
     obtain ⟨ys,hy,rfl⟩:=Option.map_eq_some_iff.1 h
     exact lrs_orow hb (zc3 hy)
    ·cases h
   ·cases h
  | _ =>
   simp only [exL] at h
   split at h
   ·rename_i hp; injection h with h; subst h; exact .pl _ hp
   ·cases h
theorem zc3:∀ {k:Nat} {objs:List OB} {xs rs:List AV},exLs k objs xs=some rs → All2 objs xs rs
 | 0,objs,xs,rs,h => by rw [exLs] at h; cases h
 | k + 1,objs,[],rs,h => by
  simp only [exLs] at h
  injection h with h; subst h; trivial
 | k + 1,objs,x :: xs,rs,h => by
  simp only [exLs] at h
  split at h
  ·rename_i y ys h1 h2
   injection h with h; subst h
   exact ⟨exL_ok h1,zc3 h2⟩
  ·cases h
end
noncomputable def pubQ (lnd:Nat → Bool) (q:Qls):Qls:=⟨q.cp,fun f args objs => Bool.rec (motive:=fun _ => XV) (q.ci f args objs) (pubN q f 20 args objs) (args.all freeA && !(q.inn f)),q.has,q.inn,fun f args objs => Bool.rec (motive:=fun _ => XV) (.bad (.call f [])) (match exLs 2000 objs args with
 | some args' => zcE args' fun args' => (match q.cp f args' with
  | .ok _ r => .ok objs (zaD r)
  | .bad e => .bad e)
 | none => .bad (.call f [])) (lnd f)⟩
theorem pubQ_ok {P:Program} [Tabs P] (lnd:Nat → Bool) (q:Qls) (hq:QlsOk P q):QlsOk P (pubQ lnd q):=by
 refine ⟨hq.cp,hq.pl,fun f args objs o r h K hk => ?_,fun f args objs o r h K hk => ?_,hq.has⟩
 ·have h:(Bool.rec (motive:=fun _ => XV) (q.ci f args objs) (pubN q f 20 args objs) (args.all freeA && !(q.inn f)):XV)=.ok o r:=h
  cases e:(args.all freeA && !(q.inn f)) with
  | false => rw [e] at h; exact hq.ci _ _ _ _ _ h K hk
  | true => rw [e] at h; exact zhT hq 20 h K hk
 ·obtain ⟨_,h⟩:=samB (o:=o) h
  split at h
  ·rename_i args' ha
   rw [za1] at h
   split at h
   ·rename_i o' r' hc
    injection h with h1 h2
    subst h1 h2
    exact zfb r' (zc3 ha) hk (hq.cp _ _ _ _ hc [] (fun _ x => x=r') rfl)
   ·cases h
  ·cases h
noncomputable abbrev gH {P:Program} (tbl:TB P) (lib:Nat → List AV → Option AV) (has inn lnd:Nat → Bool) (F:Nat) (k:Nat):Qls:=gT2 (pubQ lnd) tbl lib has inn F k
end Go.Proofs.YtbeoijfmfkifeaaGreatDoor.Sx
namespace Go.Proofs.YtbeoijfmfkifeaaGreatDoor
open Go.RowKit
def sv (ls:List (List UInt8)):List Value:=ls.map fun l => .string (S l)
theorem sv_get (ls:List (List UInt8)) (i:Nat) (h:i < ls.length):(sv ls)[i]? = some (.string (S ls[i])):=by simp [sv,h]
def zg4 (w:World) (base:Nat) (v:Value) (ls:List (List UInt8)):Prop:=w.ownsRow base 9 1 v ls.length (sv ls)
theorem zg4.nil (w:World) (base:Nat):zg4 w base (.slice none 0 0) []:=World.ownsRow_nil w base _ _
theorem zg4.drew {w:World} {base:Nat} {v:Value} {l:List (List UInt8)} (h:zg4 w base v l):zg4 w.drew base v l:=h
theorem zg4.drewN {w:World} {base:Nat} {v:Value} {l:List (List UInt8)} (h:zg4 w base v l) (n:Nat):zg4 (w.drewN n) base v l:=h
theorem zg4.alloc {w:World} {base:Nat} {v:Value} {l:List (List UInt8)} (h:zg4 w base v l) (o:Obj):zg4 (w.alloc o) base v l:=World.ownsRow.alloc h o
theorem zg4.cell {w:World} {B g n cap:Nat} {l:List (List UInt8)} (h:zg4 w B (.slice (some ⟨g,0,none⟩) n cap) l) (j:Nat) (hj:j < l.length):w.cell? ⟨g,j,none⟩=some (.string (S l[j])):=by
 have h':=h
 rcases h'.2 with ⟨e,_⟩ | ⟨g',cap',cur,e,_⟩
 ·simp at e
 ·simp only [Value.slice.injEq] at e
  obtain ⟨_,rfl,_⟩:=e
  rw [World.ownsRow.cellAt (h:World.ownsRow _ _ _ _ _ _ _) j (by omega),sv_get l j hj]
end Go.Proofs.YtbeoijfmfkifeaaGreatDoor
namespace Go.Proofs.YtbeoijfmfkifeaaGreatDoor
open Go.RowKit
def zgz (c:UInt8):List UInt8 → List UInt8 × List UInt8 × Bool
 | [] => ([],[],false)
 | x :: t => if x=c then ([],t,true) else (x :: (zgz c t).1,(zgz c t).2.1,(zgz c t).2.2)
theorem zgy (c:UInt8):∀ l:List UInt8,(Lib.indexByte l c=-1 ∧ zgz c l=(l,[],false) ∧ c ∉ l) ∨ ∃ k:Nat,Lib.indexByte l c=k ∧ k < l.length ∧ zgz c l=(l.take k,l.drop (k + 1),true) ∧ l[k]? = some c
 | [] => .inl ⟨rfl,rfl,by simp⟩
 | x :: t => by
  unfold Lib.indexByte zgz
  by_cases h:x=c
  ·subst h
   exact .inr ⟨0,by simp,by simp,by simp,by simp⟩
  ·rw [if_neg (by simpa using h),if_neg h]
   rcases zgy c t with ⟨h1,h2,h3⟩ | ⟨k,h1,h2,h3,h4⟩
   ·refine .inl ⟨by rw [h1]; rfl,by rw [h2],?_⟩
    simp only [List.mem_cons,not_or]
    exact ⟨fun e => h e.symm,h3⟩
   ·refine .inr ⟨k + 1,?_,by simpa using h2,?_,by simpa using h4⟩
    ·rw [h1,if_neg (by simp only [beq_iff_eq]; omega)]; omega
    ·rw [h3]; simp
def cutV (x:List UInt8 × List UInt8 × Bool):Value:=.tuple #[.string (S x.1),.string (S x.2.1),.bool x.2.2]
theorem lCut_any (s:ByteArray) (c:UInt8) (w:World) (hs:s.size ≤ maxLen) :
  Calls Tryz.prog 122 #[.string s,.string ⟨#[c]⟩] w fun e w' => e=.returned (cutV (zgz c s.data.toList)) ∧ Qb w w':=by
 unfold maxLen at hs
 rcases zgy c s.data.toList with ⟨h1,h2,_⟩ | ⟨k,h1,h2,h3,_⟩
 ·have HI:=Lib.hid h1
  have HC:=Lib.hid h2
  clear h1 h2
  go_enter Tryz.func122,Tryz.ntmps122
  go_wp2_with fail
  refine (Tryz.stringslite_Index_one _ _ _).mono ?_
  rintro e w' ⟨rfl,rfl⟩
  rw [HI.out]
  go_wp2_with fail
  go_ret3
  exact ⟨by rw [HC.out]; rfl,Qb.refl _⟩
 ·rw [zaK] at h2
  have HI:=Lib.hid h1
  have HC:=Lib.hid h3
  clear h1 h3
  have i0:(0:Int) ≤ (k:Int):=by omega
  have i1:(k:Int) < (s.size:Int):=by omega
  have q1:IntKind.i64.wrap ((k:Int) + 1)=(k:Int) + 1:=IntWalk.i64_in _ (by omega)
  have q2:(0:Int) ≤ (k:Int) + 1:=by omega
  have q3:((k:Int) + 1).toNat=k + 1:=by omega
  have q4:(k:Int) + 1 ≤ (s.size:Int):=by omega
  go_enter Tryz.func122,Tryz.ntmps122
  go_wp2_with fail
  refine (Tryz.stringslite_Index_one _ _ _).mono ?_
  rintro e w' ⟨rfl,rfl⟩
  rw [HI.out]
  go_wp2_with fail
  go_quiet (fail)
  go_wp2_with fail
  go_ret3
  refine ⟨?_,(Qb.refl _).drewN _⟩
  rw [HC.out]
  refine congrArg Ending.returned (congrArg Value.tuple ?_)
  rw [show S (s.data.toList.take k)=s.extract 0 k from by rw [← S_of (s.extract 0 k),Lib.extract_data]; simp,show S (s.data.toList.drop (k + 1))=s.extract (k + 1) s.size from by
   rw [← S_of (s.extract (k + 1) s.size),Lib.extract_data]; congr 2; rw [List.take_of_length_le]; rw [List.length_drop,zaK]; omega]
  try rfl
theorem Cut_any (s:ByteArray) (c:UInt8) (w:World) (hs:s.size ≤ maxLen) :
  Calls Tryz.prog 88 #[.string s,.string ⟨#[c]⟩] w fun e w' => e=.returned (cutV (zgz c s.data.toList)) ∧ Qb w w':=by
 go_enter Tryz.func88,Tryz.ntmps88
 go_wp2_with fail
 refine (lCut_any _ _ _ hs).mono ?_
 rintro e w' ⟨rfl,hq⟩
 unfold cutV
 go_wp2_with fail
 go_ret3
 exact ⟨rfl,hq⟩
end Go.Proofs.YtbeoijfmfkifeaaGreatDoor
namespace Go.Proofs.YtbeoijfmfkifeaaGreatDoor
end Go.Proofs.YtbeoijfmfkifeaaGreatDoor
namespace Go.Proofs.YtbeoijfmfkifeaaGreatDoor
open Go.RowKit
def Obk (w:World) (g:Nat) (t:TypeId) (cs:Array Value):Prop:=w.heap[g]? = some (.cells cs t (0,0))
theorem Obk.lt {w:World} {g:Nat} {t:TypeId} {cs:Array Value} (h:Obk w g t cs):g < w.heap.size:=by
 rcases Nat.lt_or_ge g w.heap.size with h1 | h1
 ·exact h1
 ·unfold Obk at h; rw [Array.getElem?_eq_none h1] at h; cases h
theorem Obk.cell {w:World} {g:Nat} {t:TypeId} {cs:Array Value} (h:Obk w g t cs) (i:Nat):w.cell? ⟨g,i,none⟩=cs[i]?:=cell_of_row w g i cs t (0,0) h
theorem Obk.frozen {w:World} {g:Nat} {t:TypeId} {cs:Array Value} (h:Obk w g t cs) (i:Nat):w.frozen? ⟨g,i,none⟩=false:=by
 unfold Obk at h; simp [World.frozen?,h]
theorem Obk.new (w:World) (t:TypeId) (cs:Array Value):Obk (w.alloc (.cells cs t)) w.heap.size t cs:=heap_alloc_new w _
theorem Obk.qb {w w':World} {g:Nat} {t:TypeId} {cs:Array Value} (h:Obk w g t cs) (hq:Qb w w'):Obk w' g t cs:=(hq.block g h.lt).trans h
theorem Obk.alloc {w:World} {g:Nat} {t:TypeId} {cs:Array Value} (h:Obk w g t cs) (o:Obj):Obk (w.alloc o) g t cs:=(Below.heap_alloc w o g h.lt).trans h
theorem Obk.drew {w:World} {g:Nat} {t:TypeId} {cs:Array Value} (h:Obk w g t cs):Obk w.drew g t cs:=h
theorem Obk.drewN {w:World} {g:Nat} {t:TypeId} {cs:Array Value} (h:Obk w g t cs) (n:Nat):Obk (w.drewN n) g t cs:=h
theorem Obk.put {w:World} {g:Nat} {t:TypeId} {cs:Array Value} (h:Obk w g t cs) (i:Nat) (u:Value):Obk (w.setCell ⟨g,i,none⟩ u) g t (cs.setIfInBounds i u):=by
 unfold Obk at h ⊢
 simp [World.setCell,Array.getElem?_modify,h]
theorem Obk.far {w:World} {g:Nat} {t:TypeId} {cs:Array Value} (h:Obk w g t cs) {p:Addr} (hp:g ≠ p.block) (u:Value):Obk (w.setCell p u) g t cs:=(Below.heap_setCell w p u g hp).trans h
theorem Obk.st {w:World} {g:Nat} {t:TypeId} {cs:Array Value} (h:Obk w g t cs) (b o:Nat) (u:Value) (hne:g ≠ b):Obk (w.setCell ⟨b,o,none⟩ u) g t cs:=h.far (p:=⟨b,o,none⟩) hne u
theorem Qb.st {a c:World} (h:Qb a c) (b o:Nat) (u:Value) (hb:a.heap.size ≤ b):Qb a (c.setCell ⟨b,o,none⟩ u):=h.set (p:=⟨b,o,none⟩) hb u
theorem Obk.other {w w':World} {g b:Nat} {t:TypeId} {cs:Array Value} (h:Obk w g t cs) (hg:w.grownBy w' (some b)) (hne:g ≠ b):Obk w' g t cs:=(hg.block g h.lt (fun e => hne (Option.some.inj e))).trans h
end Go.Proofs.YtbeoijfmfkifeaaGreatDoor
namespace Go.Proofs.YtbeoijfmfkifeaaGreatDoor
open Go.RowKit
end Go.Proofs.YtbeoijfmfkifeaaGreatDoor
namespace Go.Proofs.YtbeoijfmfkifeaaGreatDoor
open Go.RowKit
end Go.Proofs.YtbeoijfmfkifeaaGreatDoor
namespace Go.Proofs.YtbeoijfmfkifeaaGreatDoor
end Go.Proofs.YtbeoijfmfkifeaaGreatDoor
namespace Go.Proofs.YtbeoijfmfkifeaaGreatDoor
open Go.RowKit
end Go.Proofs.YtbeoijfmfkifeaaGreatDoor
namespace Go.Proofs.YtbeoijfmfkifeaaGreatDoor
open Go.RowKit
end Go.Proofs.YtbeoijfmfkifeaaGreatDoor
namespace Go.Proofs.YtbeoijfmfkifeaaGreatDoor
end Go.Proofs.YtbeoijfmfkifeaaGreatDoor
namespace Go.Proofs.YtbeoijfmfkifeaaGreatDoor
open Go.RowKit Go.Sort
def Pw (w : World) : Prop := Lib.TabIs Tryz.prog w "internal/strconv.uint64pow10" .u64 Lib.pow10Tab
theorem Pw.keep {w w':World} (h:Pw w) (hq:Qb w w'):Pw w':=Lib.tabBelow_of_tabIs h w' hq
theorem Pw.drew {w:World} (h:Pw w):Pw w.drew:=h
theorem Pw.alloc {w:World} (h:Pw w) (o:Obj):Pw (w.alloc o):=Lib.tabIs_alloc h o
end Go.Proofs.YtbeoijfmfkifeaaGreatDoor
namespace Go.Proofs.YtbeoijfmfkifeaaGreatDoor
open Go.RowKit
end Go.Proofs.YtbeoijfmfkifeaaGreatDoor
