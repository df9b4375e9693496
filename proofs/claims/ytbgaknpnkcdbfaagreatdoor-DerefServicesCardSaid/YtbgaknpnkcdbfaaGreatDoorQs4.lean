/- The texts that the proofs of these statements reach, in their order, as few files. -/
import Derived.Lib.Split
import Derived.Lib.IndexMore
import Derived.Lib.Builder
import Derived.Lib.UnsafeStr
import Derived.Shelf.RegionOpenPlain
import Derived.Laws.Externs
import Derived.Lib.SplitLaws
import Derived.Deep.RegionLaw
import Derived.Deep.RegionHeldLaw
import Derived.Deep.DrawnRows
import Derived.Lib.Join
import Derived.Laws.BitsAllLaws
import Derived.Laws.BitsLemmas
import Derived.Lib.IndexAny
import Derived.Shelf.Strings.IndexAnyAll
import Derived.Lib.OthersKept
import Derived.ProofKit
import Derived.OpenShut
import Derived.ShutString
import Derived.Carry
import Derived.WideKeyArgs
import Derived.SizedLaws
import Derived.Test.YtbgaknpnkcdbfaaGreatDoorQs3
set_option linter.unusedVariables false
set_option linter.unusedSimpArgs false
set_option maxRecDepth 100000
namespace Go.Proofs.YtbgaknpnkcdbfaaGreatDoor
open Go.RowKit Sx
open Lib renaming hasPrefix->zj, indexByte->jk
open List renaming all_eq_true->zw
theorem Ls {s:List UInt8} {p:UInt8->Bool} (h:∀j (hj:j<s.length),p s[j]=true):s.all p=true:=by
 rw[zw];intro x hx;obtain⟨j,hj,rfl⟩:=List.mem_iff_getElem.1 hx;exact h j hj
theorem LO {s:List UInt8} {p:UInt8->Bool} {j:Nat} (hj:j<s.length) (h:p s[j]=false):s.all p=false:=by
 rw[Bool.eq_false_iff];intro e;have:=zw.1 e s[j] (List.getElem_mem _);rw[h] at this;cases this
theorem DL {s:List UInt8} {j:Nat} (hj:j<s.length):s.getD j 0=s[j]:=by
 rw[List.getD_eq_getElem?_getD,List.getElem?_eq_getElem hj];rfl
theorem R9 (l:List UInt8) (c:UInt8):decide (0<=jk l c)=AI c l:=by
 have:=Ob (l:=l) (c:=c);rcases h:AI c l with _|_
 ·exact decide_eq_false (fun h2=>by have:=this.2 h;omega)
 ·exact decide_eq_true (by
   apply Classical.byContradiction
   intro h2;have:=this.1 (by omega);rw[h] at this;cases this)
theorem wrap_u64 (n:Int) (h0:0<=n) (h1:n<18446744073709551616):IntKind.u64.wrap n=n:=by
 simp[IntKind.wrap,IntKind.bits,IntKind.signed];omega
theorem PB:maxLen=2 ^ 63 - 1:=rfl
theorem Qb.rev {w w':World} (h:w'=w):Qb w w':=by subst h;exact Qb.refl _
section
variable [Tabs Tryz.prog] {objs:List OB} {K:List OB->AV->Prop}
theorem Su (c:UInt8) (hk:K objs (.b (Av c))):Ah Tryz.prog 132 [.i .u8 c.toNat] objs K :=
 conv (vs:=[.int .u8 c.toNat]) rfl rfl (fun w=>(Fa c w).mono (by rintro e w' ⟨rfl,rfl⟩;exact⟨rfl,Qb.refl _⟩)) hk
theorem ZU (c:UInt8) (hk:K objs (.b (Ce c))):Ah Tryz.prog 131 [.i .u8 c.toNat] objs K :=
 conv (vs:=[.int .u8 c.toNat]) rfl rfl (fun w=>(Gq c w).mono (by rintro e w' ⟨rfl,rfl⟩;exact⟨rfl,Qb.refl _⟩)) hk
theorem Qe (s:List UInt8) (c:UInt8) (hk:K objs (.i .i64 (jk s c))):Ah Tryz.prog 84 [.s s,.i .u8 c.toNat] objs K:=by
 have e:((c.toNat:Nat):Int).toNat.toUInt8=c:=by simp
 exact conv (vs:=[.string (S s),.int .u8 c.toNat]) rfl rfl (fun w=>(Tryz.strings_IndexByte (S s) c.toNat w).mono fun e' w' ⟨h1,h2⟩=>⟨by rw[h1,e],Qb.rev h2⟩) hk
theorem lE (s p:List UInt8) (hk:K objs (.b (zj s p))):Ah Tryz.prog 141 [.s s,.s p] objs K :=
 conv (vs:=[.string (S s),.string (S p)]) rfl rfl (fun w=>(Tryz.strings_HasPrefix (S s) (S p) w).mono fun e w' ⟨h1,h2⟩=>⟨h1,Qb.rev h2⟩) hk
theorem Vu (s p:List UInt8) (hk:K objs (.tup [.s (Lib.trimPrefix s p),.b (zj s p)])):Ah Tryz.prog 87 [.s s,.s p] objs K :=
 conv (vs:=[.string (S s),.string (S p)]) rfl rfl (fun w=>(Tryz.strings_CutPrefix (S s) (S p) w).mono fun e w' ⟨h1,h2⟩=>⟨h1,Qb.rev h2⟩) hk
theorem Kz (a b:List UInt8) (ha:a.length<=maxLen) (hb:b.length<=maxLen) (hk:K objs (.b (En a b))):Ah Tryz.prog 47 [.s a,.s b] objs K :=
 conv (vs:=[.string (S a),.string (S b)]) rfl rfl (fun w=>dJ (S a) (S b) w (by rw[AL];exact ha) (by rw[AL];exact hb)) hk
theorem TN (a b:List UInt8) (ha:a.length<=140737488351232) (hb:b.length<=140737488351232) (hk:K objs (.b (En a b))):Ah Tryz.prog 108 [.s a,.s b] objs K :=
 conv (vs:=[.string (S a),.string (S b)]) rfl rfl (fun w=>hH (S a) (S b) w (by rw[AL];exact ha) (by rw[AL];exact hb)) hk
theorem Ly (s:List UInt8) (c:UInt8) (hs:s.length<=maxLen) (hk:K objs (.tup [.s (Af c s).1,.s (Af c s).2.1,.b (Af c s).2.2])):Ah Tryz.prog 25 [.s s,.s [c]] objs K :=
 conv (vs:=[.string (S s),.string (S [c])]) rfl rfl (fun w=>D7 (S s) c w (by rw[AL];exact hs)) hk
theorem MD (u:Nat) (hu:u<18446744073709551616) (hk:K objs (.s (Lib.decDigits u))):Ah Tryz.prog 70 [.i .u64 u] objs K :=
 conv (vs:=[.int .u64 u]) rfl rfl (fun w=>lB u hu w) hk
theorem tK [Pow Tryz.prog] (n:Int) (h0:-9223372036854775808<=n) (h1:n<=9223372036854775807) (hk:K objs (.s (Lib.itoa n))):Ah Tryz.prog 97 [.i .i64 n] objs K :=
 Nm (vs:=[.int .i64 n]) rfl rfl (fun w hT=>(Tryz.strconv_Itoa n h0 h1 w (Pow.pw w hT)).mono fun e w' h=>by
  obtain⟨h2,k,os,h3⟩:=h;exact⟨h2,by rw[h3];exact Yn w k os⟩) hk
theorem ES (s set:List UInt8) (hs:s.length<=maxLen) (ha:set.length<=maxLen) (hk:K objs (.i .i64 (Aq s set))):Ah Tryz.prog 67 [.s s,.s set] objs K :=
 GE (vs:=[.string (S s),.string (S set)]) rfl rfl (fun w=>hQ (S s) (S set) w (by rw[AL];exact hs) (by rw[AL];exact ha)) hk
theorem I1 (s p:List UInt8) (hs:s.length<=maxLen) (hk:K objs (.b (zj s p))):Ah Tryz.prog 98 [.s s,.s p] objs K :=
 GE (vs:=[.string (S s),.string (S p)]) rfl rfl (fun w=>iX (S s) (S p) w (by rw[AL];exact hs)) hk
theorem Pi (c:UInt8) (hk:K objs (.b (Av c))):Ah Tryz.prog 75 [.i .u8 c.toNat] objs K :=
 GE (vs:=[.int .u8 c.toNat]) rfl rfl (fun w=>FZ c w) hk
theorem fX (c:UInt8) (hk:K objs (.b (Ce c))):Ah Tryz.prog 76 [.i .u8 c.toNat] objs K :=
 GE (vs:=[.int .u8 c.toNat]) rfl rfl (fun w=>FY c w) hk
theorem Kg (c:UInt8) (s:List UInt8) (hs:s.length<=maxLen) (hk:K objs (.b (AI c s))):Ah Tryz.prog 73 [.i .u8 c.toNat,.s s] objs K :=
 GE (vs:=[.int .u8 c.toNat,.string (S s)]) rfl rfl (fun w=>GJ c (S s) w (by rw[AL];exact hs)) hk
theorem Yq (s:List UInt8) (most:Nat) (hs:s.length<=maxLen) (hm:most<=18446744073709551615) (hk:K objs (.tup [.i .u64 (Di A9 16 most s).2,.i .i64 (Di A9 16 most s).1])):Ah Tryz.prog 191 [.s s,.i .u64 most] objs K :=
 GE (vs:=[.string (S s),.int .u64 most]) rfl rfl (fun w=>cA (S s) most w (by rw[AL];exact hs) (by omega) (by omega)) hk
end
end Go.Proofs.YtbgaknpnkcdbfaaGreatDoor
namespace Go.Proofs.YtbgaknpnkcdbfaaGreatDoor.Sx
open Go.RowKit
theorem Ou {k:IntKind} {r:Int} {K K':Int->Prop} (hk:∀v,K v->K' v) (h:Fe k r K):Fe k r K':=by
 cases k
 all_goals first|exact hk _ h|exact⟨h.1,hk _ h.2⟩
theorem cW {op:BinOp} {x y:AV} {K K':AV->Prop} (hk:∀v,K v->K' v) (h:Gy op x y K):Gy op x y K':=by
 unfold Gy at h ⊢
 split at h
 ·refine⟨h.1,?_⟩
  replace h:=h.2
  cases op
  all_goals first
   | exact h.elim
   | exact Ou (fun _ g=>hk _ g) h
   | exact⟨h.1,Ou (fun _ g=>hk _ g) h.2⟩
   | exact⟨h.1,hk _ h.2⟩
   | exact hk _ h
 all_goals
  revert h
  cases op
  all_goals first
   | exact fun h=>h.elim
   | exact fun h=>⟨h.1,hk _ h.2⟩
   | exact fun h=>hk _ h
section
variable {P:Program} [Tabs P] {C:Cx}
theorem Mf {so:SOp} {objs:List OB} {tm:List AV} {K K':List OB->AV->Prop} (hk:∀o v,K o v->K' o v) (h:Ai P so objs tm K):Ai P so objs tm K':=by
 cases so
 all_goals simp only[Ai] at h ⊢
 all_goals try exact hk _ _ h
 all_goals try exact⟨h.1,hk _ _ h.2⟩
 all_goals try exact cW (fun _ g=>hk _ _ g) h
 all_goals try exact h.mono hk
 all_goals try exact⟨h.1,h.2.mono fun _ _ g=>⟨g.1,hk _ _ g.2⟩⟩
 all_goals
  revert h
  repeat' split
  all_goals first
   | exact fun h=>h.elim
   | exact fun h=>hk _ _ h
   | exact fun h=>⟨h.1,hk _ _ h.2⟩
   | exact fun h=>Ou (fun _ g=>hk _ _ g) h
   | exact fun h=>⟨fun e=>hk _ _ (h.1 e),fun e=>hk _ _ (h.2 e)⟩
   | exact fun ⟨v,h1,h2⟩=>⟨v,h1,hk _ _ h2⟩
   | exact fun ⟨h0,l,h1,h2⟩=>⟨h0,l,h1,hk _ _ h2⟩
   | exact fun h=>⟨h.1,h.2.mono hk⟩
   | exact fun h=>h.mono hk
theorem Ew:∀{l:List SO} {objs:List OB} {tm:List AV} {K K':List OB->List AV->Prop},(∀o t,K o t->K' o t)->Aw P l objs tm K->Aw P l objs tm K'
 | [],_,_,_,_,hk,h=>hk _ _ h
 | ⟨dst,op,none⟩::r,_,_,_,_,hk,h=>Mf (fun _ _ g=>Ew hk g) h
 | ⟨dst,op,some (t,want)⟩::r,objs,tm,K,K',hk,h=>by
  simp only[Aw] at h ⊢
  revert h
  split
  ·exact fun h=>⟨fun e=>Mf (fun _ _ g=>Ew hk g) (h.1 e),fun e=>Ew hk (h.2 e)⟩
  ·exact fun h=>Ew hk h
  ·exact fun h=>h.elim
theorem IW:∀{l:List SO} {objs:List OB} {tm:List AV} {K K':List OB->List AV->Prop},(∀o t,K o t->K' o t)->Cz P l objs tm K->Cz P l objs tm K'
 | [],_,_,_,_,hk,h=>hk _ _ h
 | ⟨dst,op,none⟩::r,_,_,_,_,hk,h=>by
  simp only[Cz] at h ⊢
  revert h
  split
  ·exact fun ⟨v,h1,h2⟩=>⟨v,h1,IW hk h2⟩
  ·exact fun h=>Mf (fun _ _ g=>IW hk g) h
 | ⟨dst,op,some (t,want)⟩::r,objs,tm,K,K',hk,h=>by
  simp only[Cz] at h ⊢
  revert h
  split
  ·refine fun h=>⟨fun e=>?_,fun e=>IW hk (h.2 e)⟩;have h1:=h.1 e
   revert h1
   split
   ·exact fun ⟨v,h1,h2⟩=>⟨v,h1,IW hk h2⟩
   ·exact fun h=>Mf (fun _ _ g=>IW hk g) h
  ·exact fun h=>IW hk h
  ·exact fun h=>h.elim
theorem gJ {N N':List OB->List AV->Prop} {K K':Bp} (hn:∀o t,N o t->N' o t) (hk:∀e o t,K e o t->K' e o t):∀e o t,FO N K e o t->FO N' K' e o t:=by
 intro e o t h
 cases e<;>first|exact hn _ _ h|exact hk _ _ _ h
theorem cX {id:Nat} {K K':Bp} (hk:∀e o t,K e o t->K' e o t):∀e o t,Ht id K e o t->Ht id K' e o t:=by
 intro e o t h
 cases e
 all_goals try exact hk _ _ _ h
 rename_i i;unfold Ht at h ⊢;simp only at h ⊢
 split at h
 ·rename_i g;rw[if_pos g];exact hk _ _ _ h
 ·rename_i g;rw[if_neg g];exact hk _ _ _ h
theorem ON:∀(st:List (List SO×SO)) (h:List (List SO×List AV×List AV)) (last:List SO) (o:List OB) (t:List AV) {K K':List OB->List AV->Prop},(∀o t,K o t->K' o t)->Fc P st h last o t K->Fc P st h last o t K'
 | [],h,last,o,t,K,K',hk,g=>Ew hk g
 | (L,c)::st,h,last,o,t,K,K',hk,g=>Ew (fun _ _ g=>Ew (fun _ _ g=>⟨g.1,ON st _ last _ _ hk g.2⟩) g) g
theorem TB (d:Nat) (T:TypeId) (z:List AV):∀(st:List (List SO×SO)) (h:List (List SO×List AV×List AV)) (last:List SO) (o:List OB) (t:List AV) {K K':List OB->List AV->Prop},(∀o t,K o t->K' o t)->F0 P d T z st h last o t K->F0 P d T z st h last o t K'
 | [],h,last,o,t,K,K',hk,g=>Ew (fun _ _ g=>⟨g.1,hk _ _ g.2⟩) g
 | (L,c)::st,h,last,o,t,K,K',hk,g=>Ew (fun _ _ g=>⟨⟨g.1.1,Ew (fun _ _ g=>⟨g.1,ON st _ last _ _ hk g.2⟩) g.1.2⟩,Ew (fun _ _ g=>⟨g.1,TB d T z st _ last _ _ hk g.2⟩) g.2⟩) g
theorem JK:∀(c:SCode) {K K':Bp} {objs:List OB} {tm:List AV},(∀e o t,K e o t->K' e o t)->Ey P C c K objs tm->Ey P C c K' objs tm
 | .skip,_,_,_,_,hk,h=>hk _ _ _ h
 | .reg l,_,_,_,_,hk,h=>Ew (fun _ _ g=>hk _ _ _ g) h
 | .drw l k ap,_,_,_,_,hk,h=>IW (fun _ _ g=>⟨g.1,Ew (fun _ _ g=>hk _ _ _ g) g.2⟩) h
 | .crg pre cl post,_,_,_,_,hk,h=>Ew (fun _ _ g=>Ew (fun _ _ g=>⟨g.1,Ew (fun _ _ g=>hk _ _ _ g) g.2⟩) g) h
 | .crs st last,_,_,_,_,hk,h=>ON st [] last _ _ (fun _ _ g=>hk _ _ _ g) h
 | .cra d T z st last sr,_,_,_,_,hk,h=>⟨h.1,TB d T z st [] last _ _ (fun _ _ g=>Ew (fun _ _ g=>hk _ _ _ g) g) h.2⟩
 | .seq x y,_,_,_,_,hk,h=>JK x (gJ (fun _ _ g=>JK y hk g) hk) h
 | .cond c x y,_,_,_,_,hk,h=>by
  simp only[Ey] at h ⊢
  revert h
  split
  ·exact fun h=>⟨fun e=>JK x hk (h.1 e),fun e=>JK y hk (h.2 e)⟩
  ·exact fun h=>h.elim
 | .blk id c,_,_,_,_,hk,h=>JK c (cX hk) h
 | .loop c,_,_,_,_,hk,h=>fun c hc=>WP.mono (fun e o t g=>by cases e<;>first|exact hk _ _ _ g|exact g) (h c hc)
 | .exit id,_,_,_,_,hk,h=>hk _ _ _ h
 | .ret,_,_,_,_,hk,h=>hk _ _ _ h
 | .dead,_,_,_,_,hk,h=>h.elim
def MZ (P:Program) [Tabs P] (C:Cx) (J:List OB->List AV->Prop) (k:List IT) (F:Bp):Bp:=FO J (Dh P C F k)
variable {F:Bp} {k:List IT} {objs:List OB} {tm:List AV}
theorem Ap (J:List OB->List AV->Prop):MZ P C J k F .normal objs tm=J objs tm:=Eq.trans rfl rfl
theorem Hj (J:List OB->List AV->Prop) (id:Nat):MZ P C J k F (.exit id) objs tm=Fb P C id k objs tm F:=Eq.trans rfl rfl
theorem GM (J:List OB->List AV->Prop):MZ P C J k F .ret objs tm=F .ret objs tm:=H7 k
theorem Bq {x:SCode} (J:List OB->List AV->Prop) (h:run P C [.code x] objs tm (MZ P C J k F)) (hJ:∀o t,J o t->run P C k o t F):run P C (.code x::k) objs tm F :=
 JK x (fun e o t g=>by
  cases e
  ·exact hJ _ _ g
  all_goals exact g) h
end
section
variable {P:Program} [Tabs P] {C:Cx} {F:Bp} {k:List IT} {objs:List OB} {tm:List AV}
theorem Ac {x y:SCode} (h:∀Y,Y=y->run P C (.code x::.code Y::k) objs tm F):run P C (.code (.seq x y)::k) objs tm F:=h y rfl
theorem Gn (J:List AV->Prop) (h:J tm) (hk:∀t,J t->run P C k objs t F):run P C k objs tm F:=hk tm h
end
end Go.Proofs.YtbgaknpnkcdbfaaGreatDoor.Sx
namespace Go.Proofs.YtbgaknpnkcdbfaaGreatDoor
open Go.RowKit Sx
open Int renaming toNat_natCast->zt
open Lib renaming hasPrefix->zj
open List renaming getElem?_append_left->qh, getElem?_eq_some_iff->zf, getElem?_set->za, length_drop->zr, take_length->jh
section
variable [Tabs Tryz.prog] {objs:List OB} {K:List OB->AV->Prop}
end
section
variable [Tabs Tryz.prog] {objs:List OB} {K:List OB->AV->Prop}
end
section
variable [Tabs Tryz.prog] {objs:List OB} {K:List OB->AV->Prop}
end
theorem Jp {α:Type} {l:List α} {b:Nat} {x:α} (h:l[b]? = some x):b<l.length:=by
 rcases Nat.lt_or_ge b l.length with h0|h0
 ·exact h0
 ·rw[List.getElem?_eq_none h0] at h;cases h
theorem set_same {α:Type} {l:List α} {b:Nat} {x:α} (h:l[b]? = some x):l.set b x=l:=by
 apply List.ext_getElem?
 intro i;rw[za]
 split
 ·rename_i e;subst e;rw[if_pos (Jp h),h]
 ·rfl
section
variable [Tabs Tryz.prog] {objs:List OB} {K:List OB->AV->Prop}
end
def Jk (objs:List OB) (b:Nat) (T:TypeId) (l:List UInt8):Prop :=
 (objs[b]? = some (.box T [.o (.pointer none),.nil])/\l=[])\/∃r gen,objs[b]? = some (.box T [.p b 0,.orow r gen])/\objs[r]? = some (.orow 5 1 gen l.length (DQ l))
def HK (objs:List OB) (b:Nat):Option Nat :=
 match objs[b]? with
 | some (.box _ [_,.orow r _])=>some r
 | _=>none
def G4 (objs:List OB) (b:Nat) (objs':List OB):Prop:=objs.length<=objs'.length/\(∀(j:Nat) ob,objs[j]? = some ob->j≠b->HK objs b≠some j->objs'[j]? = some ob/\HK objs' b≠some j)
theorem G4.refl (objs:List OB) (b:Nat):G4 objs b objs:=⟨Nat.le_refl _,fun j ob h _ h2=>⟨h,h2⟩⟩
theorem G4.trans {o1 o2 o3:List OB} {b:Nat} (h:G4 o1 b o2) (k:G4 o2 b o3):G4 o1 b o3 :=
 ⟨Nat.le_trans h.1 k.1,fun j ob h1 h2 h3=>by
  obtain⟨a1,a2⟩:=h.2 j ob h1 h2 h3;exact k.2 j ob a1 h2 a2⟩
theorem Jk.lt {objs:List OB} {b:Nat} {T:TypeId} {l:List UInt8} (h:Jk objs b T l):b<objs.length/\∀r,HK objs b=some r->r<objs.length:=by
 rcases h with ⟨h,_⟩|⟨r,gen,h,h2⟩
 ·refine⟨Jp h,fun r hr=>?_⟩;unfold HK at hr;rw[h] at hr;cases hr
 ·refine⟨Jp h,fun r' hr=>?_⟩;unfold HK at hr;rw[h] at hr;injection hr with hr;subst hr;exact Jp h2
theorem Jk.app {objs:List OB} {b:Nat} {T:TypeId} {l:List UInt8} (h:Jk objs b T l) (more:List OB):Jk (objs++more) b T l/\HK (objs++more) b=HK objs b:=by
 have hlt:=h.lt.1;have e:(objs++more)[b]? = objs[b]?:=qh hlt;refine⟨?_,by unfold HK;rw[e]⟩;rcases h with ⟨h,h2⟩|⟨r,gen,h,h2⟩
 ·exact .inl ⟨by rw[e];exact h,h2⟩
 ·exact .inr ⟨r,gen,by rw[e];exact h,by rw[qh (Jp h2)];exact h2⟩
theorem G4.drop {objs more objs':List OB} {b:Nat} {T:TypeId} {l:List UInt8} (h:Jk objs b T l) (k:G4 (objs++more) b objs'):G4 objs b objs':=by
 refine⟨by have:=k.1;simp at this;omega,fun j ob h1 h2 h3=>k.2 j ob (by rw[qh (Jp h1)];exact h1) h2 (by rw[(h.app more).2];exact h3)⟩
section
variable [Tabs Tryz.prog] {objs:List OB} {K:List OB->AV->Prop}
end
section
variable [Tabs Tryz.prog] {objs:List OB} {K:List OB->AV->Prop}
end
def Cw (l:List (List UInt8×List UInt8)):List AV:=l.flatMap fun p=>[.s p.1,.s p.2]
theorem Uu (l:List (List UInt8×List UInt8)):(Cw l).length=l.length*2:=by
 induction l with
 | nil=>rfl
 | cons p l ih=>simp[Cw] at ih ⊢;omega
theorem jM (l:List (List UInt8×List UInt8)) (p:List UInt8×List UInt8):Cw (l++[p])=Cw l++[.s p.1,.s p.2]:=by simp[Cw]
theorem Va (objs:List OB) (d:Nat):∀l:List (List UInt8×List UInt8),CC objs d (Cw l)=some (Cw l)
 | []=>by simp[CC,Cw]
 | x::l=>by
  have h:=Va objs d l;have h1:∀y,pub objs d (AV.s y)=some (AV.s y):=by intro y;cases d<;>simp[pub,AV.plain]
  show CC objs d (AV.s x.1::AV.s x.2::Cw l)=_;simp only[CC,h1,h]
  rfl
section
variable [Tabs Tryz.prog] {objs:List OB} {K:List OB->AV->Prop}
end
section
variable [Tabs Tryz.prog] {objs:List OB} {K:List OB->AV->Prop}
end
section
variable [Tabs Tryz.prog] {objs:List OB} {K:List OB->AV->Prop}
end
section
attribute [local irreducible] run
def AR (u:UriP):AV:=.agg [.s u.scheme,.s u.auth,.s u.path,.s u.query,.s u.frag,.b u.hs,.b u.ha,.b u.hq,.b u.hf]
def Lz (l2 fr qu:List UInt8) (bf bq:Bool):Int×UriP :=
 if ((Af 58 (A8 l2)).2.2&&!Fw (Af 58 (A8 l2)).1)=true then (6,K8)
 else
  let r:=if (Af 58 (A8 l2)).2.2=true then l2.drop ((Af 58 (A8 l2)).1.length+1) else l2
  (0,{ scheme:=if (Af 58 (A8 l2)).2.2=true then (Af 58 (A8 l2)).1 else [],auth:=ED r,path:=FN r,query:=qu,frag:=fr,hs:=(Af 58 (A8 l2)).2.2,ha:=E6 r,hq:=bq,hf:=bf })
theorem U6 {s l1 l2 fr qu:List UInt8} {bf bq:Bool} (h:¬16384<s.length) (e1:Af 35 s=(l1,fr,bf)) (e2:Af 63 l1=(l2,qu,bq)):AB s=Lz l2 fr qu bf bq:=by
 unfold AB Lz Iw Ei Bg;rw[if_neg h,e1];simp only[e2]
theorem gT {l:List UInt8} {k:Nat} (h:k<(A8 l).length):(A8 l).take k=l.take k:=by
 rw[(Gs l).1,List.take_take,Nat.min_eq_left (by omega)]
theorem Uj:Iq Tryz.prog 83:=⟨_,Tryz.func83,by kernel_rfl,of_decide_eq_true (by kernel_rfl)⟩
section
variable [Tabs Tryz.prog] {objs:List OB} {K:List OB->AV->Prop}
theorem uH (s:List UInt8) (hs:s.length<=1000000) (hk:K objs (.i .i64 (Lib.indexByte (A8 s) 58))):Ah Tryz.prog 85 [.s s] objs K :=
 conv (vs:=[.string (S s)]) rfl rfl (fun w=>lF (S s) w (by unfold maxLen;rw[AL];omega)) hk
theorem uG (s:List UInt8) (hs:s.length<=1000000) (hk:K objs (.b (Fw s))):Ah Tryz.prog 86 [.s s] objs K :=
 GE (vs:=[.string (S s)]) rfl rfl (fun w=>kE (S s) w (by unfold maxLen;rw[AL];omega)) hk
theorem uF (s:List UInt8) (hs:s.length<=1000000) (hk:K objs (.s (A8 s))):Ah Tryz.prog 88 [.s s] objs K :=
 conv (vs:=[.string (S s)]) rfl rfl (fun w=>P6 (S s) w (by unfold maxLen;rw[AL];omega)) hk
theorem Rq {b T:Nat} (s:List UInt8) (c:UInt8) (hs:s.length<=1000000) (hb:objs[b]? = some (.box T [.s s])) (hk:K (objs.set b (.box T [.s (Af c s).1])) (.tup [.s (Af c s).2.1,.b (Af c s).2.2])):Ah Tryz.prog 83 [.i .u8 c.toNat,.p b 0] objs K:=by
 have hlt:=(zf.1 hb).1;refine DI lW fun C _=>?_;rw[VK];refine Ac fun Z hZ=>?_;simp only[Aa,simprocAttr];subst hZ;refine Ac fun Z hZ=>?_;simp only[Aa,simprocAttr,hb];refine Ae (Qe s c ?_);simp only[Aa,simprocAttr];subst hZ;rcases Fs c s with ⟨h1,h2,_⟩|⟨k,h1,h2,h3,_⟩
 ·rw[h2] at hk;rw[show objs.set b (.box T [.s s])=objs from by rw[<-(zf.1 hb).2,List.set_getElem_self]] at hk;simp only[Aa,simprocAttr,h1];exact hk
 ·rw[h3] at hk;have c1:¬(k:Int)<0:=by omega
  have e1:((k:Int)+1).toNat=k+1:=by omega
  simp only[Aa,simprocAttr,h1,c1,hb,zt,e1,jh];exact⟨by omega,⟨by omega,by omega,by omega⟩,⟨by omega,by omega⟩,hk⟩
theorem OJ (s:List UInt8) (hk:K objs (.tup [AR (AB s).2,.i .i64 (AB s).1])):Ah Tryz.prog 42 [.s s] objs K:=by
 refine AF kI rfl fun C _=>?_;rw[UO];refine Ac fun Z hZ=>?_;simp only[Aa,simprocAttr];subst hZ;refine Ac fun Z hZ=>?_
 by_cases hb:16384<s.length
 ·have hb':(16384:Int)<s.length:=by omega
  unfold AB at hk;rw[if_pos hb] at hk;simp only[Aa,simprocAttr,hb'];exact hk
 have hb':¬(16384:Int)<s.length:=by omega
 have h0:s.length<=16384:=by omega
 obtain⟨l1,fr,bf,e1⟩:∃l1 fr bf,Af 35 s=(l1,fr,bf):=⟨_,_,_,rfl⟩;obtain⟨l2,qu,bq,e2⟩:∃l2 qu bq,Af 63 l1=(l2,qu,bq):=⟨_,_,_,rfl⟩;have h1:=(EG 35 s).1;have h2:=(EG 63 l1).1;rw[e1] at h1;rw[e2] at h2;dsimp only at h1 h2;rw[U6 hb e1 e2] at hk;simp only[Aa,simprocAttr,hb'];subst hZ;refine Ac fun Z hZ=>?_;simp only[Aa,simprocAttr];subst hZ;refine Ac fun Z hZ=>?_;simp only[Aa,simprocAttr];subst hZ;refine Ac fun Z hZ=>?_;simp only[Aa,simprocAttr];subst hZ;refine Ac fun Z hZ=>?_;simp only[Aa,simprocAttr];refine Fq Uj (Rq s 35 (by omega) rfl ?_);rw[e1];simp only[Aa,simprocAttr];subst hZ;refine Ac fun Z hZ=>?_;simp only[Aa,simprocAttr];refine Fq Uj (Rq l1 63 (by omega) rfl ?_);rw[e2];simp only[Aa,simprocAttr];subst hZ;clear e1 e2 hb hb';refine Ac fun Z hZ=>?_;refine Bq (fun o t=>∃(r sc:List UInt8) (hs:Bool) (X:OB),r.length<=16384/\o=[X,.box 9 [.s r],.box 99 [.s sc,.s [],.s [],.s qu,.s fr,.b hs,.b false,.b bq,.b bf]]/\K objs (.tup [AR ⟨sc,ED r,FN r,qu,fr,hs,E6 r,bq,bf⟩,.i .i64 0])/\t.length=67/\t[2]? = some (.p 0 0)/\t[4]? = some (.p 1 0)/\t[6]? = some (.p 2 0)/\X=.box 99 [.s [],.s [],.s [],.s [],.s [],.b false,.b false,.b false,.b false]) ?_ ?_
 ·refine Ac fun Y hY=>?_;simp only[Aa,simprocAttr];refine Ae (uH l2 (by omega) ?_);simp only[Aa,simprocAttr];subst hY;unfold Lz at hk;rcases Fs 58 (A8 l2) with ⟨q1,q2,_⟩|⟨k,q1,q2,q3,_⟩
  ·rw[q2] at hk;simp only[Aa,simprocAttr,q1,Ap];exact⟨l2,[],false,_,by omega,rfl,hk,rfl⟩
  ·have hkl:=Nat.lt_of_lt_of_le q2 (Gs l2).2;have hlk:(l2.take k).length=k:=by rw[List.length_take];omega
   rw[q3,gT q2] at hk;have c1:(0:Int)<=(k:Int):=by omega
   have e1:((k:Int)+1).toNat=k+1:=by omega
   simp only[Aa,simprocAttr,q1,c1,zt];refine⟨by omega,Ae (uG (l2.take k) (by omega) ?_)⟩
   cases hsb:Fw (l2.take k) with
   | false=>
    rw[hsb] at hk;simp only[Aa,simprocAttr,GM];exact hk
   | true=>
    rw[hsb,hlk] at hk;simp only[Aa,simprocAttr,zt,e1,jh,Ap];exact⟨by omega,⟨by omega,by omega⟩,by omega,l2.drop (k+1),l2.take k,true,_,by rw[zr];omega,rfl,hk,rfl⟩
 ·clear hk;rintro _ t ⟨r,sc,hs,X,hr,rfl,hk,hlen,t2,t4,t6,rfl⟩;subst hZ;refine Ac fun Z hZ=>?_;refine Bq (fun o t=>∃(X:OB),o=[X,.box 9 [.s (FN r)],.box 99 [.s sc,.s (ED r),.s [],.s qu,.s fr,.b hs,.b (E6 r),.b bq,.b bf]]/\t.length=67/\t[2]? = some (.p 0 0)/\t[4]? = some (.p 1 0)/\t[6]? = some (.p 2 0)/\X=.box 99 [.s [],.s [],.s [],.s [],.s [],.b false,.b false,.b false,.b false]) ?_ ?_
  ·refine Ac fun Y hY=>?_;simp only[Aa,simprocAttr,za,hlen,t4];refine Ae (Vu r [47,47] ?_);simp only[Aa,simprocAttr,za,hlen,t4];subst hY;unfold FN ED
   cases h:E6 r with
   | false=>
    rw[show zj r [47,47]=false from h];simp only[Aa,simprocAttr,za,hlen,t2,t4,t6,Ap];exact⟨_,rfl,rfl⟩
   | true=>
    rw[show zj r [47,47]=true from h,gL h];have hd:(r.drop 2).length<=16384:=by rw[zr];omega
    have hf:=(Gs (r.drop 2)).2;simp only[Aa,simprocAttr,za,hlen,t2,t4,t6];refine Ae (uF (r.drop 2) (by omega) ?_);simp only[Aa,simprocAttr,za,hlen,t2,t4,t6,zt,jh,Ap];exact⟨⟨by omega,by omega,by omega⟩,_,rfl,rfl⟩
  ·clear hlen t2 t4 t6;rintro _ t ⟨X,rfl,hlen,t2,t4,t6,rfl⟩;subst hZ;simp only[Aa,simprocAttr,za,hlen,t2,t4,t6];exact hk
end
end
end Go.Proofs.YtbgaknpnkcdbfaaGreatDoor
namespace Go.Proofs.YtbgaknpnkcdbfaaGreatDoor
open Go.RowKit
open Lib renaming hasPrefix->zj, hid->zb
open List renaming eq_nil_of_length_eq_zero->qz, length_cons->zp, length_take->zq
open Nat renaming le_refl->ze
def Kl:List UInt8->List UInt8
 | []=>[]
 | x::t=>if x=47 then t else Kl t
def Cq (l:List UInt8):List UInt8:=(Kl l.reverse).reverse
theorem P2 (l:List UInt8) (x:UInt8):Cq (l++[x])=if x=47 then l else Cq l:=by
 unfold Cq;rw[List.reverse_append,List.reverse_singleton,List.singleton_append,Kl]
 split
 ·simp
 ·rfl
theorem ME (l:List UInt8):(Cq l).length<=l.length:=by
 have:∀m:List UInt8,(Kl m).length<=m.length:=by
  intro m
  induction m with
  | nil=>exact ze _
  | cons x t ih=>rw[Kl];split<;>simp<;>omega
 unfold Cq;rw[List.length_reverse];have:=this l.reverse;rw[List.length_reverse] at this;exact this
def Es (l:List UInt8):Nat:=1+(A8 (l.drop 1)).length
def Ck (i o:List UInt8):List UInt8×List UInt8 :=
 if zj i [46,46,47]=true then (i.drop 3,o)
 else if zj i [46,47]=true then (i.drop 2,o)
 else if zj i [47,46,47]=true then (i.drop 2,o)
 else if i=[47,46] then ([47],o)
 else if zj i [47,46,46,47]=true then (i.drop 3,Cq o)
 else if i=[47,46,46] then ([47],Cq o)
 else if i=[46]\/i=[46,46] then ([],o)
 else (i.drop (Es i),o++i.take (Es i))
def G8:Nat->List UInt8->List UInt8->List UInt8
 | 0,i,o=>o
 | n+1,i,o=>if i=[] then o else G8 n (Ck i o).1 (Ck i o).2
def Eb (i o:List UInt8):List UInt8:=G8 i.length i o
def Cr (l:List UInt8):List UInt8:=Eb l []
theorem Hf {s p:List UInt8} (h:zj s p=true):p.length<=s.length:=(List.isPrefixOf_iff_prefix.1 h).length_le
theorem N1 {l:List UInt8} (h:l≠[]):Es l<=l.length/\1<=Es l:=by
 have:=(Gs (l.drop 1)).2;rw[List.length_drop] at this;have h2:l.length≠0:=fun e=>h (qz e);unfold Es;omega
theorem FW {i o:List UInt8} (h:i≠[]):(Ck i o).1.length<i.length:=by
 have h0:i.length≠0:=fun e=>h (qz e);have hs:=N1 h;unfold Ck
 split
 ·simp;omega
 ·split
  ·simp;omega
  ·split
   ·simp;omega
   ·split
    ·rename_i h4;rw[h4];simp
    ·split
     ·simp;omega
     ·split
      ·rename_i h6;rw[h6];simp
      ·split
       ·simp;omega
       ·simp;omega
theorem Gr {i o:List UInt8}:(Ck i o).2.length+(Ck i o).1.length<=o.length+i.length:=by
 have h1:=ME o;unfold Ck
 split
 ·simp
 ·split
  ·simp
  ·split
   ·simp
   ·split
    ·rename_i h4;rw[h4];simp
    ·split
     ·simp;omega
     ·split
      ·rename_i h6;rw[h6];simp;omega
      ·split
       ·simp
       ·simp;omega
theorem iS:∀(n:Nat) (i o:List UInt8),i.length<=n->G8 n i o=G8 i.length i o:=by
 intro n
 induction n using Nat.strongRecOn with
 | _ n ih=>
  intro i o hi;rcases i with _|⟨c,t⟩
  ·cases n with
   | zero=>rfl
   | succ n=>rfl
  ·cases n with
   | zero=>simp at hi
   | succ n=>
    have hl:=FW (i:=c::t) (o:=o) (by simp);simp only[zp] at hi hl ⊢;rw[G8,G8,if_neg (by simp),if_neg (by simp),ih n (by omega) _ _ (by omega)]
    by_cases e:t.length=n
    ·subst e;rw[ih t.length (by omega) _ _ (by omega)]
    ·rw[ih t.length (by omega) _ _ (by omega)]
theorem T0 (o:List UInt8):Eb [] o=o:=rfl
theorem GS {i o:List UInt8} (h:i≠[]):Eb i o=Eb (Ck i o).1 (Ck i o).2:=by
 have hl:=FW (o:=o) h;unfold Eb;rcases i with _|⟨c,t⟩
 ·exact absurd rfl h
 ·simp only[zp] at hl;rw[zp,G8,if_neg h,iS t.length _ _ (by omega)]
theorem lD (s:ByteArray) (w:World) (hs:s.size<=maxLen) :
  Calls Tryz.prog 156 #[.string s] w fun e w'=>e=.returned (.string (S (Cq s.data.toList)))/\w=w':=by
 unfold maxLen at hs
 go_enter Tryz.func156,Tryz.ntmps156
 go_wp2_with fail
 go_loop [3] (fun i=>∃k:Nat,k<=s.size/\i=.int .i64 ((k:Int) - 1)/\Hid (Cq s.data.toList=Cq (s.data.toList.take k))) (fun i=>(intOf i+1).toNat)
 case atStart=>exact⟨s.size,ze _,rfl,zb (by rw[List.take_of_length_le (by rw[Ay];omega)])⟩
 case round=>
  obtain⟨k,hk,rfl,HT⟩:=hrel;rcases k with _|k
  ·go_wp2_with fail
   go_ret
   exact⟨OP (by rw[HT.out];rfl),rfl⟩
  ·have hlt:k<s.size:=by omega
   have hst:=P2 (s.data.toList.take k) s[k];rw[<-Ic s k hlt] at hst;have e1:(((k+1:Nat):Int) - 1)=(k:Int):=by omega
   by_cases hc:s[k]=47
   ·have hb:((s[k].toNat:Int)==47)=true:=by rw[hc];rfl
    have HN:Hid (Cq s.data.toList=s.data.toList.take k):=zb (by rw[HT.out,hst,if_pos hc]);have HX:=zb (PS s k);clear hst hc;rw[e1];clear e1
    go_wp2_with fail
    go_ret
    exact⟨NW (by rw[HX.out,HN.out]),rfl⟩
   ·have hb:((s[k].toNat:Int)==47)=false:=by
     rw[beq_eq_false_iff_ne];intro e;exact hc (UInt8.toNat_inj.1 (by show s[k].toNat=47;omega))
    have HN:Hid (Cq s.data.toList=Cq (s.data.toList.take k)):=zb (by rw[HT.out,hst,if_neg hc]);clear hst hc;rw[e1];clear e1
    go_wp2_with fail
    go_round
    case rel=>exact⟨k,by omega,rfl,HN⟩
    case measure=>simp[intOf]
theorem lZ {w:World} {ops:Array Oper} {o:Oper} {a:Act} {K:Act->World->Prop} {Q:Exit->Act->World->Prop} {E:Prop} (hgd:o.guard=none) (sl x:Operand)
  (ho:o.op=.call { callee:=.builtin .append,args:=#[sl,x],argTypes:=#[124,9] })
  (B:Nat) (v:Value) (l:List UInt8) (hs:a.eval sl=v) (hrow:A0 w B v l) (s:ByteArray) (hx:a.eval x=.string s)
  (hlen:l.length+s.size<=140737488355328) (hB:B<=w.heap.size)
  (h:∀v' w',A0 w' B v' (l++s.data.toList)->Below B w w'->K (a.put o.dst v') w'):if Region.wanted o (yielded ops a.tmps)=true then Oper.wp Tryz.prog o a w K Q else E:=by
 have hw:Region.wanted o (yielded ops a.tmps)=true:=by simp[Region.wanted,hgd]
 rw[if_pos hw];obtain⟨i0,hi,hz0,hz1,hz2⟩:=info_parts Kj;obtain⟨v',w',hrun,h1,h2,_⟩:=Lib.run_append_own_string (P:=Tryz.prog) w B 124 9 o.type 5 i0 Tryz.underlying124 Tryz.underlying9 hi hz0 hz1 hz2 v l.length (bv l) hrow s (by simp only[maxLen];omega) hlen hB;unfold Oper.wp execOp;simp only[ho,resolve,invoke,builtin,Sem.run_bind,Sem.run_pure,Result.andThen_ok,List.map_toArray,List.map_cons,List.map_nil,hs,hx,hrun];exact h v' w' (A0.appended h1 (by rw[U7,Mn]) (by rw[List.length_append,Ay])) (MH hrow hB h2)
theorem A0.form {w:World} {B:Nat} {v:Value} {l:List UInt8} (h:A0 w B v l) (hl:0<l.length):∃g cap,v=.slice (some ⟨g,0,none⟩) l.length cap/\B<=g/\g<w.heap.size/\l.length<=cap:=by
 rcases h.2 with ⟨rfl,hn⟩|⟨g,cap,cur,rfl,hb,hg,hnc,_⟩
 ·omega
 ·refine⟨g,cap,rfl,hb,?_,hnc⟩;rcases Nat.lt_or_ge g w.heap.size with h1|h1
  ·exact h1
  ·rw[Array.getElem?_eq_none h1] at hg;cases hg
theorem A0.cap {w:World} {B g n cap:Nat} {l:List UInt8} (h:A0 w B (.slice (some ⟨g,0,none⟩) n cap) l):n=l.length/\n<=cap/\cap<=maxLen:=by
 rcases h.2 with ⟨e,_⟩|⟨g',cap',cur,e,hb,hg,hnc,hcm,_⟩
 ·simp at e
 ·simp only[Value.slice.injEq] at e;obtain⟨_,rfl,rfl⟩:=e;exact⟨rfl,hnc,hcm⟩
theorem A0.pre {w:World} {B g n cap:Nat} {l:List UInt8} (h:A0 w B (.slice (some ⟨g,0,none⟩) n cap) l) (k:Nat) (hk:k<=l.length):A0 w B (.slice (some ⟨g,0,none⟩) k cap) (l.take k):=by
 rcases h.2 with ⟨e,_⟩|⟨g',cap',cur,e,hb,hg,hnc,hcm,hcs,ht⟩
 ·simp at e
 ·simp only[Value.slice.injEq] at e;obtain⟨hgg,rfl,rfl⟩:=e;obtain rfl:g=g':=by simpa using hgg
  have hlen:(l.take k).length=k:=by rw[zq];omega
  refine⟨by rw[KP];simp,.inr ⟨g,cap,cur,by rw[hlen],hb,hg,by rw[hlen];omega,hcm,hcs,?_⟩⟩;rw[hlen];have:=congrArg (List.take k) ht;rw[Nat.mul_one] at this ⊢;rw[List.take_take,Nat.min_eq_left hk] at this;rw[this];simp[bv,List.map_take]
theorem U5 (l:List UInt8):Cq l=l.take (Cq l).length:=by
 have:∀(n:Nat) (l:List UInt8),l.length<=n->Cq l=l.take (Cq l).length:=by
  intro n
  induction n with
  | zero=>
   intro l hl;obtain rfl:l=[]:=qz (by omega)
   rfl
  | succ n ih=>
   intro l hl;rcases List.eq_nil_or_concat l with rfl|⟨t,x,rfl⟩
   ·rfl
   ·rw[List.concat_eq_append] at hl ⊢;rw[P2]
    by_cases hx:x=47
    ·rw[if_pos hx];simp
    ·rw[if_neg hx];have h1:=ih t (by simp at hl;omega);have h2:=ME t;rw[List.take_append_of_le_length h2];exact h1
 exact this _ l (ze _)
theorem V8 (g cap B:Nat) (l:List UInt8) (w:World) (hrow:A0 w B (.slice (some ⟨g,0,none⟩) l.length cap) l) (hl:l.length<=1000000) :
  Calls Tryz.prog 142 #[.slice (some ⟨g,0,none⟩) l.length cap] w fun e w'=>e=.returned (.slice (some ⟨g,0,none⟩) (Cq l).length cap)/\w=w':=by
 obtain⟨_,hc1,hc2⟩:=hrow.cap;unfold maxLen at hc2;have HR:=zb hrow;clear hrow
 go_enter Tryz.func142,Tryz.ntmps142
 go_wp2_with fail
 go_loop [3] (fun i=>∃k:Nat,k<=l.length/\i=.int .i64 ((k:Int) - 1)/\Hid (Cq l=Cq (l.take k))) (fun i=>(intOf i+1).toNat)
 case atStart=>exact⟨l.length,ze _,rfl,zb (by rw[List.take_length])⟩
 case round=>
  obtain⟨k,hk,rfl,HT⟩:=hrel;rcases k with _|k
  ·go_wp2_with fail
   go_ret
   exact⟨by rw[HT.out];rfl,rfl⟩
  ·have hlt:k<l.length:=by omega
   have hst:=P2 (l.take k) l[k];rw[<-List.take_succ_eq_append_getElem hlt] at hst;have hcell:=HR.out.cell k hlt;have e1:(((k+1:Nat):Int) - 1)=(k:Int):=by omega
   have hkl:(l.take k).length=k:=by rw[zq];omega
   generalize l[k]=x at *
   by_cases hc:x=47
   ·have hb:((x.toNat:Int)==47)=true:=by rw[hc];rfl
    have HN:Hid ((Cq l).length=k):=zb (by rw[HT.out,hst,if_pos hc,hkl]);clear hst hc hkl;rw[e1];clear e1
    go_wp2_with fail
    go_ret
    exact⟨by rw[HN.out];rfl,rfl⟩
   ·have hb:((x.toNat:Int)==47)=false:=by
     rw[beq_eq_false_iff_ne];intro e;exact hc (UInt8.toNat_inj.1 (by show x.toNat=47;omega))
    have HN:Hid (Cq l=Cq (l.take k)):=zb (by rw[HT.out,hst,if_neg hc]);clear hst hc hkl;rw[e1];clear e1
    go_wp2_with fail
    go_round
    case rel=>exact⟨k,by omega,rfl,HN⟩
    case measure=>simp[intOf]
theorem GU {l m:List UInt8} (h:(l==m)=false):¬l=m:=by rw[beq_eq_false_iff_ne] at h;exact h
end Go.Proofs.YtbgaknpnkcdbfaaGreatDoor
namespace Go.Proofs.YtbgaknpnkcdbfaaGreatDoor
open Go.RowKit
open Lib renaming hasPrefix->zj, hid->zb
attribute [local go_sem ↓] Go.wp_at_zero Go.wp_at_succ
set_option maxHeartbeats 8000000 in
theorem dW (s:ByteArray) (w:World) (hs:s.size<=1000000) :
  Calls Tryz.prog 92 #[.string s] w fun e w'=>e=.returned (.string (S (Cr s.data.toList)))/\Qb w w':=by
 have hmk:=fun W=>Pe s.size (by omega) W
 go_enter Tryz.func92,Tryz.ntmps92
 go_wp2_with fail
 go_region
 go_wp2_with fail
 clear hmk
 go_loopw [3,4,5] (fun x y _ wr=>∃(i o:List UInt8) (g cap:Nat),o.length+i.length<=s.size/\x=.string (S i)/\y=.slice (some ⟨g,0,none⟩) o.length cap/\A0 wr w.heap.size (.slice (some ⟨g,0,none⟩) o.length cap) o/\Hid (Cr s.data.toList=Eb i o)/\Qb w wr) (fun x _ _ _=>Q9 x)
 case atStart=>exact⟨s.data.toList,[],w.heap.size,s.size,by rw[Ay];simp,rfl,rfl,(Mm w _ 0 _ (Nat.le_refl _) (Nat.zero_le _) (by omega)).drew,zb rfl,((Qb.refl w).alloc _).drew⟩
 case round=>
  obtain⟨i,o,g,cap,hl,rfl,rfl,hrow,HD,hq⟩:=hrel;have hB:w.heap.size<=wr.heap.size:=hq.size;rcases i with _|⟨c,t⟩
  ·have hst:=JD hrow;clear hrow
   go_wp2_with fail
   go_ret
   exact⟨OP (by rw[HD.out,T0]),hq⟩
  ·generalize hi:c::t=i at *;have hi0:i≠[]:=by rw[<-hi];simp
   have hne:i.isEmpty=false:=by rw[<-hi];rfl
   clear hi;have hml:(S i).size<=maxLen:=by unfold maxLen;rw[AL];omega
   have hil:i.length<=1000000:=by omega
   have hol:o.length<=1000000:=by omega
   rcases p1:zj i [46,46,47] with _|_
   ·rcases p2:zj i [46,47] with _|_
    ·rcases p3:zj i [47,46,47] with _|_
     ·rcases e4:(i==[47,46]) with _|_
      ·rcases p5:zj i [47,46,46,47] with _|_
       ·rcases e6:(i==[47,46,46]) with _|_
        ·rcases e7:(i==[46]) with _|_
         ·rcases e8:(i==[46,46]) with _|_
          ·have HS:Hid (Ck i o=(i.drop (Es i),o++i.take (Es i))):=zb (by unfold Ck;rw[if_neg (by rw[p1];exact Bool.false_ne_true),if_neg (by rw[p2];exact Bool.false_ne_true),if_neg (by rw[p3];exact Bool.false_ne_true),if_neg (GU e4),if_neg (by rw[p5];exact Bool.false_ne_true),if_neg (GU e6),if_neg (fun h=>h.elim (GU e7) (GU e8))]);have hlt:=FW (o:=o) hi0;have hout:=Gr (i:=i) (o:=o);rw[HS.out] at hlt hout;simp only at hlt hout;have HN:Hid (Cr s.data.toList=Eb (i.drop (Es i)) (o++i.take (Es i))):=zb (by rw[HD.out,GS hi0,HS.out]);have hseg:=N1 hi0;have hx1:=JW (S i) 1;rw[AL,AO] at hx1;have HX1:=zb hx1;have hx2:=JW (S i) (Es i);rw[AL,AO] at hx2;have hx3:=PS (S i) (Es i);rw[AO] at hx3;have HXS:=zb hx2;have HXP:=zb hx3;have hdl:(i.drop 1).length<=1000000:=by rw[List.length_drop];omega
           have hsg:(1:Int)+((A8 (i.drop 1)).length:Int)=(Es i:Int):=by unfold Es;omega
           have HSG:=zb hsg;clear hx1 hx2 hx3 hsg;have Hp1:=zb p1;have Hp2:=zb p2;have Hp3:=zb p3;have Hp5:=zb p5;clear p1 p2 p3 p5
           go_wp2_with fail
           refine(Tryz.strings_HasPrefix _ _ _).mono ?_;rintro e w1 ⟨rfl,rfl⟩;rw[AO,show zj i ({ data:=#[46,46,47] }:ByteArray).data.toList=false from Hp1.out]
           go_wp2_with fail
           refine(Tryz.strings_HasPrefix _ _ _).mono ?_;rintro e w1 ⟨rfl,rfl⟩;rw[AO,show zj i ({ data:=#[46,47] }:ByteArray).data.toList=false from Hp2.out]
           go_wp2_with fail
           refine(Tryz.strings_HasPrefix _ _ _).mono ?_;rintro e w1 ⟨rfl,rfl⟩;rw[AO,show zj i ({ data:=#[47,46,47] }:ByteArray).data.toList=false from Hp3.out]
           go_wp2_with fail
           refine(Tryz.strings_HasPrefix _ _ _).mono ?_;rintro e w1 ⟨rfl,rfl⟩;rw[AO,show zj i ({ data:=#[47,46,46,47] }:ByteArray).data.toList=false from Hp5.out]
           go_wp2_with fail
           rw[HX1.out];refine(P6 _ _ (by unfold maxLen;rw[AL];omega)).mono ?_;rintro e w1 ⟨rfl,hq1⟩;rw[AO];have hrow1:=hrow.below hq1;have hB1:w.heap.size<=w1.heap.size:=Nat.le_trans hB hq1.size;have hfl:=(Gs (i.drop 1)).2;generalize hfa:A8 (i.drop 1)=fa at *;have HFA:=zb hfa;clear hfa;have q0:(1:Int)+(fa.length:Int)=(Es i:Int):=HSG.out;generalize hsn:Es i=sg at *;clear hsn;have q1:(0:Int)<=(sg:Int):=by omega
           have q2:(sg:Int)<=(i.length:Int):=by omega
           have q3:(i.take sg).length<=sg:=List.length_take_le _ _
           go_wp2_with fail
           go_region_held_law (fun w'=>True) (first|trivial|go_keep) ((refine lZ (o:=⟨some 24,_,_,_,_,_⟩) (by rfl) (.tmp 20) (.tmp 23) (by rfl) w.heap.size _ o (by rfl) (A0.drew hrow1) _ (by rfl) (by rw[HXP.out,AL];omega) (by simp;omega) ?_;intro v1 w2 hr1 hb1))
           rw[HXP.out,AO] at hr1;obtain⟨oo,hoo⟩:∃oo,oo=o++i.take sg:=⟨_,rfl⟩;rw[<-hoo] at hr1;have HN2:Hid (Cr s.data.toList=Eb (i.drop sg) oo):=zb (by rw[hoo];exact HN.out);have hoo1:oo.length+(i.drop sg).length<=s.size:=by rw[hoo];omega
           have hoo2:0<oo.length:=by rw[hoo,List.length_append,List.length_take];omega
           clear hoo HN hout;obtain⟨g1,cap1,rfl,_⟩:=hr1.form hoo2
           go_wp2_with fail
           go_roundw
           case rel=>exact⟨_,_,_,_,hoo1,congrArg Value.string HXS.out,rfl,hr1,HN2,Below.trans ((hq.trans hq1).drew) hb1⟩
           case measure=>rw[HXS.out,Ek,Ek,AL,AL];exact hlt
          ·have HS:Hid (Ck i o=([],o)):=zb (by unfold Ck;rw[if_neg (by rw[p1];exact Bool.false_ne_true),if_neg (by rw[p2];exact Bool.false_ne_true),if_neg (by rw[p3];exact Bool.false_ne_true),if_neg (GU e4),if_neg (by rw[p5];exact Bool.false_ne_true),if_neg (GU e6),if_pos (.inr (eq_of_beq e8))]);have hlt:=FW (o:=o) hi0;have hout:=Gr (i:=i) (o:=o);rw[HS.out] at hlt hout;simp only at hlt hout;have HN:Hid (Cr s.data.toList=Eb ([]) (o)):=zb (by rw[HD.out,GS hi0,HS.out]);have Hp1:=zb p1;have Hp2:=zb p2;have Hp3:=zb p3;have Hp5:=zb p5;clear p1 p2 p3 p5
           go_wp2_with fail
           refine(Tryz.strings_HasPrefix _ _ _).mono ?_;rintro e w1 ⟨rfl,rfl⟩;rw[AO,show zj i ({ data:=#[46,46,47] }:ByteArray).data.toList=false from Hp1.out]
           go_wp2_with fail
           refine(Tryz.strings_HasPrefix _ _ _).mono ?_;rintro e w1 ⟨rfl,rfl⟩;rw[AO,show zj i ({ data:=#[46,47] }:ByteArray).data.toList=false from Hp2.out]
           go_wp2_with fail
           refine(Tryz.strings_HasPrefix _ _ _).mono ?_;rintro e w1 ⟨rfl,rfl⟩;rw[AO,show zj i ({ data:=#[47,46,47] }:ByteArray).data.toList=false from Hp3.out]
           go_wp2_with fail
           refine(Tryz.strings_HasPrefix _ _ _).mono ?_;rintro e w1 ⟨rfl,rfl⟩;rw[AO,show zj i ({ data:=#[47,46,46,47] }:ByteArray).data.toList=false from Hp5.out]
           go_wp2_with fail
           go_roundw
           case rel=>exact⟨_,_,_,_,by omega,rfl,rfl,hrow,HN,hq⟩
           case measure=>rw[Ek,Ek,AL];exact hlt
         ·have HS:Hid (Ck i o=([],o)):=zb (by unfold Ck;rw[if_neg (by rw[p1];exact Bool.false_ne_true),if_neg (by rw[p2];exact Bool.false_ne_true),if_neg (by rw[p3];exact Bool.false_ne_true),if_neg (GU e4),if_neg (by rw[p5];exact Bool.false_ne_true),if_neg (GU e6),if_pos (.inl (eq_of_beq e7))]);have hlt:=FW (o:=o) hi0;have hout:=Gr (i:=i) (o:=o);rw[HS.out] at hlt hout;simp only at hlt hout;have HN:Hid (Cr s.data.toList=Eb ([]) (o)):=zb (by rw[HD.out,GS hi0,HS.out]);have Hp1:=zb p1;have Hp2:=zb p2;have Hp3:=zb p3;have Hp5:=zb p5;clear p1 p2 p3 p5
          go_wp2_with fail
          refine(Tryz.strings_HasPrefix _ _ _).mono ?_;rintro e w1 ⟨rfl,rfl⟩;rw[AO,show zj i ({ data:=#[46,46,47] }:ByteArray).data.toList=false from Hp1.out]
          go_wp2_with fail
          refine(Tryz.strings_HasPrefix _ _ _).mono ?_;rintro e w1 ⟨rfl,rfl⟩;rw[AO,show zj i ({ data:=#[46,47] }:ByteArray).data.toList=false from Hp2.out]
          go_wp2_with fail
          refine(Tryz.strings_HasPrefix _ _ _).mono ?_;rintro e w1 ⟨rfl,rfl⟩;rw[AO,show zj i ({ data:=#[47,46,47] }:ByteArray).data.toList=false from Hp3.out]
          go_wp2_with fail
          refine(Tryz.strings_HasPrefix _ _ _).mono ?_;rintro e w1 ⟨rfl,rfl⟩;rw[AO,show zj i ({ data:=#[47,46,46,47] }:ByteArray).data.toList=false from Hp5.out]
          go_wp2_with fail
          go_roundw
          case rel=>exact⟨_,_,_,_,by omega,rfl,rfl,hrow,HN,hq⟩
          case measure=>rw[Ek,Ek,AL];exact hlt
        ·have HS:Hid (Ck i o=([47],Cq o)):=zb (by unfold Ck;rw[if_neg (by rw[p1];exact Bool.false_ne_true),if_neg (by rw[p2];exact Bool.false_ne_true),if_neg (by rw[p3];exact Bool.false_ne_true),if_neg (GU e4),if_neg (by rw[p5];exact Bool.false_ne_true),if_pos (eq_of_beq e6)]);have hlt:=FW (o:=o) hi0;have hout:=Gr (i:=i) (o:=o);rw[HS.out] at hlt hout;simp only at hlt hout;have HN:Hid (Cr s.data.toList=Eb ([47]) (Cq o)):=zb (by rw[HD.out,GS hi0,HS.out]);have Hp1:=zb p1;have Hp2:=zb p2;have Hp3:=zb p3;have Hp5:=zb p5;clear p1 p2 p3 p5
         go_wp2_with fail
         refine(Tryz.strings_HasPrefix _ _ _).mono ?_;rintro e w1 ⟨rfl,rfl⟩;rw[AO,show zj i ({ data:=#[46,46,47] }:ByteArray).data.toList=false from Hp1.out]
         go_wp2_with fail
         refine(Tryz.strings_HasPrefix _ _ _).mono ?_;rintro e w1 ⟨rfl,rfl⟩;rw[AO,show zj i ({ data:=#[46,47] }:ByteArray).data.toList=false from Hp2.out]
         go_wp2_with fail
         refine(Tryz.strings_HasPrefix _ _ _).mono ?_;rintro e w1 ⟨rfl,rfl⟩;rw[AO,show zj i ({ data:=#[47,46,47] }:ByteArray).data.toList=false from Hp3.out]
         go_wp2_with fail
         refine(Tryz.strings_HasPrefix _ _ _).mono ?_;rintro e w1 ⟨rfl,rfl⟩;rw[AO,show zj i ({ data:=#[47,46,46,47] }:ByteArray).data.toList=false from Hp5.out];have hrow1:=hrow.pre (Cq o).length (ME o);rw[<-U5] at hrow1
         go_wp2_with fail
         refine(V8 g cap _ o _ hrow (by omega)).mono ?_;rintro e w1 ⟨rfl,rfl⟩
         go_wp2_with fail
         go_roundw
         case rel=>exact⟨_,_,_,_,by omega,rfl,rfl,hrow1,HN,hq⟩
         case measure=>rw[Ek,Ek,AL];exact hlt
       ·have HS:Hid (Ck i o=(i.drop 3,Cq o)):=zb (by unfold Ck;rw[if_neg (by rw[p1];exact Bool.false_ne_true),if_neg (by rw[p2];exact Bool.false_ne_true),if_neg (by rw[p3];exact Bool.false_ne_true),if_neg (GU e4),if_pos p5]);have hlt:=FW (o:=o) hi0;have hout:=Gr (i:=i) (o:=o);rw[HS.out] at hlt hout;simp only at hlt hout;have HN:Hid (Cr s.data.toList=Eb (i.drop 3) (Cq o)):=zb (by rw[HD.out,GS hi0,HS.out]);have hp3:3<=i.length:=by have:=Hf p5;simp at this;omega
        have hx:=JW (S i) 3;rw[AL,AO] at hx;have HX:=zb hx;clear hx;have Hp1:=zb p1;have Hp2:=zb p2;have Hp3:=zb p3;have Hp5:=zb p5;clear p1 p2 p3 p5
        go_wp2_with fail
        refine(Tryz.strings_HasPrefix _ _ _).mono ?_;rintro e w1 ⟨rfl,rfl⟩;rw[AO,show zj i ({ data:=#[46,46,47] }:ByteArray).data.toList=false from Hp1.out]
        go_wp2_with fail
        refine(Tryz.strings_HasPrefix _ _ _).mono ?_;rintro e w1 ⟨rfl,rfl⟩;rw[AO,show zj i ({ data:=#[46,47] }:ByteArray).data.toList=false from Hp2.out]
        go_wp2_with fail
        refine(Tryz.strings_HasPrefix _ _ _).mono ?_;rintro e w1 ⟨rfl,rfl⟩;rw[AO,show zj i ({ data:=#[47,46,47] }:ByteArray).data.toList=false from Hp3.out]
        go_wp2_with fail
        refine(Tryz.strings_HasPrefix _ _ _).mono ?_;rintro e w1 ⟨rfl,rfl⟩;rw[AO,show zj i ({ data:=#[47,46,46,47] }:ByteArray).data.toList=true from Hp5.out];have hrow1:=hrow.pre (Cq o).length (ME o);rw[<-U5] at hrow1
        go_wp2_with fail
        go_quiet ((go_at_call 142;exact KS (V8 g cap _ o _ (hrow.drewN _) (by omega))))
        go_wp2_with fail
        go_roundw
        case rel=>exact⟨_,_,_,_,by omega,congrArg Value.string HX.out,rfl,hrow1.drewN _,HN,hq.drewN _⟩
        case measure=>rw[HX.out,Ek,Ek,AL,AL];exact hlt
      ·have HS:Hid (Ck i o=([47],o)):=zb (by unfold Ck;rw[if_neg (by rw[p1];exact Bool.false_ne_true),if_neg (by rw[p2];exact Bool.false_ne_true),if_neg (by rw[p3];exact Bool.false_ne_true),if_pos (eq_of_beq e4)]);have hlt:=FW (o:=o) hi0;have hout:=Gr (i:=i) (o:=o);rw[HS.out] at hlt hout;simp only at hlt hout;have HN:Hid (Cr s.data.toList=Eb ([47]) (o)):=zb (by rw[HD.out,GS hi0,HS.out]);have Hp1:=zb p1;have Hp2:=zb p2;have Hp3:=zb p3;clear p1 p2 p3
       go_wp2_with fail
       refine(Tryz.strings_HasPrefix _ _ _).mono ?_;rintro e w1 ⟨rfl,rfl⟩;rw[AO,show zj i ({ data:=#[46,46,47] }:ByteArray).data.toList=false from Hp1.out]
       go_wp2_with fail
       refine(Tryz.strings_HasPrefix _ _ _).mono ?_;rintro e w1 ⟨rfl,rfl⟩;rw[AO,show zj i ({ data:=#[46,47] }:ByteArray).data.toList=false from Hp2.out]
       go_wp2_with fail
       refine(Tryz.strings_HasPrefix _ _ _).mono ?_;rintro e w1 ⟨rfl,rfl⟩;rw[AO,show zj i ({ data:=#[47,46,47] }:ByteArray).data.toList=false from Hp3.out]
       go_wp2_with fail
       go_roundw
       case rel=>exact⟨_,_,_,_,by omega,rfl,rfl,hrow,HN,hq⟩
       case measure=>rw[Ek,Ek,AL];exact hlt
     ·have HS:Hid (Ck i o=(i.drop 2,o)):=zb (by unfold Ck;rw[if_neg (by rw[p1];exact Bool.false_ne_true),if_neg (by rw[p2];exact Bool.false_ne_true),if_pos p3]);have hlt:=FW (o:=o) hi0;have hout:=Gr (i:=i) (o:=o);rw[HS.out] at hlt hout;simp only at hlt hout;have HN:Hid (Cr s.data.toList=Eb (i.drop 2) (o)):=zb (by rw[HD.out,GS hi0,HS.out]);have hp2:2<=i.length:=by have:=Hf p3;simp at this;omega
      have hx:=JW (S i) 2;rw[AL,AO] at hx;have HX:=zb hx;clear hx;have Hp1:=zb p1;have Hp2:=zb p2;have Hp3:=zb p3;clear p1 p2 p3
      go_wp2_with fail
      refine(Tryz.strings_HasPrefix _ _ _).mono ?_;rintro e w1 ⟨rfl,rfl⟩;rw[AO,show zj i ({ data:=#[46,46,47] }:ByteArray).data.toList=false from Hp1.out]
      go_wp2_with fail
      refine(Tryz.strings_HasPrefix _ _ _).mono ?_;rintro e w1 ⟨rfl,rfl⟩;rw[AO,show zj i ({ data:=#[46,47] }:ByteArray).data.toList=false from Hp2.out]
      go_wp2_with fail
      refine(Tryz.strings_HasPrefix _ _ _).mono ?_;rintro e w1 ⟨rfl,rfl⟩;rw[AO,show zj i ({ data:=#[47,46,47] }:ByteArray).data.toList=true from Hp3.out]
      go_wp2_with fail
      go_roundw
      case rel=>exact⟨_,_,_,_,by omega,congrArg Value.string HX.out,rfl,hrow,HN,hq⟩
      case measure=>rw[HX.out,Ek,Ek,AL,AL];exact hlt
    ·have HS:Hid (Ck i o=(i.drop 2,o)):=zb (by unfold Ck;rw[if_neg (by rw[p1];exact Bool.false_ne_true),if_pos p2]);have hlt:=FW (o:=o) hi0;have hout:=Gr (i:=i) (o:=o);rw[HS.out] at hlt hout;simp only at hlt hout;have HN:Hid (Cr s.data.toList=Eb (i.drop 2) (o)):=zb (by rw[HD.out,GS hi0,HS.out]);have hp2:2<=i.length:=by have:=Hf p2;simp at this;omega
     have hx:=JW (S i) 2;rw[AL,AO] at hx;have HX:=zb hx;clear hx;have Hp1:=zb p1;have Hp2:=zb p2;clear p1 p2
     go_wp2_with fail
     refine(Tryz.strings_HasPrefix _ _ _).mono ?_;rintro e w1 ⟨rfl,rfl⟩;rw[AO,show zj i ({ data:=#[46,46,47] }:ByteArray).data.toList=false from Hp1.out]
     go_wp2_with fail
     refine(Tryz.strings_HasPrefix _ _ _).mono ?_;rintro e w1 ⟨rfl,rfl⟩;rw[AO,show zj i ({ data:=#[46,47] }:ByteArray).data.toList=true from Hp2.out]
     go_wp2_with fail
     go_roundw
     case rel=>exact⟨_,_,_,_,by omega,congrArg Value.string HX.out,rfl,hrow,HN,hq⟩
     case measure=>rw[HX.out,Ek,Ek,AL,AL];exact hlt
   ·have HS:Hid (Ck i o=(i.drop 3,o)):=zb (by unfold Ck;rw[if_pos p1]);have hlt:=FW (o:=o) hi0;have hout:=Gr (i:=i) (o:=o);rw[HS.out] at hlt hout;simp only at hlt hout;have HN:Hid (Cr s.data.toList=Eb (i.drop 3) (o)):=zb (by rw[HD.out,GS hi0,HS.out]);have hp3:3<=i.length:=by have:=Hf p1;simp at this;omega
    have hx:=JW (S i) 3;rw[AL,AO] at hx;have HX:=zb hx;clear hx;have Hp1:=zb p1;clear p1
    go_wp2_with fail
    refine(Tryz.strings_HasPrefix _ _ _).mono ?_;rintro e w1 ⟨rfl,rfl⟩;rw[AO,show zj i ({ data:=#[46,46,47] }:ByteArray).data.toList=true from Hp1.out]
    go_wp2_with fail
    go_roundw
    case rel=>exact⟨_,_,_,_,by omega,congrArg Value.string HX.out,rfl,hrow,HN,hq⟩
    case measure=>rw[HX.out,Ek,Ek,AL,AL];exact hlt
end Go.Proofs.YtbgaknpnkcdbfaaGreatDoor
namespace Go.Proofs.YtbgaknpnkcdbfaaGreatDoor
open Go.RowKit Sx
open Int renaming toNat_natCast->zt
open Lib renaming hasPrefix->zj
open List renaming append_nil->qm, getElem?_map->je, getElem?_set->za, length_append->zg, length_map->qk, length_take->zq, take_length->jh
open Nat renaming le_refl->ze
section
attribute [local irreducible] run
theorem Zz {s i r i' r':List UInt8} (hi:i≠[]) (hl:r.length+i.length<=s.length) (hd:Cr s=Eb i r) (h:Ck i r=(i',r')):i'.length<i.length/\Cr s=Eb i' r'/\r'.length+i'.length<=s.length:=by
 have h1:=FW (o:=r) hi;have h2:=Gr (i:=i) (o:=r);have h3:=GS (o:=r) hi;rw[h] at h1 h2 h3;exact⟨h1,by rw[hd,h3],by dsimp only at h2;omega⟩
section
variable [Tabs Tryz.prog] {objs:List OB} {K:List OB->AV->Prop}
theorem SW (s:List UInt8) (hs:s.length<=maxLen) (hk:K objs (.s (Cq s))):Ah Tryz.prog 156 [.s s] objs K :=
 GE (vs:=[.string (S s)]) rfl rfl (fun w=>lD (S s) w (by rw[AL];exact hs)) hk
theorem KJ (s:List UInt8) (hs:s.length<=1000000) (hk:K objs (.s (Cr s))):Ah Tryz.prog 111 [.s s] objs K:=by
 have hm:maxLen=2 ^ 63 - 1:=rfl;refine AF nP rfl fun C _=>?_;rw[Wj];simp only[Aa,simprocAttr];refine B4 (fun n o t=>∃i r,o=[]/\n=i.length/\Cr s=Eb i r/\r.length+i.length<=s.length/\t.length=59/\t[3]? = some (.s i)/\t[4]? = some (.s r)) s.length ⟨s,[],rfl,rfl,rfl,by simp,rfl,rfl,rfl⟩ ?_;rintro n _ t ⟨i,r,rfl,rfl,hd,hl,hlen,t3,t4⟩
 by_cases hi:i=[]
 ·subst hi;rw[hd,T0] at hk;simp only[Aa,simprocAttr,za,hlen,t3,t4];exact hk
 have hq:=fun {i' r'}=>Zz (i':=i') (r':=r') hi hl hd;unfold Ck at hq;simp only[Aa,simprocAttr,za,hlen,t3,t4,hi];refine Ae (I1 i [46,46,47] (by omega) ?_)
 cases p1:zj i [46,46,47] with
 | true=>
  rw[if_pos p1] at hq;have hn:=Hf p1;obtain⟨q1,q2,q3⟩:=hq rfl;simp only[Aa,simprocAttr,za,hlen,t3,t4,jh];exact⟨⟨by simp at hn;omega,Int.le_refl _⟩,_,q1,_,_,rfl,q2,q3,rfl,rfl⟩
 | false=>
 rw[if_neg (by rw[p1];exact Bool.false_ne_true)] at hq;simp only[Aa,simprocAttr,za,hlen,t3,t4];refine Ae (I1 i [46,47] (by omega) ?_)
 cases p2:zj i [46,47] with
 | true=>
  rw[if_pos p2] at hq;have hn:=Hf p2;obtain⟨q1,q2,q3⟩:=hq rfl;simp only[Aa,simprocAttr,za,hlen,t3,t4,jh];exact⟨⟨by simp at hn;omega,Int.le_refl _⟩,_,q1,_,_,rfl,q2,q3,rfl,rfl⟩
 | false=>
 rw[if_neg (by rw[p2];exact Bool.false_ne_true)] at hq;simp only[Aa,simprocAttr,za,hlen,t3,t4];refine Ae (I1 i [47,46,47] (by omega) ?_)
 cases p3:zj i [47,46,47] with
 | true=>
  rw[if_pos p3] at hq;have hn:=Hf p3;obtain⟨q1,q2,q3⟩:=hq rfl;simp only[Aa,simprocAttr,za,hlen,t3,t4,jh];exact⟨⟨by simp at hn;omega,Int.le_refl _⟩,_,q1,_,_,rfl,q2,q3,rfl,rfl⟩
 | false=>
 rw[if_neg (by rw[p3];exact Bool.false_ne_true)] at hq
 by_cases e4:i=[47,46]
 ·subst e4;rw[if_pos rfl] at hq;obtain⟨q1,q2,q3⟩:=hq rfl;simp only[Aa,simprocAttr,za,hlen,t3,t4];exact⟨_,q1,_,_,rfl,q2,q3,rfl,rfl⟩
 rw[if_neg e4] at hq;simp only[Aa,simprocAttr,za,hlen,t3,t4,e4];refine Ae (I1 i [47,46,46,47] (by omega) ?_)
 cases p5:zj i [47,46,46,47] with
 | true=>
  rw[if_pos p5] at hq;have hn:=Hf p5;obtain⟨q1,q2,q3⟩:=hq rfl;simp only[Aa,simprocAttr,za,hlen,t3,t4,jh];refine⟨⟨by simp at hn;omega,Int.le_refl _⟩,Dl (SW r (by omega) ⟨rfl,rfl⟩) ?_⟩;simp only[Aa,simprocAttr,za,hlen,t3,t4];exact⟨_,q1,_,_,rfl,q2,q3,rfl,rfl⟩
 | false=>
 rw[if_neg (by rw[p5];exact Bool.false_ne_true)] at hq
 by_cases e6:i=[47,46,46]
 ·subst e6;rw[if_pos rfl] at hq;obtain⟨q1,q2,q3⟩:=hq rfl;simp only[Aa,simprocAttr,za,hlen,t3,t4];refine Ae (SW r (by omega) ?_);simp only[Aa,simprocAttr,za,hlen,t3,t4];exact⟨_,q1,_,_,rfl,q2,q3,rfl,rfl⟩
 rw[if_neg e6] at hq
 by_cases e7:i=[46]\/i=[46,46]
 ·rw[if_pos e7] at hq;obtain⟨q1,q2,q3⟩:=hq rfl;rcases e7 with rfl|rfl
  all_goals
   simp only[Aa,simprocAttr,za,hlen,t3,t4,e6,show ¬([46,46]:List UInt8)=[46] by decide];exact⟨_,q1,_,_,rfl,q2,q3,rfl,rfl⟩
 rw[if_neg e7] at hq;obtain⟨q1,q2,q3⟩:=hq rfl;obtain⟨h1,h2⟩:=N1 hi;have e8:¬i=[46]:=fun e=>e7 (.inl e);have e9:¬i=[46,46]:=fun e=>e7 (.inr e);have hf:=(Gs (i.drop 1)).2;have hg:(i.drop 1).length=i.length - 1:=List.length_drop ..;simp only[Aa,simprocAttr,za,hlen,t3,t4,e6,e8,e9,jh];refine⟨⟨by omega,Int.le_refl _⟩,Ae (ES (i.drop 1) [47] (by omega) (by simp;omega) ?_)⟩;rw[show Aq (i.drop 1) [47]=(A8 (i.drop 1)).length from L6 47 _];have e0:((1:Int)+((A8 (i.drop 1)).length:Int))=(Es i:Nat):=by unfold Es;omega
 simp only[Aa,simprocAttr,za,hlen,t3,t4,e0,zt,jh];exact⟨⟨by omega,by omega⟩,⟨by omega,by omega,by omega⟩,⟨by omega,by omega⟩,by rw[zq];omega,_,q1,_,_,rfl,q2,q3,rfl,rfl⟩
end
end
theorem TA (G:Gh) (I:Al):∀(xs:List (List UInt8)) (ys:List Value),Ad G I (xs.map .s) ys->ys=xs.map fun l=>.string ⟨l.toArray⟩
 | [],ys,h=>by simpa[Ad] using h
 | x::xs,ys,h=>by
  simp only[List.map_cons,Ad,Ab] at h;obtain⟨y,ys',rfl,rfl,h2⟩:=h;rw[TA G I xs ys' h2];rfl
theorem TE (xs:List (List UInt8)):Lib.join xs []=xs.flatten:=by
 unfold Lib.join
 induction xs with
 | nil=>rfl
 | cons x xs ih=>
  cases xs with
  | nil=>simp[List.intercalate]
  | cons y ys=>
   rw[show List.intercalate ([]:List UInt8) (x::y::ys)=x++List.intercalate [] (y::ys) by simp[List.intercalate,List.intersperse],ih]
   rfl
section
variable [Tabs Tryz.prog] {objs:List OB} {K:List OB->AV->Prop}
theorem Kv (s:List UInt8) (hs:s.length<=1000000) (hk:K objs (.s (Cr s))):Ah Tryz.prog 92 [.s s] objs K :=
 conv (vs:=[.string (S s)]) rfl rfl (fun w=>dW (S s) w (by rw[AL];exact hs)) hk
theorem fL (s:List UInt8) (hs:s.length<=maxLen) (hk:K objs (.b (Fw s))):Ah Tryz.prog 151 [.s s] objs K :=
 GE (vs:=[.string (S s)]) rfl rfl (fun w=>jC (S s) w (by rw[AL];exact hs)) hk
theorem TH (s:List UInt8) (c:Int) (hs:s.length<4611686018427387904) (hk:K objs (.i .i64 (Lib.lastIndexByte (S s) c))):Ah Tryz.prog 143 [.s s,.i .u8 c] objs K :=
 conv (vs:=[.string (S s),.int .u8 c]) rfl rfl (fun w=>(Tryz.strings_LastIndexByte (S s) c (by rw[AL];exact hs) w).mono fun e w' ⟨h1,h2⟩=>⟨h1,Qb.rev h2⟩) hk
theorem YC (xs:List (List UInt8)) (sep:List UInt8) (hN:xs.length<=140737488355328) (hl:(Lib.join xs sep).length<=140737488355328) (hk:K objs (.s (Lib.join xs sep))):Ah Tryz.prog 145 [.row xs.length (xs.map .s),.s sep] objs K:=by
 refine UP (.s (Lib.join xs sep)) hk fun G I w ys hm hd=>?_;simp only[Ad,Ab] at hd;obtain⟨y,ys',rfl,⟨a,c,zs,rfl,⟨hc,_⟩,hz,_,hi⟩,y2,ys2,rfl,rfl,rfl⟩:=hd;have hz:=TA G I xs zs hz;subst hz;refine⟨_,?_,rfl⟩
 cases xs with
 | nil=>
  refine(Tryz.strings_Join_none a c (S sep) w).mono ?_;rintro e w' ⟨rfl,rfl⟩;exact⟨by rw[show Lib.join [] sep=[] from rfl],Qb.refl _⟩
 | cons x xs=>
  obtain⟨g,off,rfl,h0⟩:=hi 0 _ rfl;have hcell:∀(j:Nat) z,((x::xs).map (fun l:List UInt8=>(⟨l.toArray⟩:ByteArray)))[j]? = some z->w.cell? ⟨g,off+j,none⟩=some (.string z):=by
   intro j z hj;rw[je] at hj;obtain⟨l,hl,rfl⟩:=Option.map_eq_some_iff.1 hj;obtain⟨g',off',e,h1⟩:=hi j _ (by rw[je,hl];rfl)
   cases e
   exact hm.imm _ _ _ h1
  have e1:((x::xs).map (fun l:List UInt8=>(⟨l.toArray⟩:ByteArray))).map (·.data.toList)=x::xs:=by
   rw[List.map_map];simp[Function.comp_def]
  have:=Tryz.strings_Join g off c ((x::xs).map fun l=>⟨l.toArray⟩) (S sep) w hcell (World.block_lt_of_cell? (h:=hcell 0 _ rfl)) (by simpa using hN) (by simpa using hc) (by rw[e1,AO];exact hl);rw[e1,AO,qk] at this;exact this
end
theorem UK {P:Program} [Tabs P] {f:FuncId} {args:List AV} {objs:List OB} {K:List OB->AV->Prop} (r':AV) (hc:Ah P f args objs (fun o r=>(∀G I y,Ab G I r y->Ab G I r' y)/\K o r')):Ah P f args objs K:=by
 intro C _ G I w hin hm ys hd;refine(hc C G I w hin hm ys hd).mono ?_;rintro e w' ⟨y,objs',r,G',I',he,⟨hr,hk⟩,h1,h2,h3,h4,hy⟩;exact⟨y,objs',r',G',I',he,hk,h1,h2,h3,h4,hr _ _ _ hy⟩
theorem PN {G:Gh} {I:Al} {y:Value} (h:Ab G I .nil y):Ab G I (.row 0 []) y:=by
 simp only[Ab] at h ⊢;exact⟨none,0,[],h,⟨ze _,fun ad h=>by cases h⟩,Ad.nil,by simp,by simp⟩
theorem OA:∀l:List (List UInt8×List UInt8),AE (Cw l)=true
 | []=>rfl
 | p::l=>OA l
theorem Xb {l:List (List UInt8×List UInt8)} {i:Nat} (h:i<l.length):((Cw l).drop (i*2)).take 2=[.s l[i].1,.s l[i].2]:=by
 induction l generalizing i with
 | nil=>simp at h
 | cons p l ih=>
  cases i with
  | zero=>rfl
  | succ i=>
   have e:(i+1)*2=i*2+1+1:=by omega
   rw[e];show ((Cw l).drop (i*2)).take 2=_;rw[ih (by simpa using h)]
   rfl
section
variable [Tabs Tryz.prog] {objs:List OB} {K:List OB->AV->Prop}
end
section
variable [Tabs Tryz.prog] {objs:List OB} {K:List OB->AV->Prop}
end
section
attribute [local irreducible] run
theorem RD:∀(l:List (List UInt8×List UInt8)),∀u∈F3 l,u.oneCell'=true
 | [],u,h=>by cases h
 | p::l,u,h=>by
  have h:u∈[Value.string (S p.1),.string (S p.2)]++F3 l:=h;rcases List.mem_append.1 h with h|h
  ·simp only[List.mem_cons,List.mem_singleton,List.not_mem_nil,or_false] at h;rcases h with rfl|rfl<;>rfl
  ·exact RD l u h
theorem Ty (G:Gh) (I:Al):∀l:List (List UInt8×List UInt8),Ad G I (Cw l) (F3 l)
 | []=>Ad.nil
 | p::l=>by
  show Ad G I (.s p.1::.s p.2::Cw l) (.string (S p.1)::.string (S p.2)::F3 l);exact Ad.cons (by simp[Ab]) (Ad.cons (by simp[Ab]) (Ty G I l))
theorem jR {P:Program} [Tabs P] {f:FuncId} {args:List AV} {vs:List Value} {objs:List OB} {K:List OB->AV->Prop} {T:TypeId} (l:List (List UInt8×List UInt8)) (hk:K objs (.row l.length (Cw l))) (ha:FJ args=some vs)
  (h:∀w,Calls P f vs.toArray w fun e w'=>∃v,e=.returned v/\w'.ownsRow w.heap.size T 2 v l.length (F3 l)/\Qb w w'):Ah P f args objs K:=by
 intro C _ G I w hin hm ys hd;rw[(Gp G I args vs ha ys).1 hd];refine(h w).mono ?_;rintro e w' ⟨v,rfl,hr,hb⟩;have hg:w.grownBy w' none:=⟨hb.os,hb.tape,hb.output,Below.size hb,fun k hk _=>Below.block hb k hk⟩;rcases hr.2 with ⟨rfl,h0⟩|⟨g,cap,cur,rfl,h1,h2,h3,h4,h5,h6⟩
 ·obtain rfl:l=[]:=List.length_eq_zero_iff.1 h0;refine⟨_,objs,.row 0 [],G,I,rfl,hk,Gh.le.refl G,Al.le.refl I,hin.evolve hg (by simp),hm.evolve hg,PN (by simp[Ab])⟩
 ·obtain⟨I',s1,s2,s3,s4⟩:=Pf hin hm hg g l.length cap (Cw l) (F3 l) h1 h3 (Ty G I l) (RD l) (fun j u hj=>by
   rw[<-h6,List.getElem?_take] at hj
   split at hj
   ·rw[Array.getElem?_toList] at hj;simp only[World.cell?,h2];exact hj
   ·cases hj)
  exact⟨_,objs,.row l.length (Cw l),G,I',rfl,hk,Gh.le.refl G,s1,s2,s3,s4⟩
theorem SC (c:UInt8):∀l:List UInt8,(Af c l).1=l.take (Aq l [c])/\(Af c l).2.1=l.drop (Aq l [c]+1)
 | []=>⟨rfl,rfl⟩
 | x::l=>by
  have ih:=SC c l;rw[CO];have e:Aq (x::l) [c]=if x=c then 0 else Aq l [c]+1:=by
   unfold Aq;rw[List.findIdx_cons]
   by_cases h:x=c
   ·subst h;have:AI x [x]=true:=by simp[AI]
    rw[this,if_pos rfl];rfl
   ·have:AI x [c]=false:=by simp[AI,h]
    rw[this,if_neg h];rfl
  rw[e]
  by_cases h:x=c
  ·rw[if_pos h,if_pos h];exact⟨rfl,rfl⟩
  ·rw[if_neg h,if_neg h,List.take_succ_cons,List.drop_succ_cons];exact⟨congrArg _ ih.1,ih.2⟩
def G2 (s:List UInt8) (i:Nat):List (List UInt8×List UInt8):=DB (((AC 38 s).take i).filter fun x=>!x.isEmpty)
theorem eP (s:List UInt8) {i:Nat} (h:i<(AC 38 s).length):G2 s (i+1)=G2 s i++if (AC 38 s)[i].isEmpty=true then [] else Ep (AC 38 s)[i]:=by
 unfold G2;rw[List.take_succ_eq_append_getElem h,List.filter_append]
 cases e:(AC 38 s)[i].isEmpty<;>simp[DB,e]
theorem NR:∀l:List (List UInt8),(DB l).length<=l.length
 | []=>ze _
 | a::l=>by
  rw[show DB (a::l)=Ep a++DB l from rfl,zg,List.length_cons];have h:=NR l;have:(Ep a).length<=1:=by unfold Ep;split<;>simp
  omega
theorem ZI (s:List UInt8) (h:(AC 38 s).length<=s.length+1) (hs:s.length<=1000000) (i:Nat):(G2 s i).length<=2000000:=by
 have h2:=NR (((AC 38 s).take i).filter fun x=>!x.isEmpty);have h3:=List.length_filter_le (fun x:List UInt8=>!x.isEmpty) ((AC 38 s).take i);rw[zq] at h3;unfold G2;omega
def oU (l:List (List UInt8×List UInt8)) (objs:List OB) (X:AV):Prop:=(l=[]/\objs=[]/\X=.nil)\/∃m,l.length=m+1/\objs=[.orow 77 2 m l.length (Cw l)]/\X=.orow 0 m
section
variable [Tabs Tryz.prog] {objs:List OB} {K:List OB->AV->Prop}
theorem Tp (s:List UInt8) (hs:s.length<=1000000) (hk:K objs (.row (DB (B8 s)).length (Cw (DB (B8 s))))):Ah Tryz.prog 8 [.s s] objs K :=
 jR (vs:=[.string (S s)]) _ hk rfl (fun w=>gY s hs w)
theorem bZ (s:List UInt8) (hk:K objs (.tup [.s (A6 s).2,.i .i64 (A6 s).1])):Ah Tryz.prog 101 [.s s] objs K :=
 conv (vs:=[.string (S s)]) rfl rfl (fun w=>Vb (S s) w) hk
theorem Yo (s:List UInt8) (k:Nat) (hs:s.length<=1000000) (h2:k<=2000000) (hk:K objs (.s (s.drop k))):Ah Tryz.prog 106 [.s s,.i .i64 (k:Nat)] objs K:=by
 refine AF kX rfl fun C _=>?_
 by_cases c:(s.length:Int)<=k
 ·simp only[c,P9,Aa,simprocAttr];rw[List.drop_eq_nil_of_le (by omega)] at hk;exact hk
 ·simp only[c,P9,Aa,simprocAttr,zt];exact⟨by omega,hk⟩
theorem eH (s:List UInt8) (hs:s.length<=1000000) (hk:K objs (.row (DB (B8 s)).length (Cw (DB (B8 s))))):Ah Tryz.prog 58 [.s s] objs K:=by
 refine UK (.row (DB (B8 s)).length (Cw (DB (B8 s)))) (AF mC rfl fun C _=>?_);simp only[VU,Aa,simprocAttr];have hsl:=JR 38 s;refine Ae (SM s 38 hs ?_);simp only[Aa,simprocAttr];refine B4 (fun n objs tm=>∃(i:Nat) (X:AV),i<=(AC 38 s).length/\n=(AC 38 s).length - i/\oU (G2 s i) objs X/\tm.length=42/\tm[3]? = some X/\tm[10]? = some (.row (AC 38 s).length ((AC 38 s).map .s))/\tm[11]? = some (.i .i64 (AC 38 s).length)/\tm[12]? = some (.i .i64 i)) (AC 38 s).length ⟨0,.nil,Nat.zero_le _,rfl,.inl ⟨rfl,rfl,rfl⟩,rfl,rfl,rfl,rfl,rfl⟩ ?_;rintro n objs tm ⟨i,X,hi,rfl,hg,hlen,t3,t10,t11,t12⟩
 by_cases hlt:(i:Int)<(AC 38 s).length
 ·have hlt':i<(AC 38 s).length:=by omega
  have hat:((AC 38 s).map AV.s)[i*1]? = some (.s (AC 38 s)[i]):=by rw[Nat.mul_one,je,List.getElem?_eq_getElem hlt'];rfl
  have hx1:=Nat.le_trans (GQ 38 s _ (List.getElem_mem hlt')) hs;have hstep:=eP s hlt';simp only[Aa,simprocAttr,za,hlen,t3,t10,t11,t12,hlt,zt,hat];generalize (AC 38 s)[i]=x at hx1 hstep;have hci:=SC 61 x;have hil:=IG x [61];refine⟨⟨by omega,by rw[qk];omega⟩,Ae (ES x [61] (by unfold maxLen;omega) (by decide) ?_)⟩;simp only[Aa,simprocAttr,za,hlen,t3,t10,t11,t12,zt];refine⟨by omega,?_⟩;rw[show ((Aq x [61]:Nat):Int)+1=((Aq x [61]+1:Nat):Int) from rfl];refine Ae (Yo x (Aq x [61]+1) hx1 (by omega) ?_);simp only[Aa,simprocAttr,za,hlen,t3,t10,t11,t12,zt];refine Ae (bZ _ ?_);rw[<-hci.2];simp only[Aa,simprocAttr,za,hlen,t3,t10,t11,t12,zt];have hpl:(G2 s i).length<=2000000:=ZI s hsl hs i
  by_cases c0:x=[]
  ·subst c0;rw[show ([]:List UInt8).isEmpty=true from rfl,if_pos rfl,qm] at hstep;simp only[Aa,simprocAttr,za,hlen,t3,t10,t11,t12,zt];exact⟨by omega,(AC 38 s).length - (i+1),by omega,i+1,X,by omega,rfl,by rw[hstep];exact hg,rfl,rfl⟩
  ·rw[if_neg (by cases x with
    | nil=>exact absurd rfl c0
    | cons _ _=>exact Bool.false_ne_true)] at hstep
   by_cases cd:(A6 (Af 61 x).2.1).1=0
   ·have ho:Ep x=[((Af 61 x).1,(A6 (Af 61 x).2.1).2)]:=if_pos cd;rw[ho] at hstep;rcases hg with ⟨h1,rfl,rfl⟩|⟨m,h1,rfl,rfl⟩
    ·simp only[c0,cd,Aa,simprocAttr,za,hlen,t3,t10,t11,t12,zt];refine⟨⟨by omega,by omega⟩,⟨by omega,by omega⟩,(AC 38 s).length - (i+1),by omega,i+1,.orow 0 0,by omega,rfl,.inr ⟨0,?_,?_,rfl⟩,rfl,rfl⟩
     ·rw[hstep,h1];rfl
     ·rw[hstep,h1,<-hci.1];rfl
    ·simp only[c0,cd,Aa,simprocAttr,za,hlen,t3,t10,t11,t12,zt];refine⟨⟨by omega,by omega⟩,⟨by omega,by omega⟩,⟨by omega,by omega⟩,(AC 38 s).length - (i+1),by omega,i+1,.orow 0 (m+1),by omega,rfl,.inr ⟨m+1,?_,?_,rfl⟩,rfl,rfl⟩
     ·rw[hstep,zg,h1];rfl
     ·rw[hstep,jM,zg,<-hci.1];rfl
   ·have ho:Ep x=[]:=if_neg cd;rw[ho,qm] at hstep;simp only[c0,cd,Aa,simprocAttr,za,hlen,t3,t10,t11,t12,zt];exact⟨by omega,(AC 38 s).length - (i+1),by omega,i+1,X,by omega,rfl,by rw[hstep];exact hg,rfl,rfl⟩
 ·obtain rfl:i=(AC 38 s).length:=by omega
  have e:G2 s (AC 38 s).length=DB (B8 s):=by unfold G2 B8;rw[List.take_of_length_le (ze _)]
  rw[e] at hg;rcases hg with ⟨h1,rfl,rfl⟩|⟨m,h1,rfl,rfl⟩
  ·rw[h1] at hk ⊢;simp only[Aa,simprocAttr,za,hlen,t3,t10,t11,t12,hlt];exact⟨fun G I y=>PN,hk⟩
  ·simp only[Aa,simprocAttr,za,hlen,t3,t10,t11,t12,hlt,Va];exact⟨fun _ _ _ h=>h,hk⟩
end
end
end Go.Proofs.YtbgaknpnkcdbfaaGreatDoor
namespace Go.Proofs.YtbgaknpnkcdbfaaGreatDoor
open Int renaming eq_ofNat_of_zero_le->y9, toNat_natCast->zt
open Lib renaming hid->zb
open List renaming all_cons->jn, all_eq_true->zw, append_assoc->zu, cons->jc, cons_append->ja, drop_drop->jo, drop_eq_getElem_cons->jq, drop_of_length_le->xg, getElem?_cons_zero->y6, getElem?_drop->jx, getElem?_eq_getElem->zk, getElem?_eq_none->qq, getElem?_eq_some_iff->zf, getElem?_set->za, getElem?_take->xw, length->jd, length_append->zg, length_cons->zp, length_drop->zr, length_nil->qd, length_pos_iff->xu, length_take->zq, map_cons->zl, map_nil->qa, nil_append->qo, replicate->qw, take_append_drop->xl, take_length->jh, take_succ_cons->xn, take_zero->jy
open Nat renaming add_zero->jj, and_two_pow_sub_one_eq_mod->yg, le_refl->ze, zero_le->zd
open Option renaming getD_some->qx, some->zy
def Dq (r:Int):Bool:=decide (0<=r/\r<=1114111/\(r<55296\/57343<r))
def Dh (c:UInt8):Bool:=decide (128<=c.toNat/\c.toNat<192)
def BU (n:Nat):UInt8:=UInt8.ofNat n
def Cv (r:Nat):List UInt8 :=
 if r<128 then [BU r]
 else if r<2048 then [BU (192+r / 64),BU (128+r % 64)]
 else if r<65536 then [BU (224+r / 4096),BU (128+r / 64 % 64),BU (128+r % 64)]
 else [BU (240+r / 262144),BU (128+r / 4096 % 64),BU (128+r / 64 % 64),BU (128+r % 64)]
def r2 (c a:UInt8):Nat:=(c.toNat - 192)*64+(a.toNat - 128)
def r3 (c a b:UInt8):Nat:=(c.toNat - 224)*4096+(a.toNat - 128)*64+(b.toNat - 128)
def r4 (c a b d:UInt8):Nat:=(c.toNat - 240)*262144+(a.toNat - 128)*4096+(b.toNat - 128)*64+(d.toNat - 128)
def Qz (c:UInt8):List UInt8->Option (Nat×Nat)
 | []=>none
 | a::_=>if Dh a=true/\128<=r2 c a then some (r2 c a,2) else none
def Qp (c:UInt8):List UInt8->Option (Nat×Nat)
 | []=>none
 | [_]=>none
 | a::b::_=>if Dh a=true/\Dh b=true/\2048<=r3 c a b/\Dq (r3 c a b:Int)=true then some (r3 c a b,3) else none
def Qq (c:UInt8):List UInt8->Option (Nat×Nat)
 | []=>none
 | [_]=>none
 | [_,_]=>none
 | a::b::d::_=>if Dh a=true/\Dh b=true/\Dh d=true/\65536<=r4 c a b d/\r4 c a b d<=1114111 then some (r4 c a b d,4) else none
def CQ:List UInt8->Option (Nat×Nat)
 | []=>none
 | c::t=>
  if c.toNat<128 then some (c.toNat,1)
  else if c.toNat<192 then none
  else if c.toNat<224 then Qz c t
  else if c.toNat<240 then Qp c t
  else if c.toNat<248 then Qq c t
  else none
theorem C3 {n:Nat} (h:n<256):(BU n).toNat=n:=by unfold BU;rw[UInt8.toNat_ofNat'];omega
theorem GH {c:UInt8} {n:Nat} (hn:n<256):BU n=c↔n=c.toNat:=by
 constructor
 ·rintro rfl;rw[C3 hn]
 ·intro h;subst h;unfold BU;exact UInt8.ofNat_toNat
theorem JH {l:List UInt8} {r n:Nat} (h:CQ l=some (r,n)):Dq r=true/\Cv r=l.take n/\n<=l.length/\1<=n/\n<=4:=by
 rcases l with _|⟨c,t⟩
 ·rw[CQ] at h;cases h
 have hc:=c.toNat_lt;rw[CQ] at h
 by_cases h1:c.toNat<128
 ·rw[if_pos h1] at h;injection h with h;injection h with h2 h3
  subst h2 h3;refine⟨decide_eq_true (by omega),?_,by simp,by omega,by omega⟩;unfold Cv;rw[if_pos h1];simp only[xn,jy,jc.injEq,and_true];exact(GH (by omega)).2 rfl
 rw[if_neg h1] at h
 by_cases h2:c.toNat<192
 ·rw[if_pos h2] at h;cases h
 rw[if_neg h2] at h
 by_cases h3:c.toNat<224
 ·rw[if_pos h3] at h;rcases t with _|⟨a,t⟩
  ·cases h
  rw[Qz] at h
  split at h
  ·rename_i h4;unfold r2 at h h4;have ha:128<=a.toNat/\a.toNat<192:=of_decide_eq_true h4.1;injection h with h;injection h with h5 h6
   subst h5 h6;refine⟨decide_eq_true (by omega),?_,by simp,by omega,by omega⟩;unfold Cv;rw[if_neg (by omega),if_pos (by omega)];simp only[xn,jy,jc.injEq,and_true];exact⟨(GH (by omega)).2 (by omega),(GH (by omega)).2 (by omega)⟩
  ·cases h
 rw[if_neg h3] at h
 by_cases h4:c.toNat<240
 ·rw[if_pos h4] at h;rcases t with _|⟨a,_|⟨b,t⟩⟩
  ·cases h
  ·cases h
  rw[Qp] at h
  split at h
  ·rename_i h5;unfold r3 at h h5;have ha:128<=a.toNat/\a.toNat<192:=of_decide_eq_true h5.1;have hb:128<=b.toNat/\b.toNat<192:=of_decide_eq_true h5.2.1;have hp:=h5.2.2;injection h with h;injection h with h6 h7
   subst h6 h7;refine⟨hp.2,?_,by simp,by omega,by omega⟩;unfold Cv;rw[if_neg (by omega),if_neg (by omega),if_pos (by omega)];simp only[xn,jy,jc.injEq,and_true];exact⟨(GH (by omega)).2 (by omega),(GH (by omega)).2 (by omega),(GH (by omega)).2 (by omega)⟩
  ·cases h
 rw[if_neg h4] at h
 by_cases h5:c.toNat<248
 ·rw[if_pos h5] at h;rcases t with _|⟨a,_|⟨b,_|⟨d,t⟩⟩⟩
  ·cases h
  ·cases h
  ·cases h
  rw[Qq] at h
  split at h
  ·rename_i h6;unfold r4 at h h6;have ha:128<=a.toNat/\a.toNat<192:=of_decide_eq_true h6.1;have hb:128<=b.toNat/\b.toNat<192:=of_decide_eq_true h6.2.1;have hd:128<=d.toNat/\d.toNat<192:=of_decide_eq_true h6.2.2.1;have hp:=h6.2.2.2;injection h with h;injection h with h7 h8
   subst h7 h8;refine⟨decide_eq_true (by omega),?_,by simp,by omega,by omega⟩;unfold Cv;rw[if_neg (by omega),if_neg (by omega),if_neg (by omega)];simp only[xn,jy,jc.injEq,and_true];exact⟨(GH (by omega)).2 (by omega),(GH (by omega)).2 (by omega),(GH (by omega)).2 (by omega),(GH (by omega)).2 (by omega)⟩
  ·cases h
 ·rw[if_neg h5] at h;cases h
theorem JF (n:Nat) (h:n<64):Dh (BU (128+n))=true:=by unfold Dh;rw[C3 (by omega)];exact decide_eq_true (by omega)
theorem jK {r:Nat} (h:Dq r=true) (t:List UInt8):CQ (Cv r++t)=some (r,(Cv r).length):=by
 have hr:(r:Int)<=1114111/\((r:Int)<55296\/57343<(r:Int)):=⟨(of_decide_eq_true h).2.1,(of_decide_eq_true h).2.2⟩;unfold Cv
 by_cases h1:r<128
 ·rw[if_pos h1];show CQ (BU r::t)=_;rw[CQ,C3 (by omega),if_pos h1];rfl
 ·rw[if_neg h1]
  by_cases h2:r<2048
  ·rw[if_pos h2];show CQ (BU (192+r / 64)::BU (128+r % 64)::t)=_;rw[CQ,C3 (by omega),if_neg (by omega),if_neg (by omega),if_pos (by omega),Qz];unfold r2;rw[C3 (by omega),C3 (by omega),if_pos ⟨JF _ (by omega),by omega⟩];simp only[zp,qd,zy.injEq,Prod.mk.injEq,and_true];omega
  ·rw[if_neg h2]
   by_cases h3:r<65536
   ·rw[if_pos h3];show CQ (BU (224+r / 4096)::BU (128+r / 64 % 64)::BU (128+r % 64)::t)=_;rw[CQ,C3 (by omega),if_neg (by omega),if_neg (by omega),if_neg (by omega),if_pos (by omega),Qp];unfold r3;have e:(224+r / 4096 - 224)*4096+(128+r / 64 % 64 - 128)*64+(128+r % 64 - 128)=r:=by omega
    rw[C3 (by omega),C3 (by omega),C3 (by omega),e,if_pos ⟨JF _ (by omega),JF _ (by omega),by omega,h⟩]
    rfl
   ·rw[if_neg h3];show CQ (BU (240+r / 262144)::BU (128+r / 4096 % 64)::BU (128+r / 64 % 64)::BU (128+r % 64)::t)=_;rw[CQ,C3 (by omega),if_neg (by omega),if_neg (by omega),if_neg (by omega),if_neg (by omega),if_pos (by omega),Qq];unfold r4;have e:(240+r / 262144 - 240)*262144+(128+r / 4096 % 64 - 128)*4096+(128+r / 64 % 64 - 128)*64+(128+r % 64 - 128)=r:=by omega
    rw[C3 (by omega),C3 (by omega),C3 (by omega),C3 (by omega),e,if_pos ⟨JF _ (by omega),JF _ (by omega),JF _ (by omega),by omega,by omega⟩]
    rfl
theorem ZA {r:Nat}:1<=(Cv r).length/\(Cv r).length<=4:=by
 unfold Cv;repeat' split
 all_goals simp
theorem jL {l:List UInt8} {r n:Nat} (h:Dq r=true) (he:Cv r=l.take n) (hn:n<=l.length):CQ l=some (r,n):=by
 have h1:=jK h (l.drop n);rw[he,xl,zq,Nat.min_eq_left hn] at h1;exact h1
open Go.RowKit
def AN:List UInt8->Nat
 | []=>0
 | c::t=>if Av c=true then AN t+1 else 0
def Bm (l:List UInt8):Nat:=if l[0]? = some 45 then 1 else 0
def Dm (l:List UInt8):Nat:=if l[Bm l]? = some 48 then Bm l+1 else Bm l+AN (l.drop (Bm l))
def Eg (l:List UInt8) (t:Nat):Nat:=if l[t]? = some 46/\0<AN (l.drop (t+1)) then t+1+AN (l.drop (t+1)) else t
def Co (l:List UInt8) (t:Nat):Nat:=if l[t+1]? = some 43\/l[t+1]? = some 45 then t+2 else t+1
def G1 (l:List UInt8) (t:Nat):Nat :=
 if (l[t]? = some 101\/l[t]? = some 69)/\0<AN (l.drop (Co l t)) then Co l t+AN (l.drop (Co l t)) else t
def Dc (l:List UInt8):Nat:=if AN (l.drop (Bm l))=0 then 0 else G1 l (Eg l (Dm l))
theorem Jy:∀l:List UInt8,AN l<=l.length
 | []=>ze _
 | c::t=>by
  have:=Jy t;unfold AN
  split<;>simp only[zp]<;>omega
theorem Gu (l:List UInt8) (k:Nat) (h:0<AN (l.drop k)):k+AN (l.drop k)<=l.length:=by
 have:=Jy (l.drop k);rw[zr] at this;omega
theorem Pp:∀(l:List UInt8) (i:Nat),i<AN l->∃c,l[i]? = some c/\Av c=true
 | [],i,h=>absurd h (by simp[AN])
 | c::t,i,h=>by
  unfold AN at h
  split at h
  ·rename_i hc
   cases i with
   | zero=>exact⟨c,rfl,hc⟩
   | succ i=>
    obtain⟨x,h1,h2⟩:=Pp t i (by omega);exact⟨x,by rw[List.getElem?_cons_succ];exact h1,h2⟩
  ·omega
theorem R8 (l:List UInt8):Dc l<=l.length:=by
 have key:∀t:Nat,t<=l.length->G1 l t<=l.length:=by
  intro t ht;unfold G1
  split
  ·rename_i h;exact Gu l _ h.2
  ·exact ht
 have key2:∀t:Nat,t<=l.length->Eg l t<=l.length:=by
  intro t ht;unfold Eg
  split
  ·rename_i h;exact Gu l _ h.2
  ·exact ht
 unfold Dc
 split
 ·exact zd _
 ·rename_i h;refine key _ (key2 _ ?_);unfold Dm
  split
  ·rename_i h2;have:=(zf.1 h2).1;omega
  ·exact Gu l _ (by omega)
def IC (c:UInt8):Option UInt8 :=
 if c=34\/c=92\/c=47 then some c else if c=98 then some 8 else if c=102 then some 12 else if c=110 then some 10 else if c=114 then some 13 else if c=116 then some 9 else none
def Ed (l:List UInt8):Option Nat :=
 if l.length<6\/¬l[0]? = some 92\/¬l[1]? = some 117 then none
 else if (Di A9 16 65535 ((l.drop 2).take 4)).1=0 then some (Di A9 16 65535 ((l.drop 2).take 4)).2 else none
def CS (l:List UInt8):Int×List UInt8×Nat :=
 match (l[1]?).bind IC with
 | some c=>(0,[c],2)
 | none=>match Ed l with
  | none=>(130,[],0)
  | some n=>
   if n<55296\/57343<n then (0,Cv n,6)
   else if 56319<n then (7,[],0)
   else match Ed (l.drop 6) with
    | none=>(7,[],0)
    | some m=>if m<56320\/57343<m then (7,[],0) else (0,Cv (65536+(n - 55296)*1024+(m - 56320)),12)
def Dt:Nat->List UInt8->List UInt8->Nat->Int×List UInt8×Nat
 | 0,_,_,_=>(130,[],0)
 | _+1,[],_,_=>(130,[],0)
 | n+1,c::t,out,k=>
  if c=34 then (0,out,k+1)
  else if c=92 then
   (if (CS (c::t)).1≠0 then ((CS (c::t)).1,[],0) else Dt n ((c::t).drop (CS (c::t)).2.2) (out++(CS (c::t)).2.1) (k+(CS (c::t)).2.2))
  else if c.toNat<32 then (130,[],0)
  else match CQ (c::t) with
   | none=>(7,[],0)
   | some (_,m)=>Dt n ((c::t).drop m) (out++(c::t).take m) (k+m)
def Dk:List UInt8->Nat
 | []=>0
 | c::t=>if Ce c=true then Dk t+1 else 0
def LH (c:UInt8):Bool:=AI c [32,9,10,13]
def D6:List UInt8->Nat
 | []=>0
 | c::t=>if LH c=true then D6 t+1 else 0
def CD:List UInt8->Int×Int×List UInt8×Nat
 | []=>(0,1,[],0)
 | c::t=>
  if AI c [123,125,91,93,58,44]=true then (0,2,[c],1)
  else if c=34 then (if (Dt (t.length+1) t [] 0).1≠0 then ((Dt (t.length+1) t [] 0).1,0,[],0) else (0,3,(Dt (t.length+1) t [] 0).2.1,(Dt (t.length+1) t [] 0).2.2+1))
  else if c=45\/Av c=true then (if Dc (c::t)=0 then (130,0,[],0) else (0,4,(c::t).take (Dc (c::t)),Dc (c::t)))
  else if (c::t).take (Dk (c::t))=[116,114,117,101]\/(c::t).take (Dk (c::t))=[102,97,108,115,101]\/(c::t).take (Dk (c::t))=[110,117,108,108] then (0,5,(c::t).take (Dk (c::t)),Dk (c::t))
  else (130,0,[],0)
structure NumS where
 neg:Bool
 int:List UInt8
 fr:List UInt8
 ex:Option (UInt8×List UInt8×List UInt8)
def By:List UInt8->List UInt8
 | []=>[]
 | c::t=>46::c::t
def BK:Option (UInt8×List UInt8×List UInt8)->List UInt8
 | none=>[]
 | some (c,s,d)=>c::(s++d)
def BP (b:Bool):List UInt8:=if b=true then [45] else []
def NumS.txt (p:NumS):List UInt8:=BP p.neg++(p.int++(By p.fr++BK p.ex))
structure NumS.Good (p:NumS):Prop where
 i0:p.int≠[]
 i1:p.int.all Av=true
 i2:p.int[0]? = some 48->p.int=[48]
 f1:p.fr.all Av=true
 e1:∀c s d,p.ex=some (c,s,d)->(c=101\/c=69)/\(s=[]\/s=[43]\/s=[45])/\d≠[]/\d.all Av=true
theorem Mj (l:List UInt8) {i j:Nat} (h:i<=j):l.drop i=(l.drop i).take (j - i)++l.drop j:=by
 conv=>lhs;rw[<-xl (j - i) (l.drop i)]
 rw[jo,show i+(j - i)=j by omega]
theorem FT {l:List UInt8} {i:Nat} {c:UInt8} (h:l[i]? = some c):l.drop i=c::l.drop (i+1):=by
 obtain⟨h1,h2⟩:=zf.1 h;rw[jq h1,h2]
theorem I2:∀l:List UInt8,(l.take (AN l)).all Av=true
 | []=>rfl
 | c::t=>by
  unfold AN
  split
  ·rename_i h;rw[xn,jn,h,I2 t];rfl
  ·rfl
theorem H9:∀(d r:List UInt8),d.all Av=true->(∀c,r[0]? = some c->Av c=false)->AN (d++r)=d.length
 | [],r,_,h=>by
  rw[qo]
  cases r with
  | nil=>rfl
  | cons c t=>
   unfold AN;rw[if_neg (by rw[h c rfl];exact Bool.false_ne_true)];rfl
 | c::d,r,hd,h=>by
  rw[jn,Bool.and_eq_true] at hd;rw[ja];unfold AN;rw[if_pos hd.1,H9 d r hd.2 h];rfl
theorem aU {l:List UInt8} {k:Nat} (h:k<=l.length):(l.take k).length=k:=by rw[zq];omega
theorem LT {l:List UInt8} {k:Nat} (h0:0<k) (h:k<=l.length):l.take k≠[]:=by
 intro e;have:=congrArg jd e;rw[aU h,qd] at this;omega
theorem eO {l:List UInt8} (h0:l≠[]) (h:Dc l=l.length):∃p:NumS,p.Good/\l=p.txt:=by
 have hl:0<l.length:=xu.2 h0;unfold Dc at h
 by_cases hr:AN (l.drop (Bm l))=0
 ·rw[if_pos hr] at h;omega
 rw[if_neg hr] at h;have hsg:l=BP (decide (l[0]? = some 45))++l.drop (Bm l):=by
  unfold Bm BP
  by_cases hc:l[0]? = some 45
  ·rw[if_pos hc,if_pos (by rw[hc];rfl)]
   conv=>lhs;rw[<-List.drop_zero (l:=l),FT hc]
   rfl
  ·rw[if_neg hc,if_neg (by rw[decide_eq_false hc];exact Bool.false_ne_true)];simp
 have hrl:=Gu l (Bm l) (by omega);obtain⟨I,hI0,hI1,hI2,hIl,hI⟩:∃I:List UInt8,I≠[]/\I.all Av=true/\(I[0]? = some 48->I=[48])/\Dm l<=l.length/\l.drop (Bm l)=I++l.drop (Dm l):=by
  have hd:=Pp (l.drop (Bm l)) 0 (by omega);obtain⟨c,hc1,hc2⟩:=hd;rw[jx,jj] at hc1;have hdc:=FT hc1;unfold Dm
  by_cases hz:l[Bm l]? = some 48
  ·rw[if_pos hz];refine⟨[48],by simp,rfl,fun _=>rfl,?_,?_⟩
   ·have:=(zf.1 hz).1;omega
   ·exact FT hz
  ·rw[if_neg hz];refine⟨(l.drop (Bm l)).take (AN (l.drop (Bm l))),LT (by omega) (Jy _),I2 _,?_,hrl,?_⟩
   ·intro h1;exfalso;rw[xw,if_pos (by omega),jx,jj] at h1;exact hz h1
   ·have:=Mj l (show Bm l<=Bm l+AN (l.drop (Bm l)) by omega);rw[show Bm l+AN (l.drop (Bm l)) - Bm l=AN (l.drop (Bm l)) by omega] at this;exact this
 generalize Dm l=t at *;obtain⟨F,hF1,hFl,hF⟩:∃F:List UInt8,F.all Av=true/\Eg l t<=l.length/\l.drop t=By F++l.drop (Eg l t):=by
  unfold Eg
  by_cases hc:l[t]? = some 46/\0<AN (l.drop (t+1))
  ·rw[if_pos hc];have hb:=Gu l (t+1) hc.2;refine⟨(l.drop (t+1)).take (AN (l.drop (t+1))),I2 _,hb,?_⟩;have h1:=Mj l (show t+1<=t+1+AN (l.drop (t+1)) by omega);rw[show t+1+AN (l.drop (t+1)) - (t+1)=AN (l.drop (t+1)) by omega] at h1;have hne:=LT hc.2 (Jy (l.drop (t+1)));rw[FT hc.1];generalize (l.drop (t+1)).take (AN (l.drop (t+1)))=F at *
   cases F with
   | nil=>exact absurd rfl hne
   | cons a F=>
    show 46::l.drop (t+1)=46::(a::F++_);rw[<-h1]
  ·rw[if_neg hc];exact⟨[],rfl,hIl,rfl⟩
 generalize Eg l t=f at *;obtain⟨E,hE1,hE⟩:∃E:Option (UInt8×List UInt8×List UInt8),(∀c s d,E=some (c,s,d)->(c=101\/c=69)/\(s=[]\/s=[43]\/s=[45])/\d≠[]/\d.all Av=true)/\l.drop f=BK E:=by
  unfold G1 at h
  by_cases hc:(l[f]? = some 101\/l[f]? = some 69)/\0<AN (l.drop (Co l f))
  ·rw[if_pos hc] at h;obtain⟨c,hc1,hc2⟩:∃c,l[f]? = some c/\(c=101\/c=69):=by
    rcases hc.1 with h1|h1
    ·exact⟨_,h1,.inl rfl⟩
    ·exact⟨_,h1,.inr rfl⟩
   have hdig:l.drop (Co l f)≠[]/\(l.drop (Co l f)).all Av=true:=by
    have h1:=I2 (l.drop (Co l f));have h2:AN (l.drop (Co l f))=(l.drop (Co l f)).length:=by rw[zr];omega
    rw[h2,jh] at h1;refine⟨fun e=>?_,h1⟩;rw[e] at hc;exact absurd hc.2 (by simp[AN])
   rw[FT hc1];unfold Co at hdig hc
   by_cases hs:l[f+1]? = some 43\/l[f+1]? = some 45
   ·rw[if_pos hs] at hdig;obtain⟨s,hs1,hs2⟩:∃s,l[f+1]? = some s/\(s=43\/s=45):=by
     rcases hs with h1|h1
     ·exact⟨_,h1,.inl rfl⟩
     ·exact⟨_,h1,.inr rfl⟩
    refine⟨some (c,[s],l.drop (f+2)),?_,?_⟩
    ·intro c' s' d' e;injection e with e;injection e with e1 e2;injection e2 with e2 e3
     subst e1 e2 e3;exact⟨hc2,by rcases hs2 with rfl|rfl<;>simp,hdig.1,hdig.2⟩
    ·rw[FT hs1];rfl
   ·rw[if_neg hs] at hdig;refine⟨some (c,[],l.drop (f+1)),?_,rfl⟩;intro c' s' d' e;injection e with e;injection e with e1 e2;injection e2 with e2 e3
    subst e1 e2 e3;exact⟨hc2,.inl rfl,hdig.1,hdig.2⟩
  ·rw[if_neg hc] at h;subst h;exact⟨none,fun _ _ _ e=>(by cases e),by simp[BK]⟩
 refine⟨⟨decide (l[0]? = some 45),I,F,E⟩,⟨hI0,hI1,hI2,hF1,hE1⟩,?_⟩;show l=BP _++(I++(By F++BK E));rw[<-hE,<-hF,<-hI,<-hsg]
theorem Oy {c:UInt8} (h:Av c=true):48<=c.toNat/\c.toNat<=57:=of_decide_eq_true h
theorem IZ {c k:UInt8} (h:Av c=true) (hk:Av k=false):c≠k:=fun e=>by subst e;rw[h] at hk;cases hk
theorem KQ {I:List UInt8} (h0:I≠[]) (h1:I.all Av=true):∃c t,I=c::t/\Av c=true:=by
 cases I with
 | nil=>exact absurd rfl h0
 | cons c t=>rw[jn,Bool.and_eq_true] at h1;exact⟨c,t,rfl,h1.1⟩
theorem Pm {p:NumS} (hp:p.Good):∀c,(By p.fr++BK p.ex)[0]? = some c->Av c=false:=by
 intro c h
 cases hf:p.fr with
 | cons a t=>rw[hf] at h;simp only[By,ja,y6,zy.injEq] at h;subst h;rfl
 | nil=>
  rw[hf] at h
  cases he:p.ex with
  | none=>rw[he] at h;simp[By,BK] at h
  | some e=>
   obtain⟨k,s,d⟩:=e;rw[he] at h;simp only[By,BK,qo,y6,zy.injEq] at h;subst h;rcases(hp.e1 k s d he).1 with rfl|rfl<;>rfl
theorem KC {p:NumS} (hp:p.Good):∀c,(BK p.ex)[0]? = some c->c=101\/c=69:=by
 intro c h
 cases he:p.ex with
 | none=>rw[he] at h;simp[BK] at h
 | some e=>
  obtain⟨k,s,d⟩:=e;rw[he] at h;simp only[BK,y6,zy.injEq] at h;subst h;exact(hp.e1 k s d he).1
theorem Y8 {p:NumS} (hp:p.Good):Dc p.txt=p.txt.length/\p.txt≠[]:=by
 obtain⟨c,t,hI,hc⟩:=KQ hp.i0 hp.i1;have hsg:Bm p.txt=(BP p.neg).length:=by
  unfold Bm NumS.txt
  cases p.neg with
  | true=>rw[if_pos (by rfl)];rfl
  | false=>
   rw[if_neg ?_]
   ·rfl
   ·rw[hI];simp only[BP,Bool.false_eq_true,if_false,qo,ja,y6,zy.injEq];exact IZ hc rfl
 have hdrop:∀r:List UInt8,(BP p.neg++r).drop (BP p.neg).length=r:=fun r=>by simp
 have hd0:p.txt.drop (BP p.neg).length=p.int++(By p.fr++BK p.ex):=by unfold NumS.txt;exact hdrop _
 have hrun:=H9 p.int (By p.fr++BK p.ex) hp.i1 (Pm hp);have hIl:0<p.int.length:=xu.2 hp.i0;have hwhole:Dm p.txt=(BP p.neg).length+p.int.length:=by
  unfold Dm;rw[hsg,hd0,hrun];have hg:p.txt[(BP p.neg).length]? = p.int[0]?:=by
   have:p.txt[(BP p.neg).length]? = (p.txt.drop (BP p.neg).length)[0]?:=by rw[jx,jj]
   rw[this,hd0,List.getElem?_append_left hIl]
  rw[hg]
  by_cases hz:p.int[0]? = some 48
  ·rw[if_pos hz,hp.i2 hz];rfl
  ·rw[if_neg hz]
 have hd1:p.txt.drop ((BP p.neg).length+p.int.length)=By p.fr++BK p.ex:=by rw[<-jo,hd0];simp
 have hg1:p.txt[(BP p.neg).length+p.int.length]? = (By p.fr++BK p.ex)[0]?:=by rw[<-hd1,jx,jj]
 have hfrac:Eg p.txt ((BP p.neg).length+p.int.length)=(BP p.neg).length+p.int.length+(By p.fr).length:=by
  unfold Eg;rw[hg1,<-jo,hd1]
  cases hf:p.fr with
  | nil=>
   rw[if_neg ?_]
   ·rfl
   ·rintro⟨h1,_⟩;rw[show By []=[] from rfl,qo] at h1;rcases KC hp _ h1 with h2|h2<;>cases h2
  | cons a r=>
   have hr:AN ((By (a::r)++BK p.ex).drop 1)=(a::r).length:=by
    show AN ((a::r)++BK p.ex)=_;refine H9 _ _ (by rw[<-hf];exact hp.f1) ?_;intro c h;rcases KC hp c h with rfl|rfl<;>rfl
   rw[hr,if_pos ⟨rfl,by simp⟩];simp[By];omega
 have hd2:p.txt.drop ((BP p.neg).length+p.int.length+(By p.fr).length)=BK p.ex:=by rw[<-jo,hd1];simp
 have hlen:p.txt.length=(BP p.neg).length+p.int.length+(By p.fr).length+(BK p.ex).length:=by unfold NumS.txt;simp;omega
 have hexp:G1 p.txt ((BP p.neg).length+p.int.length+(By p.fr).length)=p.txt.length:=by
  generalize (BP p.neg).length+p.int.length+(By p.fr).length=f at *;have hg2:∀k,p.txt[f+k]? = (BK p.ex)[k]?:=fun k=>by rw[<-hd2,jx]
  have hg0:=hg2 0;rw[jj] at hg0;have hd3:∀k,p.txt.drop (f+k)=(BK p.ex).drop k:=fun k=>by rw[<-jo,hd2]
  unfold G1
  cases he:p.ex with
  | none=>
   rw[he] at hg0 hlen;rw[hg0,if_neg (by simp[BK]),hlen];rfl
  | some e=>
   obtain⟨k,s,d⟩:=e;obtain⟨h1,h2,h3,h4⟩:=hp.e1 k s d he;have h1':=hg2 1;rw[he] at hg0 hlen hd3 h1';have hdl:0<d.length:=xu.2 h3;have hrd:AN d=d.length:=by
    have:=H9 d [] h4 (by simp)
    rwa [List.append_nil] at this
   obtain⟨c1,d1,e1,e2⟩:=KQ h3 h4;have hat:Co p.txt f=f+1+s.length:=by
    unfold Co;rw[h1'];rcases h2 with rfl|rfl|rfl
    ·rw[if_neg]
     ·rfl
     ·rw[e1];simp only[BK,qo,List.getElem?_cons_succ,y6,zy.injEq];rintro(h|h)
      ·exact IZ e2 (k:=43) rfl h
      ·exact IZ e2 (k:=45) rfl h
    ·rw[if_pos (by simp[BK])];rfl
    ·rw[if_pos (by simp[BK])];rfl
   have hdd:p.txt.drop (f+1+s.length)=d:=by
    rw[show f+1+s.length=f+(1+s.length) by omega,hd3];show (k::(s++d)).drop (1+s.length)=d;rw[Nat.add_comm 1,List.drop_succ_cons];simp
   rw[hat,hdd,hrd,hg0,if_pos]
   ·rw[hlen];simp[BK];omega
   ·refine⟨?_,hdl⟩;rcases h1 with rfl|rfl<;>simp[BK]
 constructor
 ·unfold Dc;rw[hsg,hd0,hrun,if_neg (by omega),hwhole,hfrac,hexp]
 ·intro e;rw[e] at hlen;simp only[qd] at hlen;omega
def Hu:List UInt8->Nat->Nat
 | [],n=>n
 | c::l,n=>Hu l (n*10+(c.toNat - 48))
theorem N2:∀(l:List UInt8) (n:Nat),n<=Hu l n
 | [],n=>ze _
 | c::l,n=>by
  have:=N2 l (n*10+(c.toNat - 48));unfold Hu;omega
def Ds (cut:Nat):Option (UInt8×List UInt8×List UInt8)->Int
 | none=>0
 | some (_,s,d)=>if s=[45] then -((min (Hu d 0) cut:Nat):Int) else ((min (Hu d 0) cut:Nat):Int)
def zL (l:List UInt8):List UInt8:=l.dropWhile (·==48)
def zR (l:List UInt8):List UInt8:=(zL l.reverse).reverse
def Fm (p:NumS):List UInt8:=zL (p.int++p.fr)
def F6 (cut:Nat) (p:NumS):Int:=Ds cut p.ex - (p.fr.length:Int)+(((Fm p).length:Int) - ((zR (Fm p)).length:Int))
def M1 (x:Int):List UInt8:=if x=0 then [] else 101::Lib.itoa x
def Gz (cut:Nat) (p:NumS):Int×List UInt8 :=
 if Fm p=[] then (0,[48])
 else if 40<(zR (Fm p)).length\/F6 cut p < -400\/400<F6 cut p then (144,[])
 else (0,BP p.neg++(zR (Fm p)++M1 (F6 cut p)))
theorem LW (c:UInt8) (t:List UInt8):zL (c::t)=if c=48 then zL t else c::t:=by
 unfold zL;rw[List.dropWhile_cons]
 by_cases h:c=48
 ·rw[if_pos h,if_pos (by rw[h];rfl)]
 ·rw[if_neg h,if_neg (by simpa using h)]
theorem LX:∀l:List UInt8,∃k,l=qw k 48++zL l/\∀c,(zL l)[0]? = some c->c≠48
 | []=>⟨0,rfl,fun c h=>by simp[zL] at h⟩
 | c::t=>by
  rw[LW]
  by_cases h:c=48
  ·rw[if_pos h];obtain⟨k,h1,h2⟩:=LX t;refine⟨k+1,?_,h2⟩;rw[List.replicate_succ,ja,<-h1,h]
  ·rw[if_neg h];exact⟨0,rfl,fun d hd=>by simp only[y6,zy.injEq] at hd;rw[<-hd];exact h⟩
theorem uR (k:Nat) (r:List UInt8):zL (qw k 48++r)=zL r:=by
 induction k with
 | zero=>rfl
 | succ k ih=>rw[List.replicate_succ,ja,LW,if_pos rfl,ih]
theorem rS {l:List UInt8} (h:∀c,l[0]? = some c->c≠48):zL l=l:=by
 cases l with
 | nil=>rfl
 | cons c t=>rw[LW,if_neg (h c rfl)]
theorem uS (a:List UInt8) (k:Nat):zR (a++qw k 48)=zR a:=by
 unfold zR;rw[List.reverse_append,List.reverse_replicate,uR]
theorem Zp (l:List UInt8):∃k,l=zR l++qw k 48:=by
 obtain⟨k,h1,h2⟩:=LX l.reverse;refine⟨k,?_⟩;have:=congrArg List.reverse h1;rw[List.reverse_reverse,List.reverse_append,List.reverse_replicate] at this;exact this
theorem Rv (l:List UInt8):(zL l).length<=l.length:=by
 obtain⟨k,h,_⟩:=LX l;have:=congrArg jd h;rw[zg] at this;omega
theorem Rl (l:List UInt8):(zR l).length<=l.length:=by
 obtain⟨k,h⟩:=Zp l;have:=congrArg jd h;rw[zg] at this;omega
theorem eN (p:NumS):∀c,(Fm p)[0]? = some c->c≠48:=by
 obtain⟨k,_,h⟩:=LX (p.int++p.fr);exact h
theorem Tf (p:NumS):(Fm p).length<=p.int.length+p.fr.length:=by
 have:=Rv (p.int++p.fr);rw[zg] at this;exact this
theorem Sa (p:NumS):p.int.length+p.fr.length<=p.txt.length:=by
 unfold NumS.txt;simp only[zg];have:p.fr.length<=(By p.fr).length:=by cases p.fr<;>simp[By]
 omega
theorem Ye (cut:Nat):∀e,-(cut:Int)<=Ds cut e/\Ds cut e<=cut
 | none=>⟨by simp only[Ds];omega,by simp only[Ds];omega⟩
 | some (_,s,d)=>by
  simp only[Ds]
  split<;>omega
def EL (c:Nat):List UInt8->Nat->Nat
 | [],n=>n
 | x::l,n=>EL c l (min (n*10+(x.toNat - 48)) c)
theorem Od (c:Nat):∀(l:List UInt8) (n:Nat),n<=c->EL c l n=min (Hu l n) c
 | [],n,h=>by rw[EL,Hu];omega
 | x::l,n,h=>by
  rw[EL,Hu,Od c l _ (by omega)]
  by_cases h1:n*10+(x.toNat - 48)<=c
  ·rw[Nat.min_eq_left h1]
  ·rw[Nat.min_eq_right (show c<=n*10+(x.toNat - 48) by omega)];have h2:=N2 l c;have h3:=N2 l (n*10+(x.toNat - 48));omega
theorem Y5 (c:Nat):∀(l:List UInt8) (n:Nat),n<=c->EL c l n<=c:=fun l n h=>by rw[Od c l n h];omega
def Fk (l:List UInt8):List UInt8:=if l[0]? = some 43\/l[0]? = some 45 then l.drop 1 else l
def Iv (l:List UInt8):Bool:=decide (l[0]? = some 45)
def J2 (c:Nat) (l:List UInt8):Int:=if Iv l=true then -(EL c (Fk l) 0:Int) else (EL c (Fk l) 0:Int)
theorem N5 (c:Nat) {p:NumS} (hp:p.Good) {k:UInt8} {s d:List UInt8} (he:p.ex=some (k,s,d)):J2 c (s++d)=Ds c p.ex/\Fk (s++d)=d:=by
 obtain⟨_,h2,h3,h4⟩:=hp.e1 k s d he;obtain⟨c1,d1,e1,e2⟩:=KQ h3 h4;have hs:Fk (s++d)=d:=by
  unfold Fk;rcases h2 with rfl|rfl|rfl
  ·rw[qo,if_neg];rw[e1];simp only[y6,zy.injEq];rintro(h|h)
   ·exact IZ e2 (k:=43) rfl h
   ·exact IZ e2 (k:=45) rfl h
  ·rw[if_pos (.inl rfl)];rfl
  ·rw[if_pos (.inr rfl)];rfl
 refine⟨?_,hs⟩;have hn:Iv (s++d)=decide (s=[45]):=by
  unfold Iv;rcases h2 with rfl|rfl|rfl
  ·rw[qo,e1];have:c1≠45:=IZ e2 rfl;simp[this]
  ·simp
  ·simp
 unfold J2 Ds;rw[hs,hn,he,Od c d 0 (zd _)]
 by_cases h:s=[45]
 ·simp[h]
 ·simp[h]
theorem Mv (a:Nat) (ha:a<9223372036854775808):(BitVec.ofInt 64 (a:Int)).toNat=a:=by
 rw[BitVec.ofInt_natCast,BitVec.toNat_ofNat];exact Nat.mod_eq_of_lt (by omega)
theorem MN (a b:Nat) (ha:a<9223372036854775808) (hb:b<9223372036854775808):bits .and .i64 (a:Int) (b:Int)=((a &&& b:Nat):Int):=by
 have hx:a &&& b<2 ^ 63:=Nat.and_lt_two_pow _ (by omega);show IntKind.i64.wrap ((BitVec.ofInt 64 (a:Int) &&& BitVec.ofInt 64 (b:Int)).toNat:Int)=_;rw[BitVec.toNat_and,Mv a ha,Mv b hb,IntKind.wrap_i64];omega
theorem KR (a b:Nat) (ha:a<9223372036854775808) (hb:b<9223372036854775808):bits .or .i64 (a:Int) (b:Int)=((a ||| b:Nat):Int):=by
 have hx:a ||| b<2 ^ 63:=Nat.or_lt_two_pow (by omega) (by omega);show IntKind.i64.wrap ((BitVec.ofInt 64 (a:Int) ||| BitVec.ofInt 64 (b:Int)).toNat:Int)=_;rw[BitVec.toNat_or,Mv a ha,Mv b hb,IntKind.wrap_i64];omega
theorem qD (a:Nat):a &&& 63=a % 64:=yg a 6
theorem Kd (a b i:Nat) (h:b<2 ^ i):2 ^ i*a ||| b=2 ^ i*a+b:=(Nat.two_pow_add_eq_or_of_lt h a).symm
theorem KV (r:Int) (w:World) :
  Calls Tryz.prog 192 #[.int .i64 r] w fun e w'=>e=.returned (.bool (Dq r))/\w=w':=by
 go_enter Tryz.func192,Tryz.ntmps192
 go_wp2
 all_goals go_ret
 all_goals exact⟨Bi (by unfold Dq;first|exact dt (by omega)|exact df (by omega)|(rw[Bool.eq_iff_iff];simp only[Bool.or_eq_true,Bool.and_eq_true,decide_eq_true_eq];omega)),rfl⟩
theorem Lt (r:Nat) (h:r<=4503599627370496):bits .and .i64 (r:Int) 63=((r % 64:Nat):Int):=by
 have h1:=MN r 63 (by omega) (by omega);rw[qD] at h1;exact h1
theorem rX (x:Nat) (h:x<64):bits .or .i64 128 (x:Int)=((128+x:Nat):Int):=by
 have h2:=KR 128 x (by omega) (by omega);have h3:=Kd 1 x 7 (by omega);rw[show (128:Nat) ||| x=128+x from h3] at h2;exact h2
theorem rY (x:Nat) (h:x<64):bits .or .i64 192 (x:Int)=((192+x:Nat):Int):=by
 have h2:=KR 192 x (by omega) (by omega);have h3:=Kd 3 x 6 (by omega);rw[show (192:Nat) ||| x=192+x from h3] at h2;exact h2
theorem rZ (x:Nat) (h:x<32):bits .or .i64 224 (x:Int)=((224+x:Nat):Int):=by
 have h2:=KR 224 x (by omega) (by omega);have h3:=Kd 7 x 5 (by omega);rw[show (224:Nat) ||| x=224+x from h3] at h2;exact h2
theorem sA (x:Nat) (h:x<16):bits .or .i64 240 (x:Int)=((240+x:Nat):Int):=by
 have h2:=KR 240 x (by omega) (by omega);have h3:=Kd 15 x 4 (by omega);rw[show (240:Nat) ||| x=240+x from h3] at h2;exact h2
theorem QD (r x:Nat) (hr:r<=4503599627370496) (h:x<64):bits .or .i64 ((r:Int)*64) (x:Int)=((r*64+x:Nat):Int):=by
 have h2:=KR (r*64) x (by omega) (by omega);have h3:=Kd r x 6 (by omega);rw[show r*64 ||| x=r*64+x from by rw[Nat.mul_comm];exact h3] at h2;rw[<-h2,Int.natCast_mul];rfl
structure UTabs (w:World):Prop where
 triv:True
theorem UTabs.keep {w w':World} (h:UTabs w) (hq:Qb w w'):UTabs w':=⟨trivial⟩
def D9 (r:Int):Int×List UInt8:=if Dq r=true then (0,Cv r.toNat) else (4,[])
theorem tX {n:Nat} (hp:Dq (n:Int)=true) (h:n<128):D9 n=(0,(strOfNums [(n:Int)]).data.toList):=by
 unfold D9 Cv;rw[if_pos hp,zt,if_pos h];rfl
theorem tY {n:Nat} (hp:Dq (n:Int)=true) (h1:¬n<128) (h:n<2048):D9 n=(0,(strOfNums [192+(n:Int) / 64,128+(n:Int) % 64]).data.toList):=by
 unfold D9 Cv;rw[if_pos hp,zt,if_neg h1,if_pos h];simp only[strOfNums_data,zl,qa,BU];rw[show (192+(n:Int) / 64).toNat=192+n / 64 from by omega,show (128+(n:Int) % 64).toNat=128+n % 64 from by omega]
theorem sZ {n:Nat} (hp:Dq (n:Int)=true) (h1:¬n<2048) (h:n<65536):D9 n=(0,(strOfNums [224+(n:Int) / 4096,128+(n:Int) / 64 % 64,128+(n:Int) % 64]).data.toList):=by
 unfold D9 Cv;rw[if_pos hp,zt,if_neg (by omega),if_neg h1,if_pos h];simp only[strOfNums_data,zl,qa,BU];rw[show (224+(n:Int) / 4096).toNat=224+n / 4096 from by omega,show (128+(n:Int) / 64 % 64).toNat=128+n / 64 % 64 from by omega,show (128+(n:Int) % 64).toNat=128+n % 64 from by omega]
theorem tA {n:Nat} (hp:Dq (n:Int)=true) (h1:¬n<65536):D9 n=(0,(strOfNums [240+(n:Int) / 262144,128+(n:Int) / 4096 % 64,128+(n:Int) / 64 % 64,128+(n:Int) % 64]).data.toList):=by
 unfold D9 Cv;rw[if_pos hp,zt,if_neg (by omega),if_neg (by omega),if_neg h1];simp only[strOfNums_data,zl,qa,BU];rw[show (240+(n:Int) / 262144).toNat=240+n / 262144 from by omega,show (128+(n:Int) / 4096 % 64).toNat=128+n / 4096 % 64 from by omega,show (128+(n:Int) / 64 % 64).toNat=128+n / 64 % 64 from by omega,show (128+(n:Int) % 64).toNat=128+n % 64 from by omega]
theorem XZ {r:Int} (h:Dq r=true):∃n:Nat,r=n/\n<=1114111:=by
 have:=of_decide_eq_true h;exact⟨r.toNat,by omega,by omega⟩
def Rh (c:UInt8) (n:Nat):Nat:=if n=1 then c.toNat else if n=2 then c.toNat % 32 else if n=3 then c.toNat % 16 else c.toNat % 8
theorem qC (a:Nat):a &&& 31=a % 32:=yg a 5
theorem qB (a:Nat):a &&& 15=a % 16:=yg a 4
theorem oV (a:Nat):a &&& 7=a % 8:=yg a 3
def Gg (l:List UInt8) (at_:Int):Int×Int×Int :=
 if at_<0\/(l.length:Int)<=at_ then (0,0,4) else match CQ (l.drop at_.toNat) with
  | none=>(0,0,7)
  | some (r,n)=>((r:Int),at_+n,0)
def pY (x:Int×Int×Int):Value:=.tuple #[.int .i64 x.1,.int .i64 x.2.1,.int .i64 x.2.2]
theorem iR {l:List UInt8} {a:Int} (h:a<0\/(l.length:Int)<=a):Gg l a=(0,0,4):=if_pos h
theorem UR {l:List UInt8} {k:Nat} (h:k<l.length) (hd:CQ (l.drop k)=none):Gg l k=(0,0,7):=by
 unfold Gg;rw[if_neg (by omega),zt,hd]
theorem jJ {l:List UInt8} {k r n:Nat} (h:k<l.length) (hd:CQ (l.drop k)=some (r,n)):Gg l k=((r:Int),(k:Int)+n,0):=by
 unfold Gg;rw[if_neg (by omega),zt,hd]
theorem NF (q:Int) (h0:0<=q) (h:q<=4503599627370496):bits .and .i64 q 63=q % 64:=by
 obtain⟨n,rfl⟩:=y9 h0;exact Lt n (by omega)
theorem NJ (q:Int) (h0:0<=q) (h:q<64):bits .or .i64 128 q=128+q:=by
 obtain⟨n,rfl⟩:=y9 h0;exact rX n (by omega)
theorem Qc (r:Int) (w:World) :
  Calls Tryz.prog 164 #[.int .i64 r] w fun e w'=>e=.returned (Dd (D9 r))/\Qb w w':=by
 rcases hp:Dq r with _|_
 ·have he:D9 r=(4,[]):=by unfold D9;rw[hp];rfl
  rw[he]
  go_enter Tryz.func164,Tryz.ntmps164
  go_wp2_with (go_at_call 192;refine(KV _ _).mono ?_;rintro e w1 ⟨rfl,rfl⟩)
  go_ret2
  exact⟨rfl,Qb.refl _⟩
 ·obtain⟨n,rfl,hn⟩:=XZ hp;have a0:=NF (n:Int) (by omega) (by omega);have a1:=NF ((n:Int) / 64) (by omega) (by omega);have a2:=NF ((n:Int) / 4096) (by omega) (by omega);have o0:=NJ ((n:Int) % 64) (by omega) (by omega);have o1:=NJ ((n:Int) / 64 % 64) (by omega) (by omega);have o2:=NJ ((n:Int) / 4096 % 64) (by omega) (by omega)
  by_cases h1:n<128
  ·rw[tX hp h1];have hst:=KB w [(n:Int)] 1 rfl;simp only[zl,qa] at hst
   go_enter Tryz.func164,Tryz.ntmps164
   go_wp2_with (go_at_call 192;refine(KV _ _).mono ?_;rintro e w1 ⟨rfl,rfl⟩)
   go_ret2
   exact⟨rfl,(Qb.refl _).alloc _⟩
  ·by_cases h2:n<2048
   ·rw[tY hp h1 h2];have hst:=KB w [192+(n:Int) / 64,128+(n:Int) % 64] 2 rfl;simp only[zl,qa] at hst;have ho:bits .or .i64 192 ((n:Int) / 64)=192+(n:Int) / 64:=rY (n / 64) (by omega)
    go_enter Tryz.func164,Tryz.ntmps164
    go_wp2_with (go_at_call 192;refine(KV _ _).mono ?_;rintro e w1 ⟨rfl,rfl⟩)
    go_ret2
    exact⟨rfl,(Qb.refl _).alloc _⟩
   ·by_cases h3:n<65536
    ·rw[sZ hp h2 h3];have hst:=KB w [224+(n:Int) / 4096,128+(n:Int) / 64 % 64,128+(n:Int) % 64] 3 rfl;simp only[zl,qa] at hst;have ho:bits .or .i64 224 ((n:Int) / 4096)=224+(n:Int) / 4096:=rZ (n / 4096) (by omega);have hb3:decide ((n:Int)<65536)=true:=decide_eq_true (by omega);have hb1:decide ((n:Int)<128)=false:=decide_eq_false (by omega);have hb2:decide ((n:Int)<2048)=false:=decide_eq_false (by omega);have H3:=zb h3;have nb:(n:Int) / 4096<16:=by omega
     clear h1 h2 h3
     go_enter Tryz.func164,Tryz.ntmps164
     go_wp2_with (go_at_call 192;refine(KV _ _).mono ?_;rintro e w1 ⟨rfl,rfl⟩)
     go_ret2
     exact⟨rfl,(Qb.refl _).alloc _⟩
    ·rw[tA hp h3];have hst:=KB w [240+(n:Int) / 262144,128+(n:Int) / 4096 % 64,128+(n:Int) / 64 % 64,128+(n:Int) % 64] 4 rfl;simp only[zl,qa] at hst;have ho:bits .or .i64 240 ((n:Int) / 262144)=240+(n:Int) / 262144:=sA (n / 262144) (by omega);have hb3:decide ((n:Int)<65536)=false:=decide_eq_false (by omega);have nb:(n:Int) / 262144<8:=by omega
     have hb1:decide ((n:Int)<128)=false:=decide_eq_false (by omega);have hb2:decide ((n:Int)<2048)=false:=decide_eq_false (by omega);have H3:=zb h3;clear h1 h2 h3
     go_enter Tryz.func164,Tryz.ntmps164
     go_wp2_with (go_at_call 192;refine(KV _ _).mono ?_;rintro e w1 ⟨rfl,rfl⟩)
     go_ret2
     exact⟨rfl,(Qb.refl _).alloc _⟩
def FL:List UInt8->Nat->Nat
 | [],r=>r
 | c::t,r=>FL t (r*64+c.toNat % 64)
def CR:List UInt8->Nat
 | []=>0
 | c::t=>FL t (Rh c (t.length+1))
theorem QA (i:Nat):4*64 ^ (i+1)=64*(4*64 ^ i):=by rw[Nat.pow_succ];omega
theorem NS {i:Nat} (h:i<=4):4*64 ^ i<=67108864:=by
 have:i=0\/i=1\/i=2\/i=3\/i=4:=by omega
 rcases this with rfl|rfl|rfl|rfl|rfl<;>decide
theorem iK (s:ByteArray) (h1:1<=s.size) (h4:s.size<=4) (w:World) :
  Calls Tryz.prog 165 #[.string s] w fun e w'=>e=.returned (.int .i64 (CR s.data.toList))/\Qb w w':=by
 have hd:=Dv s 0 (by omega);rw[List.drop_zero] at hd;have hv:CR s.data.toList=FL (s.data.toList.drop 1) (Rh s[0] s.size):=by
  conv=>lhs;rw[hd]
  rw[CR,zr,Ay,show s.size - 1+1=s.size from by omega]
 have HV:=zb hv;clear hd hv;have hc:=s[0].toNat_lt;have a1:bits .and .i64 (s[0].toNat:Int) 31=((s[0].toNat % 32:Nat):Int):=by rw[<-qC];exact MN s[0].toNat 31 (by omega) (by omega)
 have a2:bits .and .i64 (s[0].toNat:Int) 15=((s[0].toNat % 16:Nat):Int):=by rw[<-qB];exact MN s[0].toNat 15 (by omega) (by omega)
 have a3:bits .and .i64 (s[0].toNat:Int) 7=((s[0].toNat % 8:Nat):Int):=by rw[<-oV];exact MN s[0].toNat 7 (by omega) (by omega)
 have H:=zb (And.intro a1 (And.intro a2 a3));clear a1 a2 a3;have hn:s.size=1\/s.size=2\/s.size=3\/s.size=4:=by omega
 rcases hn with hz|hz|hz|hz
 ·have HE:Hid (CR s.data.toList=s[0].toNat):=zb (by rw[HV.out,xg (by rw[Ay];omega),hz];rfl)
  go_enter Tryz.func165,Tryz.ntmps165
  go_wp2_with fail
  go_ret
  exact⟨EP (by rw[HE.out]),Qb.refl _⟩
 ·have HE:Hid (CR s.data.toList=FL (s.data.toList.drop 1) (s[0].toNat % 32)):=zb (by rw[HV.out,hz];rfl);have HA:Hid (bits .and .i64 (s[0].toNat:Int) 31=((s[0].toNat % 32:Nat):Int)):=zb H.out.1
  go_enter Tryz.func165,Tryz.ntmps165
  go_wp2_with fail
  go_quiet (fail)
  go_wp2_with fail
  rw[HA.out]
  go_loop [3,4] (fun r x=>∃i q:Nat,1<=i/\i<=s.size/\x=.int .i64 i/\r=.int .i64 q/\q<4*64 ^ i/\Hid (CR s.data.toList=FL (s.data.toList.drop i) q)) (fun _ x=>s.size - (intOf x).toNat)
  case atStart=>exact⟨1,s[0].toNat % 32,ze _,h1,rfl,rfl,by omega,HE⟩
  case round=>
   obtain⟨i,q,hi1,hi,rfl,rfl,hq,HR⟩:=hrel;have hp:=NS (show i<=4 by omega);have hq2:q<67108864:=by omega
   have HP:=zb (QA i);have Hq:=zb hq;clear hp hq
   by_cases hlt:i<s.size
   ·have hcc:=s[i].toNat_lt;have HO:Hid (bits .or .i64 ((q:Int)*64) (bits .and .i64 (s[i].toNat:Int) 63)=((q*64+s[i].toNat % 64:Nat):Int)):=zb (by rw[Lt s[i].toNat (by omega)];exact QD q (s[i].toNat % 64) (by omega) (by omega));have HN:Hid (CR s.data.toList=FL (s.data.toList.drop (i+1)) (q*64+s[i].toNat % 64)):=zb (by rw[HR.out,Dv s i hlt];rfl)
    go_wp2_with fail
    go_round
    case rel=>
     refine⟨i+1,q*64+s[i].toNat % 64,by omega,by omega,by go_num,by rw[HO.out],?_,HN⟩;rw[HP.out];have:=Hq.out;generalize 4*64 ^ i=P at *;omega
    case measure=>simp[intOf];omega
   ·have HN:Hid (CR s.data.toList=q):=zb (by rw[HR.out,xg (by rw[Ay];omega)];rfl)
    go_wp2_with fail
    go_ret
    exact⟨EP (by rw[HN.out]),(Qb.refl _).drewN _⟩
 ·have HE:Hid (CR s.data.toList=FL (s.data.toList.drop 1) (s[0].toNat % 16)):=zb (by rw[HV.out,hz];rfl);have HA:Hid (bits .and .i64 (s[0].toNat:Int) 15=((s[0].toNat % 16:Nat):Int)):=zb H.out.2.1
  go_enter Tryz.func165,Tryz.ntmps165
  go_wp2_with fail
  go_quiet (fail)
  go_wp2_with fail
  rw[HA.out]
  go_loop [3,4] (fun r x=>∃i q:Nat,1<=i/\i<=s.size/\x=.int .i64 i/\r=.int .i64 q/\q<4*64 ^ i/\Hid (CR s.data.toList=FL (s.data.toList.drop i) q)) (fun _ x=>s.size - (intOf x).toNat)
  case atStart=>exact⟨1,s[0].toNat % 16,ze _,h1,rfl,rfl,by omega,HE⟩
  case round=>
   obtain⟨i,q,hi1,hi,rfl,rfl,hq,HR⟩:=hrel;have hp:=NS (show i<=4 by omega);have hq2:q<67108864:=by omega
   have HP:=zb (QA i);have Hq:=zb hq;clear hp hq
   by_cases hlt:i<s.size
   ·have hcc:=s[i].toNat_lt;have HO:Hid (bits .or .i64 ((q:Int)*64) (bits .and .i64 (s[i].toNat:Int) 63)=((q*64+s[i].toNat % 64:Nat):Int)):=zb (by rw[Lt s[i].toNat (by omega)];exact QD q (s[i].toNat % 64) (by omega) (by omega));have HN:Hid (CR s.data.toList=FL (s.data.toList.drop (i+1)) (q*64+s[i].toNat % 64)):=zb (by rw[HR.out,Dv s i hlt];rfl)
    go_wp2_with fail
    go_round
    case rel=>
     refine⟨i+1,q*64+s[i].toNat % 64,by omega,by omega,by go_num,by rw[HO.out],?_,HN⟩;rw[HP.out];have:=Hq.out;generalize 4*64 ^ i=P at *;omega
    case measure=>simp[intOf];omega
   ·have HN:Hid (CR s.data.toList=q):=zb (by rw[HR.out,xg (by rw[Ay];omega)];rfl)
    go_wp2_with fail
    go_ret
    exact⟨EP (by rw[HN.out]),(Qb.refl _).drewN _⟩
 ·have HE:Hid (CR s.data.toList=FL (s.data.toList.drop 1) (s[0].toNat % 8)):=zb (by rw[HV.out,hz];rfl);have HA:Hid (bits .and .i64 (s[0].toNat:Int) 7=((s[0].toNat % 8:Nat):Int)):=zb H.out.2.2
  go_enter Tryz.func165,Tryz.ntmps165
  go_wp2_with fail
  go_quiet (fail)
  go_wp2_with fail
  rw[HA.out]
  go_loop [3,4] (fun r x=>∃i q:Nat,1<=i/\i<=s.size/\x=.int .i64 i/\r=.int .i64 q/\q<4*64 ^ i/\Hid (CR s.data.toList=FL (s.data.toList.drop i) q)) (fun _ x=>s.size - (intOf x).toNat)
  case atStart=>exact⟨1,s[0].toNat % 8,ze _,h1,rfl,rfl,by omega,HE⟩
  case round=>
   obtain⟨i,q,hi1,hi,rfl,rfl,hq,HR⟩:=hrel;have hp:=NS (show i<=4 by omega);have hq2:q<67108864:=by omega
   have HP:=zb (QA i);have Hq:=zb hq;clear hp hq
   by_cases hlt:i<s.size
   ·have hcc:=s[i].toNat_lt;have HO:Hid (bits .or .i64 ((q:Int)*64) (bits .and .i64 (s[i].toNat:Int) 63)=((q*64+s[i].toNat % 64:Nat):Int)):=zb (by rw[Lt s[i].toNat (by omega)];exact QD q (s[i].toNat % 64) (by omega) (by omega));have HN:Hid (CR s.data.toList=FL (s.data.toList.drop (i+1)) (q*64+s[i].toNat % 64)):=zb (by rw[HR.out,Dv s i hlt];rfl)
    go_wp2_with fail
    go_round
    case rel=>
     refine⟨i+1,q*64+s[i].toNat % 64,by omega,by omega,by go_num,by rw[HO.out],?_,HN⟩;rw[HP.out];have:=Hq.out;generalize 4*64 ^ i=P at *;omega
    case measure=>simp[intOf];omega
   ·have HN:Hid (CR s.data.toList=q):=zb (by rw[HR.out,xg (by rw[Ay];omega)];rfl)
    go_wp2_with fail
    go_ret
    exact⟨EP (by rw[HN.out]),(Qb.refl _).drewN _⟩
theorem aX {r:Nat} (h:Dq (r:Int)=true):CR (Cv r)=r:=by
 have hr:=(of_decide_eq_true h).2.1;unfold Cv
 by_cases h1:r<128
 ·rw[if_pos h1];show (BU r).toNat=r;exact C3 (by omega)
 rw[if_neg h1]
 by_cases h2:r<2048
 ·rw[if_pos h2];show (BU (192+r / 64)).toNat % 32*64+(BU (128+r % 64)).toNat % 64=r;rw[C3 (by omega),C3 (by omega)];omega
 rw[if_neg h2]
 by_cases h3:r<65536
 ·rw[if_pos h3];show ((BU (224+r / 4096)).toNat % 16*64+(BU (128+r / 64 % 64)).toNat % 64)*64+(BU (128+r % 64)).toNat % 64=r;rw[C3 (by omega),C3 (by omega),C3 (by omega)];omega
 ·rw[if_neg h3];show (((BU (240+r / 262144)).toNat % 8*64+(BU (128+r / 4096 % 64)).toNat % 64)*64+(BU (128+r / 64 % 64)).toNat % 64)*64+(BU (128+r % 64)).toNat % 64=r;rw[C3 (by omega),C3 (by omega),C3 (by omega),C3 (by omega)];omega
def Ix (l:List UInt8):Bool:=decide ((D9 (CR l)).1=0)&&((D9 (CR l)).2==l)
theorem fB {l:List UInt8} {n:Nat} (hn:n<=l.length) (h:Ix (l.take n)=true):CQ l=some (CR (l.take n),n):=by
 unfold Ix at h;rw[Bool.and_eq_true,decide_eq_true_eq,beq_iff_eq] at h;rcases hc:Dq (CR (l.take n):Int) with _|_
 ·have:=h.1;unfold D9 at this;rw[hc,if_neg Bool.false_ne_true] at this;exact absurd this (by decide)
 ·have h2:=h.2;unfold D9 at h2;rw[hc,if_pos rfl,zt] at h2;exact jL hc h2 hn
theorem ZO {l:List UInt8} {n r:Nat} (h:CQ l=some (r,n)):Ix (l.take n)=true:=by
 have hb:=JH h;have hv:CR (l.take n)=r:=by rw[<-hb.2.1];exact aX hb.1
 unfold Ix D9;rw[hv,hb.1,if_pos rfl,zt,hb.2.1];simp
theorem jX (s:ByteArray) (a:Int) (w:World) (hs:s.size<=140737488351232) :
  Calls Tryz.prog 123 #[.string s,.int .i64 a] w fun e w'=>e=.returned (pY (Gg s.data.toList a))/\Qb w w':=by
 by_cases h:a<0\/(s.size:Int)<=a
 ·rw[iR (by rw[Ay];exact h)]
  by_cases h0:a<0
  ·clear h
   go_enter Tryz.func123,Tryz.ntmps123
   go_wp2_with fail
   go_ret3
   exact⟨rfl,Qb.refl _⟩
  ·have h1:(s.size:Int)<=a:=by omega
   clear h
   go_enter Tryz.func123,Tryz.ntmps123
   go_wp2_with fail
   go_ret3
   exact⟨rfl,Qb.refl _⟩
 ·obtain⟨k,rfl⟩:=y9 (show 0<=a by omega);have hk:k<s.size:=by omega
  clear h;have hb0:decide ((k:Int)<0)=false:=decide_eq_false (by omega);have hbs:decide (s.size<=k)=false:=decide_eq_false (by omega)
  go_enter Tryz.func123,Tryz.ntmps123
  go_wp2_with fail
  go_loopw [7,8,9,10] (fun x _ _ _ wr=>∃n:Nat,1<=n/\n<=5/\x=.int .i64 n/\Hid (∀r m,CQ (s.data.toList.drop k)=some (r,m)->n<=m)/\Qb w wr) (fun x _ _ _ _=>5 - (intOf x).toNat)
  case atStart=>exact⟨1,ze _,by omega,rfl,zb fun r m hd=>(JH hd).2.2.2.1,Qb.refl w⟩
  case round=>
   obtain⟨n,h1,h5,rfl,HM,hq⟩:=hrel
   by_cases hlt:n<=4/\k+n<=s.size
   ·obtain⟨h4,hle⟩:=hlt;have hx:Hid ((s.extract k (k+n)).data.toList=(s.data.toList.drop k).take n):=zb (by rw[Lib.extract_data,Nat.add_sub_cancel_left]);have hsz:=size_extract s k (k+n) hle;have hz1:1<=(s.extract k (k+n)).size:=by omega
    have hz4:(s.extract k (k+n)).size<=4:=by omega
    clear hsz
    go_wp2_with fail
    refine(iK _ hz1 hz4 _).mono ?_;rintro e w1 ⟨rfl,hq1⟩;rw[hx.out];rcases hi:Ix ((s.data.toList.drop k).take n) with _|_
    ·have HN:Hid (∀r m,CQ (s.data.toList.drop k)=some (r,m)->n+1<=m):=zb fun r m hd=>by
      have h6:=HM.out r m hd;have h7:n≠m:=by
       rintro rfl;rw[ZO hd] at hi;cases hi
      omega
     obtain⟨er,eb,hres,hor⟩:∃er eb,Dd (D9 (CR ((s.data.toList.drop k).take n)))=.tuple #[.string eb,.int .i64 er]/\((er==0)=false\/(eb.toList==(s.extract k (k+n)).toList)=false):=by
      refine⟨_,_,rfl,?_⟩;unfold Ix at hi;rw[Bool.and_eq_false_iff,decide_eq_false_iff_not,beq_eq_false_iff_ne] at hi;rcases hi with hi|hi
      ·exact .inl (beq_eq_false_iff_ne.2 hi)
      ·refine .inr (beq_eq_false_iff_ne.2 fun e=>hi ?_);rw[ByteArray.toList_eq,ByteArray.toList_eq,hx.out] at e;exact e
     have HR:=zb hres;clear hres hi;generalize CR ((s.data.toList.drop k).take n)=q at *
     go_wp2_with fail
     refine(Qc _ _).mono ?_;rintro e w2 ⟨rfl,hq2⟩;rw[HR.out];rcases hor with ho|ho
     ·go_wp2_with fail
      go_roundw
      case rel=>exact⟨n+1,by omega,by omega,by go_num,HN,(hq.trans hq1).trans hq2⟩
      case measure=>simp[intOf];omega
     ·by_cases he:er=0
      ·subst he
       go_wp2_with fail
       go_roundw
       case rel=>exact⟨n+1,by omega,by omega,by go_num,HN,(hq.trans hq1).trans hq2⟩
       case measure=>simp[intOf];omega
      ·have he1:(er==0)=false:=beq_eq_false_iff_ne.2 he;clear he
       go_wp2_with fail
       go_roundw
       case rel=>exact⟨n+1,by omega,by omega,by go_num,HN,(hq.trans hq1).trans hq2⟩
       case measure=>simp[intOf];omega
    ·have HD:=zb (fB (by rw[zr,Ay];omega) hi);have hres:Dd (D9 (CR ((s.data.toList.drop k).take n)))=.tuple #[.string (s.extract k (k+n)),.int .i64 0]:=by
      unfold Ix at hi;rw[Bool.and_eq_true,decide_eq_true_eq,beq_iff_eq] at hi;unfold Dd;rw[hi.1,hi.2,<-hx.out]
     have HR:=zb hres;clear hres hi;generalize CR ((s.data.toList.drop k).take n)=q at *
     go_wp2_with fail
     refine(Qc _ _).mono ?_;rintro e w2 ⟨rfl,hq2⟩;rw[HR.out]
     go_wp2_with fail
     go_ret3
     exact⟨by rw[jJ (by rw[Ay];exact hk) HD.out];rfl,(hq.trans hq1).trans hq2⟩
   ·have HN:Hid (CQ (s.data.toList.drop k)=none):=zb (by
     rcases hd:CQ (s.data.toList.drop k) with _|⟨r,m⟩
     ·rfl
     ·have h6:=HM.out r m hd;have hb:=JH hd;have hb1:=hb.2.2.1;rw[zr,Ay] at hb1;omega)
    by_cases h4:n<=4
    ·have hgt:s.size<k+n:=by omega
     clear hlt
     go_wp2_with fail
     go_ret3
     exact⟨by rw[UR (by rw[Ay];exact hk) HN.out];rfl,hq⟩
    ·clear hlt
     go_wp2_with fail
     go_ret3
     exact⟨by rw[UR (by rw[Ay];exact hk) HN.out];rfl,hq⟩
open Sx
class Utf (P:Program) [Tabs P]:Prop where
 ut:∀w:World,Tabs.T (P:=P) w->UTabs w
section
variable [Tabs Tryz.prog] {objs:List OB} {K:List OB->AV->Prop}
theorem iJ (s:List UInt8) (a:Int) (hs:s.length<=140737488351232) (hk:K objs (.tup [.i .i64 (Gg s a).1,.i .i64 (Gg s a).2.1,.i .i64 (Gg s a).2.2])):Ah Tryz.prog 123 [.s s,.i .i64 a] objs K :=
 conv (vs:=[.string (S s),.int .i64 a]) rfl rfl (fun w=>jX (S s) a w (by rw[AL];exact hs)) hk
end
theorem iv {k:IntKind} {x y:Int} (h:x=y):some (AV.i k x)=some (AV.i k y):=by rw[h]
theorem Q6 (s:List UInt8) (i:Nat) (h:i<s.length):AN (s.drop i)=if Av s[i]=true then AN (s.drop (i+1))+1 else 0:=by
 rw[jq h,AN]
theorem Yv (s:List UInt8):AN (s.drop s.length)=0:=by rw[List.drop_length];rfl
theorem ZH {s:List UInt8} {i:Nat} (h:i<s.length) {c:UInt8}:(s[i]? = some c)↔s[i]=c:=by
 rw[zk h,zy.injEq]
theorem JI {s:List UInt8} {i:Nat} (h:¬i<s.length) {c:UInt8}:¬s[i]? = some c:=by
 rw[qq (by omega)];simp
theorem Fl {c:UInt8} {k:Nat} (hk:k<256):(((c.toNat:Nat):Int)=((k:Nat):Int))↔c=UInt8.ofNat k:=by
 constructor
 ·intro h;have h2:c.toNat=k:=by omega
  rw[<-h2];simp
 ·rintro rfl;rw[UInt8.toNat_ofNat'];omega
theorem Jl {s:List UInt8} {i:Nat} (h:i<s.length) (k:Nat) (hk:k<256):s[i]? = some (UInt8.ofNat k)↔((s[i].toNat:Nat):Int)=((k:Nat):Int):=by
 rw[ZH h];exact(Fl hk).symm
theorem Kp (s:List UInt8) (a i:Nat):(s.drop a)[i]? = s[a+i]?:=jx
section
variable [Tabs Tryz.prog] {objs:List OB} {K:List OB->AV->Prop}
end
section
variable [Tabs Tryz.prog] {objs:List OB} {K:List OB->AV->Prop}
end
theorem PO {c:UInt8} (h:Av c=true):c.toNat<128/\([101,69]:List UInt8).contains c=false/\c≠46:=by
 have:=Oy h;refine⟨by omega,?_,?_⟩
 ·have h1:c≠101:=fun e=>by subst e;exact absurd this (by decide)
  have h2:c≠69:=fun e=>by subst e;exact absurd this (by decide)
  simp[h1,h2]
 ·rintro rfl;exact absurd this (by decide)
def NumS.body (p:NumS):List UInt8:=p.int++(By p.fr++BK p.ex)
theorem XA {f:List UInt8} (hf:f.all Av=true):∀c∈By f,c.toNat<128/\([101,69]:List UInt8).contains c=false:=by
 intro c hc
 cases f with
 | nil=>cases hc
 | cons a t=>
  have hc:c=46\/c∈a::t:=by simpa[By] using hc
  rcases hc with rfl|hc
  ·exact⟨by decide,by decide⟩
  ·have:=PO (zw.1 hf c hc);exact⟨this.1,this.2.1⟩
theorem dC {p:NumS} (hp:p.Good):Af 46 (p.int++By p.fr)=(p.int,p.fr,!p.fr.isEmpty):=by
 have key:∀(u v:List UInt8),(∀c∈u,c≠46)->Af 46 (u++v)=(u++(Af 46 v).1,(Af 46 v).2.1,(Af 46 v).2.2):=by
  intro u v
  induction u with
  | nil=>intro _;rfl
  | cons c u ih=>
   intro h;rw[ja,CO,if_neg (h c (by simp)),ih (fun x hx=>h x (by simp[hx]))]
   rfl
 rw[key _ _ (fun c hc=>(PO (zw.1 hp.i1 c hc)).2.2)]
 cases hf:p.fr with
 | nil=>simp[By,Af]
 | cons a t=>simp[By,CO]
section
variable [Tabs Tryz.prog] {objs:List OB} {K:List OB->AV->Prop}
end
theorem JL {l:List UInt8} {n:Nat} (h:Ed l=some n):6<=l.length/\n<=65535:=by
 unfold Ed at h
 split at h
 ·cases h
 ·rename_i g
  split at h
  ·injection h with h
   have:=Tj A9 16 65535 ((l.drop 2).take 4)
   constructor
   ·apply Classical.byContradiction
    intro h1;exact g (.inl (by omega))
   ·omega
  ·cases h
section
variable [Tabs Tryz.prog] {objs:List OB} {K:List OB->AV->Prop}
end
theorem dH {s:List UInt8} {i:Nat} (h:i<s.length):Gg s i=match CQ (s.drop i) with|none=>(0,0,7)|some (r,n)=>((r:Int),((i+n:Nat):Int),0):=by
 unfold Gg;rw[if_neg (by omega),zt]
 cases CQ (s.drop i)<;>simp
theorem Ku (s:List UInt8) (i m:Nat):(s.take (i+m)).drop i=(s.drop i).take m:=by
 rw[List.drop_take,show i+m - i=m by omega]
def Cc (n:Nat) (r:List UInt8):Nat×Nat :=
 if 55296<=n/\n<56320 then (match Ed r with
  | some m=>if 56320<=m/\m<=57343 then (65536+(n - 55296)*1024+(m - 56320),12) else (n,6)
  | none=>(n,6)) else (n,6)
theorem NA {l:List UInt8} {n:Nat} (h0:(l[1]?).bind IC=none) (h:Ed l=some n):CS l=if Dq ((Cc n (l.drop 6)).1:Int)=true then (0,Cv (Cc n (l.drop 6)).1,(Cc n (l.drop 6)).2) else (7,[],0):=by
 have hn:=(JL h).2;have hcp:∀k:Nat,Dq (k:Int)=decide (k<=1114111/\(k<55296\/57343<k)):=by
  intro k;unfold Dq
  by_cases h1:k<=1114111/\(k<55296\/57343<k)
  ·rw[decide_eq_true (by omega),decide_eq_true h1]
  ·rw[decide_eq_false (by omega),decide_eq_false h1]
 have hE:CS l=(if n<55296\/57343<n then ((0:Int),Cv n,6)
   else if 56319<n then (7,[],0)
   else match Ed (l.drop 6) with
    | none=>(7,[],0)
    | some m=>if m<56320\/57343<m then (7,[],0) else (0,Cv (65536+(n - 55296)*1024+(m - 56320)),12)):=by
  unfold CS;rw[h0,h]<;>rfl
 rw[hE]
 by_cases c1:n<55296\/57343<n
 ·have hU:Cc n (l.drop 6)=(n,6):=by unfold Cc;rw[if_neg (show ¬(55296<=n/\n<56320) by omega)]
  rw[if_pos c1,hU,hcp,if_pos (decide_eq_true (by omega))]
 ·by_cases c2:56319<n
  ·have hU:Cc n (l.drop 6)=(n,6):=by unfold Cc;rw[if_neg (show ¬(55296<=n/\n<56320) by omega)]
   rw[if_neg c1,if_pos c2,hU,hcp,if_neg (by rw[decide_eq_true_eq];omega)]
  ·rw[if_neg c1,if_neg c2]
   cases hu:Ed (l.drop 6) with
   | none=>
    have hU:Cc n (l.drop 6)=(n,6):=by unfold Cc;rw[if_pos (show 55296<=n/\n<56320 by omega),hu]
    rw[hU,hcp,if_neg (by rw[decide_eq_true_eq];omega)]
   | some m=>
    by_cases c3:m<56320\/57343<m
    ·have hU:Cc n (l.drop 6)=(n,6):=by
      unfold Cc;rw[if_pos (show 55296<=n/\n<56320 by omega),hu];simp only;rw[if_neg (show ¬(56320<=m/\m<=57343) by omega)]
     simp only;rw[if_pos c3,hU,hcp,if_neg (by rw[decide_eq_true_eq];omega)]
    ·have hU:Cc n (l.drop 6)=(65536+(n - 55296)*1024+(m - 56320),12):=by
      unfold Cc;rw[if_pos (show 55296<=n/\n<56320 by omega),hu];simp only;rw[if_pos (show 56320<=m/\m<=57343 by omega)]
     simp only;rw[if_neg c3,hU,hcp,if_pos (decide_eq_true (by omega))]
theorem Yc (n:Nat) (r:List UInt8):6<=(Cc n r).2:=by
 unfold Cc
 repeat' split
 all_goals first|exact ze _|(show 6<=12;omega)
theorem ZE {l:List UInt8} {n:Nat} (h:Ed l=some n):(Cc n (l.drop 6)).2<=l.length/\(Cc n (l.drop 6)).1<=1114111:=by
 have h1:=JL h;unfold Cc
 split
 ·cases hu:Ed (l.drop 6) with
  | none=>simp only;omega
  | some m=>
   have h2:=JL hu;rw[zr] at h2;simp only
   split
   ·simp only;omega
   ·simp only;omega
 ·simp only;omega
theorem Tt {l x:List UInt8} {n:Nat} (h:CS l=(0,x,n)):x.length<=n/\1<=n/\n<=l.length:=by
 cases hse:(l[1]?).bind IC with
 | some d=>
  have he:CS l=(0,[d],2):=by unfold CS;rw[hse]
  rw[he] at h;injection h with _ h;injection h with h1 h2
  subst h1 h2;obtain⟨c,h2,_⟩:=Option.bind_eq_some_iff.1 hse;have:=(zf.1 h2).1;exact⟨by simp,by omega,by omega⟩
 | none=>
  cases hu:Ed l with
  | none=>
   have he:CS l=(130,[],0):=by unfold CS;rw[hse,hu]
   rw[he] at h;injection h with h _;cases h
  | some k=>
   have he:=NA hse hu;have h3:=ZE hu;have h4:=Yc k (l.drop 6);have h5:=ZA (r:=(Cc k (l.drop 6)).1);rw[h] at he
   split at he
   ·injection he with _ he;injection he with h1 h2
    subst h1 h2;omega
   ·injection he with he _;cases he
section
variable [Tabs Tryz.prog] [Utf Tryz.prog] {objs:List OB} {K:List OB->AV->Prop}
end
def B3 (s:List UInt8) (a:Int):(Int×List UInt8×Int)×Int×Int :=
 if a<0\/(s.length:Int)<a then ((0,[],0),0,4)
 else if (CD (s.drop (a.toNat+D6 (s.drop a.toNat)))).1≠0 then ((0,[],0),0,(CD (s.drop (a.toNat+D6 (s.drop a.toNat)))).1)
 else (((CD (s.drop (a.toNat+D6 (s.drop a.toNat)))).2.1,(CD (s.drop (a.toNat+D6 (s.drop a.toNat)))).2.2.1,((a.toNat+D6 (s.drop a.toNat):Nat):Int)),((a.toNat+D6 (s.drop a.toNat)+(CD (s.drop (a.toNat+D6 (s.drop a.toNat)))).2.2.2:Nat):Int),0)
def NM (r:(Int×List UInt8×Int)×Int×Int):AV:=.tup [.agg [.i .i64 r.1.1,.s r.1.2.1,.i .i64 r.1.2.2],.i .i64 r.2.1,.i .i64 r.2.2]
theorem Zi (s:List UInt8) (i:Nat) (h:i<s.length):Dk (s.drop i)=if Ce s[i]=true then Dk (s.drop (i+1))+1 else 0:=by
 rw[jq h,Dk]
theorem aZ (s:List UInt8) (i:Nat) (h:i<s.length):D6 (s.drop i)=if LH s[i]=true then D6 (s.drop (i+1))+1 else 0:=by
 rw[jq h,D6]
theorem OM:∀l:List UInt8,Dk l<=l.length
 | []=>ze _
 | c::t=>by
  have:=OM t;unfold Dk
  split<;>simp only[zp]<;>omega
theorem Po:∀l:List UInt8,D6 l<=l.length
 | []=>ze _
 | c::t=>by
  have:=Po t;unfold D6
  split<;>simp only[zp]<;>omega
section
variable [Tabs Tryz.prog] [Utf Tryz.prog] {objs:List OB} {K:List OB->AV->Prop}
end
open Nat renaming reduceAdd -> z6, reduceSub -> z7, reduceLeDiff -> z8, reduceLT -> j4, reduceMul -> j5, reduceEqDiff -> j6
open Int renaming reduceToNat -> j7, reduceAdd -> j8, reduceSub -> j9, reduceMul -> x0, reduceNeg -> x6, reduceLT -> x7, reduceLE -> x8, reduceEq -> x9, reduceNe -> y4
theorem aK {P:Program} [Tabs P] {C:Cx} {F:Bp} {k:List IT} {objs:List OB} {tm:List AV} {c:SV} {x y:SCode} (h:∀X,X=x->run P C (.code (.cond c X y)::k) objs tm F):run P C (.code (.cond c x y)::k) objs tm F:=h x rfl
section
variable [Tabs Tryz.prog] {objs:List OB} {K:List OB->AV->Prop}
theorem aQ (c:UInt8) (hk:K objs (.b (LH c))):Ah Tryz.prog 72 [.i .u8 c.toNat] objs K:=by
 refine AF lS rfl fun C _=>?_;simp only[VH,Aa,simprocAttr];refine Ae (Kg c _ (by decide) ?_);simp only[Aa,simprocAttr];exact hk
theorem NY (s:List UInt8) (a:Nat) (hk:K objs (.s (s.drop a))):Ah Tryz.prog 69 [.s s,.i .i64 (a:Nat)] objs K:=by
 refine AF kT rfl fun C _=>?_
 by_cases c0:(s.length:Int)<=a
 ·rw[xg (by omega)] at hk;simp only[c0,P8,Aa,simprocAttr];exact hk
 ·simp only[c0,P8,Aa,simprocAttr];exact⟨by omega,hk⟩
theorem NN (s:List UInt8) (hs:s.length<=9000000000000000000) (hk:K objs (.i .i64 (AN s:Nat))):Ah Tryz.prog 121 [.s s] objs K:=by
 refine AF kH rfl fun C _=>?_;simp only[UN,Aa,simprocAttr];refine B4 (fun n objs tm=>∃i:Nat,i<=s.length/\n=s.length - i/\objs=[]/\AN s=i+AN (s.drop i)/\tm.length=17/\tm[0]? = some (.s s)/\tm[3]? = some (.i .i64 i)) s.length ⟨0,zd _,rfl,rfl,by simp,rfl,rfl,rfl⟩ ?_;rintro n _ tm ⟨i,hi,rfl,rfl,hr,hlen,t0,t3⟩
 by_cases hlt:(i:Int)<s.length
 ·have hlt':i<s.length:=by omega
  have hg:=DL hlt';have hrn:=Q6 s i hlt';simp only[Aa,simprocAttr,za,hlen,t0,t3,hlt];refine⟨by omega,?_⟩;rw[hg];refine Ae (Pi s[i] ?_)
  by_cases hd:Av s[i]=true
  ·rw[if_pos hd] at hrn;simp only[hd,Aa,simprocAttr,za,hlen,t0,t3];exact⟨⟨by omega,by omega⟩,s.length - (i+1),by omega,i+1,by omega,rfl,by omega,rfl⟩
  ·rw[if_neg hd] at hrn;simp only[Bool.not_eq_true] at hd;simp only[hd,Aa,simprocAttr,za,hlen,t0,t3];rw[hr,hrn] at hk;exact hk
 ·obtain rfl:i=s.length:=by omega
  simp only[Aa,simprocAttr,za,hlen,t0,t3,hlt];rw[hr,Yv] at hk;exact hk
set_option maxHeartbeats 4000000 in
theorem UY (s:List UInt8) (hs:s.length<=140737488351232) (hk:K objs (.i .i64 (Dc s:Nat))):Ah Tryz.prog 66 [.s s] objs K:=by
 refine AF mW rfl fun C _=>?_;have hmx:=PB;rw[Wg];refine Ac fun Y1 hY1=>?_;simp only[Aa,z6,z7,z8,j4,j5,j6,j7,j8,j9,x0,x6,x7,x8,x9,y4,reduceCtorEq,↓reduceIte];subst hY1;refine Ac fun Y1 hY1=>?_;simp only[Aa,z6,z7,z8,j4,j5,j6,j7,j8,j9,x0,x6,x7,x8,x9,y4,reduceCtorEq,↓reduceIte];subst hY1;refine Ac fun Y1 hY1=>?_;refine Bq (fun o t=>o=[]/\t.length=99/\t[0]? = some (.s s)/\t[3]? = some (.i .i64 (Bm s:Nat))) ?_ ?_
 ·unfold Bm
  by_cases c1:(0:Int)<s.length
  ·have c1':0<s.length:=by omega
   have hg:=DL c1';have h45:s[0]? = some 45↔((s[0].toNat:Nat):Int)=45:=Jl c1' 45 (by decide)
   by_cases c2:((s[0].toNat:Nat):Int)=45
   ·rw[if_pos (h45.2 c2)];simp only[c1,hg,c2,Ap,Aa,z6,z7,z8,j4,j5,j6,j7,j8,j9,x0,x6,x7,x8,x9,y4,reduceCtorEq,↓reduceIte]
    rfl
   ·rw[if_neg (fun h=>c2 (h45.1 h))];simp only[c1,hg,c2,Ap,Aa,z6,z7,z8,j4,j5,j6,j7,j8,j9,x0,x6,x7,x8,x9,y4,reduceCtorEq,↓reduceIte]
    rfl
  ·rw[if_neg (JI (by omega))];simp only[c1,Ap,Aa,z6,z7,z8,j4,j5,j6,j7,j8,j9,x0,x6,x7,x8,x9,y4,reduceCtorEq,↓reduceIte]
   rfl
 rintro _ tm ⟨rfl,hlen,t0,t3⟩;subst hY1;have hsg:Bm s<=s.length:=by
  unfold Bm
  split
  ·rename_i h;have:=(zf.1 h).1;omega
  ·omega
 refine Ac fun Y1 hY1=>?_;unfold Dc at hk;have hw:Dm s=if s[Bm s]? = some 48 then Bm s+1 else Bm s+AN (s.drop (Bm s)):=rfl
 have hrl:0<AN (s.drop (Bm s))->Bm s+AN (s.drop (Bm s))<=s.length:=Gu s _;generalize Bm s=g at *
 by_cases c0:(g:Int)=s.length
 ·have hr0:AN (s.drop g)=0:=by rw[xg (by omega)];rfl
  rw[if_pos hr0] at hk;simp only[c0,Aa,z6,z7,z8,j4,j5,j6,j7,j8,j9,x0,x6,x7,x8,x9,y4,reduceCtorEq,↓reduceIte,za,hlen,t0,t3];exact hk
 have c1':g<s.length:=by omega
 have hg:=DL c1';have hrun:=Q6 s g c1';simp only[c0,hg,Aa,z6,z7,z8,j4,j5,j6,j7,j8,j9,x0,x6,x7,x8,x9,y4,reduceCtorEq,↓reduceIte,za,hlen,t0,t3];refine⟨by omega,?_⟩;refine Ae (Pi s[g] ?_)
 by_cases c2:Av s[g]=true
 case neg=>
  rw[if_neg c2] at hrun;rw[if_pos hrun] at hk;simp only[Bool.not_eq_true] at c2;simp only[c2,Aa,z6,z7,z8,j4,j5,j6,j7,j8,j9,x0,x6,x7,x8,x9,y4,reduceCtorEq,↓reduceIte,za,hlen,t0,t3];exact hk
 rw[if_pos c2] at hrun;rw[if_neg (by omega)] at hk;simp only[c2,Aa,z6,z7,z8,j4,j5,j6,j7,j8,j9,x0,x6,x7,x8,x9,y4,reduceCtorEq,↓reduceIte,za,hlen,t0,t3];subst hY1;refine Ac fun Y1 hY1=>?_;refine Bq (fun o t=>o=[]/\t.length=99/\t[0]? = some (.s s)/\t[3]? = some (.i .i64 (Dm s:Nat))) ?_ ?_
 ·have h48:s[g]? = some 48↔((s[g].toNat:Nat):Int)=48:=Jl c1' 48 (by decide);rw[hw]
  by_cases c3:((s[g].toNat:Nat):Int)=48
  ·rw[if_pos (h48.2 c3)];simp only[hg,c3,Ap,Aa,z6,z7,z8,j4,j5,j6,j7,j8,j9,x0,x6,x7,x8,x9,y4,reduceCtorEq,↓reduceIte,za,hlen,t0,t3]
   and_intros<;>first|omega|exact iv (by omega)|rfl|assumption
  ·rw[if_neg (fun h=>c3 (h48.1 h))];simp only[hg,c3,Ap,Aa,z6,z7,z8,j4,j5,j6,j7,j8,j9,x0,x6,x7,x8,x9,y4,reduceCtorEq,↓reduceIte,za,hlen,t0,t3];refine⟨by omega,by omega,?_⟩;refine Ae (NN _ (by rw[zr];omega) ?_);have:=hrl (by omega);simp only[Ap,Aa,z6,z7,z8,j4,j5,j6,j7,j8,j9,x0,x6,x7,x8,x9,y4,reduceCtorEq,↓reduceIte,za,hlen,t0,t3]
   and_intros<;>first|omega|exact iv (by omega)|rfl|assumption
 rintro _ tm ⟨rfl,hlen,t0,t3⟩;subst hY1;refine Ac fun Y1 hY1=>?_;have hwl:Dm s<=s.length:=by
  rw[hw];have:=hrl (by omega)
  split<;>omega
 have hf:Eg s (Dm s)=if s[Dm s]? = some 46/\0<AN (s.drop (Dm s+1)) then Dm s+1+AN (s.drop (Dm s+1)) else Dm s:=rfl
 generalize Dm s=w at *;clear hw hrl hrun hg c2 c0 c1';refine Bq (fun o t=>o=[]/\t.length=99/\t[0]? = some (.s s)/\t[3]? = some (.i .i64 (Eg s w:Nat))) ?_ ?_
 ·rw[hf];simp only[Aa,z6,z7,z8,j4,j5,j6,j7,j8,j9,x0,x6,x7,x8,x9,y4,reduceCtorEq,↓reduceIte,za,hlen,t0,t3];refine⟨by omega,?_⟩;refine Ae (NY s (w+1) ?_);simp only[Aa,z6,z7,z8,j4,j5,j6,j7,j8,j9,x0,x6,x7,x8,x9,y4,reduceCtorEq,↓reduceIte,za,hlen,t0,t3];refine Ae (NN _ (by rw[zr];omega) ?_);have hr:=Gu s (w+1);generalize AN (s.drop (w+1))=r at *
  by_cases c1:(w:Int)<s.length
  ·have c1':w<s.length:=by omega
   have hg:=DL c1';have h46:s[w]? = some 46↔((s[w].toNat:Nat):Int)=46:=Jl c1' 46 (by decide)
   by_cases c2:((s[w].toNat:Nat):Int)=46
   ·by_cases c3:0<r
    ·rw[if_pos ⟨h46.2 c2,c3⟩];have c3':(0:Int)<r:=by omega
     simp only[c1,hg,c2,c3',Ap,Aa,z6,z7,z8,j4,j5,j6,j7,j8,j9,x0,x6,x7,x8,x9,y4,reduceCtorEq,↓reduceIte,za,hlen,t0,t3]
     and_intros<;>first|omega|exact iv (by omega)|rfl|assumption
    ·rw[if_neg (fun h=>c3 h.2)];have c3':¬(0:Int)<r:=by omega
     simp only[c1,hg,c2,c3',Ap,Aa,z6,z7,z8,j4,j5,j6,j7,j8,j9,x0,x6,x7,x8,x9,y4,reduceCtorEq,↓reduceIte,za,hlen,t0,t3]
     and_intros<;>first|omega|exact iv (by omega)|rfl|assumption
   ·rw[if_neg (fun h=>c2 (h46.1 h.1))];simp only[c1,hg,c2,Ap,Aa,z6,z7,z8,j4,j5,j6,j7,j8,j9,x0,x6,x7,x8,x9,y4,reduceCtorEq,↓reduceIte,za,hlen,t0,t3]
    and_intros<;>first|omega|exact iv (by omega)|rfl|assumption
  ·rw[if_neg (fun h=>JI (by omega) h.1)];simp only[c1,Ap,Aa,z6,z7,z8,j4,j5,j6,j7,j8,j9,x0,x6,x7,x8,x9,y4,reduceCtorEq,↓reduceIte,za,hlen,t0,t3]
 rintro _ tm ⟨rfl,hlen,t0,t3⟩;subst hY1;refine Ac fun Y1 hY1=>?_;have hfl:Eg s w<=s.length:=by
  rw[hf]
  split
  ·rename_i h;have:=Gu s (w+1) h.2;omega
  ·exact hwl
 generalize Eg s w=f at *;clear hf;have hx:Co s f=if s[f+1]? = some 43\/s[f+1]? = some 45 then f+2 else f+1:=rfl
 have he:G1 s f=if (s[f]? = some 101\/s[f]? = some 69)/\0<AN (s.drop (Co s f)) then Co s f+AN (s.drop (Co s f)) else f:=rfl
 have in2:∀(i:Nat) (hi:i<s.length) (x y:UInt8),AI s[i] [x,y]=decide (s[i]? = some x\/s[i]? = some y):=by
  intro i hi x y;rw[zk hi];simp[AI,eq_comm]
 refine Bq (fun o t=>o=[]/\t.length=99/\t[3]? = some (.i .i64 (G1 s f:Nat))) ?_ ?_
 ·refine Ac fun Y2 hY2=>?_;refine Bq (fun o t=>o=[]/\t.length=99/\t[0]? = some (.s s)/\t[3]? = some (.i .i64 (f:Nat))/\t[74]? = some (.b (decide (s[f]? = some 101\/s[f]? = some 69)))) ?_ ?_
  ·by_cases c1:(f:Int)<s.length
   ·have c1':f<s.length:=by omega
    have hg:=DL c1';simp only[c1,hg,Aa,z6,z7,z8,j4,j5,j6,j7,j8,j9,x0,x6,x7,x8,x9,y4,reduceCtorEq,↓reduceIte,za,hlen,t0,t3];refine⟨by omega,?_⟩;refine Ae (Kg _ _ (by decide) ?_);rw[in2 f c1'];generalize decide (s[f]? = some 101\/s[f]? = some 69)=E;simp only[Ap,Aa,z6,z7,z8,j4,j5,j6,j7,j8,j9,x0,x6,x7,x8,x9,y4,reduceCtorEq,↓reduceIte,za,hlen,t0,t3]
   ·have hE:¬(s[f]? = some 101\/s[f]? = some 69):=fun h=>h.elim (JI (by omega)) (JI (by omega));simp only[c1,hE,Ap,Aa,z6,z7,z8,j4,j5,j6,j7,j8,j9,x0,x6,x7,x8,x9,y4,reduceCtorEq,↓reduceIte,za,hlen,t0,t3]
  rintro _ tm ⟨rfl,hlen,t0,t3,t74⟩;subst hY2;refine aK fun X hX=>?_
  by_cases hE:s[f]? = some 101\/s[f]? = some 69
  case neg=>
   rw[he,if_neg (fun h=>hE h.1)];simp only[hE,Ap,Aa,z6,z7,z8,j4,j5,j6,j7,j8,j9,x0,x6,x7,x8,x9,y4,reduceCtorEq,↓reduceIte,za,hlen,t0,t3,t74]
  have c1':f<s.length:=by
   rcases hE with h|h
   all_goals exact(zf.1 h).1
  simp only[hE,Aa,z6,z7,z8,j4,j5,j6,j7,j8,j9,x0,x6,x7,x8,x9,y4,reduceCtorEq,↓reduceIte,za,hlen,t0,t3,t74];subst hX;refine Ac fun Y2 hY2=>?_;refine Bq (fun o t=>o=[]/\t.length=99/\t[0]? = some (.s s)/\t[3]? = some (.i .i64 (f:Nat))/\t[5]? = some (.i .i64 ((f:Int)+1))) ?_ ?_
  ·simp only[Ap,Aa,z6,z7,z8,j4,j5,j6,j7,j8,j9,x0,x6,x7,x8,x9,y4,reduceCtorEq,↓reduceIte,za,hlen,t0,t3]
   and_intros<;>first|omega|exact iv (by omega)|rfl|assumption
  rintro _ tm ⟨rfl,hlen,t0,t3,t5⟩;subst hY2;refine Ac fun Y2 hY2=>?_;refine Bq (fun o t=>o=[]/\t.length=99/\t[0]? = some (.s s)/\t[3]? = some (.i .i64 (f:Nat))/\t[5]? = some (.i .i64 (Co s f:Nat))) ?_ ?_
  ·rw[hx]
   by_cases d1:(f:Int)+1<s.length
   ·have d1':f+1<s.length:=by omega
    have hg2:=DL d1';have e1:((f:Int)+1).toNat=f+1:=by omega
    simp only[d1,e1,hg2,Aa,z6,z7,z8,j4,j5,j6,j7,j8,j9,x0,x6,x7,x8,x9,y4,reduceCtorEq,↓reduceIte,za,hlen,t0,t3,t5];refine⟨by omega,?_⟩;refine Ae (Kg _ _ (by decide) ?_);rw[in2 (f+1) d1']
    by_cases c4:s[f+1]? = some 43\/s[f+1]? = some 45
    ·rw[if_pos c4];simp only[c4,Ap,Aa,z6,z7,z8,j4,j5,j6,j7,j8,j9,x0,x6,x7,x8,x9,y4,reduceCtorEq,↓reduceIte,za,hlen,t0,t3,t5]
     and_intros<;>first|omega|exact iv (by omega)|rfl|assumption
    ·rw[if_neg c4];simp only[c4,Ap,Aa,z6,z7,z8,j4,j5,j6,j7,j8,j9,x0,x6,x7,x8,x9,y4,reduceCtorEq,↓reduceIte,za,hlen,t0,t3,t5]
     and_intros<;>first|omega|exact iv (by omega)|rfl|assumption
   ·rw[if_neg (fun h=>h.elim (JI (by omega)) (JI (by omega)))];simp only[d1,Ap,Aa,z6,z7,z8,j4,j5,j6,j7,j8,j9,x0,x6,x7,x8,x9,y4,reduceCtorEq,↓reduceIte,za,hlen,t0,t3,t5]
    and_intros<;>first|omega|exact iv (by omega)|rfl|assumption
  rintro _ tm ⟨rfl,hlen,t0,t3,t5⟩;subst hY2;have hxl:Co s f<=s.length:=by
   rw[hx]
   split
   ·rename_i h;rcases h with h|h
    all_goals
     have:=(zf.1 h).1;omega
   ·omega
  have hrl:=Gu s (Co s f);generalize Co s f=x at *;simp only[Aa,z6,z7,z8,j4,j5,j6,j7,j8,j9,x0,x6,x7,x8,x9,y4,reduceCtorEq,↓reduceIte,za,hlen,t0,t3,t5];refine Ae (NY s x ?_);simp only[Aa,z6,z7,z8,j4,j5,j6,j7,j8,j9,x0,x6,x7,x8,x9,y4,reduceCtorEq,↓reduceIte,za,hlen,t0,t3,t5];refine Ae (NN _ (by rw[zr];omega) ?_);generalize AN (s.drop x)=r at *;rw[he]
  by_cases c4:0<r
  ·rw[if_pos ⟨hE,c4⟩];have c4':(0:Int)<r:=by omega
   simp only[c4',Ap,Aa,z6,z7,z8,j4,j5,j6,j7,j8,j9,x0,x6,x7,x8,x9,y4,reduceCtorEq,↓reduceIte,za,hlen,t0,t3,t5]
   and_intros<;>first|omega|exact iv (by omega)|rfl|assumption
  ·rw[if_neg (fun h=>c4 h.2)];have c4':¬(0:Int)<r:=by omega
   simp only[c4',Ap,Aa,z6,z7,z8,j4,j5,j6,j7,j8,j9,x0,x6,x7,x8,x9,y4,reduceCtorEq,↓reduceIte,za,hlen,t0,t3,t5]
 rintro _ tm ⟨rfl,hlen,t3⟩;subst hY1;simp only[Aa,z6,z7,z8,j4,j5,j6,j7,j8,j9,x0,x6,x7,x8,x9,y4,reduceCtorEq,↓reduceIte,za,hlen,t3];exact hk
end
theorem Sb {p:NumS} (hp:p.Good):p.neg=decide (p.txt[0]? = some 45):=by
 obtain⟨c,t,e1,e2⟩:=KQ hp.i0 hp.i1;unfold NumS.txt
 cases p.neg with
 | true=>rfl
 | false=>
  rw[e1];have:c≠45:=IZ e2 rfl;simp[BP,this]
theorem bE {p q:NumS} (hp:p.Good) (hq:q.Good) (h:p.txt=q.txt):p=q:=by
 have hn:p.neg=q.neg:=by rw[Sb hp,Sb hq,h]
 unfold NumS.txt at h;rw[hn] at h;have h:=List.append_cancel_left h;have r1:=H9 p.int _ hp.i1 (Pm hp);have r2:=H9 q.int _ hq.i1 (Pm hq);rw[h,r2] at r1;obtain⟨hi,hR⟩:=List.append_inj h r1.symm;have hx:p.fr=q.fr/\BK p.ex=BK q.ex:=by
  cases h1:p.fr with
  | nil=>
   cases h2:q.fr with
   | nil=>rw[h1,h2] at hR;exact⟨rfl,hR⟩
   | cons b u=>
    rw[h1,h2] at hR;exfalso;rcases KC hp 46 (by rw[show BK p.ex=By (b::u)++BK q.ex from hR];rfl) with h3|h3<;>cases h3
  | cons a t=>
   cases h2:q.fr with
   | nil=>
    rw[h1,h2] at hR;exfalso;rcases KC hq 46 (by rw[show BK q.ex=By (a::t)++BK p.ex from hR.symm];rfl) with h3|h3<;>cases h3
   | cons b u=>
    rw[h1,h2] at hR;have hR:(46:UInt8)::((a::t)++BK p.ex)=46::((b::u)++BK q.ex):=hR;injection hR with _ hR
    have hd:∀{r:NumS},r.Good->∀c,(BK r.ex)[0]? = some c->Av c=false:=fun hr c h=>by
     rcases KC hr c h with rfl|rfl<;>rfl
    have k1:=H9 (a::t) _ (by rw[<-h1];exact hp.f1) (hd hp);have k2:=H9 (b::u) _ (by rw[<-h2];exact hq.f1) (hd hq);rw[hR,k2] at k1;exact List.append_inj hR k1.symm
 have he:p.ex=q.ex:=by
  have h3:=hx.2
  cases h1:p.ex with
  | none=>
   cases h2:q.ex with
   | none=>rfl
   | some e=>obtain⟨c,s,d⟩:=e;rw[h1,h2] at h3;cases h3
  | some e=>
   obtain⟨c,s,d⟩:=e
   cases h2:q.ex with
   | none=>rw[h1,h2] at h3;cases h3
   | some e'=>
    obtain⟨c',s',d'⟩:=e';have k1:=(N5 0 hp h1).2;have k2:=(N5 0 hq h2).2;rw[h1,h2] at h3;have h3:c::(s++d)=c'::(s'++d'):=h3;injection h3 with e1 e2
    rw[e2,k2] at k1;subst k1;rw[e1,List.append_cancel_right e2]
 obtain⟨pn,pi,pf,pe⟩:=p;obtain⟨qn,qi,qf,qe⟩:=q;simp only at hn hi hx he;rw[hn,hi,hx.1,he]
theorem XX (cut:Nat) (p:NumS):(Gz cut p).2.length<=100:=by
 unfold Gz
 split
 ·simp
 ·split
  ·simp
  ·rename_i h;have h1:(BP p.neg).length<=1:=by unfold BP;split<;>simp
   have h2:(M1 (F6 cut p)).length<=30:=by
    unfold M1
    split
    ·simp
    ·have:=Lib.itoa_length_le (F6 cut p) (by omega) (by omega);rw[zp];omega
   simp only[zg];omega
section
variable [Tabs Tryz.prog] {objs:List OB} {K:List OB->AV->Prop}
end
theorem Y4 (c:Nat) (l:List UInt8) (i n:Nat) (h:i<l.length):EL c (l.drop i) n=EL c (l.drop (i+1)) (min (n*10+(l[i].toNat - 48)) c):=by
 rw[jq h,EL]
theorem cY {p:NumS} (hp:p.Good):Aq p.body [101,69]=(p.int++By p.fr).length:=by
 have hno:(p.int++By p.fr).findIdx (fun c=>AI c [101,69])=(p.int++By p.fr).length:=by
  rw[List.findIdx_eq_length];intro c hc;rcases List.mem_append.1 hc with h|h
  ·exact(PO (zw.1 hp.i1 c h)).2.1
  ·exact(XA hp.f1 c h).2
 unfold Aq NumS.body;rw[<-zu,List.findIdx_append,hno,if_neg (by omega)]
 cases he:p.ex with
 | none=>simp[BK]
 | some e=>
  obtain⟨k,s,d⟩:=e;have:(BK (some (k,s,d))).findIdx (fun c=>AI c [101,69])=0:=by
   unfold BK;rw[List.findIdx_cons];rcases(hp.e1 k s d he).1 with rfl|rfl<;>rfl
  rw[this,Nat.zero_add]
theorem TW (p:NumS):p.body.take (p.int++By p.fr).length=p.int++By p.fr:=by
 unfold NumS.body;rw[<-zu,List.take_left]
theorem ZZ {p:NumS} (hp:p.Good) (c:Nat):J2 c (p.body.drop ((p.int++By p.fr).length+1))=Ds c p.ex/\(Fk (p.body.drop ((p.int++By p.fr).length+1))).all Av=true:=by
 have hd:p.body.drop ((p.int++By p.fr).length+1)=(BK p.ex).drop 1:=by
  unfold NumS.body;rw[<-zu,<-jo,List.drop_left]
 rw[hd]
 cases he:p.ex with
 | none=>exact⟨rfl,rfl⟩
 | some e=>
  obtain⟨k,s,d⟩:=e;have h:=N5 c hp he;have h4:=(hp.e1 k s d he).2.2.2;rw[he] at h;show J2 c (s++d)=_/\(Fk (s++d)).all Av=true;rw[h.2];exact⟨h.1,h4⟩
theorem Zo {l:List UInt8} (h:l≠[]) (h2:l.getLast h≠48):zR l=l:=by
 unfold zR;rw[rS,List.reverse_reverse];intro c hc;rw[<-List.head?_eq_getElem?,List.head?_reverse,List.getLast?_eq_some_getLast h] at hc;injection hc with hc
 rw[<-hc];exact h2
section
variable [Tabs Tryz.prog] {objs:List OB} {K:List OB->AV->Prop}
set_option maxHeartbeats 2000000 in
theorem iZ (l:List UInt8) (hl:l.length<=140737488351232) (hd:(Fk l).all Av=true) (hk:K objs (.i .i64 (J2 1073741824 l))):Ah Tryz.prog 68 [.s l] objs K:=by
 refine AF nL rfl fun C _=>?_;rw[V0];refine Ac fun Y1 hY1=>?_;simp only[Aa,simprocAttr];subst hY1;refine Ac fun Y1 hY1=>?_;refine Bq (fun o t=>o=[]/\t.length=41/\t[0]? = some (.s l)/\t[3]? = some (.b (Iv l))) ?_ ?_
 ·unfold Iv
  by_cases c0:l=[]
  ·subst c0;simp[Ap,Aa,simprocAttr]
  ·have l0:0<l.length:=xu.2 c0;have g0:=DL l0;have h45:l[0]? = some 45↔((l[0].toNat:Nat):Int)=45:=Jl l0 45 (by decide);simp only[c0,g0,Ap,Aa,simprocAttr];refine⟨by omega,?_⟩
   by_cases c1:((l[0].toNat:Nat):Int)=45
   ·rw[decide_eq_true c1,decide_eq_true (h45.2 c1)]
   ·rw[decide_eq_false c1,decide_eq_false (fun h=>c1 (h45.1 h))]
 rintro _ tm ⟨rfl,hlen,t0,t3⟩;subst hY1;refine Ac fun Y1 hY1=>?_;refine Bq (fun o t=>o=[]/\t.length=41/\t[0]? = some (.s (Fk l))/\t[3]? = some (.b (Iv l))) ?_ ?_
 ·unfold Fk
  by_cases c0:l=[]
  ·subst c0;simp only[Ap,Aa,simprocAttr,za,hlen,t0,t3]
   rfl
  ·have l0:0<l.length:=xu.2 c0;have g0:=DL l0;simp only[c0,g0,Aa,simprocAttr,za,hlen,t0,t3];refine⟨by omega,?_⟩;refine Ae (Kg _ _ (by decide) ?_);have hin:AI l[0] [43,45]=decide (l[0]? = some 43\/l[0]? = some 45):=by
    rw[zk l0];simp[AI,eq_comm]
   rw[hin]
   by_cases c1:l[0]? = some 43\/l[0]? = some 45
   ·rw[if_pos c1];simp only[c1,Ap,Aa,simprocAttr,za,hlen,t0,t3]
    and_intros<;>first|omega|exact iv (by omega)|rfl|assumption
   ·rw[if_neg c1];simp only[c1,Ap,Aa,simprocAttr,za,hlen,t0,t3]
 rintro _ tm ⟨rfl,hlen,t0,t3⟩;subst hY1;have hsl:(Fk l).length<=l.length:=by unfold Fk;split<;>simp
 unfold J2 at hk;generalize Iv l=ng at *;generalize Fk l=d at *;refine Ac fun Y1 hY1=>?_;simp only[Aa,simprocAttr,za,hlen,t0,t3];subst hY1;refine Ac fun Y1 hY1=>?_;refine Bq (fun o t=>o=[]/\t.length=41/\t[3]? = some (.b ng)/\t[4]? = some (.i .i64 (EL 1073741824 d 0:Nat))) ?_ ?_
 ·simp only[Aa,simprocAttr,za,hlen,t0,t3];refine B4 (fun k objs tm=>∃(i n:Nat),i<=d.length/\k=d.length - i/\objs=[]/\n<=1073741824/\EL 1073741824 d 0=EL 1073741824 (d.drop i) n/\tm.length=41/\tm[0]? = some (.s d)/\tm[3]? = some (.b ng)/\tm[4]? = some (.i .i64 (n:Nat))/\tm[5]? = some (.i .i64 (i:Nat))) d.length
   ⟨0,0,zd _,rfl,rfl,by omega,rfl,by simp[hlen],by simp[t0],by simp[t3],by simp[hlen],by simp[hlen]⟩ ?_
  rintro k _ tm ⟨i,n,hi,rfl,rfl,hn,hm,hlen,t0,t3,t4,t5⟩
  by_cases hlt:(i:Int)<d.length
  ·have hlt':i<d.length:=by omega
   have hg:=DL hlt';have hdi:=Oy (zw.1 hd _ (List.getElem_mem hlt'));have hmv:=Y4 1073741824 d i n hlt';have hw:IntKind.u8.wrap (((d[i].toNat:Nat):Int) - 48)=((d[i].toNat - 48:Nat):Int):=by
    simp[IntKind.wrap,IntKind.bits,IntKind.signed];omega
   have hw2:IntKind.i64.wrap ((d[i].toNat - 48:Nat):Int)=((d[i].toNat - 48:Nat):Int):=by rw[IntKind.wrap_i64];omega
   simp only[hlt,hg,hw,hw2,Aa,simprocAttr,za,hlen,t0,t3,t4,t5];have hv:d[i].toNat - 48<=9:=by omega
   generalize d[i].toNat - 48=v at *;exact⟨by omega,by omega,by omega,by omega,d.length - (i+1),by omega,i+1,min (n*10+v) 1073741824,by omega,rfl,by omega,by rw[hm,hmv],iv (by split<;>omega),iv (by omega)⟩
  ·obtain rfl:i=d.length:=by omega
   rw[List.drop_length,EL] at hm;simp only[hlt,Hj,Ap,Aa,simprocAttr,za,hlen,t0,t3,t4,t5];rw[hm]
 rintro _ tm ⟨rfl,hlen,t3,t4⟩;subst hY1;have hml:=Y5 1073741824 d 0 (by omega);generalize EL 1073741824 d 0=n at *
 cases ng with
 | true=>
  simp only[Aa,simprocAttr,za,hlen,t3,t4];rw[if_pos rfl] at hk;refine⟨by omega,?_⟩;rw[Int.zero_sub];exact hk
 | false=>
  simp only[Aa,simprocAttr,za,hlen,t3,t4];rw[if_neg (by simp)] at hk;exact hk
set_option maxHeartbeats 4000000 in
theorem fK (s:List UInt8) (hs:s.length<=140737488351232) (h1:(s=[]\/Dc s≠s.length)->K objs (.tup [.s [],.i .i64 130]))
  (h2:∀p:NumS,p.Good->s=p.txt->K objs (.tup [.s (Gz 1073741824 p).2,.i .i64 (Gz 1073741824 p).1])):Ah Tryz.prog 28 [.s s] objs K:=by
 refine AF mA rfl fun C _=>?_;have hmx:=PB
 by_cases c0:s=[]
 ·have h1:=h1 (.inl c0);simp only[c0,Qh,Aa,simprocAttr];exact h1
 rw[Qh];refine Ac fun Y1 hY1=>?_;simp only[Aa,simprocAttr];subst hY1;refine Ac fun Y1 hY1=>?_;simp only[c0,Aa,simprocAttr];refine Ae (UY s hs ?_)
 by_cases c1:Dc s=s.length
 case neg=>
  have c1':¬((Dc s:Nat):Int)=s.length:=by omega
  simp only[c1',Aa,simprocAttr];exact h1 (.inr c1)
 clear h1;obtain⟨p,hp,rfl⟩:=eO c0 c1;have h2:=h2 p hp rfl;simp only[c1,Aa,simprocAttr];subst hY1;refine Ac fun Y1 hY1=>?_;simp only[Aa,simprocAttr];subst hY1;refine Ac fun Y1 hY1=>?_;have hbl:p.body.length<=p.txt.length:=by unfold NumS.txt NumS.body;simp
 have htl:=Sa p;have hml:(p.int++By p.fr).length<=p.txt.length:=by unfold NumS.txt;simp;omega
 refine Bq (fun o t=>o=[]/\t.length=117/\t[0]? = some (.s p.body)/\t[4]? = some (.s (BP p.neg))) ?_ ?_
 ·obtain⟨c,t,e1,e2⟩:=KQ hp.i0 hp.i1;have n45:¬((c.toNat:Nat):Int)=45:=by have:=Oy e2;omega
  have hb:p.txt=BP p.neg++p.body:=rfl;have hpos:0<p.txt.length:=xu.2 c0
  cases hn:p.neg with
  | true=>
   have g1:(((p.txt.getD 0 0).toNat:Nat):Int)=45:=by rw[hb,hn];rfl
   have g2:p.txt.drop 1=p.body:=by rw[hb,hn];rfl
   generalize p.txt=W at *;simp only[BP,g1,g2,Ap,Aa,simprocAttr]
   and_intros<;>first|omega|exact iv (by omega)|rfl|assumption
  | false=>
   have g1:(p.txt.getD 0 0)=c:=by rw[hb,hn];unfold NumS.body;rw[e1];rfl
   have g2:p.txt=p.body:=by rw[hb,hn];rfl
   rw[g2] at g1 hpos ⊢;generalize p.body=W at *;simp only[BP,g1,n45,Ap,Aa,simprocAttr]
   and_intros<;>first|omega|exact iv (by omega)|rfl|assumption
 rintro _ tm ⟨rfl,hlen,t0,t4⟩;subst hY1;clear c0 c1;have hbe:=ZZ hp 1073741824;have hbt:=TW p;have hil:(p.int++By p.fr).length<=p.body.length:=by
  have h:=congrArg jd (TW p);rw[zq] at h;omega
 have hbi:=cY hp;generalize hG:p.int++By p.fr=G at *;refine Ac fun Y1 hY1=>?_;simp only[Aa,simprocAttr,za,hlen,t0,t4];refine Ae (ES _ _ (by omega) (by decide) ?_);rw[hbi];simp only[Aa,simprocAttr,za,hlen,t0,t4];subst hY1;refine Ac fun Y1 hY1=>?_;refine Bq (fun o t=>o=[]/\t.length=117/\t[4]? = some (.s (BP p.neg))/\t[6]? = some (.i .i64 (Ds 1073741824 p.ex))/\t[7]? = some (.s G)) ?_ ?_
 ·simp only[Aa,simprocAttr,za,hlen,t0,t4];refine⟨by omega,?_⟩;refine Dl (NY p.body (G.length+1) ⟨rfl,rfl⟩) ?_;simp only[Aa,simprocAttr,za,hlen,t0,t4];refine Dl (iZ _ (by rw[zr];omega) hbe.2 ⟨rfl,rfl⟩) ?_;simp only[hbe.1,hbt,Ap,Aa,simprocAttr,za,hlen,t0,t4]
  and_intros<;>first|omega|exact iv (by omega)|rfl|assumption
 rintro _ tm ⟨rfl,hlen,t4,t6,t7⟩;subst hY1;refine Ac fun Y1 hY1=>?_;have hei:=Ye 1073741824 p.ex;have hcp:=dC hp;rw[hG] at hcp;have hi1:Aq G [46]=p.int.length:=by rw[L6,hcp]
 have hGt:G.take p.int.length=p.int:=by rw[<-hG,List.take_left]
 have hGd:G.drop (p.int.length+1)=p.fr:=by
  rw[<-hG,<-jo,List.drop_left]
  cases p.fr<;>rfl
 have hGl:G.length=p.int.length+(By p.fr).length:=by rw[<-hG,zg]
 refine Bq (fun o t=>o=[]/\t.length=117/\t[4]? = some (.s (BP p.neg))/\t[6]? = some (.i .i64 (Ds 1073741824 p.ex - (p.fr.length:Int)))/\t[7]? = some (.s (p.int++p.fr))) ?_ ?_
 ·simp only[Aa,simprocAttr,za,hlen,t4,t6,t7];refine Ae (ES _ _ (by omega) (by decide) ?_);rw[hi1]
  cases hf:p.fr with
  | nil=>
   have c2:¬((p.int.length:Nat):Int)<G.length:=by rw[hf] at hGl;simp[By] at hGl;omega
   have hG2:G=p.int:=by rw[<-hG,hf];simp[By]
   simp only[c2,Ap,Aa,simprocAttr,za,hlen,t4,t6,t7];rw[hG2]
   and_intros<;>first|omega|exact iv (by omega)|rfl|assumption
  | cons a u=>
   rw[hf] at hGd;have c2:((p.int.length:Nat):Int)<G.length:=by rw[hf] at hGl;simp[By] at hGl;omega
   have hfl:G.length=p.int.length+(u.length+1)+1:=by rw[hf] at hGl;simp[By] at hGl;omega
   have e1:(((p.int.length:Nat):Int)+1).toNat=p.int.length+1:=by omega
   simp only[c2,e1,hGt,hGd,Ap,Aa,simprocAttr,za,hlen,t4,t6,t7]
   and_intros<;>first|omega|exact iv (by omega)|rfl|assumption
 rintro _ tm ⟨rfl,hlen,t4,t6,t7⟩;subst hY1;clear hbe hbt hil hcp hbi hi1 hGt hGd hGl hG hml;refine Ac fun Y1 hY1=>?_;have hzl:=Rv (p.int++p.fr);rw[zg] at hzl;refine Bq (fun o t=>o=[]/\t.length=117/\t[4]? = some (.s (BP p.neg))/\t[6]? = some (.i .i64 (Ds 1073741824 p.ex - (p.fr.length:Int)))/\t[7]? = some (.s (Fm p))) ?_ ?_
 ·simp only[Aa,simprocAttr];refine B4 (fun k o t=>∃l:List UInt8,k=l.length/\o=[]/\zL l=Fm p/\t.length=117/\t[4]? = some (.s (BP p.neg))/\t[6]? = some (.i .i64 (Ds 1073741824 p.ex - (p.fr.length:Int)))/\t[7]? = some (.s l)) (p.int++p.fr).length ⟨p.int++p.fr,rfl,rfl,rfl,hlen,t4,t6,t7⟩ ?_;rintro k _ tm ⟨l,rfl,rfl,hz,hlen,t4,t6,t7⟩
  cases l with
  | nil=>
   have z:¬(0:Int)<((0:Nat):Int):=by decide
   simp only[z,Hj,Ap,Aa,simprocAttr,za,hlen,t4,t6,t7];rw[<-hz];rfl
  | cons c u=>
   have hp1:(0:Int)<((u.length+1:Nat):Int):=by omega
   have hp2:(c::u).getD 0 0=c:=rfl;rw[LW] at hz
   by_cases c1:((c.toNat:Nat):Int)=48
   ·have hc:c=48:=(Fl (by decide)).1 c1;rw[if_pos hc] at hz;simp only[hp1,hp2,c1,Hj,Ap,Aa,simprocAttr,za,hlen,t4,t6,t7];exact⟨by omega,u.length,by omega,u,rfl,hz,rfl⟩
   ·have hc:¬c=48:=fun h=>c1 ((Fl (by decide)).2 h);rw[if_neg hc] at hz;simp only[hp1,hp2,c1,Hj,Ap,Aa,simprocAttr,za,hlen,t4,t6,t7];rw[hz]
 rintro _ tm ⟨rfl,hlen,t4,t6,t7⟩;subst hY1;refine Ac fun Y1 hY1=>?_;have hmh:=eN p;unfold Gz at h2;unfold F6 at h2
 by_cases c2:Fm p=[]
 ·rw[if_pos c2] at h2;simp only[c2,Aa,simprocAttr,za,hlen,t4,t6,t7];exact h2
 rw[if_neg c2] at h2;have hml2:=Tf p;simp only[c2,Aa,simprocAttr,za,hlen,t4,t6,t7];subst hY1;have hX:-(300000000000000:Int)<=Ds 1073741824 p.ex - (p.fr.length:Int)/\Ds 1073741824 p.ex - (p.fr.length:Int)<=300000000000000:=by omega
 generalize Ds 1073741824 p.ex - (p.fr.length:Int)=X at *;generalize Fm p=M at *;refine Ac fun Y1 hY1=>?_;refine Bq (fun o t=>o=[]/\t.length=117/\t[4]? = some (.s (BP p.neg))/\t[6]? = some (.i .i64 (X+((M.length:Int) - (zR M).length)))/\t[7]? = some (.s (zR M))) ?_ ?_
 ·simp only[Aa,simprocAttr];refine B4 (fun k o t=>∃(l:List UInt8) (j:Nat),k=l.length/\o=[]/\l≠[]/\M=l++qw j 48/\t.length=117/\t[4]? = some (.s (BP p.neg))/\t[6]? = some (.i .i64 (X+(j:Nat)))/\t[7]? = some (.s l)) M.length ⟨M,0,rfl,rfl,c2,by simp,by simp[hlen],by simp[t4],by simp[t6],by simp[t7]⟩ ?_;rintro k _ tm ⟨l,j,rfl,rfl,hl0,hM,hlen,t4,t6,t7⟩;have hl1:0<l.length:=xu.2 hl0;have hi:l.length - 1<l.length:=by omega
  have hg:=DL hi;have e1:(((l.length:Nat):Int) - 1).toNat=l.length - 1:=by omega
  have hll:l.getLast hl0=l[l.length - 1]:=List.getLast_eq_getElem hl0;have hMl:M.length=l.length+j:=by rw[hM];simp
  by_cases c3:((l[l.length - 1].toNat:Nat):Int)=48
  ·have hc:l[l.length - 1]=48:=(Fl (by decide)).1 c3;have hsp:l=l.take (l.length - 1)++[48]:=by
    have h:=List.dropLast_concat_getLast hl0;rw[hll,hc,List.dropLast_eq_take] at h;exact h.symm
   have hM2:M=l.take (l.length - 1)++qw (j+1) 48:=by
    conv=>lhs;rw[hM,hsp]
    rw[zu,List.replicate_succ];rfl
   have hne:¬l.take (l.length - 1)=[]:=by
    intro h;rw[h,qo,List.replicate_succ] at hM2;exact hmh 48 (by rw[hM2];rfl) rfl
   have htk:(l.take (l.length - 1)).length=l.length - 1:=by rw[zq];omega
   simp only[e1,hg,c3,Aa,simprocAttr,za,hlen,t4,t6,t7];exact⟨by omega,by omega,by omega,by omega,by omega,(l.take (l.length - 1)).length,by omega,l.take (l.length - 1),j+1,rfl,hne,hM2,iv (by omega),rfl⟩
  ·have hc:¬l[l.length - 1]=48:=fun h=>c3 ((Fl (by decide)).2 h);have hz:zR M=l:=by rw[hM,uS,Zo hl0 (by rw[hll];exact hc)]
   simp only[e1,hg,c3,Hj,Ap,Aa,simprocAttr,za,hlen,t4,t6,t7];rw[hz];exact⟨by omega,by omega,iv (by omega),rfl⟩
 rintro _ tm ⟨rfl,hlen,t4,t6,t7⟩;subst hY1;have hzr:=Rl M;generalize X+((M.length:Int) - ((zR M).length:Int))=x at *;generalize zR M=m at *
 by_cases d1:(40:Int)<m.length
 ·rw[if_pos (.inl (by omega))] at h2;simp only[d1,Aa,simprocAttr,za,hlen,t4,t6,t7];exact h2
 by_cases d3:400<x
 ·rw[if_pos (.inr (.inr d3))] at h2;simp only[d1,d3,Aa,simprocAttr,za,hlen,t4,t6,t7];exact h2
 by_cases d2:x < -400
 ·rw[if_pos (.inr (.inl d2))] at h2;simp only[d1,d2,d3,Aa,simprocAttr,za,hlen,t4,t6,t7];exact h2
 rw[if_neg (by omega)] at h2;have hsg:(BP p.neg).length<=1:=by unfold BP;split<;>simp
 unfold M1 at h2;generalize BP p.neg=sg at *;have hdl:(Lib.decDigits x.natAbs).length<=20:=by rw[Lib.decDigits_length];exact Lib.nDigits_le20 _ (by omega)
 by_cases d4:x<0
 ·rw[if_neg (show ¬x=0 by omega)] at h2;have hw:IntKind.u64.wrap (0 - x)=((x.natAbs:Nat):Int):=by rw[wrap_u64 _ (by omega) (by omega)];omega
  have hit:=Lib.itoa_neg x.natAbs (by omega);rw[show -((x.natAbs:Nat):Int)=x by omega] at hit;rw[hit] at h2;simp only[d1,d2,d3,d4,hw,Aa,simprocAttr,za,hlen,t4,t6,t7]
  (and_intros<;>try omega)
  refine Ae (MD _ (by omega) ?_);simp only[Aa,simprocAttr,za,hlen,t4,t6,t7]
  (and_intros<;>try omega)
  simpa using h2
 by_cases d5:0<x
 ·rw[if_neg (show ¬x=0 by omega)] at h2;have hw:IntKind.u64.wrap x=((x.natAbs:Nat):Int):=by rw[wrap_u64 _ (by omega) (by omega)];omega
  have hit:=Lib.itoa_nonneg x.natAbs;rw[show ((x.natAbs:Nat):Int)=x by omega] at hit;rw[hit] at h2;simp only[d1,d2,d3,d4,d5,hw,Aa,simprocAttr,za,hlen,t4,t6,t7]
  (and_intros<;>try omega)
  refine Ae (MD _ (by omega) ?_);simp only[Aa,simprocAttr,za,hlen,t4,t6,t7]
  (and_intros<;>try omega)
  simpa using h2
 ·rw[if_pos (show x=0 by omega)] at h2;simp only[d1,d2,d3,d4,d5,Aa,simprocAttr,za,hlen,t4,t6,t7]
  (and_intros<;>try omega)
  simpa using h2
end
theorem gO {n:Nat} (h:n<=65535):IntKind.i64.wrap ((n:Nat):Int)=n:=by rw[IntKind.wrap_i64];omega
section
variable [Tabs Tryz.prog] {objs:List OB} {K:List OB->AV->Prop}
theorem Yw (s:List UInt8) (a:Nat) (ha:a<=9000000000000000000) (hs:s.length<=140737488351232) (hk:match Ed (s.drop a) with|some n=>K objs (.tup [.i .i64 (n:Nat),.b true])|none=>∀x,K objs (.tup [.i .i64 x,.b false])):Ah Tryz.prog 163 [.s s,.i .i64 (a:Nat)] objs K:=by
 refine AF kV rfl fun C _=>?_;have hb:=Tj A9 16 65535 (((s.drop a).drop 2).take 4);unfold Ed at hk;rw[zr,Kp,Kp,jj] at hk
 by_cases c0:(s.length:Int)<(a:Int)+6
 ·rw[if_pos (.inl (by omega))] at hk;simp only[c0,KX,Aa,simprocAttr];exact⟨by omega,hk 0⟩
 have l0:a<s.length:=by omega
 have l1:a+1<s.length:=by omega
 have g0:=DL l0;have g1:=DL l1;have e2:((a:Int)+1).toNat=a+1:=by omega
 have e0:s[a]? = some 92↔((s[a].toNat:Nat):Int)=92:=Jl l0 92 (by decide);have e1:s[a+1]? = some 117↔((s[a+1].toNat:Nat):Int)=117:=Jl l1 117 (by decide);have e3:((a:Int)+2).toNat=a+2:=by omega
 have e4:((a:Int)+6).toNat=a+6:=by omega
 by_cases c1:((s[a].toNat:Nat):Int)=92
 ·by_cases c2:((s[a+1].toNat:Nat):Int)=117
  ·rw[if_neg (by rintro(h|h|h);exact absurd h (by omega);exact h (e0.2 c1);exact h (e1.2 c2))] at hk;simp only[c0,c1,c2,e2,e3,e4,g0,g1,KX,Aa,simprocAttr];refine⟨by omega,by omega,by omega,by omega,by omega,by omega,by omega,?_⟩;have hx:(s.take (a+6)).drop (a+2)=((s.drop a).drop 2).take 4:=by
    rw[jo,show a+6=(a+2)+4 by omega,Ku]
   rw[hx];refine Ae (Yq _ 65535 (by rw[zq,zr,PB];omega) (by decide) ?_);simp only[Aa,simprocAttr];generalize Di A9 16 65535 (((s.drop a).drop 2).take 4)=q at *;obtain⟨e,n⟩:=q;simp only at hk hb ⊢;rw[gO hb]
   by_cases c3:e=0
   ·rw[if_pos c3] at hk;rw[decide_eq_true c3];exact hk
   ·rw[if_neg c3] at hk;rw[decide_eq_false c3];exact hk _
  ·rw[if_pos (.inr (.inr (fun h=>c2 (e1.1 h))))] at hk;simp only[c0,c1,c2,e2,g0,g1,KX,Aa,simprocAttr];refine⟨by omega,by omega,by omega,by omega,hk 0⟩
 ·rw[if_pos (.inr (.inl (fun h=>c1 (e0.1 h))))] at hk;simp only[c0,c1,g0,g1,KX,Aa,simprocAttr];refine⟨by omega,by omega,hk 0⟩
end
theorem kM {P:Program} [Tabs P] {f:FuncId} {args:List AV} {vs:List Value} {Q:Value->Prop} {w:World} (ha:FJ args=some vs) (hT:Tabs.T (P:=P) w) (h:Ah P f args [] (fun _ r=>∃v,val r=some v/\Q v)) :
  Calls P f vs.toArray w fun e w'=>∃v,e=.returned v/\Q v/\Qb w w':=by
 haveI:On P ⟨w,fun _=>False,fun g o v=>w.cell? ⟨g,o,none⟩=some v,Gh.none⟩:=⟨hT,fun _ h=>h⟩
 have hd:=(Gp Gh.none (fun g o v=>w.cell? ⟨g,o,none⟩=some v) args vs ha vs).2 rfl;have hc:=h ⟨w,fun _=>False,fun g o v=>w.cell? ⟨g,o,none⟩=some v,Gh.none⟩ Gh.none (fun g o v=>w.cell? ⟨g,o,none⟩=some v) w
  ⟨rfl,rfl,rfl,ze _,fun _ _ _=>rfl,fun _ _ _ h=>h,fun _ _ _ h=>.inl h,fun b g hb=>by simp[Gh.own,Gh.none] at hb,Gh.le.refl _⟩
  ⟨fun _ _ _ h=>h,by simp,by simp,by simp,fun b b' g hb=>by simp[Gh.own,Gh.none] at hb,fun b g hb=>by simp[Gh.own,Gh.none] at hb,fun b g o v hb=>by simp[Gh.own,Gh.none] at hb,fun b _=>⟨rfl,rfl⟩⟩ vs hd
 refine hc.mono ?_;rintro e w' ⟨y,objs',r,G',I',rfl,⟨v,hv,hq⟩,_,_,hin,_,hy⟩;rw[(Kw _ _ r v hv y).1 hy];exact⟨v,rfl,hq,hin.os,hin.tape,hin.output,hin.size,fun k hk=>hin.block k hk (fun h=>h)⟩
def Jm (l:List UInt8) (v:Value):Prop:=match Ed l with|some n=>v=.tuple #[.int .i64 (n:Nat),.bool true] | none=>∃x,v=.tuple #[.int .i64 x,.bool false]
theorem fN [Tabs Tryz.prog] (s:List UInt8) (a:Nat) (ha:a<=9000000000000000000) (hs:s.length<=140737488351232) (w:World) (hT:Tabs.T (P:=Tryz.prog) w) :
  Calls Tryz.prog 163 #[.string (S s),.int .i64 (a:Nat)] w fun e w'=>∃v,e=.returned v/\Jm (s.drop a) v/\Qb w w' :=
 kM (args:=[.s s,.i .i64 (a:Nat)]) rfl hT (Yw s a ha hs (by
  unfold Jm
  cases Ed (s.drop a) with
  | some n=>exact⟨_,rfl,rfl⟩
  | none=>exact fun x=>⟨_,rfl,x,rfl⟩))
def ER (s:List UInt8) (a:Nat):List UInt8×Int×Int:=if (CS (s.drop a)).1=0 then ((CS (s.drop a)).2.1,((a+(CS (s.drop a)).2.2:Nat):Int),0) else ([],0,(CS (s.drop a)).1)
def Zw (r:List UInt8×Int×Int):Value:=.tuple #[.string (S r.1),.int .i64 r.2.1,.int .i64 r.2.2]
def HW:ByteArray:=⟨#[34,92,47,98,102,110,114,116]⟩
theorem NZ [Tabs Tryz.prog] (b:ByteArray) (a:Nat) (x:Int) (hx:x=(a:Nat)) (ha:a<=9000000000000000000) (hs:b.size<=140737488351232) (w:World) (hT:Tabs.T (P:=Tryz.prog) w) :
  Calls Tryz.prog 163 #[.string b,.int .i64 x] w fun e w'=>∃v,e=.returned v/\Jm (b.data.toList.drop a) v/\Qb w w':=by
 subst hx;have h:=fN b.data.toList a ha (by rw[Ay];exact hs) w hT;rw[Ir b] at h;exact h
def Hd:List UInt8:=[34,92,47,98,102,110,114,116]
def Ki:List UInt8:=[34,92,47,8,12,10,13,9]
theorem Z6 (i:Nat) (h:i<8):(HW[i]'h).toNat<128:=(by decide +kernel:∀i:Fin 8,(HW[i.val]'i.isLt).toNat<128) ⟨i,h⟩
theorem SA (i:Nat) (h:i<8):(⟨#[34,92,47,98,102,110,114,116]⟩:ByteArray)[i]'h=Hd.getD i 0:=(by decide +kernel:∀i:Fin 8,(⟨#[34,92,47,98,102,110,114,116]⟩:ByteArray)[i.val]'i.isLt=Hd.getD i.val 0) ⟨i,h⟩
theorem dB (i:Nat) (h:i<8):(⟨#[34,92,47,8,12,10,13,9]⟩:ByteArray).extract i (i+1)=S [Ki.getD i 0]:=(by decide +kernel:∀i:Fin 8,(⟨#[34,92,47,8,12,10,13,9]⟩:ByteArray).extract i.val (i.val+1)=S [Ki.getD i.val 0]) ⟨i,h⟩
theorem Z8:∀i:Fin 8,IC (Hd.getD i.val 0)=some (Ki.getD i.val 0):=by decide +kernel
theorem Z7 (c:UInt8) (h:∀j,j<8->Hd.getD j 0≠c):IC c=none:=by
 have key:∀n:Fin 256,IC (UInt8.ofNat n.val)=none\/∃i:Fin 8,Hd.getD i.val 0=UInt8.ofNat n.val:=by decide +kernel
 have h2:=key ⟨c.toNat,c.toNat_lt⟩;simp only[UInt8.ofNat_toNat] at h2;rcases h2 with h2|⟨i,h2⟩
 ·exact h2
 ·exact absurd h2 (h i.val i.isLt)
theorem Yd (b:ByteArray) (a k:Nat) (hk:k<8) (h:a+1<b.size) (hx:Hd.getD k 0=b[a+1]):ER b.data.toList a=([Ki.getD k 0],((a+2:Nat):Int),0):=by
 have he:CS (b.data.toList.drop a)=(0,[Ki.getD k 0],2):=by
  unfold CS;rw[Kp,zk (by rw[Ay];exact h),Option.bind_some,show b.data.toList[a+1]'(by rw[Ay];exact h)=Hd.getD k 0 from(Km b (a+1) h).symm.trans hx.symm,Z8 ⟨k,hk⟩]
 unfold ER;rw[he];rfl
theorem RH [Tabs Tryz.prog] {w w':World} (hT:Tabs.T (P:=Tryz.prog) w) (hq:Qb w w'):Tabs.T (P:=Tryz.prog) w' :=
 Tabs.keep w w' hT (fun k hk=>hq.block k hk) hq.size
set_option maxRecDepth 1000000 in
theorem jD [Tabs Tryz.prog] (b:ByteArray) (a:Nat) (ha:a<b.size) (hs:b.size<=140737488351232) (w:World) (hT:Tabs.T (P:=Tryz.prog) w) :
  Calls Tryz.prog 122 #[.string b,.int .i64 (a:Nat)] w fun e w'=>e=.returned (Zw (ER b.data.toList a))/\Qb w w':=by
 by_cases c0:(a:Int)+1<b.size
 ·have c0':a+1<b.size:=by omega
  have HC:Hid (b[a+1]=b.data.toList[a+1]'(by rw[Ay];exact c0')):=zb (Km b (a+1) c0');have HG:Hid (b.data.toList[a+1]? = some b[a+1]):=zb (by rw[zk (by rw[Ay];exact c0'),Km b (a+1) c0']);have q1:IntKind.i64.wrap ((a:Int)+1)=(a:Int)+1:=IntWalk.i64_in _ (by omega);have q2:(0:Int)<=(a:Int)+1:=by omega
  have q3:((a:Int)+1).toNat=a+1:=by omega
  have q4:(a:Int)+1<b.size:=by omega
  go_enter Tryz.func122,Tryz.ntmps122
  go_wp2_with fail
  go_loopg [7] 8 (fun g _ wx=>∃i:Nat,i+g=8/\wx.heap[w.heap.size]? = some (.stringIter HW i)/\Qb w wx/\Hid (∀j,j<i->Hd.getD j 0≠b[a+1]))
  case atStart=>exact⟨0,rfl,World.iter_heap _ _ _,(Qb.refl w).alloc _,zb (fun j hj=>absurd hj (by omega))⟩
  case round=>
   obtain⟨i,hig,hk,hq,HN⟩:=hrel
   by_cases hi:i<8
   ·obtain⟨g,rfl⟩:∃g,gk=g+1:=⟨gk - 1,by omega⟩;have hnx:=fun ty=>Lib.run_next_ascii_at (P:=Tryz.prog) wr w.heap.size HW i ty hk hi (Z6 i hi);have hk':=zb (Lib.iterAt_heap wr w.heap.size HW i (i+1) hk);have hq':Qb w (wr.iterAt w.heap.size HW (i+1)):=Lib.below_iterAt hq (ze _) HW (i+1);clear hk;have hi':(i:Int)<8:=by omega
    have hi0:(0:Int)<=i:=by omega
    have hi1:IntKind.i64.wrap ((i:Int)+1)=(i:Int)+1:=IntWalk.i64_in _ (by omega);have hi2:(0:Int)<=(i:Int)+1:=by omega
    have hi3:(i:Int)+1<=8:=by omega
    have hi4:(i:Int)<=(i:Int)+1:=by omega
    go_wp2_with fail
    go_quiet (fail)
    by_cases hx:Hd.getD i 0=b[a+1]
    ·have HE:=zb (Yd b a i hi c0' hx);rw[show ((((⟨#[34,92,47,98,102,110,114,116]⟩:ByteArray)[i]'hi).toNat:Int)==(b[a+1].toNat:Int))=true by rw[SA i hi,hx];exact beq_self_eq_true _];clear hx
     go_wp2_with fail
     go_ret3
     exact⟨by rw[HE.out,dB i hi];rfl,hq'.drewN _⟩
    ·have HX:=zb hx;rw[show ((((⟨#[34,92,47,98,102,110,114,116]⟩:ByteArray)[i]'hi).toNat:Int)==(b[a+1].toNat:Int))=false by
      rw[SA i hi,beq_eq_false_iff_ne];exact fun e=>hx (UInt8.toNat_inj.1 (by omega))]
     clear hx
     go_wp2_with fail
     go_roundg g
     case measure=>omega
     case rel=>exact⟨i+1,by omega,hk'.out,hq'.drewN _,zb (fun j hj=>by
      rcases Nat.lt_or_ge j i with h|h
      ·exact HN.out j h
      ·obtain rfl:j=i:=by omega
       exact HX.out)⟩
   ·have hnx:=fun ty=>Lib.run_next_end_at (P:=Tryz.prog) wr w.heap.size HW i ty hk (by show ¬i<8;exact hi);have HS:Hid ((b.data.toList.drop a)[1]?.bind IC=none):=zb (by
     rw[Kp,HG.out,Option.bind_some];exact Z7 _ (fun j hj=>HN.out j (by omega)))
    go_wp2_with fail
    refine(NZ b a a rfl (by omega) hs _ (RH hT hq)).mono ?_;rintro e w1 ⟨v,rfl,hv,hq1⟩;have hq2:=hq.trans hq1;unfold Jm at hv
    cases hu:Ed (b.data.toList.drop a) with
    | none=>
     rw[hu] at hv;obtain⟨x,rfl⟩:=hv;have hE:ER b.data.toList a=([],0,130):=by
      have:CS (b.data.toList.drop a)=(130,[],0):=by unfold CS;rw[HS.out,hu]
      unfold ER;rw[this];rfl
     go_wp2_with fail
     go_ret3
     exact⟨by rw[hE];rfl,hq2⟩
    | some n=>
     rw[hu] at hv;subst hv;have hul:=JL hu;rw[zr,Ay] at hul;have HU:=zb hu;clear hu;have okE:∀(U Z:Nat),Cc n ((b.data.toList.drop a).drop 6)=(U,Z)->Dq (U:Int)=true->ER b.data.toList a=(Cv U,((a+Z:Nat):Int),0):=by
      intro U Z h1 h2;have:=NA HS.out HU.out;rw[h1] at this;simp only at this;rw[if_pos h2] at this;unfold ER;rw[this];rfl
     have noE:∀(U Z:Nat),Cc n ((b.data.toList.drop a).drop 6)=(U,Z)->Dq (U:Int)=false->ER b.data.toList a=([],0,7):=by
      intro U Z h1 h2;have:=NA HS.out HU.out;rw[h1] at this;simp only at this;rw[if_neg (by rw[h2];simp)] at this;unfold ER;rw[this];rfl
     have HO:=zb okE;have HNo:=zb noE;clear okE noE;have hq3:=RH hT hq2;have HQ2:=zb hq2;have b1:IntKind.i64.wrap ((a:Int)+6)=(a:Int)+6:=IntWalk.i64_in _ (by omega);have b2:IntKind.i64.wrap ((a:Int)+12)=(a:Int)+12:=IntWalk.i64_in _ (by omega);have encOk:∀U:Nat,Dq (U:Int)=true->∀wz,Calls Tryz.prog 164 #[.int .i64 (U:Nat)] wz fun e w'=>e=.returned (.tuple #[.string (S (Cv U)),.int .i64 0])/\Qb wz w':=by
      intro U hU wz;have:=Qc (U:Nat) wz;unfold D9 at this;rw[if_pos hU,zt] at this;exact this
     by_cases c1:n<55296\/57343<n
     ·have hU:Cc n ((b.data.toList.drop a).drop 6)=(n,6):=by unfold Cc;rw[if_neg (show ¬(55296<=n/\n<56320) by omega)]
      have hcp:Dq (n:Int)=true:=decide_eq_true (by omega);have hE:=zb (HO.out n 6 hU hcp);have hEn:=zb (encOk n hcp);clear hU hcp encOk
      by_cases c2:n<55296
      ·have d1:decide ((n:Int)<55296)=true:=decide_eq_true (by omega);clear c1 c2 hul
       go_wp2_with fail
       refine(hEn.out _).mono ?_;rintro e w2 ⟨rfl,hq4⟩;have HE2:=hE.out;clear hE hEn;generalize Cv n=X at *;have HE3:=zb HE2;clear HE2
       go_wp2_with fail
       go_ret3
       exact⟨by rw[HE3.out];rfl,HQ2.out.trans hq4⟩
      ·have d1:decide ((n:Int)<55296)=false:=decide_eq_false (by omega);have d2:decide ((57343:Int)<(n:Int))=true:=decide_eq_true (by omega);clear c1 c2 hul
       go_wp2_with fail
       refine(hEn.out _).mono ?_;rintro e w2 ⟨rfl,hq4⟩;have HE2:=hE.out;clear hE hEn;generalize Cv n=X at *;have HE3:=zb HE2;clear HE2
       go_wp2_with fail
       go_ret3
       exact⟨by rw[HE3.out];rfl,HQ2.out.trans hq4⟩
     ·have d1:decide ((n:Int)<55296)=false:=decide_eq_false (by omega);have d2:decide ((57343:Int)<(n:Int))=false:=decide_eq_false (by omega);have C1:=zb c1;have HL:=zb hul;clear c1 hul
      go_wp2_with fail
      refine(NZ b (a+6) _ (by omega) (by omega) hs _ hq3).mono ?_;rintro e w2 ⟨v,rfl,hv,hq4⟩;have HQ5:=zb (HQ2.out.trans hq4);unfold Jm at hv;have hdd:(b.data.toList.drop a).drop 6=b.data.toList.drop (a+6):=jo;have hcn:=C1.out;have hln:=HL.out;have hne:Dq (n:Int)=false:=decide_eq_false (by omega)
      cases hu2:Ed (b.data.toList.drop (a+6)) with
      | none=>
       rw[hu2] at hv;obtain⟨x,rfl⟩:=hv;have hU:Cc n ((b.data.toList.drop a).drop 6)=(n,6):=by unfold Cc;rw[hdd,hu2];simp
       have hE:=zb (HNo.out n 6 hU hne);clear hU hcn hln hne hdd encOk
       by_cases c3:(56319:Int)<n
       ·have d3:decide ((56319:Int)<(n:Int))=true:=decide_eq_true c3;clear c3
        go_wp2_with fail
        go_ret3
        exact⟨by rw[hE.out];rfl,HQ5.out⟩
       ·have d3:decide ((56319:Int)<(n:Int))=false:=decide_eq_false c3;clear c3
        go_wp2_with fail
        go_ret3
        exact⟨by rw[hE.out];rfl,HQ5.out⟩
      | some m=>
       rw[hu2] at hv;subst hv;have hml:=(JL hu2).2
       by_cases c3:(56319:Int)<n
       ·have hU:Cc n ((b.data.toList.drop a).drop 6)=(n,6):=by unfold Cc;rw[if_neg (show ¬(55296<=n/\n<56320) by omega)]
        have hE:=zb (HNo.out n 6 hU hne);have d3:decide ((56319:Int)<(n:Int))=true:=decide_eq_true c3;clear hU hcn hln hne hdd encOk c3 hml hu2
        go_wp2_with fail
        go_ret3
        exact⟨by rw[hE.out];rfl,HQ5.out⟩
       have d3:decide ((56319:Int)<(n:Int))=false:=decide_eq_false c3
       by_cases c4:(m:Int)<56320
       ·have hU:Cc n ((b.data.toList.drop a).drop 6)=(n,6):=by
         unfold Cc;rw[hdd,hu2,if_pos (show 55296<=n/\n<56320 by omega)];simp only;rw[if_neg (by omega)]
        have hE:=zb (HNo.out n 6 hU hne);have d4:decide ((m:Int)<56320)=true:=decide_eq_true c4;clear hU hcn hln hne hdd encOk c3 c4 hml hu2
        go_wp2_with fail
        go_ret3
        exact⟨by rw[hE.out];rfl,HQ5.out⟩
       have d4:decide ((m:Int)<56320)=false:=decide_eq_false c4
       by_cases c5:(57343:Int)<m
       ·have hU:Cc n ((b.data.toList.drop a).drop 6)=(n,6):=by
         unfold Cc;rw[hdd,hu2,if_pos (show 55296<=n/\n<56320 by omega)];simp only;rw[if_neg (by omega)]
        have hE:=zb (HNo.out n 6 hU hne);have d5:decide ((57343:Int)<(m:Int))=true:=decide_eq_true c5;clear hU hcn hln hne hdd encOk c3 c4 c5 hml hu2
        go_wp2_with fail
        go_ret3
        exact⟨by rw[hE.out];rfl,HQ5.out⟩
       have d5:decide ((57343:Int)<(m:Int))=false:=decide_eq_false c5;have hU:Cc n ((b.data.toList.drop a).drop 6)=(65536+(n - 55296)*1024+(m - 56320),12):=by
        unfold Cc;rw[hdd,hu2,if_pos (show 55296<=n/\n<56320 by omega)];simp only;rw[if_pos (by omega)]
       have hcp:Dq ((65536+(n - 55296)*1024+(m - 56320):Nat):Int)=true:=decide_eq_true (by omega);have hE:=zb (HO.out _ 12 hU hcp);have hEn:=zb (encOk _ hcp);have e1:(n:Int) - 55296=((n - 55296:Nat):Int):=by omega
       have e2:((n - 55296:Nat):Int)*1024=(((n - 55296)*1024:Nat):Int):=by omega
       have e3:(65536:Int)+(((n - 55296)*1024:Nat):Int)=((65536+(n - 55296)*1024:Nat):Int):=by omega
       have e4:((65536+(n - 55296)*1024:Nat):Int)+(m:Int)=((65536+(n - 55296)*1024+m:Nat):Int):=by omega
       have e5:((65536+(n - 55296)*1024+m:Nat):Int) - 56320=((65536+(n - 55296)*1024+(m - 56320):Nat):Int):=by omega
       have hz:(65536:Int)+((n:Int) - 55296)*1024+(m:Int) - 56320=((65536+(n - 55296)*1024+(m - 56320):Nat):Int):=by omega
       have HZ:=zb hz;clear hU hne hdd encOk c3 c4 c5 hu2 hcp e1 e2 e3 e4 e5 hz
       go_wp2_with fail
       rw[HZ.out];refine(hEn.out _).mono ?_;rintro e w3 ⟨rfl,hq6⟩;have HE2:=hE.out;clear hE hEn HZ;generalize Cv (65536+(n - 55296)*1024+(m - 56320))=X at *;have HE3:=zb HE2;clear HE2 hcn hln hml
       go_wp2_with fail
       go_ret3
       exact⟨by rw[HE3.out];rfl,HQ5.out.trans hq6⟩
 ·go_enter Tryz.func122,Tryz.ntmps122
  have hu:Ed (b.data.toList.drop a)=none:=by
   cases hu:Ed (b.data.toList.drop a) with
   | none=>rfl
   | some n=>have:=(JL hu).1;rw[zr,Ay] at this;omega
  have hE:ER b.data.toList a=([],0,130):=by
   have:CS (b.data.toList.drop a)=(130,[],0):=by
    unfold CS;rw[Kp,qq (by rw[Ay];omega),hu];rfl
   unfold ER;rw[this];rfl
  rw[hE]
  go_wp2_with fail
  refine(NZ b a a rfl (by omega) hs _ hT).mono ?_;rintro e w1 ⟨v,rfl,hv,hq⟩;unfold Jm at hv;rw[hu] at hv;obtain⟨x,rfl⟩:=hv
  go_wp2_with fail
  go_ret3
  exact⟨rfl,hq⟩
section
variable [Tabs Tryz.prog] {objs:List OB} {K:List OB->AV->Prop}
theorem fM (s:List UInt8) (a:Nat) (ha:a<s.length) (hs:s.length<=140737488351232) (hk:K objs (.tup [.s (ER s a).1,.i .i64 (ER s a).2.1,.i .i64 (ER s a).2.2])):Ah Tryz.prog 122 [.s s,.i .i64 (a:Nat)] objs K :=
 Nm (vs:=[.string (S s),.int .i64 (a:Nat)]) rfl rfl (fun w hT=>jD (S s) a (by rw[AL];exact ha) (by rw[AL];exact hs) w hT) hk
set_option maxHeartbeats 4000000 in
theorem iI (s:List UInt8) (a:Nat) (hs:s.length<=140737488351232) (ha:a<s.length) (R:Int×List UInt8×Nat) (hR:Dt ((s.drop (a+1)).length+1) (s.drop (a+1)) [] 0=R)
  (h1:R.1≠0->K objs (.tup [.s [],.i .i64 0,.i .i64 R.1])) (h0:R.1=0->K objs (.tup [.s R.2.1,.i .i64 ((a+1+R.2.2:Nat):Int),.i .i64 0])):Ah Tryz.prog 74 [.s s,.i .i64 (a:Nat)] objs K:=by
 refine AF kU rfl fun C _=>?_;simp only[Vi,Aa,simprocAttr];refine⟨by omega,?_⟩;refine B4 (fun n o tm=>∃(i:Nat) (out:List UInt8) (m:Nat),i<=s.length/\a+1<=i/\n=s.length - i/\o=[]/\out.length<=i/\s.length - i<m/\Dt m (s.drop i) out (i - (a+1))=R/\tm.length=70/\tm[0]? = some (.s s)/\tm[7]? = some (.s out)/\tm[8]? = some (.i .i64 (i:Nat))) (s.length - (a+1))
  ⟨a+1,[],(s.drop (a+1)).length+1,ha,ze _,rfl,rfl,zd _,by rw[zr];omega,by rw[Nat.sub_self];exact hR,rfl,rfl,rfl,rfl⟩ ?_
 rintro n _ tm ⟨i,out,m,hi,hai,rfl,rfl,ho,hm,hT,hlen,t0,t7,t8⟩;obtain⟨m,rfl⟩:∃m',m=m'+1:=⟨m - 1,by omega⟩
 by_cases hlt:(i:Int)<s.length
 ·have hlt':i<s.length:=by omega
  have hg:=DL hlt';have hdc:=jq hlt'
  by_cases c1:((s[i].toNat:Nat):Int)=34
  ·have hc:s[i]=34:=(Fl (by decide)).1 c1;rw[hdc,Dt,if_pos hc] at hT;subst hT;have h0:=h0 rfl;rw[show a+1+(i - (a+1)+1)=i+1 by omega] at h0;simp only[hlt,hg,c1,Aa,simprocAttr,za,hlen,t0,t7,t8];exact⟨by omega,by omega,h0⟩
  ·have hc:¬s[i]=34:=fun h=>c1 ((Fl (by decide)).2 h)
   by_cases c2:((s[i].toNat:Nat):Int)=92
   ·have hc2:s[i]=92:=(Fl (by decide)).1 c2;rw[hdc,Dt,if_neg hc,if_pos hc2,<-hdc] at hT;simp only[hlt,hg,c1,c2,Aa,simprocAttr,za,hlen,t0,t7,t8];refine⟨by omega,by omega,?_⟩;refine Ae (fM s i hlt' hs ?_);unfold ER;generalize hq:CS (s.drop i)=q at *;obtain⟨e,x,m'⟩:=q;simp only at hT
    by_cases c3:e=0
    ·subst c3;rw[if_neg (by simp)] at hT;have hl:=Tt hq;rw[zr] at hl;simp only[Aa,simprocAttr,za,hlen,t0,t7,t8];exact⟨by omega,s.length - (i+m'),by omega,i+m',out++x,m,by omega,by omega,rfl,by rw[zg];omega,by omega,by rw[<-jo,show i+m' - (a+1)=i - (a+1)+m' by omega];exact hT,rfl,rfl⟩
    ·rw[if_pos c3] at hT;subst hT;simp only[c3,Aa,simprocAttr,za,hlen,t0,t7,t8];exact h1 c3
   ·have hc2:¬s[i]=92:=fun h=>c2 ((Fl (by decide)).2 h);rw[hdc,Dt,if_neg hc,if_neg hc2,<-hdc] at hT
    by_cases c4:((s[i].toNat:Nat):Int)<32
    ·rw[if_pos (by omega)] at hT;subst hT;simp only[hlt,hg,c1,c2,c4,Aa,simprocAttr,za,hlen,t0,t7,t8];exact⟨by omega,by omega,by omega,h1 (by decide)⟩
    ·rw[if_neg (by omega)] at hT;simp only[hlt,hg,c1,c2,c4,Aa,simprocAttr,za,hlen,t0,t7,t8];refine⟨by omega,by omega,by omega,?_⟩;refine Ae (iJ s i hs ?_);rw[dH hlt']
     cases hd:CQ (s.drop i) with
     | none=>
      rw[hd] at hT;simp only at hT;subst hT;simp only[Aa,simprocAttr,za,hlen,t0,t7,t8];exact h1 (by decide)
     | some q=>
      obtain⟨r,m'⟩:=q;rw[hd] at hT;simp only at hT;have gg:m'<=(s.drop i).length/\1<=m':=⟨(JH hd).2.2.1,(JH hd).2.2.2.1⟩;have hxl:((s.drop i).take m').length<=m':=by rw[zq];omega
      rw[zr] at gg;simp only[Aa,simprocAttr,za,hlen,t0,t7,t8];rw[Ku];exact⟨by omega,by omega,s.length - (i+m'),by omega,i+m',out++(s.drop i).take m',m,by omega,by omega,rfl,by rw[zg];omega,by omega,by rw[<-jo,show i+m' - (a+1)=i - (a+1)+m' by omega];exact hT,rfl,rfl⟩
 ·obtain rfl:i=s.length:=by omega
  rw[List.drop_length,Dt] at hT;subst hT;simp only[Aa,simprocAttr,za,hlen,t0,t7,t8,hlt];exact h1 (by decide)
end
theorem OR {P:Program} [Tabs P] {C:Cx} {F:Bp} {k:List IT} {objs:List OB} {tm:List AV} {c:SV} {x y:SCode} (h:c.ev tm=.b true) (hr:run P C (.code x::k) objs tm F):run P C (.code (.cond c x y)::k) objs tm F:=by
 rw[NX,h,WY];exact hr
theorem OQ {P:Program} [Tabs P] {C:Cx} {F:Bp} {k:List IT} {objs:List OB} {tm:List AV} {c:SV} {x y:SCode} (h:c.ev tm=.b false) (hr:run P C (.code y::k) objs tm F):run P C (.code (.cond c x y)::k) objs tm F:=by
 rw[NX,h,WX];exact hr
section
variable [Tabs Tryz.prog] {objs:List OB} {K:List OB->AV->Prop}
set_option maxHeartbeats 4000000 in
theorem iH (s:List UInt8) (a:Int) (hs:s.length<=140737488351232) (hk:K objs (NM (B3 s a))):Ah Tryz.prog 32 [.s s,.i .i64 a] objs K:=by
 refine AF kS rfl fun C _=>?_;unfold B3 NM at hk
 by_cases c0:a<0
 ·rw[if_pos (.inl c0)] at hk;simp only[c0,MI,Aa,simprocAttr];exact hk
 by_cases c1:(s.length:Int)<a
 ·rw[if_pos (.inr c1)] at hk;simp only[c0,c1,MI,Aa,simprocAttr];exact hk
 rw[if_neg (by omega)] at hk;obtain⟨a,rfl⟩:∃n:Nat,a=n:=⟨a.toNat,by omega⟩;rw[zt] at hk;rw[MI];refine Ac fun Y1 hY1=>?_;simp only[Aa,simprocAttr];subst hY1;refine Ac fun Y1 hY1=>?_;simp only[c0,c1,Aa,simprocAttr];subst hY1;refine Ac fun Y1 hY1=>?_;have hwl:=Po (s.drop a);rw[zr] at hwl;refine Bq (fun o t=>o=[.box 44 [.i .i64 0,.s [],.i .i64 0]]/\t.length=139/\t[0]? = some (.s s)/\t[1]? = some (.i .i64 ((a+D6 (s.drop a):Nat):Int))/\t[4]? = some (.p 0 0)) ?_ ?_
 ·simp only[Aa,simprocAttr];refine B4 (fun n objs tm=>∃i:Nat,i<=s.length/\n=s.length - i/\objs=[.box 44 [.i .i64 0,.s [],.i .i64 0]]/\a+D6 (s.drop a)=i+D6 (s.drop i)/\tm.length=139/\tm[0]? = some (.s s)/\tm[1]? = some (.i .i64 i)/\tm[4]? = some (.p 0 0)) (s.length - a) ⟨a,by omega,rfl,rfl,rfl,rfl,rfl,rfl,rfl⟩ ?_;rintro n _ tm ⟨i,hil,rfl,rfl,hr,hlen,t0,t1,t4⟩
  by_cases hlt2:(i:Int)<s.length
  ·have hlt':i<s.length:=by omega
   have hg2:=DL hlt';have hrn:=aZ s i hlt';simp only[Aa,simprocAttr,za,hlen,t0,t1,t4,hlt2];refine⟨by omega,?_⟩;rw[hg2];refine Ae (aQ s[i] ?_)
   by_cases hd:LH s[i]=true
   ·rw[if_pos hd] at hrn;simp only[hd,Aa,simprocAttr,za,hlen,t0,t1,t4];exact⟨⟨by omega,by omega⟩,s.length - (i+1),by omega,i+1,by omega,rfl,by omega,rfl⟩
   ·rw[if_neg hd] at hrn;simp only[Bool.not_eq_true] at hd;simp only[hd,Hj,Ap,Aa,simprocAttr,za,hlen,t0,t1,t4];rw[hr,hrn];rfl
  ·obtain rfl:i=s.length:=by omega
   have hw:D6 (s.drop s.length)=0:=by rw[List.drop_length];rfl
   simp only[hlt2,Hj,Ap,Aa,simprocAttr,za,hlen,t0,t1,t4];rw[hr,hw];rfl
 rintro _ tm ⟨rfl,hlen,t0,t1,t4⟩;subst hY1;have ha:a+D6 (s.drop a)<=s.length:=by omega
 generalize a+D6 (s.drop a)=i at *;have h1:∀e x n k,CD (s.drop i)=(e,k,x,n)->e≠0->K objs (.tup [.agg [.i .i64 0,.s [],.i .i64 0],.i .i64 0,.i .i64 e]):=by
  intro e x n k h he;rw[h,if_pos he] at hk;exact hk
 have h0:∀x n k,CD (s.drop i)=(0,k,x,n)->K objs (.tup [.agg [.i .i64 k,.s x,.i .i64 (i:Nat)],.i .i64 ((i+n:Nat):Int),.i .i64 0]):=by
  intro x n k h;rw[h,if_neg (by simp)] at hk;exact hk
 clear hk c0 c1;refine Ac fun Y1 hY1=>?_
 by_cases c0:(i:Int)=s.length
 ·obtain rfl:i=s.length:=by omega
  have:=h0 [] 0 1 (by rw[List.drop_length];rfl);simp only[c0,Aa,simprocAttr,za,hlen,t0,t1,t4];exact this
 have hlt:i<s.length:=by omega
 have hg:=DL hlt;have hdc:=jq hlt;simp only[c0,Aa,simprocAttr,za,hlen,t0,t1,t4];subst hY1;refine Ac fun Y1 hY1=>?_;refine Ac fun Y2 hY2=>?_;refine Bq (fun o t=>o=[.box 44 [.i .i64 0,.s [],.i .i64 0]]/\t.length=139/\t[0]? = some (.s s)/\t[1]? = some (.i .i64 (i:Nat))/\t[4]? = some (.p 0 0)/\t[7]? = some (.i .u8 (s[i].toNat:Nat))) ?_ ?_
 ·simp only[hg,Ap,Aa,simprocAttr,za,hlen,t0,t1,t4]
  and_intros<;>first|omega|exact iv (by omega)|rfl|assumption
 rintro _ tm ⟨rfl,hlen,t0,t1,t4,t7⟩;subst hY2;rw[DJ];refine Ac fun Y2 hY2=>?_;refine Bq (fun o t=>o=[.box 44 [.i .i64 0,.s [],.i .i64 0]]/\t.length=139/\t[0]? = some (.s s)/\t[1]? = some (.i .i64 (i:Nat))/\t[4]? = some (.p 0 0)/\t[7]? = some (.i .u8 (s[i].toNat:Nat))/\t[45]? = some (.b (AI s[i] [123,125,91,93,58,44]))) ?_ ?_
 ·simp only[Aa,simprocAttr,za,hlen,t0,t1,t4,t7];refine Ae (Kg s[i] _ (by decide) ?_);simp only[Ap,Aa,simprocAttr,za,hlen,t0,t1,t4,t7]
 rintro _ tm ⟨rfl,hlen,t0,t1,t4,t7,t45⟩;subst hY2
 by_cases c1:AI s[i] [123,125,91,93,58,44]=true
 ·have hx:(s.take (i+1)).drop i=[s[i]]:=by rw[Ku,hdc];rfl
  have e1:((i:Int)+1).toNat=i+1:=by omega
  have:=h0 [s[i]] 1 2 (by rw[hdc,CD,if_pos c1]);refine OR (by simp only[SV.ev,t45,qx,c1]) ?_;simp only[e1,hx,Aa,simprocAttr,za,hlen,t0,t1,t4,t7]
  (and_intros<;>try omega)
  exact this
 refine OQ (by rw[Bool.not_eq_true] at c1;simp only[SV.ev,t45,qx,c1]) ?_;refine Ac fun Y2 hY2=>?_;refine Bq (fun o t=>o=[.box 44 [.i .i64 0,.s [],.i .i64 0]]/\t.length=139/\t[0]? = some (.s s)/\t[1]? = some (.i .i64 (i:Nat))/\t[4]? = some (.p 0 0)/\t[7]? = some (.i .u8 (s[i].toNat:Nat))/\t[57]? = some (.b (decide (((s[i].toNat:Nat):Int)=34)))) ?_ ?_
 ·simp only[Ap,Aa,simprocAttr,za,hlen,t0,t1,t4,t7]
 rintro _ tm ⟨rfl,hlen,t0,t1,t4,t7,t57⟩;subst hY2
 by_cases c2:((s[i].toNat:Nat):Int)=34
 ·have hc:s[i]=34:=(Fl (by decide)).1 c2;refine OR (by simp only[SV.ev,t57,qx,c2,decide_true]) ?_;have he:CD (s.drop i)=if (Dt ((s.drop (i+1)).length+1) (s.drop (i+1)) [] 0).1≠0 then ((Dt ((s.drop (i+1)).length+1) (s.drop (i+1)) [] 0).1,0,[],0) else (0,3,(Dt ((s.drop (i+1)).length+1) (s.drop (i+1)) [] 0).2.1,(Dt ((s.drop (i+1)).length+1) (s.drop (i+1)) [] 0).2.2+1):=by
   rw[hdc,CD,if_neg c1,if_pos hc]
  obtain⟨TT,hTT⟩:∃TT,Dt ((s.drop (i+1)).length+1) (s.drop (i+1)) [] 0=TT:=⟨_,rfl⟩;rw[hTT] at he;simp only[Aa,simprocAttr,za,hlen,t0,t1,t4,t7];refine Ae (iI s i hs hlt TT hTT (fun hR=>?_) (fun hR=>?_))
  ·rw[if_pos hR] at he;have:=h1 _ _ _ _ he hR;simp only[hR,Aa,simprocAttr,za,hlen,t0,t1,t4,t7];exact this
  ·rw[if_neg (by rw[hR];simp)] at he;have:=h0 _ _ _ he;simp only[Aa,simprocAttr,za,hlen,t0,t1,t4,t7];rw[show i+(TT.2.2+1)=i+1+TT.2.2 by omega] at this;exact this
 have hc:¬s[i]=34:=fun h=>c2 ((Fl (by decide)).2 h);refine OQ (by simp only[SV.ev,t57,qx,c2,decide_false]) ?_;refine Ac fun Y2 hY2=>?_;refine Bq (fun o t=>o=[.box 44 [.i .i64 0,.s [],.i .i64 0]]/\t.length=139/\t[0]? = some (.s s)/\t[1]? = some (.i .i64 (i:Nat))/\t[4]? = some (.p 0 0)/\t[7]? = some (.i .u8 (s[i].toNat:Nat))/\t[75]? = some (.b (decide (s[i]=45\/Av s[i]=true)))) ?_ ?_
 ·by_cases c3:((s[i].toNat:Nat):Int)=45
  ·have hc3:s[i]=45\/Av s[i]=true:=.inl ((Fl (by decide)).1 c3);simp only[c3,hc3,Ap,Aa,simprocAttr,za,hlen,t0,t1,t4,t7]
  ·have hc3:¬s[i]=45:=fun h=>c3 ((Fl (by decide)).2 h);simp only[c3,Aa,simprocAttr,za,hlen,t0,t1,t4,t7];refine Ae (Pi s[i] ?_);have e3:decide (s[i]=45\/Av s[i]=true)=Av s[i]:=by
    cases Av s[i]<;>simp[hc3]
   rw[e3];generalize Av s[i]=dg;simp only[Ap,Aa,simprocAttr,za,hlen,t0,t1,t4,t7]
 rintro _ tm ⟨rfl,hlen,t0,t1,t4,t7,t75⟩;subst hY2
 by_cases c3:s[i]=45\/Av s[i]=true
 ·refine OR (by simp only[SV.ev,t75,qx,c3,decide_true]) ?_;have he:CD (s.drop i)=if Dc (s.drop i)=0 then (130,0,[],0) else (0,4,(s.drop i).take (Dc (s.drop i)),Dc (s.drop i)):=by
   conv=>lhs;rw[hdc]
   rw[CD,if_neg c1,if_neg hc,if_pos c3,<-hdc]
  have hnl:=R8 (s.drop i);rw[zr] at hnl;simp only[Aa,simprocAttr,za,hlen,t0,t1,t4,t7];refine⟨by omega,?_⟩;refine Ae (UY _ (by rw[zr];omega) ?_);generalize Dc (s.drop i)=n at *
  by_cases c4:((n:Nat):Int)=0
  ·rw[if_pos (by omega)] at he;have:=h1 _ _ _ _ he (by decide);simp only[c4,Aa,simprocAttr,za,hlen,t0,t1,t4,t7];exact this
  ·rw[if_neg (by omega)] at he;have:=h0 _ _ _ he;have e2:((i:Int)+(n:Int)).toNat=i+n:=by omega
   simp only[c4,e2,Aa,simprocAttr,za,hlen,t0,t1,t4,t7];rw[Ku]
   (and_intros<;>try omega)
   exact this
 refine OQ (by simp only[SV.ev,t75,qx,c3,decide_false]) ?_;have he:CD (s.drop i)=if (s.drop i).take (Dk (s.drop i))=[116,114,117,101]\/(s.drop i).take (Dk (s.drop i))=[102,97,108,115,101]\/(s.drop i).take (Dk (s.drop i))=[110,117,108,108] then (0,5,(s.drop i).take (Dk (s.drop i)),Dk (s.drop i)) else (130,0,[],0):=by
  conv=>lhs;rw[hdc]
  rw[CD,if_neg c1,if_neg hc,if_neg c3,<-hdc]
 have hwl2:=OM (s.drop i);rw[zr] at hwl2;simp only[Aa,simprocAttr];subst hY1;refine Ac fun Y1 hY1=>?_;simp only[Aa,simprocAttr];subst hY1;refine Ac fun Y1 hY1=>?_;refine Bq (fun o t=>o=[.box 44 [.i .i64 0,.s [],.i .i64 0]]/\t.length=139/\t[0]? = some (.s s)/\t[1]? = some (.i .i64 (i:Nat))/\t[4]? = some (.p 0 0)/\t[12]? = some (.i .i64 (Dk (s.drop i):Nat))) ?_ ?_
 ·simp only[Aa,simprocAttr];refine B4 (fun n o t=>∃k:Nat,i+k<=s.length/\n=s.length - (i+k)/\Dk (s.drop i)=k+Dk (s.drop (i+k))/\o=[.box 44 [.i .i64 0,.s [],.i .i64 0]]/\t.length=139/\t[0]? = some (.s s)/\t[1]? = some (.i .i64 (i:Nat))/\t[4]? = some (.p 0 0)/\t[12]? = some (.i .i64 (k:Nat))) (s.length - i) ⟨0,by omega,rfl,by simp,rfl,by simp[hlen],by simp[t0],by simp[t1],by simp[t4],by simp[hlen]⟩ ?_;rintro n _ tm ⟨k,hk,rfl,hr,rfl,hlen,t0,t1,t4,t12⟩;have e1:((i:Int)+(k:Int)).toNat=i+k:=by omega
  by_cases hlt2:(i:Int)+(k:Int)<s.length
  ·have hlt':i+k<s.length:=by omega
   have hg2:=DL hlt';have hrn:=Zi s (i+k) hlt';simp only[e1,hg2,hlt2,Aa,simprocAttr,za,hlen,t0,t1,t4,t12];refine⟨by omega,by omega,by omega,?_⟩;refine Ae (fX s[i+k] ?_)
   by_cases hd:Ce s[i+k]=true
   ·rw[if_pos hd] at hrn;simp only[hd,Aa,simprocAttr,za,hlen,t0,t1,t4,t12];exact⟨by omega,s.length - (i+(k+1)),by omega,k+1,by omega,rfl,by rw[<-Nat.add_assoc];omega,rfl⟩
   ·rw[if_neg hd] at hrn;simp only[Bool.not_eq_true] at hd;simp only[hd,Hj,Ap,Aa,simprocAttr,za,hlen,t0,t1,t4,t12];rw[hr,hrn];rfl
  ·have hie:i+k=s.length:=by omega
   have hw:Dk (s.drop (i+k))=0:=by rw[hie,List.drop_length];rfl
   simp only[hlt2,Hj,Ap,Aa,simprocAttr,za,hlen,t0,t1,t4,t12];refine⟨by omega,?_⟩;rw[hr,hw];rfl
 rintro _ tm ⟨rfl,hlen,t0,t1,t4,t12⟩;subst hY1;have hx:=Ku s i (Dk (s.drop i));generalize Dk (s.drop i)=n at *;rw[<-hx] at he;have e2:((i:Int)+(n:Int)).toNat=i+n:=by omega
 have n1:¬([102,97,108,115,101]:List UInt8)=[116,114,117,101]:=by decide
 have n2:¬([110,117,108,108]:List UInt8)=[116,114,117,101]:=by decide
 have n3:¬([110,117,108,108]:List UInt8)=[102,97,108,115,101]:=by decide
 refine Ac fun Y1 hY1=>?_;refine Ac fun Y2 hY2=>?_;refine Bq (fun o t=>o=[.box 44 [.i .i64 0,.s [],.i .i64 0]]/\t.length=139/\t[1]? = some (.i .i64 (i:Nat))/\t[4]? = some (.p 0 0)/\t[12]? = some (.i .i64 (n:Nat))/\t[13]? = some (.s ((s.take (i+n)).drop i))) ?_ ?_
 ·simp only[e2,Ap,Aa,simprocAttr,za,hlen,t0,t1,t4,t12]
  and_intros<;>first|omega|exact iv (by omega)|rfl|assumption
 rintro _ tm ⟨rfl,hlen,t1,t4,t12,t13⟩;subst hY2;generalize (s.take (i+n)).drop i=x at *
 by_cases hw:x=[116,114,117,101]\/x=[102,97,108,115,101]\/x=[110,117,108,108]
 ·rw[if_pos hw] at he;have:=h0 _ _ _ he;rcases hw with rfl|rfl|rfl
  ·simp only[Aa,simprocAttr,za,hlen,t1,t4,t12,t13]
   (and_intros<;>try omega)
   exact this
  ·simp only[n1,Aa,simprocAttr,za,hlen,t1,t4,t12,t13]
   (and_intros<;>try omega)
   exact this
  ·simp only[n2,n3,Aa,simprocAttr,za,hlen,t1,t4,t12,t13]
   (and_intros<;>try omega)
   exact this
 ·rw[if_neg hw] at he;have:=h1 _ _ _ _ he (by decide);have d1:¬x=[116,114,117,101]:=fun h=>hw (.inl h);have d2:¬x=[102,97,108,115,101]:=fun h=>hw (.inr (.inl h));have d3:¬x=[110,117,108,108]:=fun h=>hw (.inr (.inr h));simp only[d1,d2,d3,Aa,simprocAttr,za,hlen,t1,t4,t12,t13];subst hY1;simp only[Aa,simprocAttr,za,hlen,t1,t4,t12,t13];exact this
end
section
attribute [local irreducible] run
def M4 (l:List UInt8):List UInt8:=if l[Bm l]? = some 48 then [48] else (l.drop (Bm l)).take (AN (l.drop (Bm l)))
def Ng (l:List UInt8) (t:Nat):List UInt8:=if l[t]? = some 46/\0<AN (l.drop (t+1)) then (l.drop (t+1)).take (AN (l.drop (t+1))) else []
def Jg (l:List UInt8) (f:Nat):List UInt8:=if l[f+1]? = some 43 then [43] else if l[f+1]? = some 45 then [45] else []
def Lc (l:List UInt8) (f:Nat):Option (UInt8×List UInt8×List UInt8) :=
 if (l[f]? = some 101\/l[f]? = some 69)/\0<AN (l.drop (Co l f)) then some (if l[f]? = some 101 then 101 else 69,Jg l f,l.drop (Co l f)) else none
def Lu (l:List UInt8):NumS:=⟨decide (l[0]? = some 45),M4 l,Ng l (Dm l),Lc l (Eg l (Dm l))⟩
theorem eA {l:List UInt8} (h0:l≠[]) (h:Dc l=l.length):(Lu l).Good/\l=(Lu l).txt:=by
 have hl:0<l.length:=xu.2 h0;unfold Dc at h
 by_cases hr:AN (l.drop (Bm l))=0
 ·rw[if_pos hr] at h;omega
 rw[if_neg hr] at h;have hsg:l=BP (decide (l[0]? = some 45))++l.drop (Bm l):=by
  unfold Bm BP
  by_cases hc:l[0]? = some 45
  ·rw[if_pos hc,if_pos (by rw[hc];rfl)]
   conv=>lhs;rw[<-List.drop_zero (l:=l),FT hc]
   rfl
  ·rw[if_neg hc,if_neg (by rw[decide_eq_false hc];exact Bool.false_ne_true)];simp
 have hrl:=Gu l (Bm l) (by omega);obtain⟨I,hIe,hI0,hI1,hI2,hIl,hI⟩:∃I:List UInt8,I=M4 l/\I≠[]/\I.all Av=true/\(I[0]? = some 48->I=[48])/\Dm l<=l.length/\l.drop (Bm l)=I++l.drop (Dm l):=by
  have hd:=Pp (l.drop (Bm l)) 0 (by omega);obtain⟨c,hc1,hc2⟩:=hd;rw[jx,jj] at hc1;have hdc:=FT hc1;unfold Dm
  by_cases hz:l[Bm l]? = some 48
  ·rw[if_pos hz];refine⟨[48],by unfold M4;rw[if_pos hz],by simp,rfl,fun _=>rfl,?_,?_⟩
   ·have:=(zf.1 hz).1;omega
   ·exact FT hz
  ·rw[if_neg hz];refine⟨(l.drop (Bm l)).take (AN (l.drop (Bm l))),by unfold M4;rw[if_neg hz],LT (by omega) (Jy _),I2 _,?_,hrl,?_⟩
   ·intro h1;exfalso;rw[xw,if_pos (by omega),jx,jj] at h1;exact hz h1
   ·have:=Mj l (show Bm l<=Bm l+AN (l.drop (Bm l)) by omega);rw[show Bm l+AN (l.drop (Bm l)) - Bm l=AN (l.drop (Bm l)) by omega] at this;exact this
 unfold Lu;rw[<-hIe];clear hIe;generalize Dm l=t at *;obtain⟨F,hFe,hF1,hFl,hF⟩:∃F:List UInt8,F=Ng l t/\F.all Av=true/\Eg l t<=l.length/\l.drop t=By F++l.drop (Eg l t):=by
  unfold Eg
  by_cases hc:l[t]? = some 46/\0<AN (l.drop (t+1))
  ·rw[if_pos hc];have hb:=Gu l (t+1) hc.2;refine⟨(l.drop (t+1)).take (AN (l.drop (t+1))),by unfold Ng;rw[if_pos hc],I2 _,hb,?_⟩;have h1:=Mj l (show t+1<=t+1+AN (l.drop (t+1)) by omega);rw[show t+1+AN (l.drop (t+1)) - (t+1)=AN (l.drop (t+1)) by omega] at h1;have hne:=LT hc.2 (Jy (l.drop (t+1)));rw[FT hc.1];generalize (l.drop (t+1)).take (AN (l.drop (t+1)))=F at *
   cases F with
   | nil=>exact absurd rfl hne
   | cons a F=>
    show 46::l.drop (t+1)=46::(a::F++_);rw[<-h1]
  ·rw[if_neg hc];exact⟨[],by unfold Ng;rw[if_neg hc],rfl,hIl,rfl⟩
 rw[<-hFe];clear hFe;generalize Eg l t=f at *;obtain⟨E,hEe,hE1,hE⟩:∃E:Option (UInt8×List UInt8×List UInt8),E=Lc l f/\(∀c s d,E=some (c,s,d)->(c=101\/c=69)/\(s=[]\/s=[43]\/s=[45])/\d≠[]/\d.all Av=true)/\l.drop f=BK E:=by
  unfold G1 at h
  by_cases hc:(l[f]? = some 101\/l[f]? = some 69)/\0<AN (l.drop (Co l f))
  ·rw[if_pos hc] at h;have hex:Lc l f=some (if l[f]? = some 101 then 101 else 69,Jg l f,l.drop (Co l f)):=by unfold Lc;rw[if_pos hc]
   obtain⟨c,hc1,hc2,hc3⟩:∃c,l[f]? = some c/\(c=101\/c=69)/\(if l[f]? = some 101 then 101 else 69)=c:=by
    rcases hc.1 with h1|h1
    ·exact⟨_,h1,.inl rfl,by rw[if_pos h1]⟩
    ·exact⟨_,h1,.inr rfl,by rw[h1];rfl⟩
   rw[hc3] at hex;have hdig:l.drop (Co l f)≠[]/\(l.drop (Co l f)).all Av=true:=by
    have h1:=I2 (l.drop (Co l f));have h2:AN (l.drop (Co l f))=(l.drop (Co l f)).length:=by rw[zr];omega
    rw[h2,jh] at h1;refine⟨fun e=>?_,h1⟩;rw[e] at hc;exact absurd hc.2 (by simp[AN])
   rw[FT hc1];unfold Co at hdig hc hex
   by_cases hs:l[f+1]? = some 43\/l[f+1]? = some 45
   ·rw[if_pos hs] at hdig hex;obtain⟨s,hs1,hs2,hs3⟩:∃s,l[f+1]? = some s/\(s=43\/s=45)/\Jg l f=[s]:=by
     unfold Jg;rcases hs with h1|h1
     ·exact⟨_,h1,.inl rfl,by rw[if_pos h1]⟩
     ·exact⟨_,h1,.inr rfl,by rw[h1];rfl⟩
    refine⟨some (c,[s],l.drop (f+2)),by rw[hex,hs3],?_,?_⟩
    ·intro c' s' d' e;injection e with e;injection e with e1 e2;injection e2 with e2 e3
     subst e1 e2 e3;exact⟨hc2,by rcases hs2 with rfl|rfl<;>simp,hdig.1,hdig.2⟩
    ·rw[FT hs1];rfl
   ·rw[if_neg hs] at hdig hex;have hs3:Jg l f=[]:=by
     unfold Jg;rw[if_neg (fun h=>hs (.inl h)),if_neg (fun h=>hs (.inr h))]
    refine⟨some (c,[],l.drop (f+1)),by rw[hex,hs3],?_,rfl⟩;intro c' s' d' e;injection e with e;injection e with e1 e2;injection e2 with e2 e3
    subst e1 e2 e3;exact⟨hc2,.inl rfl,hdig.1,hdig.2⟩
  ·rw[if_neg hc] at h;subst h;exact⟨none,by unfold Lc;rw[if_neg hc],fun _ _ _ e=>(by cases e),by simp[BK]⟩
 rw[<-hEe];refine⟨⟨hI0,hI1,hI2,hF1,hE1⟩,?_⟩;show l=BP _++(I++(By F++BK E));rw[<-hE,<-hF,<-hI,<-hsg]
def BI (l:List UInt8):Int×List UInt8:=if l=[]\/¬Dc l=l.length then (130,[]) else Gz 1099511627776 (Lu l)
theorem Y7 {p:NumS} (hp:p.Good):BI p.txt=Gz 1099511627776 p:=by
 obtain⟨h1,h2⟩:=Y8 hp;unfold BI;rw[if_neg (fun h=>h.elim h2 (fun h=>h h1))];obtain⟨q1,q2⟩:=eA h2 h1;exact congrArg _ (bE hp q1 q2).symm
theorem Z2 (p:NumS) (h:p.txt.length<=1048576):Gz 1099511627776 p=Gz 1073741824 p:=by
 have h1:=Sa p;have h2:=Tf p;have h3:=Rl (Fm p);unfold Gz
 by_cases hm:Fm p=[]
 ·rw[if_pos hm,if_pos hm]
 rw[if_neg hm,if_neg hm]
 by_cases he:Ds 1099511627776 p.ex=Ds 1073741824 p.ex
 ·have:F6 1099511627776 p=F6 1073741824 p:=by unfold F6;rw[he]
  rw[this]
 ·have key:(Ds 1099511627776 p.ex < -100000000/\Ds 1073741824 p.ex < -100000000)\/(100000000<Ds 1099511627776 p.ex/\100000000<Ds 1073741824 p.ex):=by
   cases hx:p.ex with
   | none=>rw[hx] at he;exact absurd rfl he
   | some e=>
    obtain⟨c,s,d⟩:=e;rw[hx] at he;simp only[Ds] at he ⊢
    by_cases hs:s=[45]
    ·rw[if_pos hs,if_pos hs] at he ⊢;left;omega
    ·rw[if_neg hs,if_neg hs] at he ⊢;right;omega
  rw[if_pos,if_pos]
  ·unfold F6;omega
  ·unfold F6;omega
theorem OI:∀(n:Nat) (l out x:List UInt8) (k m:Nat),Dt n l out k=(0,x,m)->k<m/\m<=k+l.length/\x.length<=out.length+(m - k)
 | 0,l,out,x,k,m,h=>by rw[Dt] at h;cases h
 | n+1,[],out,x,k,m,h=>by rw[Dt] at h;cases h
 | n+1,c::t,out,x,k,m,h=>by
  rw[Dt] at h;have hl:(c::t).length=t.length+1:=rfl
  split at h
  ·cases h;exact⟨by omega,by omega,by omega⟩
  ·split at h
   ·split at h
    ·rename_i g;injection h with h _;exact absurd h g
    ·rename_i g;have g:(CS (c::t)).1=0:=by simpa using g
     obtain⟨⟨e,y,j⟩,hE⟩:∃r,CS (c::t)=r:=⟨_,rfl⟩;rw[hE] at h g;simp only at g h;subst g;have hl2:=Tt hE;have:=OI n _ _ _ _ _ h;rw[zr,zg] at this;omega
   ·split at h
    ·cases h
    ·split at h
     ·cases h
     ·rename_i r j hd;have hd':=JH hd;have:=OI n _ _ _ _ _ h;rw[zr,zg,zq] at this;omega
theorem fY {l:List UInt8} (h:(CD l).1=0):(CD l).2.2.2<=l.length/\(¬(CD l).2.1=1->1<=(CD l).2.2.2)/\((CD l).2.1=1->l=[])/\(CD l).2.2.1.length<=l.length/\1<=(CD l).2.1/\(CD l).2.1<=5:=by
 cases l with
 | nil=>exact⟨by simp[CD],fun h=>absurd rfl h,fun _=>rfl,by simp[CD],by decide,by decide⟩
 | cons c t=>
  have hl:(c::t).length=t.length+1:=rfl;rw[CD] at h ⊢
  by_cases c1:AI c [123,125,91,93,58,44]=true
  ·simp only[if_pos c1];exact⟨by simp,fun _=>by simp,fun h=>by simp at h,by simp,by decide,by decide⟩
  simp only[if_neg c1] at h ⊢
  by_cases c2:c=34
  ·simp only[if_pos c2] at h ⊢
   by_cases c3:(Dt (t.length+1) t [] 0).1≠0
   ·simp only[if_pos c3] at h;exact absurd h c3
   ·simp only[if_neg c3] at h ⊢;obtain⟨⟨e,x,m⟩,hE⟩:∃r,Dt (t.length+1) t [] 0=r:=⟨_,rfl⟩;have c3:e=0:=by rw[hE] at c3;simpa using c3
    subst c3;have:=OI _ _ _ _ _ _ hE;rw[qd] at this;rw[hE];exact⟨by show m+1<=_;omega,fun _=>by show 1<=m+1;omega,fun h=>by simp at h,by show x.length<=_;omega,by decide,by decide⟩
  simp only[if_neg c2] at h ⊢
  by_cases c3:c=45\/Av c=true
  ·simp only[if_pos c3] at h ⊢
   by_cases c4:Dc (c::t)=0
   ·simp only[if_pos c4] at h;cases h
   ·simp only[if_neg c4] at h ⊢;have:=R8 (c::t);exact⟨by show Dc (c::t)<=_;omega,fun _=>by show 1<=Dc (c::t);omega,fun h=>by simp at h,by show (List.take _ _).length<=_;rw[zq];omega,by decide,by decide⟩
  simp only[if_neg c3] at h ⊢
  split at h
  ·rename_i c4;rw[if_pos c4];have hw:=OM (c::t);refine⟨hw,fun _=>?_,fun h=>by simp at h,by show (List.take _ _).length<=_;rw[zq];omega,by show (1:Int)<=5;decide,by show (5:Int)<=5;decide⟩;show 1<=Dk (c::t);rcases Nat.eq_zero_or_pos (Dk (c::t)) with h0|h0
   ·rw[h0] at c4;simp at c4
   ·exact h0
  ·cases h
theorem Ol {s:List UInt8} {a:Int} (h0:0<=a) (h:(B3 s a).2.2=0) :
  (a<=(B3 s a).2.1/\(B3 s a).2.1<=s.length/\((B3 s a).1.1≠1->a<(B3 s a).2.1)/\((B3 s a).1.1=1->(B3 s a).2.1=s.length))/\(B3 s a).1.2.1.length<=s.length/\1<=(B3 s a).1.1/\(B3 s a).1.1<=5/\0<=(B3 s a).1.2.2/\(B3 s a).1.2.2<=s.length:=by
 unfold B3 at h ⊢
 by_cases c1:a<0\/(s.length:Int)<a
 ·simp only[if_pos c1] at h;cases h
 simp only[if_neg c1] at h ⊢;obtain⟨x,hx⟩:=y9 h0;subst hx;simp only[zt] at h ⊢;have hw:=Po (s.drop x);rw[zr] at hw;generalize hA:x+D6 (s.drop x)=A at *
 by_cases c2:(CD (s.drop A)).1≠0
 ·simp only[if_pos c2] at h;exact absurd h c2
 simp only[if_neg c2];have c2:(CD (s.drop A)).1=0:=by simpa using c2
 obtain⟨r1,r2,r3,r4,r5,r6⟩:=fY c2;rw[zr] at r1 r4;refine⟨⟨?_,?_,?_,?_⟩,?_,r5,r6,?_,?_⟩
 ·show (x:Int)<=((A+_:Nat):Int);omega
 ·show ((A+_:Nat):Int)<=_;omega
 ·intro h;have:=r2 h;show (x:Int)<((A+_:Nat):Int);omega
 ·intro h;have h1:=r3 h;have h2:=congrArg jd h1;rw[zr,qd] at h2;show ((A+_:Nat):Int)=_;omega
 ·show (CD (s.drop A)).2.2.1.length<=_;omega
 ·show (0:Int)<=((A:Nat):Int);omega
 ·show ((A:Nat):Int)<=_;omega
theorem Y6 {s:List UInt8} {a:Int} (h0:0<=a) (h:(B3 s a).2.2=0):a<=(B3 s a).2.1/\(B3 s a).2.1<=s.length/\((B3 s a).1.1≠1->a<(B3 s a).2.1)/\((B3 s a).1.1=1->(B3 s a).2.1=s.length):=(Ol h0 h).1
section
variable [Tabs Tryz.prog] [Pow Tryz.prog] {objs:List OB} {K:List OB->AV->Prop}
omit [Pow Tryz.prog] in
theorem fJ (s:List UInt8) (hs:s.length<=1048576) (hk:K objs (.tup [.s (BI s).2,.i .i64 (BI s).1])):Ah Tryz.prog 28 [.s s] objs K :=
 fK s (by omega) (fun h=>by unfold BI at hk;rw[if_pos (by simpa using h)] at hk;exact hk) (fun p hp e=>by subst e;rw[Y7 hp,Z2 p hs] at hk;exact hk)
end
end
section
attribute [local irreducible] run
inductive JV where
 | mk (k:Int) (t:List UInt8) (ks:List (List UInt8)) (its:List JV)
def Cm:JV:=.mk 0 [] [] []
abbrev Tk:=Int×List UInt8×Int
def Xn:Tk:=(0,[],0)
def Ch (t:Tk) (c:UInt8):Bool:=decide (t.1=2)&&decide (t.2.1=[c])
def Nv:List UInt8:=[116,114,117,101]
def NB:List UInt8:=[102,97,108,115,101]
def FP (l:List UInt8):Int:=if l=Nv then 3 else if l=NB then 2 else 1
def BZ (t:Tk):Int :=
 if t.1=3 then 5 else if t.1=4 then 4 else if Ch t 91=true then 6 else if Ch t 123=true then 7 else if ¬t.1=5 then 0 else FP t.2.1
structure Fr where
 obj:Bool
 ks:List (List UInt8)
 its:List JV
structure Ms where
 st:Int
 stk:List Fr
 nodes:Nat
 root:JV
def Fr.val (f:Fr):JV:=.mk (if f.obj=true then 7 else 6) [] f.ks f.its
structure Rs where
 pos:Int
 nodes:Nat
 fail:Int
 wh:Int
def Bs (ρ:Rs) (a e:Int):Rs:=if ρ.fail=0 then ⟨ρ.pos,ρ.nodes,e,a⟩ else ρ
def Aj (s:List UInt8) (ρ:Rs):Tk×Rs :=
 if ¬ρ.fail=0 then (Xn,ρ)
 else if ¬(B3 s ρ.pos).2.2=0 then (Xn,Bs ρ ρ.pos (B3 s ρ.pos).2.2)
 else ((B3 s ρ.pos).1,⟨(B3 s ρ.pos).2.1,ρ.nodes,ρ.fail,ρ.wh⟩)
def Bx (ρ:Rs) (t:Tk) (c:UInt8):Rs:=if ρ.fail=0/\Ch t c=false then Bs ρ t.2.2 140 else ρ
def DG (s:List UInt8) (val:Rs->Tk->JV×Rs):Nat->Rs->Tk->List JV->List JV×Rs
 | 0,ρ,_,acc=>(acc,ρ)
 | n+1,ρ,t,acc=>
  if ¬ρ.fail=0 then (acc,ρ) else
  let a:=val ρ t
  let b:=Aj s a.2
  if Ch b.1 93=true then (acc++[a.1],b.2) else
  let c:=Aj s (Bx b.2 b.1 44)
  DG s val n c.2 c.1 (acc++[a.1])
def EZ (ρ:Rs) (t:Tk) (ks:List (List UInt8)):Rs :=
 let ρ:=if ¬t.1=3 then Bs ρ t.2.2 140 else ρ
 if t.2.1∈ks then Bs ρ t.2.2 143 else ρ
def CF (s:List UInt8) (val:Rs->Tk->JV×Rs):Nat->Rs->Tk->List (List UInt8)->List JV->(List (List UInt8)×List JV)×Rs
 | 0,ρ,_,ks,its=>((ks,its),ρ)
 | n+1,ρ,t,ks,its=>
  if ¬ρ.fail=0 then ((ks,its),ρ) else
  let a:=Aj s (EZ ρ t ks)
  let b:=Aj s (Bx a.2 a.1 58)
  let v:=val b.2 b.1
  let c:=Aj s v.2
  if Ch c.1 125=true then ((ks++[t.2.1],its++[v.1]),c.2) else
  let d:=Aj s (Bx c.2 c.1 44)
  CF s val n d.2 d.1 (ks++[t.2.1]) (its++[v.1])
def DC (s:List UInt8) (val:Rs->Tk->JV×Rs) (ρ:Rs):JV×Rs :=
 let a:=Aj s ρ
 if Ch a.1 93=true then (.mk 6 [] [] [],a.2) else
 let b:=DG s val (s.length+2) a.2 a.1 []
 (.mk 6 [] [] b.1,b.2)
def DT (s:List UInt8) (val:Rs->Tk->JV×Rs) (ρ:Rs):JV×Rs :=
 let a:=Aj s ρ
 if Ch a.1 125=true then (.mk 7 [] [] [],a.2) else
 let b:=CF s val (s.length+2) a.2 a.1 [] []
 (.mk 7 [] b.1.1 b.1.2,b.2)
def B2 (ρ:Rs) (t:Tk):Rs :=
 let ρ:=if t.1=4/\¬(BI t.2.1).1=0 then Bs ρ t.2.2 (BI t.2.1).1 else ρ
 if 20000<ρ.nodes+1 then Bs ⟨ρ.pos,ρ.nodes+1,ρ.fail,ρ.wh⟩ t.2.2 142 else ⟨ρ.pos,ρ.nodes+1,ρ.fail,ρ.wh⟩
def AW (s:List UInt8):Nat->Rs->Tk->Nat->JV×Rs
 | 0,ρ,_,_=>(Cm,ρ)
 | f+1,ρ,t,d=>
  if ¬ρ.fail=0 then (Cm,ρ)
  else if BZ t=0 then (Cm,Bs ρ t.2.2 140)
  else if t.1=2/\d=64 then (Cm,Bs ρ t.2.2 141)
  else if t.1=5 then (.mk (FP t.2.1) [] [] [],B2 ρ t)
  else if Ch t 91=true then DC s (fun ρ t=>AW s f ρ t (d+1)) (B2 ρ t)
  else if Ch t 123=true then DT s (fun ρ t=>AW s f ρ t (d+1)) (B2 ρ t)
  else if t.1=4 then (.mk 4 (BI t.2.1).2 [] [],B2 ρ t)
  else (.mk 5 t.2.1 [] [],B2 ρ t)
def AQ:Rs:=⟨0,0,0,0⟩
def EF (s:List UInt8):JV×Int×Int :=
 if 1048576<s.length then (Cm,0,142) else
 let a:=Aj s AQ
 let v:=AW s 65 a.2 a.1 0
 let b:=Aj s v.2
 let ρ:=if b.2.fail=0/\¬b.1.1=1 then Bs b.2 b.1.2.2 140 else b.2
 if ¬ρ.fail=0 then (Cm,ρ.wh,ρ.fail) else (v.1,s.length,0)
def Ff (ρ ρ':Rs):Prop:=¬ρ.fail=0->ρ'.fail=ρ.fail/\ρ'.wh=ρ.wh
theorem Ff.refl (ρ:Rs):Ff ρ ρ:=fun _=>⟨rfl,rfl⟩
theorem Ff.trans {a b c:Rs} (h:Ff a b) (k:Ff b c):Ff a c:=fun ha=>by
 obtain⟨h1,h2⟩:=h ha;obtain⟨k1,k2⟩:=k (by rw[h1];exact ha);exact⟨k1.trans h1,k2.trans h2⟩
theorem iG (ρ:Rs) (a e:Int):Ff ρ (Bs ρ a e):=fun h=>by unfold Bs;rw[if_neg h];exact⟨rfl,rfl⟩
theorem JQ (s:List UInt8) (ρ:Rs):Ff ρ (Aj s ρ).2:=fun h=>by unfold Aj;rw[if_pos h];exact⟨rfl,rfl⟩
theorem Pq (ρ:Rs) (t:Tk) (c:UInt8):Ff ρ (Bx ρ t c):=by
 unfold Bx;split
 ·exact iG _ _ _
 ·exact Ff.refl _
theorem jF (s:List UInt8) (f:Nat) (ρ:Rs) (t:Tk) (d:Nat):Ff ρ (AW s f ρ t d).2:=fun h=>by
 cases f with
 | zero=>exact⟨rfl,rfl⟩
 | succ f=>rw[AW,if_pos h];exact⟨rfl,rfl⟩
theorem uI (t:Tk):BZ t=0\/BZ t=1\/BZ t=2\/BZ t=3\/BZ t=4\/BZ t=5\/BZ t=6\/BZ t=7:=by
 unfold BZ FP
 repeat' split
 all_goals simp
theorem Ze {t:Tk}:(BZ t=5↔t.1=3)/\(BZ t=4↔t.1=4)/\((BZ t=1\/BZ t=2\/BZ t=3)↔t.1=5)/\(BZ t=6↔Ch t 91=true)/\(BZ t=7↔Ch t 123=true)/\(t.1=5->BZ t=FP t.2.1):=by
 have e1:∀c,Ch t c=true↔t.1=2/\t.2.1=[c]:=fun c=>by simp[Ch]
 have hw:FP t.2.1=1\/FP t.2.1=2\/FP t.2.1=3:=by
  unfold FP
  by_cases a1:t.2.1=Nv
  ·rw[if_pos a1];exact .inr (.inr rfl)
  ·rw[if_neg a1]
   by_cases a2:t.2.1=NB
   ·rw[if_pos a2];exact .inr (.inl rfl)
   ·rw[if_neg a2];exact .inl rfl
 unfold BZ;simp only[e1]
 by_cases h3:t.1=3
 ·simp[h3]
 by_cases h4:t.1=4
 ·simp[h4]
 by_cases h6:t.1=2/\t.2.1=[91]
 ·simp[h6]
 by_cases h7:t.1=2/\t.2.1=[123]
 ·simp[h7]
 by_cases h5:t.1=5
 ·simp only[h5];rcases hw with h|h|h<;>simp[h]
 ·simp only[h3,h4,h6,h7,h5];simp
def Yg (val:Rs->Tk->JV×Rs):Prop:=∀ρ t,Ff ρ (val ρ t).2
theorem S8 {t:Tk} {c:UInt8} (h:Ch t c=true):t.1=2/\t.2.1=[c]:=by
 simpa[Ch] using h
end
end Go.Proofs.YtbgaknpnkcdbfaaGreatDoor
namespace Go.Proofs.YtbgaknpnkcdbfaaGreatDoor.Sx
open Go.RowKit
def Dj (b gen n:Nat) (xs:List AV):AV->AV
 | .orow b' g'=>if b'=b/\g'=gen then .row n xs else .orow b' g'
 | x=>x
def IA (b gen n:Nat) (xs:List AV):OB->OB
 | .box T cs=>.box T (cs.map (Dj b gen n xs))
 | x=>x
def GC (objs:List OB) (b gen n:Nat) (xs:List AV):List OB:=(objs.map (IA b gen n xs)).set b .dead
def EA (G:Gh) (b gen:Nat):Gh:=⟨G.blk,fun x=>if x=b then some (gen+1,.slice none 0 0) else G.cur x⟩
theorem NT {G:Gh} {b gen:Nat} {v:Value} (h:G.cur b=some (gen,v)):G.le (EA G b gen) where
 blk:=fun _ _ h=>h
 cur:=fun x n w hx=>by
  by_cases hb:x=b
  ·subst hb;rw[h] at hx;injection hx with hx;injection hx with h1 h2
   exact⟨gen+1,.slice none 0 0,by simp[EA],.inr (by omega)⟩
  ·exact⟨n,w,by simp[EA,hb,hx],.inl ⟨rfl,rfl⟩⟩
theorem KG {G:Gh} {b gen:Nat} (hb:G.blk b=none) {x g:Nat} (h:(EA G b gen).own x=some g):x≠b/\G.own x=some g:=by
 by_cases hx:x=b
 ·subst hx;exfalso;unfold Gh.own EA at h;simp only[hb] at h;simp[Value.ownBlock] at h
 ·refine⟨hx,?_⟩;unfold Gh.own EA at h;simp only[if_neg hx] at h;exact h
def GA (I:Al) (G:Gh) (b:Nat) (w:World):Al:=fun g o v=>I g o v\/(w.cell? ⟨g,o,none⟩=some v/\G.own b=some g)
theorem Rw {G:Gh} {I:Al} {objs:List OB} {w:World} (hm:MemOk G I objs w) {b E sz gen n:Nat} {xs:List AV} (hb:objs[b]? = some (.orow E sz gen n xs)) (x:AV) (y:Value) (h:Ab G I x y):Ab (EA G b gen) (GA I G b w) (Dj b gen n xs x) y:=by
 obtain⟨v',vs,m1,m2,m3,m4,m5⟩:=hm.row b E sz gen n xs hb;have hG:=NT m1;have hI:Al.le I (GA I G b w):=fun _ _ _ h=>.inl h;have other:Dj b gen n xs x=x->Ab (EA G b gen) (GA I G b w) (Dj b gen n xs x) y:=fun e=>by rw[e];exact Ab.mono hG hI x y h
 cases x with
 | orow b' g'=>
  by_cases hh:b'=b/\g'=gen
  ·obtain⟨rfl,rfl⟩:=hh;have e:Dj b' g' n xs (.orow b' g')=.row n xs:=by simp[Dj]
   rw[e];simp only[Ab] at h ⊢;obtain⟨g0,v,k1,k2,k3,_⟩:=h;rw[k1] at m1;injection m1 with m1;injection m1 with m1 m6
   have hv:=k3 m1.symm;subst m1 m6 hv;have hown:=I5 m5 k1;have q1:=Ad.mono hG hI xs vs m3;rcases m2.2 with ⟨rfl,rfl⟩|⟨g,cap,cur,rfl,hx1,hx2,hx3,hx4⟩
   ·have hvs:vs=[]:=List.eq_nil_of_length_eq_zero (by simpa using m2.1);subst hvs;exact⟨none,0,[],rfl,⟨Nat.le_refl _,by intro _ e;cases e⟩,q1,by simp,by simp⟩
   ·refine⟨some ⟨g,0,none⟩,cap,vs,rfl,⟨hx3,by rintro _ ⟨⟩ _;rfl⟩,q1,m4,fun j u hj=>⟨g,0,rfl,.inr ⟨?_,hown⟩⟩⟩;have:=m2.cells (g:=g) rfl j u hj
    rwa [CG] at this
  ·exact other (by simp only[Dj,if_neg hh])
 | _=>exact other rfl
theorem Ox {G:Gh} {I:Al} {objs:List OB} {w:World} (hm:MemOk G I objs w) {b E sz gen n:Nat} {xs:List AV} (hb:objs[b]? = some (.orow E sz gen n xs)):∀(l:List AV) (ys:List Value),Ad G I l ys->Ad (EA G b gen) (GA I G b w) (l.map (Dj b gen n xs)) ys
 | [],ys,h=>by simpa[Ad] using h
 | x::l,ys,h=>by
  simp only[Ad] at h;obtain⟨y,ys',rfl,h1,h2⟩:=h;exact Ad.cons (Rw hm hb x y h1) (Ox hm hb l ys' h2)
theorem XT {P:Program} [Tabs P] {C:Cx} {G:Gh} {I:Al} {w:World} {objs:List OB} {b E sz gen n:Nat} {xs:List AV} (hb:objs[b]? = some (.orow E sz gen n xs)) (hin:In C G I w) (hm:MemOk G I objs w) :
  In C (EA G b gen) (GA I G b w) w/\MemOk (EA G b gen) (GA I G b w) (GC objs b gen n xs) w:=by
 obtain⟨v',vs,m1,m2,m3,m4,m5⟩:=hm.row b E sz gen n xs hb;have hlt:b<objs.length:=by
  by_cases h:b<objs.length
  ·exact h
  ·rw[List.getElem?_eq_none (by omega)] at hb;cases hb
 have hG:=NT m1;have hI:Al.le I (GA I G b w):=fun _ _ _ h=>.inl h;have hin':In C (EA G b gen) (GA I G b w) w:={
  os:=hin.os,tape:=hin.tape,output:=hin.output,size:=hin.size,block:=hin.block
  imm:=fun g o v h=>.inl (hin.imm g o v h)
  news:=fun g o v h=>by
   rcases h with h|⟨_,h⟩
   ·exact hin.news g o v h
   ·exact .inr (hin.blk b g h)
  blk:=fun x g h=>hin.blk x g (KG m5 h).2
  gh:=hin.gh.trans hG }
 have hat:∀x o,(GC objs b gen n xs)[x]? = some o->o=.dead\/(x≠b/\∃o',objs[x]? = some o'/\IA b gen n xs o'=o):=by
  intro x o h;unfold GC at h
  by_cases hx:x=b
  ·subst hx;rw[List.getElem?_set_self (by simpa using hlt)] at h;injection h with h;exact .inl h.symm
  ·rw[List.getElem?_set_ne (Ne.symm hx),List.getElem?_map] at h;obtain⟨o',h1,h2⟩:=Option.map_eq_some_iff.1 h;exact .inr ⟨hx,o',h1,h2⟩
 have hm':MemOk (EA G b gen) (GA I G b w) (GC objs b gen n xs) w:={
  imm:=fun g o v h=>by
   rcases h with h|⟨h,_⟩
   ·exact hm.imm g o v h
   ·exact h
  box:=fun x T cs h=>by
   rcases hat x _ h with h|⟨hx,o',h1,h2⟩
   ·cases h
   ·cases o' with
    | box T' cs'=>
     injection h2 with e1 e2
     subst e1 e2;obtain⟨g,ys,k1,k2,k3,k4⟩:=hm.box x _ _ h1;exact⟨g,ys,k1,k2,Ox hm hb _ _ k3,k4⟩
    | orow=>cases h2
    | mpk=>cases h2
    | dead=>cases h2
  row:=fun x E' sz' gen' n' xs' h=>by
   rcases hat x _ h with h|⟨hx,o',h1,h2⟩
   ·cases h
   ·cases o' with
    | box T' cs'=>cases h2
    | orow=>
     injection h2 with e1 e2 e3 e4 e5
     subst e1 e2 e3 e4 e5;obtain⟨v,ys,k1,k2,k3,k4,k5⟩:=hm.row x _ _ _ _ _ h1;exact⟨v,ys,by simp[EA,hx,k1],k2,Ad.mono hG hI _ _ k3,k4,k5⟩
    | mpk=>cases h2
    | dead=>cases h2
  map:=fun x hh es h=>by
   rcases hat x _ h with h|⟨hx,o',h1,h2⟩
   ·cases h
   ·cases o' with
    | box T' cs'=>cases h2
    | orow=>cases h2
    | mpk=>
     injection h2 with e1 e2
     subst e1 e2;obtain⟨g,en,ck,k1,k2,k3⟩:=hm.map x _ _ h1;exact⟨g,en,ck,k1,k2,k3.mono hG hI⟩
    | dead=>cases h2
  inj:=fun x x' g h h'=>hm.inj x x' g (KG m5 h).2 (KG m5 h').2
  lt:=fun x g h=>hm.lt x g (KG m5 h).2
  apart:=fun x g o v h h'=>by
   obtain⟨hx,h1⟩:=KG m5 h;rcases h' with h' | ⟨_,h'⟩
   ·exact hm.apart x g o v h1 h'
   ·exact hx (hm.inj x b g h1 h')
  fresh:=fun x hx=>by
   have hx':objs.length<=x:=by simpa[GC] using hx
   obtain⟨k1,k2⟩:=hm.fresh x hx';exact⟨k1,by simp[EA,k2];omega⟩ }
 exact⟨hin',hm'⟩
section
variable {P:Program} [Tabs P] {C:Cx} [On P C] {F:Bp} {objs:List OB} {tm:List AV}
end
section
variable {P:Program} [Tabs P]
end
end Go.Proofs.YtbgaknpnkcdbfaaGreatDoor.Sx
namespace Go.Proofs.YtbgaknpnkcdbfaaGreatDoor
open Go.RowKit Sx
open List renaming getElem?_eq_some_iff->zf, getElem?_set_ne->zo, map_append->ji, map_cons->zl, mem_append->qc, mem_append_left->xi, mem_append_right->xo, mem_cons->zv, mem_cons_of_mem->qp, mem_map_of_mem->ya, nodup_cons->xz
section
attribute [local irreducible] run
mutual
/-- a JSON value, cell for cell -/
def AP:JV->List AV
 | .mk k t ks its=>[.i .i64 k,.s t,.row ks.length (ks.map .s),.row its.length (Ak its)]
def Ak:List JV->List AV
 | []=>[]
 | v::l=>AP v++Ak l
end
def JV.kind:JV->Int | .mk k _ _ _=>k
def JV.text:JV->List UInt8 | .mk _ t _ _=>t
def JV.keys:JV->List (List UInt8) | .mk _ _ ks _=>ks
def JV.items:JV->List JV | .mk _ _ _ its=>its
theorem AZ (v:JV):AP v=[.i .i64 v.kind,.s v.text,.row v.keys.length (v.keys.map .s),.row v.items.length (Ak v.items)]:=by cases v;rw[AP];rfl
theorem EH:Ak []=[]:=by rw[Ak]
theorem FX (v:JV) (l:List JV):Ak (v::l)=AP v++Ak l:=by rw[Ak]
theorem MB (v:JV):(AP v).length=4:=by rw[AZ];rfl
theorem Fy (l:List JV):(Ak l).length=l.length*4:=by
 induction l with
 | nil=>rw[EH];rfl
 | cons v l ih=>rw[FX,List.length_append,MB,ih,List.length_cons];omega
theorem U8 (a b:List JV):Ak (a++b)=Ak a++Ak b:=by
 induction a with
 | nil=>rw[EH];rfl
 | cons v l ih=>rw[List.cons_append,FX,FX,ih,List.append_assoc]
theorem FK:∀{l:List JV} {i:Nat} (hi:i<l.length),((Ak l).drop (i*4)).take 4=AP l[i]
 | a::l,0,hi=>by
  rw[FX,Nat.zero_mul,List.drop_zero];exact List.take_left' (MB a)
 | a::l,i+1,hi=>by
  rw[FX,show (i+1)*4=4+i*4 by omega,<-List.drop_drop,List.drop_left' (MB a)];simpa using FK (l:=l) (i:=i) (by simpa using hi)
theorem Hl (l:List (List UInt8)):AE (l.map AV.s)=true:=by
 induction l with
 | nil=>rfl
 | cons a l ih=>simp[AE,AV.plain,ih]
theorem PU (a b:List AV):AE (a++b)=(AE a&&AE b):=by
 induction a with
 | nil=>simp[AE]
 | cons x a ih=>simp[AE,ih,Bool.and_assoc]
mutual
theorem Dw:∀v:JV,AE (AP v)=true
 | .mk k t ks its=>by
  rw[AP];simp only[AE,AV.plain,Hl,I0 its,Bool.and_self]
theorem I0:∀l:List JV,AE (Ak l)=true
 | []=>by rw[Ak];rfl
 | v::l=>by rw[Ak,PU,Dw v,I0 l];rfl
end
mutual
/-- how many values there are in a value -/
def JV.size:JV->Nat
 | .mk _ _ _ its=>JV.sizes its+1
def JV.sizes:List JV->Nat
 | []=>0
 | v::l=>JV.size v+JV.sizes l
end
theorem Sn:∀{l:List JV} {i:Nat} (hi:i<l.length),JV.size l[i]<=JV.sizes l
 | a::l,0,hi=>by rw[JV.sizes];simp
 | a::l,i+1,hi=>by
  rw[JV.sizes];have:=Sn (l:=l) (i:=i) (by simpa using hi);simp only[List.getElem_cons_succ];omega
theorem fP {v:JV} {i:Nat} (hi:i<v.items.length):JV.size v.items[i]<JV.size v:=by
 cases v with
 | mk k t ks its=>
  have:=Sn (l:=its) (i:=i) hi;rw[JV.size.eq_def (.mk k t ks its)];show JV.size its[i]<_;simp only;omega
def Au {α:Type} (L:List (Nat×α)) (o:List α):Prop:=(L.map (·.1)).Nodup/\∀x∈L,o[x.1]? = some x.2
theorem Au.get {α:Type} {L:List (Nat×α)} {o:List α} (h:Au L o) {i:Nat} {x:α} (hx:(i,x)∈L):o[i]? = some x:=h.2 _ hx
theorem Au.perm {α:Type} {L L':List (Nat×α)} {o:List α} (h:Au L o) (p:L.Perm L'):Au L' o :=
 ⟨(p.map _).nodup_iff.1 h.1,fun x hx=>h.2 x (p.mem_iff.2 hx)⟩
theorem Au.sub {α:Type} {L L':List (Nat×α)} {o:List α} (h:Au L o) (p:L'.Sublist L):Au L' o :=
 ⟨(p.map _).nodup h.1,fun x hx=>h.2 x (p.subset hx)⟩
theorem Au.set {α:Type} {A B:List (Nat×α)} {o:List α} {i:Nat} {x:α} (y:α) (h:Au (A++(i,x)::B) o):Au (A++(i,y)::B) (o.set i y):=by
 obtain⟨h1,h2⟩:=h;simp only[ji,zl] at h1;have hi:o[i]? = some x:=h2 (i,x) (by simp);have hlt:=(zf.1 hi).1;have hne:∀z∈A++B,z.1≠i:=by
  intro z hz e;rw[List.nodup_append] at h1;obtain⟨n1,n2,n3⟩:=h1;rcases qc.1 hz with hz|hz
  ·exact n3 z.1 (ya hz) i (by simp) e
  ·rw[xz] at n2;exact n2.1 (e▸ya hz)
 refine⟨by simpa only[ji,zl] using h1,fun z hz=>?_⟩;rcases qc.1 hz with hz|hz
 ·rw[zo (hne z (xi _ hz)).symm];exact h2 z (xi _ hz)
 ·rcases zv.1 hz with rfl|hz
  ·exact List.getElem?_set_self hlt
  ·rw[zo (hne z (xo _ hz)).symm];exact h2 z (xo _ (qp _ hz))
theorem Au.lt {α:Type} {L:List (Nat×α)} {o:List α} (h:Au L o) {i:Nat} {x:α} (hx:(i,x)∈L):i<o.length:=(zf.1 (h.get hx)).1
theorem Au.app {α:Type} {L:List (Nat×α)} {o:List α} (h:Au L o) (more:List α):Au L (o++more) :=
 ⟨h.1,fun x hx=>by rw[List.getElem?_append_left (h.lt (i:=x.1) (x:=x.2) hx)];exact h.2 x hx⟩
theorem Au.new {α:Type} {L:List (Nat×α)} {o:List α} (h:Au L o) (x:α):Au ((o.length,x)::L) (o++[x]):=by
 refine⟨?_,fun z hz=>?_⟩
 ·rw[zl,xz];refine⟨fun hm=>?_,h.1⟩;obtain⟨z,hz,e⟩:=List.mem_map.1 hm;have:=h.lt (i:=z.1) (x:=z.2) hz;simp only at e;omega
 ·rcases zv.1 hz with rfl|hz
  ·simp
  ·exact(h.app [x]).2 z hz
theorem Au.mapset {α:Type} {L:List (Nat×α)} {o:List α} {b:Nat} {x d:α} (f:α->α) (h:Au ((b,x)::L) o) (hf:∀z∈L,f z.2=z.2):Au L ((o.map f).set b d):=by
 obtain⟨h1,h2⟩:=h;rw[zl,xz] at h1;refine⟨h1.2,fun z hz=>?_⟩;have hne:¬b=z.1:=fun e=>h1.1 (by show b∈_;rw[e];exact ya hz);rw[zo hne,List.getElem?_map,h2 z (qp _ hz),Option.map_some,hf z hz]
theorem ZT {G:Gh} {I:Al} {y:Value} (h:Ab G I .nil y):Ab G I (.row 0 []) y:=by
 simp only[Ab] at h ⊢;exact⟨none,0,[],h,⟨Nat.le_refl _,fun ad h=>by cases h⟩,Ad.nil,by simp,by simp⟩
def G5 (b gen n:Nat) (xs:List AV):AV->AV
 | .agg cs=>.agg (cs.map (Dj b gen n xs))
 | x=>Dj b gen n xs x
theorem aF {G:Gh} {I:Al} {objs:List OB} {w:World} (hm:MemOk G I objs w) {b E sz gen n:Nat} {xs:List AV} (hb:objs[b]? = some (.orow E sz gen n xs)) (x:AV) (y:Value) (h:Ab G I x y):Ab (EA G b gen) (GA I G b w) (G5 b gen n xs x) y:=by
 cases x with
 | agg cs=>
  simp only[Ab,G5] at h ⊢;obtain⟨ys,h1,h2,h3⟩:=h;exact⟨ys,h1,Ox hm hb _ _ h2,h3⟩
 | _=>exact Rw hm hb _ _ h
theorem Uh {b gen n:Nat} {xs:List AV} {x:AV} (h:x.plain=true):Dj b gen n xs x=x:=by
 cases x<;>first|rfl|(simp[AV.plain] at h)
end
end Go.Proofs.YtbgaknpnkcdbfaaGreatDoor
namespace Go.Proofs.YtbgaknpnkcdbfaaGreatDoor.Sx
open Go.RowKit Go.WideShapes Go.ChangeShapes Go.ChangeAt
open List renaming append_nil->qm, getElem?_eq_getElem->zk, getElem?_eq_some_iff->zf, getElem?_map->je, mem_append->qc, mem_append_left->xi, mem_append_right->xo, mem_cons->zv, mem_cons_of_mem->qp, mem_cons_self->xh
inductive TT where
 | s
 | b
 | i (k:IntKind)
 | st (ts:List TT)
 | sl (t:TT)
 | rv
inductive RV where
 | mk (k:Int) (t:List UInt8) (ks:List (List UInt8)) (its:List RV)
mutual
def Jt:RV->List AV
 | .mk k t ks its=>[.i .i64 k,.s t,.row ks.length (ks.map .s),.row its.length (Kx its)]
def Kx:List RV->List AV
 | []=>[]
 | v::l=>Jt v++Kx l
end
mutual
def MT:RV->Prop
 | .mk k t ks its=>(Lit.int .i64 k).wf=true/\t.length<=140737488351232/\ks.length<=140737488351232/\(∀k∈ks,k.length<=140737488351232)/\its.length<=140737488351232/\J8 its
def J8:List RV->Prop
 | []=>True
 | v::l=>MT v/\J8 l
end
mutual
def FB:TT->List AV->Prop
 | .s,xs=>∃l:List UInt8,xs=[.s l]/\l.length<=140737488351232
 | .b,xs=>∃b,xs=[.b b]
 | .i k,xs=>∃n,xs=[.i k n]/\(Lit.int k n).wf=true
 | .st ts,xs=>MW ts xs
 | .sl t,xs=>∃gs:List (List AV),xs=[.row gs.length gs.flatten]/\gs.length<=140737488351232/\∀g∈gs,FB t g
 | .rv,xs=>∃r:RV,xs=Jt r/\MT r
def MW:List TT->List AV->Prop
 | [],xs=>xs=[]
 | t::ts,xs=>∃a b,xs=a++b/\FB t a/\MW ts b
end
def Xw:TT->AV->Prop
 | .st ts,x=>∃cs,x=.agg cs/\MW ts cs
 | .rv,x=>∃r:RV,x=.agg (Jt r)/\MT r
 | t,x=>FB t [x]
def WR:List TT->List AV->Prop
 | [],xs=>xs=[]
 | t::ts,xs=>∃x ys,xs=x::ys/\Xw t x/\WR ts ys
def GD (P:Program) (rc:TypeId->Option TT):Nat->List Field->Option (List TT)
 | o,[]=>some []
 | o,f::fs=>match rc f.type,GD P rc (o+P.cellsOf f.type) fs with
  | some t,some ts=>if f.offset=o then some (t::ts) else none
  | _,_=>none
def Kn (P:Program):List Field->Nat
 | []=>0
 | f::fs=>P.cellsOf f.type+Kn P fs
def M6 (P:Program) (t:TypeId):List Field->Bool
 | [a,b,c,d]=>(a.offset==0&&b.offset==1&&c.offset==2&&d.offset==3)&&(P.cellsOf t==4&&P.cellsOf a.type==1&&P.cellsOf b.type==1&&P.cellsOf c.type==1&&P.cellsOf d.type==1)&&decide (0<P.bytesOf t)&&(match P.underlying a.type,P.underlying b.type,P.underlying c.type,P.underlying d.type with
  | some (.int .i64),some .string,some (.slice e),some (.slice f)=>f==t&&P.cellsOf e==1&&decide (0<P.bytesOf e)&&(match P.underlying e with|some .string=>true|_=>false)
  | _,_,_,_=>false)
 | _=>false
def Dz (P:Program):Nat->TypeId->Option TT
 | 0,_=>none
 | d+1,t=>match P.underlying t with
  | some .string=>some .s
  | some .bool=>some .b
  | some (.int k)=>some (.i k)
  | some (.struct fs)=>if M6 P t fs.toList=true then some .rv else if P.cellsOf t=Kn P fs.toList then (GD P (Dz P d) 0 fs.toList).map .st else none
  | some (.slice e)=>if 0<P.cellsOf e/\0<P.bytesOf e then (Dz P d e).map .sl else none
  | _=>none
theorem V7 {H:Type} {P:Program} {e:TypeId}:∀{ds:List (DataW H)} {d:DataW H},d∈ds->∀n∈d.weights P e,n∈DataW.weightsAll P e ds
 | [],d,hd,n,hn=>by cases hd
 | d0::ds,d,hd,n,hn=>by
  simp only[DataW.weightsAll,qc];rcases zv.1 hd with rfl|hd
  ·exact .inl hn
  ·exact .inr (V7 hd n hn)
theorem SU {w:World} {G:Gh} {I:Al} {t:TT} (a:Addr) (c:Nat) (hI:∀g o v,w.cell? ⟨g,o,none⟩=some v->I g o v):∀k:Nat,
  (∀i,i<k->∃(g:List AV) (ys:List Value),ys.length=c/\(∀j,j<c->w.cell? ((a.add (i*c)).add j)=ys[j]?)/\Ad G I g ys/\FB t g/\∀u∈ys,u.oneCell'=true) ->
  ∃(gs:List (List AV)) (ys:List Value),gs.length=k/\ys.length=k*c/\Ad G I gs.flatten ys/\(∀g∈gs,FB t g)/\(∀u∈ys,u.oneCell'=true)/\∀j,j<k*c->w.cell? (a.add j)=ys[j]?
 | 0,_=>⟨[],[],rfl,by simp,Ad.nil,by simp,by simp,fun j hj=>by simp at hj⟩
 | k+1,h=>by
  obtain⟨gs,ys,h1,h2,h3,h4,h5,h6⟩:=SU a c hI k (fun i hi=>h i (by omega));obtain⟨g,zs,k1,k2,k3,k4,k5⟩:=h k (by omega);have hm:(k+1)*c=k*c+c:=Nat.succ_mul k c;refine⟨gs++[g],ys++zs,by simp[h1],by rw[List.length_append,h2,k1,hm],?_,?_,?_,?_⟩
  ·rw[List.flatten_append,List.flatten_cons,List.flatten_nil,qm];exact Ad.append h3 k3
  ·intro x hx;rcases qc.1 hx with hx|hx
   ·exact h4 x hx
   ·rw[List.mem_singleton] at hx;subst hx;exact k4
  ·intro u hu;rcases qc.1 hu with hu|hu
   ·exact h5 u hu
   ·exact k5 u hu
  ·intro j hj
   by_cases hjk:j<k*c
   ·rw[h6 j hjk,List.getElem?_append_left (by omega)]
   ·have:=k2 (j - k*c) (by omega);rw[Addr.add_add,show k*c+(j - k*c)=j by omega] at this;rw[this,List.getElem?_append_right (by omega),h2]
theorem ZW {a:Addr} {j:Nat} (ha:a.spot=none):a.add j=⟨a.block,a.off+j,none⟩:=by
 cases a
 simp only at ha;subst ha;unfold Addr.add
 split
 ·rename_i h;subst h;rfl
 ·rfl
section
variable {H:Type} {enc:TypeId×Value->H} {P:Program} {w:World} {base:Nat} {spare:Nat->Bool} {held:Bool} {G:Gh} {I:Al}
theorem UC (d:Nat) (ih:∀(t:TypeId) (tt:TT) (fuel:Nat) (cs:List Value) (x:DataW H×List MemPlace),Dz P d t=some tt->DataW.trod enc P w base spare held fuel t cs=some x->(∀n∈x.1.weights P t,n<=reachBytes)->∃xs,Ad G I xs cs/\FB tt xs/\∀u∈cs,u.oneCell'=true) (n:Nat) :
  ∀(fs:List Field) (ts:List TT) (o:Nat) (cs:List Value),GD P (Dz P d) o fs=some ts->cs.length=o+Kn P fs->(∀f∈fs,∃x,DataW.trod enc P w base spare held n f.type ((cs.drop f.offset).take (P.cellsOf f.type))=some x/\∀m∈x.1.weights P f.type,m<=reachBytes) ->
   ∃xs,Ad G I xs (cs.drop o)/\MW ts xs/\∀u∈cs.drop o,u.oneCell'=true
 | [],ts,o,cs,ht,hl,hf=>by
  simp only[GD,Option.some.injEq] at ht;subst ht;have:cs.drop o=[]:=List.drop_eq_nil_of_le (by simp[Kn] at hl;omega);rw[this];exact⟨[],Ad.nil,rfl,by simp⟩
 | f::fs,ts,o,cs,ht,hl,hf=>by
  simp only[GD] at ht
  split at ht
  ·rename_i t ts' h1 h2
   split at ht
   ·rename_i ho;injection ht with ht;subst ht
    obtain⟨x,hx,hxw⟩:=hf f (xh ..);rw[ho] at hx;obtain⟨xs,k1,k2,k3⟩:=ih _ _ _ _ _ h1 hx hxw;simp only[Kn] at hl;obtain⟨ys,m1,m2,m3⟩:=UC d ih n fs ts' (o+P.cellsOf f.type) cs h2 (by omega) (fun f' hf'=>hf f' (qp _ hf'));have e:cs.drop o=(cs.drop o).take (P.cellsOf f.type)++cs.drop (o+P.cellsOf f.type):=by
     rw[<-List.drop_drop,List.take_append_drop]
    refine⟨xs++ys,?_,?_,?_⟩
    ·rw[e];exact Ad.append k1 m1
    ·exact⟨xs,ys,rfl,k2,m2⟩
    ·rw[e];intro u hu;rcases qc.1 hu with hu|hu
     ·exact k3 u hu
     ·exact m3 u hu
   ·cases ht
  ·cases ht
theorem PF (hI:∀g o v,w.cell? ⟨g,o,none⟩=some v->I g o v) (hspa:∀b,spare b=true) {t e:TypeId} {te:TT} {fuel:Nat} {cs:List Value} {x:DataW H×List MemPlace} (hu:P.underlying t=some (.slice e)) (hc:0<P.cellsOf e/\0<P.bytesOf e)
  (ih:∀(n:Nat) (ys:List Value) (x:DataW H×List MemPlace),n<fuel->DataW.trod enc P w base spare held n e ys=some x->(∀n∈x.1.weights P e,n<=reachBytes)->∃g,Ad G I g ys/\FB te g/\∀u∈ys,u.oneCell'=true)
  (h:DataW.trod enc P w base spare held fuel t cs=some x) (hwt:∀n∈x.1.weights P t,n<=reachBytes):∃xs,Ad G I xs cs/\FB (.sl te) xs/\∀u∈cs,u.oneCell'=true:=by
 rcases DataW.trod_slice hu h with ⟨rfl,rfl⟩|⟨a,len,cap,elems,rest,n,hfu,rfl,rfl,hb,hl,hm,hlen,hel,hsr,_⟩
 ·exact⟨[.row 0 []],Ad.cons (by simp only[Ab];exact⟨none,0,[],rfl,⟨Nat.le_refl _,fun ad h=>by cases h⟩,Ad.nil,by simp,by simp⟩) Ad.nil,⟨[],rfl,by simp,by simp⟩,by simp;rfl⟩
 ·have hw2:(elems.length+rest.length)*P.bytesOf e<=reachBytes:=by
   have:=hwt ((elems.map (·.1)).length+(rest.map (·.1)).length |> (·*P.bytesOf e)) (by simp[DataW.weights,hu]);simpa using this
  have hel2:elems.length<=140737488351232:=by
   have h1:elems.length*1<=(elems.length+rest.length)*P.bytesOf e:=Nat.mul_le_mul (by omega) hc.2;have:reachBytes=140737488351232:=rfl;omega
  have hel3:∀i,i<len->∃(g:List AV) (ys:List Value),ys.length=P.cellsOf e/\(∀j,j<P.cellsOf e->w.cell? ((a.add (i*P.cellsOf e)).add j)=ys[j]?)/\Ad G I g ys/\FB te g/\∀u∈ys,u.oneCell'=true:=by
   intro i hi;have h1:=hel i hi;have hil:i<elems.length:=by omega
   rw[zk hil,Option.bind_eq_some_iff] at h1;obtain⟨ys,y1,y2⟩:=h1;obtain⟨_,z1,z2⟩:=World.cells?_some y1;obtain⟨g,g1,g2,g3⟩:=ih n ys _ (by omega) y2 (fun m hm=>hwt m (by
    simp only[DataW.weights,hu,zv,qc];exact .inr (.inl (V7 (List.mem_map.2 ⟨_,List.getElem_mem hil,rfl⟩) m hm))))
   exact⟨g,ys,z1,z2,g1,g2,g3⟩
  obtain⟨gs,ys,k1,k2,k3,k4,k5,k6⟩:=SU (G:=G) a (P.cellsOf e) hI len hel3;have hsp0:cap≠0->a.spot=none:=by
   intro hcap
   by_cases hl0:0<len
   ·have hp:0<len*P.cellsOf e:=Nat.mul_pos hl0 hc.1;have h2:=k6 0 hp;rw[zk (by omega)] at h2;have:=World.cell?_spot h2;simpa[Addr.add] using this
   ·have hr:=(hsr (hspa _)).2 0 (by omega);have hrl:=(hsr (hspa _)).1;rw[zk (by omega),Option.bind_eq_some_iff] at hr;obtain⟨zs,y1,_⟩:=hr;obtain⟨_,z1,z2⟩:=World.cells?_some y1;have h2:=z2 0 hc.1;rw[zk (by omega)] at h2;have:=World.cell?_spot h2;have hl1:len=0:=by omega
    subst hl1;simpa[Addr.add] using this
  refine⟨[.row gs.length gs.flatten],Ad.cons ?_ Ad.nil,⟨gs,rfl,by omega,k4⟩,by simp;rfl⟩;simp only[Ab];refine⟨some a,cap,ys,by rw[k1],⟨by omega,fun ad h hc0=>by injection h with h;subst h;exact hsp0 hc0⟩,k3,k5,fun j u hj=>?_⟩;have hjl:=(zf.1 hj).1;have hlp:len≠0:=by rintro rfl;rw[k2,Nat.zero_mul] at hjl;omega
  have hs:=hsp0 (by omega);refine⟨a.block,a.off,by cases a;simp only at hs;subst hs;rfl,hI _ _ _ ?_⟩;have h2:=k6 j (k2▸hjl);rw[ZW hs] at h2;rw[h2,hj]
theorem XK {t:TypeId} {fs:List Field} (h:M6 P t fs=true):∃a b c d e,fs=[a,b,c,d]/\(a.offset=0/\b.offset=1/\c.offset=2/\d.offset=3)/\(P.cellsOf t=4/\P.cellsOf a.type=1/\P.cellsOf b.type=1/\P.cellsOf c.type=1/\P.cellsOf d.type=1)/\0<P.bytesOf t /\
  P.underlying a.type=some (.int .i64)/\P.underlying b.type=some .string/\P.underlying c.type=some (.slice e)/\P.underlying d.type=some (.slice t)/\P.cellsOf e=1/\0<P.bytesOf e/\P.underlying e=some .string:=by
 unfold M6 at h
 split at h
 ·rename_i a b c d;simp only[Bool.and_eq_true,beq_iff_eq,decide_eq_true_eq] at h;obtain⟨⟨⟨h1,h2⟩,h3⟩,h4⟩:=h
  split at h4
  ·rename_i e f u1 u2 u3 u4;simp only[Bool.and_eq_true,beq_iff_eq,decide_eq_true_eq] at h4;obtain⟨⟨⟨k1,k2⟩,k3⟩,k4⟩:=h4;subst k1
   split at k4
   ·rename_i u5;exact⟨a,b,c,d,e,rfl,⟨h1.1.1.1,h1.1.1.2,h1.1.2,h1.2⟩,⟨h2.1.1.1.1,h2.1.1.1.2,h2.1.1.2,h2.1.2,h2.2⟩,h3,u1,u2,u3,u4,k2,k3,u5⟩
   ·cases k4
  ·cases h4
 ·cases h
theorem Sl:∀gs:List (List AV),(∀g∈gs,FB .s g)->∃ks:List (List UInt8),gs.flatten=ks.map .s/\ks.length=gs.length/\∀k∈ks,k.length<=140737488351232
 | [],_=>⟨[],rfl,rfl,by simp⟩
 | g::gs,h=>by
  obtain⟨ks,h1,h2,h3⟩:=Sl gs (fun g hg=>h g (qp _ hg));obtain⟨l,hl,hl2⟩:=h g (xh ..);refine⟨l::ks,by rw[List.flatten_cons,hl,h1];rfl,by simp[h2],fun k hk=>?_⟩;rcases zv.1 hk with rfl|hk
  ·exact hl2
  ·exact h3 k hk
theorem SX:∀gs:List (List AV),(∀g∈gs,FB .rv g)->∃rs:List RV,gs.flatten=Kx rs/\rs.length=gs.length/\J8 rs
 | [],_=>⟨[],by rw[Kx];rfl,rfl,by rw[J8];trivial⟩
 | g::gs,h=>by
  obtain⟨rs,h1,h2,h3⟩:=SX gs (fun g hg=>h g (qp _ hg));obtain⟨r,hr,hr2⟩:=h g (xh ..);exact⟨r::rs,by rw[List.flatten_cons,hr,h1,Kx],by simp[h2],by rw[J8];exact⟨hr2,h3⟩⟩
theorem YX (hI:∀g o v,w.cell? ⟨g,o,none⟩=some v->I g o v) (hspa:∀b,spare b=true) {t:TypeId} {fs:Array Field} (hu:P.underlying t=some (.struct fs)) (hrv:M6 P t fs.toList=true):∀(m fuel:Nat) (cs:List Value) (x:DataW H×List MemPlace),fuel<m->DataW.trod enc P w base spare held fuel t cs=some x->(∀n∈x.1.weights P t,n<=reachBytes)->∃xs,Ad G I xs cs/\FB .rv xs/\∀u∈cs,u.oneCell'=true:=by
 intro m
 induction m with
 | zero=>intro fuel cs x hm;omega
 | succ m ih=>
  intro fuel cs x hm h hwt;obtain⟨a,b,c,d,e,hfs,⟨o1,o2,o3,o4⟩,⟨c0,c1,c2,c3,c4⟩,hb,u1,u2,u3,u4,e1,e2,e3⟩:=XK hrv;obtain⟨xs,n,hfu,rfl,hlen,hxl,hf⟩:=DataW.trod_struct hu h;have hsz:fs.size=4:=by rw[<-Array.length_toList,hfs];rfl
  have gf:∀j,fs[j]? = [a,b,c,d][j]?:=fun j=>by rw[<-hfs,Array.getElem?_toList]
  have hall:∀(j:Nat) (f:Field),[a,b,c,d][j]? = some f->∃x,DataW.trod enc P w base spare held n f.type ((cs.drop f.offset).take (P.cellsOf f.type))=some x/\∀m∈x.1.weights P f.type,m<=reachBytes:=by
   intro j f hj;have h1:=hf j f (by rw[gf];exact hj);have hjl:j<xs.length:=by
    rw[hxl,hsz];exact(zf.1 hj).1
   rw[zk hjl] at h1;refine⟨_,h1,fun m hm=>hwt m ?_⟩;have hj2:(fs.toList.map (·.type))[j]? = some f.type:=by rw[je,hfs,hj];rfl
   have:=DataW.weights_mem_each hj2 (show (xs.map (·.1))[j]? = some xs[j].1 by rw[je,zk hjl];rfl) m hm;simpa[DataW.weights,hu] using this
  obtain⟨xa,ha,wa⟩:=hall 0 a rfl;obtain⟨xb,hb',wb⟩:=hall 1 b rfl;obtain⟨xc,hc',wc⟩:=hall 2 c rfl;obtain⟨xd,hd',wd⟩:=hall 3 d rfl;rw[o1,c1] at ha;rw[o2,c2] at hb';rw[o3,c3] at hc';rw[o4,c4] at hd';rw[c0] at hlen;obtain⟨v0,v1,v2,v3,rfl⟩:∃v0 v1 v2 v3,cs=[v0,v1,v2,v3]:=by
   match cs,hlen with
   | [v0,v1,v2,v3],_=>exact⟨v0,v1,v2,v3,rfl⟩
  simp only[List.drop_zero,List.drop_succ_cons,List.take_succ_cons,List.take_zero] at ha hb' hc' hd';obtain⟨i0,r0,_,w0⟩:=DataW.trod_int u1 ha;injection r0 with r0 _
  obtain⟨s0,r1,rx1,_⟩:=DataW.trod_string u2 hb';injection r1 with r1 _
  subst r0 r1;obtain⟨ys2,d2,⟨g2,q2,l2,m2⟩,oc2⟩:=PF (te:=.s) (G:=G) (I:=I) hI hspa u3 ⟨by omega,e2⟩ (fun n' ys y hn' hy hyw=>by
   obtain⟨s,rfl,rfl,hs⟩:=DataW.trod_string e3 hy;exact⟨[.s s.data.toList],Ad.cons (by simp[Ab]) Ad.nil,⟨_,rfl,hyw _ (by simp[DataW.weights])⟩,by simp;rfl⟩) hc' wc
  obtain⟨ys3,d3,⟨g3,q3,l3,m3⟩,oc3⟩:=PF (te:=.rv) (G:=G) (I:=I) hI hspa u4 ⟨by omega,hb⟩ (fun n' ys y hn' hy hyw=>ih n' ys y (by omega) hy hyw) hd' wd;subst q2 q3;obtain⟨ks,k1,k2,k3⟩:=Sl g2 m2;obtain⟨rs,j1,j2,j3⟩:=SX g3 m3;refine⟨Jt (.mk i0 s0.data.toList ks rs),?_,⟨_,rfl,?_⟩,?_⟩
  ·rw[Jt,k2,j2,<-k1,<-j1];exact Ad.cons (by simp[Ab]) (Ad.cons (by simp[Ab]) (Ad.append d2 d3))
  ·rw[MT];refine⟨w0,?_,by omega,k3,by omega,j3⟩;subst rx1;exact wb _ (by simp[DataW.weights])
  ·intro u hu';simp only[zv,List.not_mem_nil,or_false] at hu';rcases hu' with rfl|rfl|rfl|rfl
   ·rfl
   ·rfl
   ·exact oc2 _ (by simp)
   ·exact oc3 _ (by simp)
theorem dU (hI:∀g o v,w.cell? ⟨g,o,none⟩=some v->I g o v) (hspa:∀b,spare b=true):∀(d:Nat) (t:TypeId) (tt:TT) (fuel:Nat) (cs:List Value) (x:DataW H×List MemPlace),Dz P d t=some tt->DataW.trod enc P w base spare held fuel t cs=some x->(∀n∈x.1.weights P t,n<=reachBytes)->∃xs,Ad G I xs cs/\FB tt xs/\∀u∈cs,u.oneCell'=true:=by
 intro d
 induction d with
 | zero=>intro t tt fuel cs x ht;simp[Dz] at ht
 | succ d ih=>
  intro t tt fuel cs x ht h hwt;simp only[Dz] at ht
  split at ht
  ·rename_i hu;injection ht with ht;subst ht
   obtain⟨s,rfl,rfl,hs⟩:=DataW.trod_string hu h;refine⟨[.s s.data.toList],Ad.cons (by simp[Ab]) Ad.nil,⟨_,rfl,?_⟩,by simp;rfl⟩;exact hwt _ (by simp[DataW.weights])
  ·rename_i hu;injection ht with ht;subst ht
   obtain⟨b,rfl,_⟩:=DataW.trod_bool hu h;exact⟨[.b b],Ad.cons (by simp[Ab]) Ad.nil,⟨_,rfl⟩,by simp;rfl⟩
  ·rename_i k hu;injection ht with ht;subst ht
   obtain⟨n,rfl,_,hw⟩:=DataW.trod_int hu h;exact⟨[.i k n],Ad.cons (by simp[Ab]) Ad.nil,⟨_,rfl,hw⟩,by simp;rfl⟩
  ·rename_i fs hu
   split at ht
   ·rename_i hrv;injection ht with ht;subst ht
    exact YX hI hspa hu hrv (fuel+1) fuel cs x (by omega) h hwt
   split at ht
   ·rename_i hc
    cases hts:GD P (Dz P d) 0 fs.toList with
    | none=>rw[hts] at ht;cases ht
    | some ts=>
     rw[hts] at ht;injection ht with ht;subst ht
     obtain⟨xs,n,_,rfl,hlen,hxl,hf⟩:=DataW.trod_struct hu h;have hall:∀f∈fs.toList,∃x,DataW.trod enc P w base spare held n f.type ((cs.drop f.offset).take (P.cellsOf f.type))=some x/\∀m∈x.1.weights P f.type,m<=reachBytes:=by
      intro f hfm;obtain⟨j,hj⟩:=List.mem_iff_getElem?.1 hfm;have h1:=hf j f (by simpa using hj);have hjl:j<xs.length:=by
       rw[hxl];have:=(zf.1 hj).1;simpa using this
      rw[zk hjl] at h1;refine⟨_,h1,fun m hm=>hwt m ?_⟩;have hj2:(fs.toList.map (·.type))[j]? = some f.type:=by rw[je,hj];rfl
      have:=DataW.weights_mem_each hj2 (show (xs.map (·.1))[j]? = some xs[j].1 by rw[je,zk hjl];rfl) m hm;simpa[DataW.weights,hu] using this
     obtain⟨ys,k1,k2,k3⟩:=UC d ih n fs.toList ts 0 cs hts (by rw[hlen,hc];omega) hall;exact⟨ys,by simpa using k1,k2,by simpa using k3⟩
   ·cases ht
  ·rename_i e hu
   split at ht
   ·rename_i hc
    cases hte:Dz P d e with
    | none=>rw[hte] at ht;cases ht
    | some te=>
     rw[hte] at ht;injection ht with ht;subst ht
     exact PF hI hspa hu hc (fun n ys y _ hy hyw=>ih e te n ys y hte hy hyw) h hwt
   ·cases ht
  ·cases ht
theorem bP (hI:∀g o v,w.cell? ⟨g,o,none⟩=some v->I g o v) (hspa:∀b,spare b=true) {r:Reach} {b0:Nat} {t:TypeId} {tt:TT} {v:Value} {dd:DataW H} {ps:List MemPlace} (ht:Dz P 20 t=some tt) (hv:Value.okWide P w r b0 t v) (h:DataW.Trod enc P w base spare held t v dd ps) (hwt:∀n∈dd.weights P t,n<=reachBytes):∃x,Ab G I x v/\Xw tt x:=by
 obtain⟨fuel,hf⟩:=h;obtain⟨xs,h1,h2,h3⟩:=dU hI hspa 20 t tt fuel _ _ ht hf hwt;have ht':=ht;unfold Dz at ht
 cases tt with
 | st ts=>
  split at ht<;>first|(injection ht with ht;cases ht;done)|skip
  ·rename_i fs hu;obtain⟨cs,rfl,_⟩:=okWide_struct hu hv;refine⟨.agg xs,?_,⟨xs,rfl,h2⟩⟩;simp only[Ab];exact⟨cs.toList,by simp,h1,h3⟩
  ·split at ht
   ·cases hq:Dz P 19 _ with
    | none=>rw[hq] at ht;cases ht
    | some q=>rw[hq] at ht;injection ht with ht;cases ht
   ·cases ht
  ·cases ht
 | rv=>
  split at ht<;>first|(injection ht with ht;cases ht;done)|skip
  ·rename_i fs hu;obtain⟨cs,rfl,_⟩:=okWide_struct hu hv;obtain⟨r,rfl,hr⟩:=h2;refine⟨.agg (Jt r),?_,⟨r,rfl,hr⟩⟩;simp only[Ab];exact⟨cs.toList,by simp,h1,h3⟩
  ·split at ht
   ·cases hq:Dz P 19 _ with
    | none=>rw[hq] at ht;cases ht
    | some q=>rw[hq] at ht;injection ht with ht;cases ht
   ·cases ht
  ·cases ht
 | sl t=>
  split at ht<;>first|(injection ht with ht;cases ht;done)|skip
  ·split at ht
   ·injection ht with ht;cases ht
   split at ht
   ·cases hq:GD P (Dz P 19) 0 _ with
    | none=>rw[hq] at ht;cases ht
    | some q=>rw[hq] at ht;injection ht with ht;cases ht
   ·cases ht
  ·rename_i e hu;obtain⟨a,len,cap,rfl⟩:=okWide_slice hu hv;obtain⟨gs,rfl,hl,hg⟩:=h2;simp only[Ad] at h1;obtain⟨y,ys,e1,k1,k2⟩:=h1;subst k2;have e2:[Value.slice a len cap]=[y]:=e1;injection e2 with e2 _
   subst e2;exact⟨.row gs.length gs.flatten,k1,⟨gs,rfl,hl,hg⟩⟩
  ·cases ht
 | s=>
  split at ht<;>first|(injection ht with ht;cases ht;done)|skip
  ·rename_i hu;obtain⟨s,rfl⟩:=okWide_string hu hv;obtain⟨l,rfl,hl⟩:=h2;simp only[Ad] at h1;obtain⟨y,ys,e,k1,k2⟩:=h1;subst k2;have e2:[Value.string s]=[y]:=e;injection e2 with e2 _
   subst e2;exact⟨.s l,k1,⟨l,rfl,hl⟩⟩
  ·split at ht
   ·injection ht with ht;cases ht
   split at ht
   ·cases hq:GD P (Dz P 19) 0 _ with
    | none=>rw[hq] at ht;cases ht
    | some q=>rw[hq] at ht;injection ht with ht;cases ht
   ·cases ht
  ·split at ht
   ·cases hq:Dz P 19 _ with
    | none=>rw[hq] at ht;cases ht
    | some q=>rw[hq] at ht;injection ht with ht;cases ht
   ·cases ht
  ·cases ht
 | b=>
  split at ht<;>first|(injection ht with ht;cases ht;done)|skip
  ·rename_i hu;obtain⟨s,rfl⟩:=okWide_bool hu hv;obtain⟨l,rfl⟩:=h2;simp only[Ad] at h1;obtain⟨y,ys,e,k1,k2⟩:=h1;subst k2;have e2:[Value.bool s]=[y]:=e;injection e2 with e2 _
   subst e2;exact⟨.b l,k1,⟨l,rfl⟩⟩
  ·split at ht
   ·injection ht with ht;cases ht
   split at ht
   ·cases hq:GD P (Dz P 19) 0 _ with
    | none=>rw[hq] at ht;cases ht
    | some q=>rw[hq] at ht;injection ht with ht;cases ht
   ·cases ht
  ·split at ht
   ·cases hq:Dz P 19 _ with
    | none=>rw[hq] at ht;cases ht
    | some q=>rw[hq] at ht;injection ht with ht;cases ht
   ·cases ht
  ·cases ht
 | i k=>
  split at ht<;>first|(injection ht with ht;cases ht;done)|skip
  ·rename_i k' hu;injection ht with ht;injection ht with ht;subst ht
   obtain⟨s,rfl⟩:=okWide_int hu hv;obtain⟨l,rfl,hl⟩:=h2;simp only[Ad] at h1;obtain⟨y,ys,e,k1,k2⟩:=h1;subst k2;have e2:[Value.int _ s]=[y]:=e;injection e2 with e2 _
   subst e2;exact⟨.i _ l,k1,⟨l,rfl,hl⟩⟩
  ·split at ht
   ·injection ht with ht;cases ht
   split at ht
   ·cases hq:GD P (Dz P 19) 0 _ with
    | none=>rw[hq] at ht;cases ht
    | some q=>rw[hq] at ht;injection ht with ht;cases ht
   ·cases ht
  ·split at ht
   ·cases hq:Dz P 19 _ with
    | none=>rw[hq] at ht;cases ht
    | some q=>rw[hq] at ht;injection ht with ht;cases ht
   ·cases ht
  ·cases ht
theorem open_args (hI:∀g o v,w.cell? ⟨g,o,none⟩=some v->I g o v) (hspa:∀b,spare b=true) {r:Reach} {b0:Nat}:∀(ts:List TypeId) (tts:List TT) (vs:List Value) (ds:List (DataW H)) (ps:List MemPlace),ts.mapM (Dz P 20)=some tts->(∀(j:Nat) t v,ts[j]? = some t->vs[j]? = some v->Value.okWide P w r b0 t v)->DataW.TrodAll enc P w base spare held ts vs ds ps->(∀n∈DataW.weightsEach P ts ds,n<=reachBytes)->∃xs,Ad G I xs vs/\WR tts xs
 | [],tts,vs,ds,ps,ht,hv,h,hwt=>by
  simp at ht;subst ht;obtain⟨rfl,_,_⟩:=trodAll_nil h;exact⟨[],Ad.nil,rfl⟩
 | t::ts,tts,vs,ds,ps,ht,hv,h,hwt=>by
  simp only[List.mapM_cons,Option.bind_eq_bind,Option.pure_def] at ht
  cases h1:Dz P 20 t with
  | none=>simp[h1] at ht
  | some tt=>
   cases h2:ts.mapM (Dz P 20) with
   | none=>simp[h1,h2] at ht
   | some tts'=>
    simp[h1,h2] at ht;subst ht;obtain⟨v,vs',d,ds',p,q,rfl,rfl,rfl,k1,k2⟩:=trodAll_cons h;obtain⟨x,x1,x2⟩:=bP (G:=G) (I:=I) hI hspa h1 (hv 0 t v rfl rfl) k1 (fun n hn=>hwt n (by simp only[DataW.weightsEach,qc];exact .inl hn));obtain⟨xs,y1,y2⟩:=open_args hI hspa ts tts' vs' ds' q h2 (fun j t v hj hv'=>hv (j+1) t v (by simpa using hj) (by simpa using hv')) k2 (fun n hn=>hwt n (by simp only[DataW.weightsEach,qc];exact .inr hn));exact⟨x::xs,Ad.cons x1 y1,⟨x,xs,rfl,x2,y2⟩⟩
theorem Vx (hl:laidOutB P=true) {W W':World} {sp':Nat->Bool}:∀(ts:List TypeId) (vs:List Value) (ds:List (DataW H)) (ps:List MemPlace),(∀t∈ts,P.readableRec t=true/\t<P.types.size)->DataW.TrodAll enc P W 0 (fun _=>true) true ts vs ds ps->Below W.heap.size W W'->(∀p∈ps,p.block<W.heap.size)->(∀p∈ps,sp' p.block=true)->DataW.TrodAll enc P W' 0 sp' true ts vs ds ps
 | [],vs,ds,ps,hr,h,hb,hlt,hs=>by
  obtain⟨rfl,rfl,rfl⟩:=trodAll_nil h;exact trodAll_mk0
 | t::ts,vs,ds,ps,hr,h,hb,hlt,hs=>by
  obtain⟨v,vs',d,ds',p,q,rfl,rfl,rfl,k1,k2⟩:=trodAll_cons h;have h1:=hr t (xh ..);exact trodAll_cons_mk (WideElems.Trod_stays hl h1.1 h1.2 k1 (fun x hx=>hb.same (hlt x (xi _ hx))) (fun x hx=>hs x (xi _ hx)))
   (Vx hl ts vs' ds' q (fun t ht=>hr t (qp _ ht)) k2 hb (fun x hx=>hlt x (xo _ hx)) (fun x hx=>hs x (xo _ hx)))
end
theorem post_true {H:Type} {enc:TypeId×Value->H} {P:Program} {f:Func} {s:ChangeSpec} {apart fresh handsOn again:Bool} {W W':World} {args:Array Value} {ds gs:List (DataW H)} {before:List MemPlace}
  (hl:laidOutB P=true) (hts:∀t∈f.params.toList,P.readableRec t=true/\t<P.types.size) {tb:TypeId} (hrt:f.resultTypes=#[tb]) (hub:P.underlying tb=some .bool) (hsv:s.vars=[])
  (hW:DataW.Whole enc P f.params.toList s.vars apart W args.toList ds gs before) (hfn:s.fn H (ds++gs)={ results:=[.lit (.bool true)],args:=ds }) (hb:Below W.heap.size W W'):s.post enc P f apart fresh handsOn again W args (.bool true) W':=by
 have hlt:∀p∈before,p.block<W.heap.size:=fun p hp=>hW.lt p hp;have hold:∀p∈before,(fun b=>decide (b<W.heap.size)) p.block=true:=fun p hp=>by simpa using hlt p hp
 have hW':=hW;obtain⟨p,q,hA,hV,rfl,hz,hn⟩:=hW';rw[hsv] at hV;have hvars:gs=[]/\q=[]:=by
  cases gs with
  | nil=>exact⟨rfl,hV⟩
  | cons g gs=>exact hV.elim
 obtain⟨rfl,rfl⟩:=hvars;simp only[qm] at *;have hres:∀(b:Nat) (sp:Nat->Bool) (hd:Bool),DataW.TrodAll enc P W' b sp hd f.resultTypes.toList ((Value.bool true).resultList f.resultTypes.size) (s.fn H ds).results []:=by
  intro b sp hd;rw[hfn,hrt];exact trodAll_cons_mk (shut_bool hub _) trodAll_mk0
 have hargs:∀sp:Nat->Bool,(∀x∈p,sp x.block=true)->DataW.TrodAll enc P W' 0 sp true f.params.toList args.toList (s.fn H ds).args p:=by
  intro sp hsp;rw[hfn];exact Vx hl _ _ _ _ hts hA hb hlt hsp
 have hvs:∀sp:Nat->Bool,DataW.TrodVars enc P W' sp s.vars (s.fn H ds).vars []:=by
  intro sp;rw[hsv,hfn];rfl
 refine⟨ds,[],p,[],p,[],hW,by simpa using hres _ _ _,by simpa using hargs _ hold,by simpa using hvs _,World.keptBut_mono (fun x hx=>⟨hx,?_⟩) (hb.frame (·∈p)),fun _=>?_⟩
 ·exact Or.inr (Or.inl hx)
 ·refine⟨?_,_,_,([]++p)++[],⟨[]++p,[],trodAll_append (by simpa using hargs _ (fun _ _=>rfl)) (by simpa using hres _ _ _),by simpa using hvs _,rfl,?_,?_⟩,?_⟩
  ·intro j t r hj hr;rw[hrt] at hj hr
   cases j with
   | zero=>
    simp at hj;subst hj;have:r=.bool true:=by simpa[Value.resultList] using hr.symm
    subst this;exact okWide_bool_mk hub _
   | succ j=>simp at hj
  ·intro b off hp;have hin:MemPlace.cell b off∈p:=by simpa using hp
   rw[hb.frozen (hlt _ hin)];exact hz b off hin
  ·intro ha;simpa using hn ha
  ·intro x hx _;simpa using hx
section
variable {H:Type} {enc:TypeId×Value->H}
end
end Go.Proofs.YtbgaknpnkcdbfaaGreatDoor.Sx
