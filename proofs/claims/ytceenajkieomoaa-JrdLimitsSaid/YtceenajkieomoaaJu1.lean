/- The texts that the proofs of these statements reach, in their order, as few files. -/
import Derived.Test.YtceenajkieomoaaProg
import Derived.WalkKit
import Derived.WalkLawsBesides
import Derived.WalkSmall
import Derived.WalkSpells
import Derived.Lib.Hide
import Derived.Lib.IndexAny
import Derived.ShutString
import Derived.Lib.Strings
import Derived.Deep.QuietTactic
import Derived.BigQuiet
import Derived.Shelf.Slices.Turned
import Derived.Ground.Names2Prog
import Derived.Shelf.Slices.Clone
import Derived.Ground.SlgnProg
import Derived.Shelf.SlicesE.Clone
import Derived.Laws.BytesArg
import Derived.Laws.IdiomStrings
import Derived.Lib.ConvBytes
import Derived.Lib.AppendStr
import Derived.Laws.Rows
import Derived.Lib.ItoaMem
import Derived.Lib.ItoaLen
import Derived.Orders
import Derived.Deep.MidRow
import Derived.Laws.IdiomCopy
import Derived.Maps.AppendAt
import Derived.Laws.StructEq
import Derived.Laws.Slices
set_option linter.unusedVariables false
set_option linter.unusedSimpArgs false
set_option maxRecDepth 100000
namespace Go.Proofs.Ytceenajkieomoaa
open Go.RowKit
theorem zcj {a b:Bool} (h:a=b):Ending.returned (.bool a)=.returned (.bool b):=by rw[h]
theorem zda {k:IntKind} {a b:Int} (h:a=b):Ending.returned (.int k a)=.returned (.int k b):=by rw[h]
theorem ret_str {a b:ByteArray} (h:a=b):Ending.returned (.string a)=.returned (.string b):=by rw[h]
theorem dd {p q:Prop} [Decidable p] [Decidable q] (h:p↔q):decide p=decide q:=decide_eq_decide.2 h
theorem dt {q:Prop} [Decidable q] (h:q):true=decide q:=(decide_eq_true h).symm
theorem df {q:Prop} [Decidable q] (h:¬q):false=decide q:=(decide_eq_false h).symm
abbrev S (l:List UInt8):ByteArray:=⟨l.toArray⟩
theorem zdA (l:List UInt8):(S l).size=l.length:=size_of_list l
theorem S_of (s:ByteArray):S s.data.toList=s:=rfl
theorem zap (s:ByteArray):s.data.toList.length=s.size:=rfl
theorem zgN (s:ByteArray) (k:Nat) (h:k<s.size):s.data.toList[k]'(by rw[zap];exact h)=s[k]:=rfl
theorem zk0 (s:ByteArray) (k:Nat) (h:k<s.size):s.data.toList.getD k 0=s[k]:=by
 rw[List.getD_eq_getElem?_getD,List.getElem?_eq_getElem (by rw[zap];exact h)];rfl
theorem zfx (s:ByteArray) (k:Nat) (h:k<s.size):s.data.toList.take (k+1)=s.data.toList.take k++[s[k]]:=by
 rw[List.take_succ_eq_append_getElem (by simpa using h)];rfl
theorem zcd (s:ByteArray) (k:Nat) (h:k<s.size):s.data.toList.drop k=s[k]::s.data.toList.drop (k+1):=by
 rw[List.drop_eq_getElem_cons (by simpa using h)];rfl
theorem S_nil_of {s:ByteArray} (h:s.size=0):s=S []:=by
 have:s.data.toList=[]:=List.eq_nil_of_length_eq_zero (by rw[zap];exact h);rw[<-S_of s,this]
def Qb (w w':World):Prop:=Below w.heap.size w w'
theorem Qb.refl (w:World):Qb w w:=Below.refl _ _
theorem Qb.trans {a b c:World} (h:Qb a b) (k:Qb b c):Qb a c:=Below.trans h (Below.mono k h.size)
theorem Qb.alloc {a b:World} (h:Qb a b) (o:Obj):Qb a (b.alloc o):=Below.alloc h h.size o
theorem Qb.drew {a b:World} (h:Qb a b):Qb a b.drew:=Below.drew h
theorem Qb.drewN {a b:World} (h:Qb a b) (n:Nat):Qb a (b.drewN n):=below_drewN h n
theorem Qb.set {a b:World} (h:Qb a b) {p:Addr} (hp:a.heap.size<=p.block) (u:Value):Qb a (b.setCell p u):=Below.setCell h hp u
theorem Qb.grown {a b c:World} (h:Qb a b) {row:Option Nat} (hg:b.grownBy c row) (hr:∀k,row=some k->a.heap.size<=k):Qb a c:=Below.grown h hg h.size hr
theorem Qb.size {a b:World} (h:Qb a b):a.heap.size<=b.heap.size:=Below.size h
def resV (r:Int×List UInt8):Value:=.tuple #[.string (S r.2),.int .i64 r.1]
theorem size_extract (c:ByteArray) (a b:Nat) (h:b<=c.size):(c.extract a b).size=b - a:=by
 rw[ByteArray.size_extract];omega
end Go.Proofs.Ytceenajkieomoaa
namespace Go.Proofs.Ytceenajkieomoaa
open List renaming cons->qk, take_succ_cons->jz
def cpB (r:Int):Bool:=decide (0<=r/\r<=1114111/\(r<55296\/57343<r))
def zeg (c:UInt8):Bool:=decide (128<=c.toNat/\c.toNat<192)
def u8b (n:Nat):UInt8:=UInt8.ofNat n
def zcW (r:Nat):List UInt8 :=
 if r<128 then [u8b r]
 else if r<2048 then [u8b (192+r / 64),u8b (128+r % 64)]
 else if r<65536 then [u8b (224+r / 4096),u8b (128+r / 64 % 64),u8b (128+r % 64)]
 else [u8b (240+r / 262144),u8b (128+r / 4096 % 64),u8b (128+r / 64 % 64),u8b (128+r % 64)]
def r2 (c a:UInt8):Nat:=(c.toNat - 192)*64+(a.toNat - 128)
def r3 (c a b:UInt8):Nat:=(c.toNat - 224)*4096+(a.toNat - 128)*64+(b.toNat - 128)
def r4 (c a b d:UInt8):Nat:=(c.toNat - 240)*262144+(a.toNat - 128)*4096+(b.toNat - 128)*64+(d.toNat - 128)
def dec2 (c:UInt8):List UInt8->Option (Nat×Nat)
 | []=>none
 | a::_=>if zeg a=true/\128<=r2 c a then some (r2 c a,2) else none
def dec3 (c:UInt8):List UInt8->Option (Nat×Nat)
 | []=>none
 | [_]=>none
 | a::b::_=>if zeg a=true/\zeg b=true/\2048<=r3 c a b/\cpB (r3 c a b:Int)=true then some (r3 c a b,3) else none
def dec4 (c:UInt8):List UInt8->Option (Nat×Nat)
 | []=>none
 | [_]=>none
 | [_,_]=>none
 | a::b::d::_=>if zeg a=true/\zeg b=true/\zeg d=true/\65536<=r4 c a b d/\r4 c a b d<=1114111 then some (r4 c a b d,4) else none
def zdz:List UInt8->Option (Nat×Nat)
 | []=>none
 | c::t=>
  if c.toNat<128 then some (c.toNat,1)
  else if c.toNat<192 then none
  else if c.toNat<224 then dec2 c t
  else if c.toNat<240 then dec3 c t
  else if c.toNat<248 then dec4 c t
  else none
theorem zaG {n:Nat} (h:n<256):(u8b n).toNat=n:=by unfold u8b;rw[UInt8.toNat_ofNat'];omega
theorem zcv {c:UInt8} {n:Nat} (hn:n<256):u8b n=c↔n=c.toNat:=by
 constructor
 ·rintro rfl;rw[zaG hn]
 ·intro h;subst h;unfold u8b;exact UInt8.ofNat_toNat
theorem zcn {l:List UInt8} {r n:Nat} (h:zdz l=some (r,n)):cpB r=true/\zcW r=l.take n/\n<=l.length/\1<=n/\n<=4:=by
 rcases l with _|⟨c,t⟩
 ·rw[zdz] at h;cases h
 have hc:=c.toNat_lt;rw[zdz] at h
 by_cases h1:c.toNat<128
 ·rw[if_pos h1] at h;injection h with h;injection h with h2 h3
  subst h2 h3;refine⟨decide_eq_true (by omega),?_,by simp,by omega,by omega⟩;unfold zcW;rw[if_pos h1];simp only[jz,List.take_zero,qk.injEq,and_true];exact(zcv (by omega)).2 rfl
 rw[if_neg h1] at h
 by_cases h2:c.toNat<192
 ·rw[if_pos h2] at h;cases h
 rw[if_neg h2] at h
 by_cases h3:c.toNat<224
 ·rw[if_pos h3] at h;rcases t with _|⟨a,t⟩
  ·cases h
  rw[dec2] at h
  split at h
  ·rename_i h4;unfold r2 at h h4;have ha:128<=a.toNat/\a.toNat<192:=of_decide_eq_true h4.1;injection h with h;injection h with h5 h6
   subst h5 h6;refine⟨decide_eq_true (by omega),?_,by simp,by omega,by omega⟩;unfold zcW;rw[if_neg (by omega),if_pos (by omega)];simp only[jz,List.take_zero,qk.injEq,and_true];exact⟨(zcv (by omega)).2 (by omega),(zcv (by omega)).2 (by omega)⟩
  ·cases h
 rw[if_neg h3] at h
 by_cases h4:c.toNat<240
 ·rw[if_pos h4] at h;rcases t with _|⟨a,_|⟨b,t⟩⟩
  ·cases h
  ·cases h
  rw[dec3] at h
  split at h
  ·rename_i h5;unfold r3 at h h5;have ha:128<=a.toNat/\a.toNat<192:=of_decide_eq_true h5.1;have hb:128<=b.toNat/\b.toNat<192:=of_decide_eq_true h5.2.1;have hp:=h5.2.2;injection h with h;injection h with h6 h7
   subst h6 h7;refine⟨hp.2,?_,by simp,by omega,by omega⟩;unfold zcW;rw[if_neg (by omega),if_neg (by omega),if_pos (by omega)];simp only[jz,List.take_zero,qk.injEq,and_true];exact⟨(zcv (by omega)).2 (by omega),(zcv (by omega)).2 (by omega),(zcv (by omega)).2 (by omega)⟩
  ·cases h
 rw[if_neg h4] at h
 by_cases h5:c.toNat<248
 ·rw[if_pos h5] at h;rcases t with _|⟨a,_|⟨b,_|⟨d,t⟩⟩⟩
  ·cases h
  ·cases h
  ·cases h
  rw[dec4] at h
  split at h
  ·rename_i h6;unfold r4 at h h6;have ha:128<=a.toNat/\a.toNat<192:=of_decide_eq_true h6.1;have hb:128<=b.toNat/\b.toNat<192:=of_decide_eq_true h6.2.1;have hd:128<=d.toNat/\d.toNat<192:=of_decide_eq_true h6.2.2.1;have hp:=h6.2.2.2;injection h with h;injection h with h7 h8
   subst h7 h8;refine⟨decide_eq_true (by omega),?_,by simp,by omega,by omega⟩;unfold zcW;rw[if_neg (by omega),if_neg (by omega),if_neg (by omega)];simp only[jz,List.take_zero,qk.injEq,and_true];exact⟨(zcv (by omega)).2 (by omega),(zcv (by omega)).2 (by omega),(zcv (by omega)).2 (by omega),(zcv (by omega)).2 (by omega)⟩
  ·cases h
 ·rw[if_neg h5] at h;cases h
theorem zco (n:Nat) (h:n<64):zeg (u8b (128+n))=true:=by unfold zeg;rw[zaG (by omega)];exact decide_eq_true (by omega)
theorem zgH {r:Nat} (h:cpB r=true) (t:List UInt8):zdz (zcW r++t)=some (r,(zcW r).length):=by
 have hr:(r:Int)<=1114111/\((r:Int)<55296\/57343<(r:Int)):=⟨(of_decide_eq_true h).2.1,(of_decide_eq_true h).2.2⟩;unfold zcW
 by_cases h1:r<128
 ·rw[if_pos h1];show zdz (u8b r::t)=_;rw[zdz,zaG (by omega),if_pos h1];rfl
 ·rw[if_neg h1]
  by_cases h2:r<2048
  ·rw[if_pos h2];show zdz (u8b (192+r / 64)::u8b (128+r % 64)::t)=_;rw[zdz,zaG (by omega),if_neg (by omega),if_neg (by omega),if_pos (by omega),dec2];unfold r2;rw[zaG (by omega),zaG (by omega),if_pos ⟨zco _ (by omega),by omega⟩];simp only[List.length_cons,List.length_nil,Option.some.injEq,Prod.mk.injEq,and_true];omega
  ·rw[if_neg h2]
   by_cases h3:r<65536
   ·rw[if_pos h3];show zdz (u8b (224+r / 4096)::u8b (128+r / 64 % 64)::u8b (128+r % 64)::t)=_;rw[zdz,zaG (by omega),if_neg (by omega),if_neg (by omega),if_neg (by omega),if_pos (by omega),dec3];unfold r3;have e:(224+r / 4096 - 224)*4096+(128+r / 64 % 64 - 128)*64+(128+r % 64 - 128)=r:=by omega
    rw[zaG (by omega),zaG (by omega),zaG (by omega),e,if_pos ⟨zco _ (by omega),zco _ (by omega),by omega,h⟩]
    rfl
   ·rw[if_neg h3];show zdz (u8b (240+r / 262144)::u8b (128+r / 4096 % 64)::u8b (128+r / 64 % 64)::u8b (128+r % 64)::t)=_;rw[zdz,zaG (by omega),if_neg (by omega),if_neg (by omega),if_neg (by omega),if_neg (by omega),if_pos (by omega),dec4];unfold r4;have e:(240+r / 262144 - 240)*262144+(128+r / 4096 % 64 - 128)*4096+(128+r / 64 % 64 - 128)*64+(128+r % 64 - 128)=r:=by omega
    rw[zaG (by omega),zaG (by omega),zaG (by omega),zaG (by omega),e,if_pos ⟨zco _ (by omega),zco _ (by omega),zco _ (by omega),by omega,by omega⟩]
    rfl
theorem encU_len {r:Nat}:1<=(zcW r).length/\(zcW r).length<=4:=by
 unfold zcW;repeat' split
 all_goals simp
theorem zgG {l:List UInt8} {r n:Nat} (h:cpB r=true) (he:zcW r=l.take n) (hn:n<=l.length):zdz l=some (r,n):=by
 have h1:=zgH h (l.drop n);rw[he,List.take_append_drop,List.length_take,Nat.min_eq_left hn] at h1;exact h1
end Go.Proofs.Ytceenajkieomoaa
/-
 DERIVED: THE SHELF's CONTRACTS AT THIS DUMP,IN PLAIN WORDS (tools/lay-plain.mjs out of 'TryShelf.lean',which tools/lay-shelf.mjs wrote): THE SAME DECLARATIONS UNDER THE SAME NAMES: 'import','namespace','open','def','theorem' AND NOTHING ELSE: no command of the shelf's: FOR A HAND-IN. Each laying: the table of numbers ('.._ren') and one theorem,a field a fact of the dump's own or the kernel's comparison;each contract: ONE APPLICATION.
-/
namespace Go.Proofs.Ytceenajkieomoaa
open Go.RowKit
def zdi (c:UInt8):Bool:=decide (97<=c.toNat/\c.toNat<=122\/65<=c.toNat/\c.toNat<=90)
def zas (c:UInt8):Bool:=decide (48<=c.toNat/\c.toNat<=57)
def zbP (c:UInt8):Bool:=decide (48<=c.toNat/\c.toNat<=57\/97<=c.toNat/\c.toNat<=102\/65<=c.toNat/\c.toNat<=70)
def zcF (c:UInt8) (l:List UInt8):Bool:=l.contains c
theorem hasB_nil (c:UInt8):zcF c []=false:=rfl
theorem beq_u8 (c d:UInt8):(c==d)=(d.toNat==c.toNat):=by
 by_cases h:c=d
 ·subst h;rw[beq_self_eq_true,beq_self_eq_true]
 ·rw[beq_eq_false_iff_ne.2 h,beq_eq_false_iff_ne.2 (fun e=>h (UInt8.toNat_inj.1 e).symm)]
theorem zfV (l:List UInt8) (c d:UInt8):zcF c (l++[d])=(zcF c l||(d.toNat==c.toNat)):=by
 unfold zcF;rw[<-beq_u8];simp only[List.contains_append,List.contains_cons,List.contains_nil,Bool.or_false]
theorem zfL (c:UInt8) (w:World) :
  Calls Try.prog 70 #[.int .u8 c.toNat] w fun e w'=>e=.returned (.bool (zdi c))/\w=w':=by
 go_enter Try.func70,Try.ntmps70
 go_wp2
 all_goals go_ret
 all_goals exact⟨zcj (by unfold zdi;first|exact dt (by omega)|exact df (by omega)|(rw[Bool.eq_iff_iff];simp only[Bool.or_eq_true,Bool.and_eq_true,decide_eq_true_eq];omega)),rfl⟩
theorem zfK (c:UInt8) (w:World) :
  Calls Try.prog 69 #[.int .u8 c.toNat] w fun e w'=>e=.returned (.bool (zas c))/\w=w':=by
 go_enter Try.func69,Try.ntmps69
 go_wp2
 all_goals go_ret
 all_goals exact⟨zcj (by unfold zas;first|exact dt (by omega)|exact df (by omega)|(rw[Bool.eq_iff_iff];simp only[Bool.or_eq_true,Bool.and_eq_true,decide_eq_true_eq];omega)),rfl⟩
theorem zew (c:UInt8) (w:World) :
  Calls Try.prog 85 #[.int .u8 c.toNat] w fun e w'=>e=.returned (.bool (zbP c))/\w=w':=by
 go_enter Try.func85,Try.ntmps85
 go_wp2
 all_goals go_ret
 all_goals exact⟨zcj (by unfold zbP;first|exact dt (by omega)|exact df (by omega)|(rw[Bool.eq_iff_iff];simp only[Bool.or_eq_true,Bool.and_eq_true,decide_eq_true_eq];omega)),rfl⟩
theorem zgm (c:UInt8) (s:ByteArray) (w:World) (hs:s.size<=maxLen) :
  Calls Try.prog 67 #[.int .u8 c.toNat,.string s] w fun e w'=>e=.returned (.bool (zcF c s.data.toList))/\w=w':=by
 unfold maxLen at hs
 go_enter Try.func67,Try.ntmps67
 go_wp2
 go_loop [5] (fun i=>∃k:Nat,k<=s.size/\i=.int .i64 k/\zcF c (s.data.toList.take k)=false) (fun i=>s.size - (intOf i).toNat)
 case atStart=>exact⟨0,Nat.zero_le _,rfl,hasB_nil c⟩
 case round=>
  obtain⟨k,hk,rfl,hno⟩:=hrel;have HN:=Lib.hid hno;clear hno
  by_cases hlt:k<s.size
  ·have HT:=Lib.hid (zfx s k hlt)
   go_wp2
   ·have he:(↑s[k].toNat==(↑c.toNat:Int))=true:=by assumption
    go_ret
    have h:zcF c s.data.toList=true:=by
     have h1:zcF c (s.data.toList.take (k+1))=true:=by
      rw[HT.out,zfV];have:s[k].toNat=c.toNat:=by have:=eq_of_beq he;omega
      simp[this]
     unfold zcF at h1 ⊢;rw[List.contains_iff_mem] at h1 ⊢;exact List.mem_of_mem_take h1
    exact⟨zcj h.symm,rfl⟩
   ·have he:(↑s[k].toNat==(↑c.toNat:Int))=false:=by assumption
    go_round
    case rel=>
     refine⟨k+1,by omega,by go_num,?_⟩;rw[HT.out,zfV,HN.out];have:¬s[k].toNat=c.toNat:=by intro h;simp[h] at he
     simp[this]
    case measure=>simp[intOf];omega
  ·go_wp2
   go_ret
   exact⟨zcj (by have h:=HN.out;rw[List.take_of_length_le (by rw[zap];omega)] at h;rw[h]),rfl⟩
end Go.Proofs.Ytceenajkieomoaa
namespace Go.Proofs.Ytceenajkieomoaa
open Lib renaming hid->z9
open List renaming append_assoc->ja, cons_append->qh, dropWhile_cons->xm, drop_drop->qu, getElem?_cons_succ->xp, getElem?_cons_zero->je, getElem?_drop->qx, getElem?_eq_some_iff->za, length_drop->zv, length_nil->qo, length_pos_iff->jx, nil_append->qc, take_append_drop->jw
open Nat renaming add_zero->qp, zero_le->zo
open Option renaming some->zl
def dvN (c:UInt8):Nat:=if c.toNat<=57 then c.toNat - 48 else if c.toNat<=70 then c.toNat - 55 else c.toNat - 87
def zeR (base most:Nat):List UInt8->Nat->Option Nat
 | [],n=>some n
 | c::l,n=>if n*base+dvN c<=most then zeR base most l (n*base+dvN c) else none
def optE:Option Nat->Int×Nat
 | some n=>(0,n)
 | none=>(4,0)
def zil (base most:Nat) (l:List UInt8):Int×Nat:=optE (zeR base most l 0)
def zeI (p:UInt8->Bool) (l:List UInt8):Int:=if l=[] then 3 else if l.all p=true then 0 else 1
def zdD (p:UInt8->Bool) (base most:Nat) (l:List UInt8):Int×Nat:=if zeI p l=0 then zil base most l else (zeI p l,0)
def numV (r:Int×Nat):Value:=.tuple #[.int .u64 r.2,.int .i64 r.1]
theorem hexC {c:UInt8} (h:zbP c=true):48<=c.toNat/\c.toNat<=57\/97<=c.toNat/\c.toNat<=102\/65<=c.toNat/\c.toNat<=70:=of_decide_eq_true h
theorem dvN_lt {c:UInt8} (h:zbP c=true):dvN c<16:=by have:=hexC h;unfold dvN;(repeat' split)<;>omega
theorem zlB {p:UInt8->Bool} {l:List UInt8} (h0:l≠[]) (h:l.all p=true):zeI p l=0:=by unfold zeI;rw[if_neg h0,if_pos h]
theorem ziK {p:UInt8->Bool} {l:List UInt8} (h0:l≠[]) (h:l.all p=false):zeI p l=1:=by unfold zeI;rw[if_neg h0,if_neg (by rw[h];exact Bool.false_ne_true)]
theorem ziZ (base most:Nat):∀(l:List UInt8) (n m:Nat),n<=most->zeR base most l n=some m->m<=most
 | [],n,m,hn,h=>by rw[zeR] at h;injection h with h;omega
 | c::l,n,m,hn,h=>by
  rw[zeR] at h
  split at h
  ·rename_i h1;exact ziZ base most l _ m h1 h
  ·cases h
theorem valE_le (base most:Nat) (l:List UInt8):(zil base most l).2<=most:=by
 unfold zil;rcases h:zeR base most l 0 with _|n
 ·exact zo _
 ·exact ziZ base most l 0 n (zo _) h
theorem zhi (p:UInt8->Bool) (base most:Nat) (l:List UInt8):(zdD p base most l).2<=most:=by
 unfold zdD;split
 ·exact valE_le _ _ _
 ·exact zo _
open Go.RowKit
def bv (l:List UInt8):List Value:=l.map fun c=>.int .u8 c.toNat
theorem bv_get (l:List UInt8) (i:Nat) (h:i<l.length):(bv l)[i]? = some (.int .u8 l[i].toNat):=by simp[bv,h]
def zgO (w:World) (base:Nat) (v:Value) (l:List UInt8):Prop:=w.ownsRow base 5 1 v l.length (bv l)
theorem zgO.nil (w:World) (base:Nat):zgO w base (.slice none 0 0) []:=World.ownsRow_nil w base _ _
theorem zgO.drew {w:World} {base:Nat} {v:Value} {l:List UInt8} (h:zgO w base v l):zgO w.drew base v l:=h
theorem zgO.drewN {w:World} {base:Nat} {v:Value} {l:List UInt8} (h:zgO w base v l) (n:Nat):zgO (w.drewN n) base v l:=h
theorem zgO.alloc {w:World} {base:Nat} {v:Value} {l:List UInt8} (h:zgO w base v l) (o:Obj):zgO (w.alloc o) base v l:=World.ownsRow.alloc h o
theorem zgO.cell {w:World} {B g n cap:Nat} {l:List UInt8} (h:zgO w B (.slice (some ⟨g,0,none⟩) n cap) l) (j:Nat) (hj:j<l.length):w.cell? ⟨g,j,none⟩=some (.int .u8 l[j].toNat):=by
 have h':=h;rcases h'.2 with ⟨e,_⟩|⟨g',cap',cur,e,_⟩
 ·simp at e
 ·simp only[Value.slice.injEq] at e;obtain⟨_,rfl,_⟩:=e;rw[World.ownsRow.cellAt (h:World.ownsRow _ _ _ _ _ _ _) j (by omega),bv_get l j hj]
theorem zgO.frozen {w:World} {B g n cap:Nat} {l:List UInt8} (h:zgO w B (.slice (some ⟨g,0,none⟩) n cap) l) (j:Nat):w.frozen? ⟨g,j,none⟩=false:=by
 have h':=h;rcases h'.2 with ⟨e,_⟩|⟨g',cap',cur,e,_⟩
 ·simp at e
 ·simp only[Value.slice.injEq] at e;obtain⟨_,rfl,_⟩:=e;exact World.ownsRow.frozenAt (h:World.ownsRow _ _ _ _ _ _ _) j
def Crow (w:World) (g:Nat) (l:List UInt8):Prop:=∀j (h:j<l.length),w.cell? ⟨g,j,none⟩=some (.int .u8 l[j].toNat)/\w.frozen? ⟨g,j,none⟩=false
theorem zaw (g j:Nat):(⟨g,0,none⟩:Addr).add j=⟨g,j,none⟩:=by unfold Addr.add;split<;>simp_all
theorem Crow.str {w:World} {g:Nat} {l:List UInt8} (h:Crow w g l) (n cap:Nat) (hn:n=l.length) :
  (convert 50 9 (.slice (some ⟨g,0,none⟩) n cap)).run Try.prog w=.ok (.string ⟨l.toArray⟩) w:=by
 subst hn;exact run_convert_bytes_back w _ _ 5 _ cap l Try.underlying50 Try.underlying5 Try.underlying9 (fun j hj=>by rw[zaw];exact(h j hj).1)
theorem zc0 (W:World) (xs:List Int) (n:Nat) (hn:n=xs.length) :
  (convert 50 9 (.slice (some ⟨W.heap.size,0,none⟩) n n)).run Try.prog (W.alloc (.cells (xs.map (Value.int .u8)).toArray 5))=.ok (.string (strOfNums xs)) (W.alloc (.cells (xs.map (Value.int .u8)).toArray 5)):=by
 refine run_convert_bytes_arg _ 50 5 Try.underlying50 Try.underlying5 W.heap.size 0 n n xs hn.symm ?_ _ Try.underlying9;intro i hi;rw[World.cell?_alloc_at _ _ _ _ rfl];have h:i<xs.length:=by omega
 simp[List.getD,List.getElem?_eq_getElem h]
def sv (ls:List (List UInt8)):List Value:=ls.map fun l=>.string (S l)
theorem sv_get (ls:List (List UInt8)) (i:Nat) (h:i<ls.length):(sv ls)[i]? = some (.string (S ls[i])):=by simp[sv,h]
def ziO (w:World) (base:Nat) (v:Value) (ls:List (List UInt8)):Prop:=w.ownsRow base 9 1 v ls.length (sv ls)
theorem ziO.nil (w:World) (base:Nat):ziO w base (.slice none 0 0) []:=World.ownsRow_nil w base _ _
theorem ziO.drew {w:World} {base:Nat} {v:Value} {l:List (List UInt8)} (h:ziO w base v l):ziO w.drew base v l:=h
theorem ziO.drewN {w:World} {base:Nat} {v:Value} {l:List (List UInt8)} (h:ziO w base v l) (n:Nat):ziO (w.drewN n) base v l:=h
theorem ziO.alloc {w:World} {base:Nat} {v:Value} {l:List (List UInt8)} (h:ziO w base v l) (o:Obj):ziO (w.alloc o) base v l:=World.ownsRow.alloc h o
theorem ziO.cell {w:World} {B g n cap:Nat} {l:List (List UInt8)} (h:ziO w B (.slice (some ⟨g,0,none⟩) n cap) l) (j:Nat) (hj:j<l.length):w.cell? ⟨g,j,none⟩=some (.string (S l[j])):=by
 have h':=h;rcases h'.2 with ⟨e,_⟩|⟨g',cap',cur,e,_⟩
 ·simp at e
 ·simp only[Value.slice.injEq] at e;obtain⟨_,rfl,_⟩:=e;rw[World.ownsRow.cellAt (h:World.ownsRow _ _ _ _ _ _ _) j (by omega),sv_get l j hj]
theorem zii (p:UInt8->Bool) (s:ByteArray) (k:Nat) (h:k<s.size):(s.data.toList.take (k+1)).all p=((s.data.toList.take k).all p&&p s[k]):=by
 rw[zfx s k h,List.all_append];simp
theorem zeo (p:UInt8->Bool) (l:List UInt8) (k:Nat) (h:(l.take k).all p=false):l.all p=false:=by
 rw[<-jw k l,List.all_append,h,Bool.false_and]
theorem take_all (s:ByteArray) (k:Nat) (h:¬k<s.size):s.data.toList.take k=s.data.toList:=List.take_of_length_le (by rw[zap];omega)
def zc1 (c:UInt8):Bool:=decide (c.toNat=32\/c.toNat=9)
def rdw (l:List UInt8):List UInt8:=(l.reverse.dropWhile zc1).reverse
def trimL (l:List UInt8):List UInt8:=rdw (l.dropWhile zc1)
theorem rdw_snoc (l:List UInt8) (x:UInt8):rdw (l++[x])=if zc1 x=true then rdw l else l++[x]:=by
 unfold rdw;rw[List.reverse_append,List.reverse_singleton,List.singleton_append,xm]
 split<;>simp
def TP (n:Nat) (l:List UInt8) (f t:Nat):Prop :=
 ∃A M B,l=A++M++B/\(∀a∈A,zc1 a=true)/\(∀b∈B,zc1 b=true)/\M.dropWhile zc1=M/\rdw M=M /\
  ((M=[]/\f=n/\t=0)\/(M≠[]/\f=A.length/\t=A.length+M.length))
theorem TP.other {n:Nat} {l:List UInt8} {f t:Nat} {c:UInt8} (h:TP n l f t) (hc:zc1 c=false) (hl:l.length<n):TP n (l++[c]) (min f l.length) (l.length+1):=by
 obtain⟨A,M,B,rfl,hA,hB,h1,h2,h3⟩:=h;rcases h3 with ⟨rfl,rfl,rfl⟩|⟨h3,rfl,rfl⟩
 ·refine⟨A++B,[c],[],by simp,?_,by simp,by simp[hc],by simp[rdw,hc],.inr ⟨by simp,?_,?_⟩⟩
  ·intro a ha;rcases List.mem_append.1 ha with ha|ha
   ·exact hA a ha
   ·exact hB a ha
  ·simp at hl ⊢;omega
  ·simp
 ·refine⟨A,M++B++[c],[],by simp,hA,by simp,?_,?_,.inr ⟨by simp,?_,?_⟩⟩
  ·cases M with
   | nil=>exact absurd rfl h3
   | cons x M=>
    have hx:¬zc1 x=true:=by
     intro hx;rw[xm,if_pos hx] at h1;have:=congrArg List.length h1;have h4:=(List.dropWhile_sublist (p:=zc1) (l:=M)).length_le;simp at this;omega
    simp only[qh];rw[xm,if_neg hx]
  ·rw[rdw_snoc,if_neg (by rw[hc];exact Bool.false_ne_true)]
  ·simp
  ·simp;omega
theorem ziv {B:List UInt8} (hB:∀b∈B,zc1 b=true) (l:List UInt8):rdw (l++B)=rdw l:=by
 unfold rdw;rw[List.reverse_append,List.dropWhile_append_of_pos];intro a ha;exact hB a (List.mem_reverse.1 ha)
theorem TP.done {l:List UInt8} {f t:Nat} (h:TP l.length l f t):(t<=f/\trimL l=[])\/(f<t/\t<=l.length/\trimL l=(l.drop f).take (t - f)):=by
 obtain⟨A,M,B,rfl,hA,hB,h1,h2,h3⟩:=h;have ht:trimL (A++M++B)=rdw ((M++B).dropWhile zc1):=by
  unfold trimL;rw[ja,List.dropWhile_append_of_pos hA]
 rcases h3 with ⟨rfl,rfl,rfl⟩|⟨h3,rfl,rfl⟩
 ·refine .inl ⟨zo _,?_⟩;rw[ht,qc,<-List.append_nil B,List.dropWhile_append_of_pos hB]
  rfl
 ·have hp:0<M.length:=jx.2 h3;refine .inr ⟨by omega,by simp,?_⟩;have hm:(M++B).dropWhile zc1=M++B:=by
   cases M with
   | nil=>exact absurd rfl h3
   | cons x M=>
    have hx:¬zc1 x=true:=by
     intro hx;rw[xm,if_pos hx] at h1;have:=congrArg List.length h1;have h4:=(List.dropWhile_sublist (p:=zc1) (l:=M)).length_le;simp at this;omega
    simp only[qh];rw[xm,if_neg hx]
  rw[ht,hm,ziv hB,h2,ja,List.drop_left,Nat.add_sub_cancel_left,List.take_left]
def zh8 (c:UInt8):List UInt8->List UInt8×List UInt8×Bool
 | []=>([],[],false)
 | x::t=>if x=c then ([],t,true) else (x::(zh8 c t).1,(zh8 c t).2.1,(zh8 c t).2.2)
theorem zee (c x:UInt8) (t:List UInt8):zh8 c (x::t)=if x=c then ([],t,true) else (x::(zh8 c t).1,(zh8 c t).2.1,(zh8 c t).2.2):=rfl
def Obk (w:World) (g:Nat) (t:TypeId) (cs:Array Value):Prop:=w.heap[g]? = some (.cells cs t (0,0))
theorem Obk.lt {w:World} {g:Nat} {t:TypeId} {cs:Array Value} (h:Obk w g t cs):g<w.heap.size:=by
 rcases Nat.lt_or_ge g w.heap.size with h1|h1
 ·exact h1
 ·unfold Obk at h;rw[Array.getElem?_eq_none h1] at h;cases h
theorem Obk.cell {w:World} {g:Nat} {t:TypeId} {cs:Array Value} (h:Obk w g t cs) (i:Nat):w.cell? ⟨g,i,none⟩=cs[i]?:=cell_of_row w g i cs t (0,0) h
theorem Obk.frozen {w:World} {g:Nat} {t:TypeId} {cs:Array Value} (h:Obk w g t cs) (i:Nat):w.frozen? ⟨g,i,none⟩=false:=by
 unfold Obk at h;simp[World.frozen?,h]
theorem Obk.new (w:World) (t:TypeId) (cs:Array Value):Obk (w.alloc (.cells cs t)) w.heap.size t cs:=heap_alloc_new w _
theorem Obk.alloc {w:World} {g:Nat} {t:TypeId} {cs:Array Value} (h:Obk w g t cs) (o:Obj):Obk (w.alloc o) g t cs:=(Below.heap_alloc w o g h.lt).trans h
theorem Obk.drew {w:World} {g:Nat} {t:TypeId} {cs:Array Value} (h:Obk w g t cs):Obk w.drew g t cs:=h
theorem Obk.drewN {w:World} {g:Nat} {t:TypeId} {cs:Array Value} (h:Obk w g t cs) (n:Nat):Obk (w.drewN n) g t cs:=h
theorem Obk.put {w:World} {g:Nat} {t:TypeId} {cs:Array Value} (h:Obk w g t cs) (i:Nat) (u:Value):Obk (w.setCell ⟨g,i,none⟩ u) g t (cs.setIfInBounds i u):=by
 unfold Obk at h ⊢;simp[World.setCell,Array.getElem?_modify,h]
theorem Obk.far {w:World} {g:Nat} {t:TypeId} {cs:Array Value} (h:Obk w g t cs) {p:Addr} (hp:g≠p.block) (u:Value):Obk (w.setCell p u) g t cs:=(Below.heap_setCell w p u g hp).trans h
theorem Obk.at_ (w:World) (t:TypeId) (cs:Array Value) (g:Nat) (h:w.heap.size=g):Obk (w.alloc (.cells cs t)) g t cs:=by subst h;exact Obk.new w t cs
theorem Obk.st {w:World} {g:Nat} {t:TypeId} {cs:Array Value} (h:Obk w g t cs) (b o:Nat) (u:Value) (hne:g≠b):Obk (w.setCell ⟨b,o,none⟩ u) g t cs:=h.far (p:=⟨b,o,none⟩) hne u
theorem Qb.st {a c:World} (h:Qb a c) (b o:Nat) (u:Value) (hb:a.heap.size<=b):Qb a (c.setCell ⟨b,o,none⟩ u):=h.set (p:=⟨b,o,none⟩) hb u
theorem Obk.other {w w':World} {g b:Nat} {t:TypeId} {cs:Array Value} (h:Obk w g t cs) (hg:w.grownBy w' (some b)) (hne:g≠b):Obk w' g t cs:=(hg.block g h.lt (fun e=>hne (zl.inj e))).trans h
def ziD (l set:List UInt8):Nat:=l.findIdx fun c=>zcF c set
theorem idxS_at {l set:List UInt8} {k:Nat} (h:k<l.length) (h1:∀j (hj:j<k),zcF (l[j]'(by omega)) set=false) (h2:zcF l[k] set=true):ziD l set=k:=by
 unfold ziD;rw[List.findIdx_eq h];exact⟨h2,fun j hj=>by rw[h1 j hj]⟩
theorem zkU {l set:List UInt8} (h1:∀j (hj:j<l.length),zcF l[j] set=false):ziD l set=l.length:=by
 unfold ziD;rw[List.findIdx_eq_length];intro x hx;obtain⟨j,hj,rfl⟩:=List.getElem_of_mem hx;rw[h1 j hj]
theorem zhL (c:UInt8):∀l,ziD l [c]=(zh8 c l).1.length
 | []=>rfl
 | x::t=>by
  have ih:=zhL c t;unfold ziD at ih ⊢;rw[List.findIdx_cons,zee,ih]
  by_cases h:x=c
  ·subst h;simp[zcF]
  ·rw[if_neg h];have:zcF x [c]=false:=by simp[zcF,h]
   rw[this];rfl
theorem zix (s set:ByteArray) (w:World) (hs:s.size<=maxLen) (ha:set.size<=maxLen) :
  Calls Try.prog 62 #[.string s,.string set] w fun e w'=>e=.returned (.int .i64 (ziD s.data.toList set.data.toList))/\w=w':=by
 have hm:=hs;unfold maxLen at hm
 go_enter Try.func62,Try.ntmps62
 go_wp2_with fail
 go_loop [5] (fun i=>∃k:Nat,k<=s.size/\i=.int .i64 k/\Hid (∀j (hj:j<s.size),j<k->zcF s[j] set.data.toList=false)) (fun i=>s.size - (intOf i).toNat)
 case atStart=>exact⟨0,zo _,rfl,z9 (fun j hj h=>absurd h (Nat.not_lt_zero _))⟩
 case round=>
  obtain⟨k,hk,rfl,HT⟩:=hrel
  by_cases hlt:k<s.size
  ·rcases hb:zcF s[k] set.data.toList with _|_
   ·have HB:=z9 hb;have HN:Hid (∀j (hj:j<s.size),j<k+1->zcF s[j] set.data.toList=false):=z9 fun j hj h=>by
     by_cases e:j=k
     ·subst e;exact HB.out
     ·exact HT.out j hj (by omega)
    clear hb
    go_wp2_with fail
    refine(zgm _ _ _ ha).mono ?_;rintro e w' ⟨rfl,rfl⟩;rw[HB.out]
    go_wp2_with fail
    go_round
    case rel=>exact⟨k+1,by omega,by go_num,HN⟩
    case measure=>simp[intOf];omega
   ·have HB:=z9 hb;have HN:Hid (ziD s.data.toList set.data.toList=k):=z9 (idxS_at (by rw[zap];exact hlt) (fun j hj=>HT.out j (by omega) hj) hb);clear hb
    go_wp2_with fail
    refine(zgm _ _ _ ha).mono ?_;rintro e w' ⟨rfl,rfl⟩;rw[HB.out]
    go_wp2_with fail
    go_ret
    exact⟨zda (by rw[HN.out]),rfl⟩
  ·have HN:Hid (ziD s.data.toList set.data.toList=s.size):=z9 (by
    rw[zkU (fun j hj=>HT.out j (by rw[zap] at hj;exact hj) (by rw[zap] at hj;omega)),zap])
   go_wp2_with fail
   go_ret
   exact⟨zda (by rw[HN.out]),rfl⟩
def zaY:List UInt8->Nat
 | []=>0
 | c::t=>if zas c=true then zaY t+1 else 0
def zbl (l:List UInt8):Nat:=if l[0]? = some 45 then 1 else 0
def zaV (l:List UInt8):Nat:=if l[zbl l]? = some 48 then zbl l+1 else zbl l+zaY (l.drop (zbl l))
def zb6 (l:List UInt8) (t:Nat):Nat:=if l[t]? = some 46/\0<zaY (l.drop (t+1)) then t+1+zaY (l.drop (t+1)) else t
def zbc (l:List UInt8) (t:Nat):Nat:=if l[t+1]? = some 43\/l[t+1]? = some 45 then t+2 else t+1
def expN (l:List UInt8) (t:Nat):Nat :=
 if (l[t]? = some 101\/l[t]? = some 69)/\0<zaY (l.drop (zbc l t)) then zbc l t+zaY (l.drop (zbc l t)) else t
def zdH (l:List UInt8):Nat:=if zaY (l.drop (zbl l))=0 then 0 else expN l (zb6 l (zaV l))
theorem zc8:∀l:List UInt8,zaY l<=l.length
 | []=>Nat.le_refl _
 | c::t=>by
  have:=zc8 t;unfold zaY
  split<;>simp only[List.length_cons]<;>omega
theorem zaX (l:List UInt8) (k:Nat) (h:0<zaY (l.drop k)):k+zaY (l.drop k)<=l.length:=by
 have:=zc8 (l.drop k);rw[zv] at this;omega
theorem zc9:∀(l:List UInt8) (i:Nat),i<zaY l->∃c,l[i]? = some c/\zas c=true
 | [],i,h=>absurd h (by simp[zaY])
 | c::t,i,h=>by
  unfold zaY at h
  split at h
  ·rename_i hc
   cases i with
   | zero=>exact⟨c,rfl,hc⟩
   | succ i=>
    obtain⟨x,h1,h2⟩:=zc9 t i (by omega);exact⟨x,by rw[xp];exact h1,h2⟩
  ·omega
theorem zkb (l:List UInt8):zdH l<=l.length:=by
 have key:∀t:Nat,t<=l.length->expN l t<=l.length:=by
  intro t ht;unfold expN
  split
  ·rename_i h;exact zaX l _ h.2
  ·exact ht
 have key2:∀t:Nat,t<=l.length->zb6 l t<=l.length:=by
  intro t ht;unfold zb6
  split
  ·rename_i h;exact zaX l _ h.2
  ·exact ht
 unfold zdH
 split
 ·exact zo _
 ·rename_i h;refine key _ (key2 _ ?_);unfold zaV
  split
  ·rename_i h2;have:=(za.1 h2).1;omega
  ·exact zaX l _ (by omega)
def zdX (c:UInt8):Option UInt8 :=
 if c=34\/c=92\/c=47 then some c else if c=98 then some 8 else if c=102 then some 12 else if c=110 then some 10 else if c=114 then some 13 else if c=116 then some 9 else none
def zb1 (l:List UInt8):Option Nat :=
 if l.length<6\/¬l[0]? = some 92\/¬l[1]? = some 117 then none
 else if (zdD zbP 16 65535 ((l.drop 2).take 4)).1=0 then some (zdD zbP 16 65535 ((l.drop 2).take 4)).2 else none
def zdy (l:List UInt8):Int×List UInt8×Nat :=
 match (l[1]?).bind zdX with
 | some c=>(0,[c],2)
 | none=>match zb1 l with
  | none=>(130,[],0)
  | some n=>
   if n<55296\/57343<n then (0,zcW n,6)
   else if 56319<n then (7,[],0)
   else match zb1 (l.drop 6) with
    | none=>(7,[],0)
    | some m=>if m<56320\/57343<m then (7,[],0) else (0,zcW (65536+(n - 55296)*1024+(m - 56320)),12)
def zdT:Nat->List UInt8->List UInt8->Nat->Int×List UInt8×Nat
 | 0,_,_,_=>(130,[],0)
 | _+1,[],_,_=>(130,[],0)
 | n+1,c::t,out,k=>
  if c=34 then (0,out,k+1)
  else if c=92 then
   (if (zdy (c::t)).1≠0 then ((zdy (c::t)).1,[],0) else zdT n ((c::t).drop (zdy (c::t)).2.2) (out++(zdy (c::t)).2.1) (k+(zdy (c::t)).2.2))
  else if c.toNat<32 then (130,[],0)
  else match zdz (c::t) with
   | none=>(7,[],0)
   | some (_,m)=>zdT n ((c::t).drop m) (out++(c::t).take m) (k+m)
def zbv:List UInt8->Nat
 | []=>0
 | c::t=>if zdi c=true then zbv t+1 else 0
def zfd (c:UInt8):Bool:=zcF c [32,9,10,13]
def za7:List UInt8->Nat
 | []=>0
 | c::t=>if zfd c=true then za7 t+1 else 0
def zbj:List UInt8->Int×Int×List UInt8×Nat
 | []=>(0,1,[],0)
 | c::t=>
  if zcF c [123,125,91,93,58,44]=true then (0,2,[c],1)
  else if c=34 then (if (zdT (t.length+1) t [] 0).1≠0 then ((zdT (t.length+1) t [] 0).1,0,[],0) else (0,3,(zdT (t.length+1) t [] 0).2.1,(zdT (t.length+1) t [] 0).2.2+1))
  else if c=45\/zas c=true then (if zdH (c::t)=0 then (130,0,[],0) else (0,4,(c::t).take (zdH (c::t)),zdH (c::t)))
  else if (c::t).take (zbv (c::t))=[116,114,117,101]\/(c::t).take (zbv (c::t))=[102,97,108,115,101]\/(c::t).take (zbv (c::t))=[110,117,108,108] then (0,5,(c::t).take (zbv (c::t)),zbv (c::t))
  else (130,0,[],0)
structure NumS where
 neg:Bool
 int:List UInt8
 fr:List UInt8
 ex:Option (UInt8×List UInt8×List UInt8)
def frT:List UInt8->List UInt8
 | []=>[]
 | c::t=>46::c::t
def exT:Option (UInt8×List UInt8×List UInt8)->List UInt8
 | none=>[]
 | some (c,s,d)=>c::(s++d)
def sgT (b:Bool):List UInt8:=if b=true then [45] else []
def NumS.txt (p:NumS):List UInt8:=sgT p.neg++(p.int++(frT p.fr++exT p.ex))
structure NumS.Good (p:NumS):Prop where
 i0:p.int≠[]
 i1:p.int.all zas=true
 i2:p.int[0]? = some 48->p.int=[48]
 f1:p.fr.all zas=true
 e1:∀c s d,p.ex=some (c,s,d)->(c=101\/c=69)/\(s=[]\/s=[43]\/s=[45])/\d≠[]/\d.all zas=true
theorem zdO (l:List UInt8) {i j:Nat} (h:i<=j):l.drop i=(l.drop i).take (j - i)++l.drop j:=by
 conv=>lhs;rw[<-jw (j - i) (l.drop i)]
 rw[qu,show i+(j - i)=j by omega]
theorem za4 {l:List UInt8} {i:Nat} {c:UInt8} (h:l[i]? = some c):l.drop i=c::l.drop (i+1):=by
 obtain⟨h1,h2⟩:=za.1 h;rw[List.drop_eq_getElem_cons h1,h2]
theorem zbD:∀l:List UInt8,(l.take (zaY l)).all zas=true
 | []=>rfl
 | c::t=>by
  unfold zaY
  split
  ·rename_i h;rw[List.take_succ_cons,List.all_cons,h,zbD t];rfl
  ·rfl
theorem zbJ:∀(d r:List UInt8),d.all zas=true->(∀c,r[0]? = some c->zas c=false)->zaY (d++r)=d.length
 | [],r,_,h=>by
  rw[qc]
  cases r with
  | nil=>rfl
  | cons c t=>
   unfold zaY;rw[if_neg (by rw[h c rfl];exact Bool.false_ne_true)];rfl
 | c::d,r,hd,h=>by
  rw[List.all_cons,Bool.and_eq_true] at hd;rw[qh];unfold zaY;rw[if_pos hd.1,zbJ d r hd.2 h];rfl
theorem take_len {l:List UInt8} {k:Nat} (h:k<=l.length):(l.take k).length=k:=by rw[List.length_take];omega
theorem zeT {l:List UInt8} {k:Nat} (h0:0<k) (h:k<=l.length):l.take k≠[]:=by
 intro e;have:=congrArg List.length e;rw[take_len h,qo] at this;omega
theorem zka {l:List UInt8} (h0:l≠[]) (h:zdH l=l.length):∃p:NumS,p.Good/\l=p.txt:=by
 have hl:0<l.length:=jx.2 h0;unfold zdH at h
 by_cases hr:zaY (l.drop (zbl l))=0
 ·rw[if_pos hr] at h;omega
 rw[if_neg hr] at h;have hsg:l=sgT (decide (l[0]? = some 45))++l.drop (zbl l):=by
  unfold zbl sgT
  by_cases hc:l[0]? = some 45
  ·rw[if_pos hc,if_pos (by rw[hc];rfl)]
   conv=>lhs;rw[<-List.drop_zero (l:=l),za4 hc]
   rfl
  ·rw[if_neg hc,if_neg (by rw[decide_eq_false hc];exact Bool.false_ne_true)];simp
 have hrl:=zaX l (zbl l) (by omega);obtain⟨I,hI0,hI1,hI2,hIl,hI⟩:∃I:List UInt8,I≠[]/\I.all zas=true/\(I[0]? = some 48->I=[48])/\zaV l<=l.length/\l.drop (zbl l)=I++l.drop (zaV l):=by
  have hd:=zc9 (l.drop (zbl l)) 0 (by omega);obtain⟨c,hc1,hc2⟩:=hd;rw[qx,qp] at hc1;have hdc:=za4 hc1;unfold zaV
  by_cases hz:l[zbl l]? = some 48
  ·rw[if_pos hz];refine⟨[48],by simp,rfl,fun _=>rfl,?_,?_⟩
   ·have:=(za.1 hz).1;omega
   ·exact za4 hz
  ·rw[if_neg hz];refine⟨(l.drop (zbl l)).take (zaY (l.drop (zbl l))),zeT (by omega) (zc8 _),zbD _,?_,hrl,?_⟩
   ·intro h1;exfalso;rw[List.getElem?_take,if_pos (by omega),qx,qp] at h1;exact hz h1
   ·have:=zdO l (show zbl l<=zbl l+zaY (l.drop (zbl l)) by omega);rw[show zbl l+zaY (l.drop (zbl l)) - zbl l=zaY (l.drop (zbl l)) by omega] at this;exact this
 generalize zaV l=t at *;obtain⟨F,hF1,hFl,hF⟩:∃F:List UInt8,F.all zas=true/\zb6 l t<=l.length/\l.drop t=frT F++l.drop (zb6 l t):=by
  unfold zb6
  by_cases hc:l[t]? = some 46/\0<zaY (l.drop (t+1))
  ·rw[if_pos hc];have hb:=zaX l (t+1) hc.2;refine⟨(l.drop (t+1)).take (zaY (l.drop (t+1))),zbD _,hb,?_⟩;have h1:=zdO l (show t+1<=t+1+zaY (l.drop (t+1)) by omega);rw[show t+1+zaY (l.drop (t+1)) - (t+1)=zaY (l.drop (t+1)) by omega] at h1;have hne:=zeT hc.2 (zc8 (l.drop (t+1)));rw[za4 hc.1];generalize (l.drop (t+1)).take (zaY (l.drop (t+1)))=F at *
   cases F with
   | nil=>exact absurd rfl hne
   | cons a F=>
    show 46::l.drop (t+1)=46::(a::F++_);rw[<-h1]
  ·rw[if_neg hc];exact⟨[],rfl,hIl,rfl⟩
 generalize zb6 l t=f at *;obtain⟨E,hE1,hE⟩:∃E:Option (UInt8×List UInt8×List UInt8),(∀c s d,E=some (c,s,d)->(c=101\/c=69)/\(s=[]\/s=[43]\/s=[45])/\d≠[]/\d.all zas=true)/\l.drop f=exT E:=by
  unfold expN at h
  by_cases hc:(l[f]? = some 101\/l[f]? = some 69)/\0<zaY (l.drop (zbc l f))
  ·rw[if_pos hc] at h;obtain⟨c,hc1,hc2⟩:∃c,l[f]? = some c/\(c=101\/c=69):=by
    rcases hc.1 with h1|h1
    ·exact⟨_,h1,.inl rfl⟩
    ·exact⟨_,h1,.inr rfl⟩
   have hdig:l.drop (zbc l f)≠[]/\(l.drop (zbc l f)).all zas=true:=by
    have h1:=zbD (l.drop (zbc l f));have h2:zaY (l.drop (zbc l f))=(l.drop (zbc l f)).length:=by rw[zv];omega
    rw[h2,List.take_length] at h1;refine⟨fun e=>?_,h1⟩;rw[e] at hc;exact absurd hc.2 (by simp[zaY])
   rw[za4 hc1];unfold zbc at hdig hc
   by_cases hs:l[f+1]? = some 43\/l[f+1]? = some 45
   ·rw[if_pos hs] at hdig;obtain⟨s,hs1,hs2⟩:∃s,l[f+1]? = some s/\(s=43\/s=45):=by
     rcases hs with h1|h1
     ·exact⟨_,h1,.inl rfl⟩
     ·exact⟨_,h1,.inr rfl⟩
    refine⟨some (c,[s],l.drop (f+2)),?_,?_⟩
    ·intro c' s' d' e;injection e with e;injection e with e1 e2;injection e2 with e2 e3
     subst e1 e2 e3;exact⟨hc2,by rcases hs2 with rfl|rfl<;>simp,hdig.1,hdig.2⟩
    ·rw[za4 hs1];rfl
   ·rw[if_neg hs] at hdig;refine⟨some (c,[],l.drop (f+1)),?_,rfl⟩;intro c' s' d' e;injection e with e;injection e with e1 e2;injection e2 with e2 e3
    subst e1 e2 e3;exact⟨hc2,.inl rfl,hdig.1,hdig.2⟩
  ·rw[if_neg hc] at h;subst h;exact⟨none,fun _ _ _ e=>(by cases e),by simp[exT]⟩
 refine⟨⟨decide (l[0]? = some 45),I,F,E⟩,⟨hI0,hI1,hI2,hF1,hE1⟩,?_⟩;show l=sgT _++(I++(frT F++exT E));rw[<-hE,<-hF,<-hI,<-hsg]
theorem zfj {c:UInt8} (h:zas c=true):48<=c.toNat/\c.toNat<=57:=of_decide_eq_true h
theorem zbH {c k:UInt8} (h:zas c=true) (hk:zas k=false):c≠k:=fun e=>by subst e;rw[h] at hk;cases hk
theorem zbY {I:List UInt8} (h0:I≠[]) (h1:I.all zas=true):∃c t,I=c::t/\zas c=true:=by
 cases I with
 | nil=>exact absurd rfl h0
 | cons c t=>rw[List.all_cons,Bool.and_eq_true] at h1;exact⟨c,t,rfl,h1.1⟩
theorem zd2 {p:NumS} (hp:p.Good):∀c,(frT p.fr++exT p.ex)[0]? = some c->zas c=false:=by
 intro c h
 cases hf:p.fr with
 | cons a t=>rw[hf] at h;simp only[frT,qh,je,zl.injEq] at h;subst h;rfl
 | nil=>
  rw[hf] at h
  cases he:p.ex with
  | none=>rw[he] at h;simp[frT,exT] at h
  | some e=>
   obtain⟨k,s,d⟩:=e;rw[he] at h;simp only[frT,exT,qc,je,zl.injEq] at h;subst h;rcases(hp.e1 k s d he).1 with rfl|rfl<;>rfl
theorem zcV {p:NumS} (hp:p.Good):∀c,(exT p.ex)[0]? = some c->c=101\/c=69:=by
 intro c h
 cases he:p.ex with
 | none=>rw[he] at h;simp[exT] at h
 | some e=>
  obtain⟨k,s,d⟩:=e;rw[he] at h;simp only[exT,je,zl.injEq] at h;subst h;exact(hp.e1 k s d he).1
theorem num_txt {p:NumS} (hp:p.Good):zdH p.txt=p.txt.length/\p.txt≠[]:=by
 obtain⟨c,t,hI,hc⟩:=zbY hp.i0 hp.i1;have hsg:zbl p.txt=(sgT p.neg).length:=by
  unfold zbl NumS.txt
  cases p.neg with
  | true=>rw[if_pos (by rfl)];rfl
  | false=>
   rw[if_neg ?_]
   ·rfl
   ·rw[hI];simp only[sgT,Bool.false_eq_true,if_false,qc,qh,je,zl.injEq];exact zbH hc rfl
 have hdrop:∀r:List UInt8,(sgT p.neg++r).drop (sgT p.neg).length=r:=fun r=>by simp
 have hd0:p.txt.drop (sgT p.neg).length=p.int++(frT p.fr++exT p.ex):=by unfold NumS.txt;exact hdrop _
 have hrun:=zbJ p.int (frT p.fr++exT p.ex) hp.i1 (zd2 hp);have hIl:0<p.int.length:=jx.2 hp.i0;have hwhole:zaV p.txt=(sgT p.neg).length+p.int.length:=by
  unfold zaV;rw[hsg,hd0,hrun];have hg:p.txt[(sgT p.neg).length]? = p.int[0]?:=by
   have:p.txt[(sgT p.neg).length]? = (p.txt.drop (sgT p.neg).length)[0]?:=by rw[qx,qp]
   rw[this,hd0,List.getElem?_append_left hIl]
  rw[hg]
  by_cases hz:p.int[0]? = some 48
  ·rw[if_pos hz,hp.i2 hz];rfl
  ·rw[if_neg hz]
 have hd1:p.txt.drop ((sgT p.neg).length+p.int.length)=frT p.fr++exT p.ex:=by rw[<-qu,hd0];simp
 have hg1:p.txt[(sgT p.neg).length+p.int.length]? = (frT p.fr++exT p.ex)[0]?:=by rw[<-hd1,qx,qp]
 have hfrac:zb6 p.txt ((sgT p.neg).length+p.int.length)=(sgT p.neg).length+p.int.length+(frT p.fr).length:=by
  unfold zb6;rw[hg1,<-qu,hd1]
  cases hf:p.fr with
  | nil=>
   rw[if_neg ?_]
   ·rfl
   ·rintro⟨h1,_⟩;rw[show frT []=[] from rfl,qc] at h1;rcases zcV hp _ h1 with h2|h2<;>cases h2
  | cons a r=>
   have hr:zaY ((frT (a::r)++exT p.ex).drop 1)=(a::r).length:=by
    show zaY ((a::r)++exT p.ex)=_;refine zbJ _ _ (by rw[<-hf];exact hp.f1) ?_;intro c h;rcases zcV hp c h with rfl|rfl<;>rfl
   rw[hr,if_pos ⟨rfl,by simp⟩];simp[frT];omega
 have hd2:p.txt.drop ((sgT p.neg).length+p.int.length+(frT p.fr).length)=exT p.ex:=by rw[<-qu,hd1];simp
 have hlen:p.txt.length=(sgT p.neg).length+p.int.length+(frT p.fr).length+(exT p.ex).length:=by unfold NumS.txt;simp;omega
 have hexp:expN p.txt ((sgT p.neg).length+p.int.length+(frT p.fr).length)=p.txt.length:=by
  generalize (sgT p.neg).length+p.int.length+(frT p.fr).length=f at *;have hg2:∀k,p.txt[f+k]? = (exT p.ex)[k]?:=fun k=>by rw[<-hd2,qx]
  have hg0:=hg2 0;rw[qp] at hg0;have hd3:∀k,p.txt.drop (f+k)=(exT p.ex).drop k:=fun k=>by rw[<-qu,hd2]
  unfold expN
  cases he:p.ex with
  | none=>
   rw[he] at hg0 hlen;rw[hg0,if_neg (by simp[exT]),hlen];rfl
  | some e=>
   obtain⟨k,s,d⟩:=e;obtain⟨h1,h2,h3,h4⟩:=hp.e1 k s d he;have h1':=hg2 1;rw[he] at hg0 hlen hd3 h1';have hdl:0<d.length:=jx.2 h3;have hrd:zaY d=d.length:=by
    have:=zbJ d [] h4 (by simp)
    rwa [List.append_nil] at this
   obtain⟨c1,d1,e1,e2⟩:=zbY h3 h4;have hat:zbc p.txt f=f+1+s.length:=by
    unfold zbc;rw[h1'];rcases h2 with rfl|rfl|rfl
    ·rw[if_neg]
     ·rfl
     ·rw[e1];simp only[exT,qc,xp,je,zl.injEq];rintro(h|h)
      ·exact zbH e2 (k:=43) rfl h
      ·exact zbH e2 (k:=45) rfl h
    ·rw[if_pos (by simp[exT])];rfl
    ·rw[if_pos (by simp[exT])];rfl
   have hdd:p.txt.drop (f+1+s.length)=d:=by
    rw[show f+1+s.length=f+(1+s.length) by omega,hd3];show (k::(s++d)).drop (1+s.length)=d;rw[Nat.add_comm 1,List.drop_succ_cons];simp
   rw[hat,hdd,hrd,hg0,if_pos]
   ·rw[hlen];simp[exT];omega
   ·refine⟨?_,hdl⟩;rcases h1 with rfl|rfl<;>simp[exT]
 constructor
 ·unfold zdH;rw[hsg,hd0,hrun,if_neg (by omega),hwhole,hfrac,hexp]
 ·intro e;rw[e] at hlen;simp only[qo] at hlen;omega
end Go.Proofs.Ytceenajkieomoaa
namespace Go.Proofs.Ytceenajkieomoaa
open Lib renaming decDigits->jh
open List renaming cons_append->qh, getElem?_cons_zero->je, length_append->zq, nil_append->qc, replicate->qg, replicate_succ->xn
theorem dec_one {m:Nat} (h:m<10):jh m=[UInt8.ofNat (48+m)]:=Lib.decDigits_one h
theorem dec_more {m:Nat} (h:¬m<10):jh m=jh (m / 10)++[UInt8.ofNat (48+m % 10)]:=by
 rw[jh,dif_neg h]
open Go.RowKit
def decV:List UInt8->Nat->Nat
 | [],n=>n
 | c::l,n=>decV l (n*10+(c.toNat - 48))
theorem zgF:∀(l:List UInt8) (n:Nat),n<=decV l n
 | [],n=>Nat.le_refl _
 | c::l,n=>by
  have:=zgF l (n*10+(c.toNat - 48));unfold decV;omega
def zeb (cut:Nat):Option (UInt8×List UInt8×List UInt8)->Int
 | none=>0
 | some (_,s,d)=>if s=[45] then -((min (decV d 0) cut:Nat):Int) else ((min (decV d 0) cut:Nat):Int)
def zL (l:List UInt8):List UInt8:=l.dropWhile (·==48)
def zR (l:List UInt8):List UInt8:=(zL l.reverse).reverse
def zdh (p:NumS):List UInt8:=zL (p.int++p.fr)
def expX (cut:Nat) (p:NumS):Int:=zeb cut p.ex - (p.fr.length:Int)+(((zdh p).length:Int) - ((zR (zdh p)).length:Int))
def expS (x:Int):List UInt8:=if x=0 then [] else 101::Lib.itoa x
def canP (cut:Nat) (p:NumS):Int×List UInt8 :=
 if zdh p=[] then (0,[48])
 else if 40<(zR (zdh p)).length\/expX cut p < -400\/400<expX cut p then (144,[])
 else (0,sgT p.neg++(zR (zdh p)++expS (expX cut p)))
theorem zeL (c:UInt8) (t:List UInt8):zL (c::t)=if c=48 then zL t else c::t:=by
 unfold zL;rw[List.dropWhile_cons]
 by_cases h:c=48
 ·rw[if_pos h,if_pos (by rw[h];rfl)]
 ·rw[if_neg h,if_neg (by simpa using h)]
theorem zeK:∀l:List UInt8,∃k,l=qg k 48++zL l/\∀c,(zL l)[0]? = some c->c≠48
 | []=>⟨0,rfl,fun c h=>by simp[zL] at h⟩
 | c::t=>by
  rw[zeL]
  by_cases h:c=48
  ·rw[if_pos h];obtain⟨k,h1,h2⟩:=zeK t;refine⟨k+1,?_,h2⟩;rw[xn,qh,<-h1,h]
  ·rw[if_neg h];exact⟨0,rfl,fun d hd=>by simp only[je,Option.some.injEq] at hd;rw[<-hd];exact h⟩
theorem zL_rep (k:Nat) (r:List UInt8):zL (qg k 48++r)=zL r:=by
 induction k with
 | zero=>rfl
 | succ k ih=>rw[xn,qh,zeL,if_pos rfl,ih]
theorem zL_id {l:List UInt8} (h:∀c,l[0]? = some c->c≠48):zL l=l:=by
 cases l with
 | nil=>rfl
 | cons c t=>rw[zeL,if_neg (h c rfl)]
theorem zR_rep (a:List UInt8) (k:Nat):zR (a++qg k 48)=zR a:=by
 unfold zR;rw[List.reverse_append,List.reverse_replicate,zL_rep]
theorem zR_spec (l:List UInt8):∃k,l=zR l++qg k 48:=by
 obtain⟨k,h1,h2⟩:=zeK l.reverse;refine⟨k,?_⟩;have:=congrArg List.reverse h1;rw[List.reverse_reverse,List.reverse_append,List.reverse_replicate] at this;exact this
theorem zL_len (l:List UInt8):(zL l).length<=l.length:=by
 obtain⟨k,h,_⟩:=zeK l;have:=congrArg List.length h;rw[zq] at this;omega
theorem zR_len (l:List UInt8):(zR l).length<=l.length:=by
 obtain⟨k,h⟩:=zR_spec l;have:=congrArg List.length h;rw[zq] at this;omega
theorem zki (p:NumS):∀c,(zdh p)[0]? = some c->c≠48:=by
 obtain⟨k,_,h⟩:=zeK (p.int++p.fr);exact h
theorem zhn (p:NumS):(zdh p).length<=p.int.length+p.fr.length:=by
 have:=zL_len (p.int++p.fr);rw[zq] at this;exact this
theorem zi1 (p:NumS):p.int.length+p.fr.length<=p.txt.length:=by
 unfold NumS.txt;simp only[zq];have:p.fr.length<=(frT p.fr).length:=by cases p.fr<;>simp[frT]
 omega
theorem expI_le (cut:Nat):∀e,-(cut:Int)<=zeb cut e/\zeb cut e<=cut
 | none=>⟨by simp only[zeb];omega,by simp only[zeb];omega⟩
 | some (_,s,d)=>by
  simp only[zeb]
  split<;>omega
def zgt (c:Nat):List UInt8->Nat->Nat
 | [],n=>n
 | x::l,n=>zgt c l (min (n*10+(x.toNat - 48)) c)
theorem zgs (c:Nat):∀(l:List UInt8) (n:Nat),n<=c->zgt c l n=min (decV l n) c
 | [],n,h=>by rw[zgt,decV];omega
 | x::l,n,h=>by
  rw[zgt,decV,zgs c l _ (by omega)]
  by_cases h1:n*10+(x.toNat - 48)<=c
  ·rw[Nat.min_eq_left h1]
  ·rw[Nat.min_eq_right (show c<=n*10+(x.toNat - 48) by omega)];have h2:=zgF l c;have h3:=zgF l (n*10+(x.toNat - 48));omega
theorem minV_le (c:Nat):∀(l:List UInt8) (n:Nat),n<=c->zgt c l n<=c:=fun l n h=>by rw[zgs c l n h];omega
def zc3 (l:List UInt8):List UInt8:=if l[0]? = some 43\/l[0]? = some 45 then l.drop 1 else l
def negE (l:List UInt8):Bool:=decide (l[0]? = some 45)
def expC (c:Nat) (l:List UInt8):Int:=if negE l=true then -(zgt c (zc3 l) 0:Int) else (zgt c (zc3 l) 0:Int)
theorem zgE (c:Nat) {p:NumS} (hp:p.Good) {k:UInt8} {s d:List UInt8} (he:p.ex=some (k,s,d)):expC c (s++d)=zeb c p.ex/\zc3 (s++d)=d:=by
 obtain⟨_,h2,h3,h4⟩:=hp.e1 k s d he;obtain⟨c1,d1,e1,e2⟩:=zbY h3 h4;have hs:zc3 (s++d)=d:=by
  unfold zc3;rcases h2 with rfl|rfl|rfl
  ·rw[qc,if_neg];rw[e1];simp only[je,Option.some.injEq];rintro(h|h)
   ·exact zbH e2 (k:=43) rfl h
   ·exact zbH e2 (k:=45) rfl h
  ·rw[if_pos (.inl rfl)];rfl
  ·rw[if_pos (.inr rfl)];rfl
 refine⟨?_,hs⟩;have hn:negE (s++d)=decide (s=[45]):=by
  unfold negE;rcases h2 with rfl|rfl|rfl
  ·rw[qc,e1];have:c1≠45:=zbH e2 rfl;simp[this]
  ·simp
  ·simp
 unfold expC zeb;rw[hs,hn,he,zgs c d 0 (Nat.zero_le _)]
 by_cases h:s=[45]
 ·simp[h]
 ·simp[h]
end Go.Proofs.Ytceenajkieomoaa
namespace Go.Proofs.Ytceenajkieomoaa.Sx
open Go.RowKit
open List renaming all_eq_true->zu, getElem?_append_left->zm, getElem?_append_right->jb, getElem?_drop->qx, getElem?_eq_getElem->zk, getElem?_eq_none->zr, getElem?_set_ne->zf, getElem?_set_self->zg, getElem?_take->xe, length_append->zq, length_cons->qb, length_drop->zv, length_set->ze, length_take->qd, mem_append->zt, mem_of_mem_drop->jo, mem_of_mem_take->jg
open Nat renaming eq_zero_or_pos->jf, le_refl->zd, lt_or_ge->zh
open Option renaming some->zl
inductive AV where
 | s (l:List UInt8)
 | i (k:IntKind) (n:Int)
 | b (x:Bool)
 | agg (cs:List AV)
 | tup (cs:List AV)
 | p (b off:Nat)
 | row (n:Nat) (xs:List AV)
 | prow (xs:List AV) (j:Nat)
 | crow (n:Nat) (xs:List AV)
 | orow (b gen:Nat)
 | porow (b gen j:Nat)
 | bsl (b off n:Nat)
 | m (b:Nat)
 | zn (b:Bool)
 | nil
 | fn (f:Nat) (first caps:List AV)
 | o (v:Value)
 | u
inductive OB where
 | box (T:TypeId) (cs:List AV)
 | orow (E sz gen n:Nat) (xs:List AV)
 | mp (es:List (List UInt8×AV))
 | dead
structure Gh where
 blk:Nat->Option Nat
 cur:Nat->Option (Nat×Value)
def Gh.own (G:Gh) (b:Nat):Option Nat :=
 match G.blk b with
 | some g=>some g
 | none=>match G.cur b with
  | some p=>p.2.ownBlock
  | none=>none
theorem zau {G:Gh} {b g:Nat} (h:G.blk b=some g):G.own b=some g:=by simp[Gh.own,h]
theorem za9 {G:Gh} {b n:Nat} {v:Value} (h:G.blk b=none) (h':G.cur b=some (n,v)):G.own b=v.ownBlock:=by simp[Gh.own,h,h']
abbrev Imm:=Nat->Nat->Value->Prop
mutual
def Den (G:Gh) (I:Imm):AV->Value->Prop
 | .s l,y=>y=.string ⟨l.toArray⟩
 | .i k n,y=>y=.int k n
 | .b x,y=>y=.bool x
 | .agg cs,y=>∃ys,y=.agg ys.toArray/\zae G I cs ys/\∀u∈ys,u.oneCell'=true
 | .tup cs,y=>∃ys,y=.tuple ys.toArray/\zae G I cs ys
 | .p b off,y=>∃g,G.blk b=some g/\y=.pointer (some ⟨g,off,none⟩)
 | .row n xs,y=>∃a c ys,y=.slice a n c/\(n<=c/\∀ad:Addr,a=some ad->c≠0->ad.spot=none)/\zae G I xs ys/\(∀u∈ys,u.oneCell'=true)/\∀j u,ys[j]? = some u->∃g off,a=some ⟨g,off,none⟩/\I g (off+j) u
 | .prow xs j,y=>∃g off ys,y=.pointer (some ⟨g,off+j,none⟩)/\zae G I xs ys/\(∀u∈ys,u.oneCell'=true)/\∀j u,ys[j]? = some u->I g (off+j) u
 | .crow n xs,y=>∃a ys,y=.slice a n n/\(∀ad:Addr,a=some ad->n≠0->ad.spot=none)/\zae G I xs ys/\(∀u∈ys,u.oneCell'=true)/\∀j u,ys[j]? = some u->∃g off,a=some ⟨g,off,none⟩/\I g (off+j) u
 | .orow b gen,y=>∃g' v,G.cur b=some (g',v)/\gen<=g'/\(gen=g'->y=v)/\y.oneCell'=true
 | .porow b gen j,y=>∃g' v g,G.cur b=some (g',v)/\gen<=g'/\y=.pointer (some ⟨g,j,none⟩)/\(gen=g'->∃n c,v=.slice (some ⟨g,0,none⟩) n c)
 | .bsl b off n,y=>∃g c,G.blk b=some g/\y=.slice (some ⟨g,off,none⟩) n c/\n<=c
 | .m b,y=>∃g,G.blk b=some g/\y=.map (some g)
 | .zn b,y=>∃a c,y=.slice a 0 c/\a.isNone=b/\∀ad:Addr,a=some ad->c≠0->ad.spot=none
 | .nil,y=>y=.slice none 0 0
 | .fn f fs cs,y=>∃us ys,y=.func (.func f) us.toArray ys.toArray/\zae G I fs us/\zae G I cs ys
 | .o v,y=>y=v
 | .u,y=>True
def zae (G:Gh) (I:Imm):List AV->List Value->Prop
 | [],ys=>ys=[]
 | x::xs,ys=>∃y ys',ys=y::ys'/\Den G I x y/\zae G I xs ys'
end
structure Gh.le (G G':Gh):Prop where
 blk:∀b g,G.blk b=some g->G'.blk b=some g
 cur:∀b n v,G.cur b=some (n,v)->∃n' v',G'.cur b=some (n',v')/\(n'=n/\v'=v\/n<n')
theorem Gh.le.refl (G:Gh):G.le G:=⟨fun _ _ h=>h,fun _ n v h=>⟨n,v,h,.inl ⟨rfl,rfl⟩⟩⟩
theorem Gh.le.trans {a b c:Gh} (h:a.le b) (k:b.le c):a.le c:=by
 refine⟨fun x g hx=>k.blk x g (h.blk x g hx),fun x n v hx=>?_⟩;obtain⟨n1,v1,h1,h2⟩:=h.cur x n v hx;obtain⟨n2,v2,h3,h4⟩:=k.cur x n1 v1 h1;refine⟨n2,v2,h3,?_⟩;rcases h2 with ⟨rfl,rfl⟩|h2
 ·exact h4
 ·rcases h4 with ⟨rfl,_⟩|h4
  ·exact .inr h2
  ·exact .inr (by omega)
def Imm.le (I I':Imm):Prop:=∀g o v,I g o v->I' g o v
mutual
theorem Den.mono {G G':Gh} {I I':Imm} (hG:G.le G') (hI:Imm.le I I'):∀(x:AV) (y:Value),Den G I x y->Den G' I' x y
 | .s l,y,h=>by simpa[Den] using h
 | .i k n,y,h=>by simpa[Den] using h
 | .b x,y,h=>by simpa[Den] using h
 | .agg cs,y,h=>by
  simp only[Den] at h ⊢;obtain⟨ys,h1,h2,h3⟩:=h;exact⟨ys,h1,zae.mono hG hI cs ys h2,h3⟩
 | .tup cs,y,h=>by
  simp only[Den] at h ⊢;obtain⟨ys,h1,h2⟩:=h;exact⟨ys,h1,zae.mono hG hI cs ys h2⟩
 | .p b off,y,h=>by
  simp only[Den] at h ⊢;obtain⟨g,h1,h2⟩:=h;exact⟨g,hG.blk _ _ h1,h2⟩
 | .row n xs,y,h=>by
  simp only[Den] at h ⊢;obtain⟨a,c,ys,h1,h2,h3,h4,h5⟩:=h;refine⟨a,c,ys,h1,h2,zae.mono hG hI xs ys h3,h4,fun j u hj=>?_⟩;obtain⟨g,off,e,hi⟩:=h5 j u hj;exact⟨g,off,e,hI _ _ _ hi⟩
 | .prow xs j,y,h=>by
  simp only[Den] at h ⊢;obtain⟨g,off,ys,h1,h3,h4,h5⟩:=h;exact⟨g,off,ys,h1,zae.mono hG hI xs ys h3,h4,fun j u hj=>hI _ _ _ (h5 j u hj)⟩
 | .crow n xs,y,h=>by
  simp only[Den] at h ⊢;obtain⟨a,ys,h1,h2,h3,h4,h5⟩:=h;refine⟨a,ys,h1,h2,zae.mono hG hI xs ys h3,h4,fun j u hj=>?_⟩;obtain⟨g,off,e,hi⟩:=h5 j u hj;exact⟨g,off,e,hI _ _ _ hi⟩
 | .orow b gen,y,h=>by
  simp only[Den] at h ⊢;obtain⟨g',v,h1,h2,h3,h0⟩:=h;obtain⟨n',v',e,h4⟩:=hG.cur _ _ _ h1;refine⟨n',v',e,?_,?_,h0⟩
  ·rcases h4 with ⟨rfl,_⟩|h4<;>omega
  ·rcases h4 with ⟨rfl,rfl⟩|h4
   ·exact h3
   ·intro e;omega
 | .porow b gen j,y,h=>by
  simp only[Den] at h ⊢;obtain⟨g',v,g,h1,h2,h0,h3⟩:=h;obtain⟨n',v',e,h4⟩:=hG.cur _ _ _ h1;refine⟨n',v',g,e,?_,h0,?_⟩
  ·rcases h4 with ⟨rfl,_⟩|h4<;>omega
  ·rcases h4 with ⟨rfl,rfl⟩|h4
   ·exact h3
   ·intro e;omega
 | .bsl b off n,y,h=>by
  simp only[Den] at h ⊢;obtain⟨g,c,h1,h2⟩:=h;exact⟨g,c,hG.blk _ _ h1,h2⟩
 | .m b,y,h=>by
  simp only[Den] at h ⊢;obtain⟨g,h1,h2⟩:=h;exact⟨g,hG.blk _ _ h1,h2⟩
 | .zn b,y,h=>by simpa[Den] using h
 | .nil,y,h=>by simpa[Den] using h
 | .fn f fs cs,y,h=>by
  simp only[Den] at h ⊢;obtain⟨us,ys,h1,h2,h3⟩:=h;exact⟨us,ys,h1,zae.mono hG hI fs us h2,zae.mono hG hI cs ys h3⟩
 | .o v,y,h=>by simpa[Den] using h
 | .u,y,h=>by simp[Den]
theorem zae.mono {G G':Gh} {I I':Imm} (hG:G.le G') (hI:Imm.le I I'):∀(xs:List AV) (ys:List Value),zae G I xs ys->zae G' I' xs ys
 | [],ys,h=>by simpa[zae] using h
 | x::xs,ys,h=>by
  simp only[zae] at h ⊢;obtain⟨y,ys',h1,h2,h3⟩:=h;exact⟨y,ys',h1,Den.mono hG hI x y h2,zae.mono hG hI xs ys' h3⟩
end
theorem zae.length {G:Gh} {I:Imm}:∀{xs:List AV} {ys:List Value},zae G I xs ys->xs.length=ys.length
 | [],ys,h=>by simp only[zae] at h;subst h;rfl
 | x::xs,ys,h=>by
  simp only[zae] at h;obtain⟨y,ys',rfl,_,h3⟩:=h;simp[zae.length h3]
theorem zae.get {G:Gh} {I:Imm}:∀{xs:List AV} {ys:List Value} (j:Nat) {x:AV},zae G I xs ys->xs[j]? = some x->∃y,ys[j]? = some y/\Den G I x y
 | [],ys,j,x,h,hx=>by simp at hx
 | z::xs,ys,j,x,h,hx=>by
  simp only[zae] at h;obtain⟨y,ys',rfl,h2,h3⟩:=h
  cases j with
  | zero=>simp at hx;subst hx;exact⟨y,rfl,h2⟩
  | succ j=>simpa using zae.get j h3 (by simpa using hx)
theorem zae.set {G:Gh} {I:Imm}:∀{xs:List AV} {ys:List Value} (j:Nat) {x:AV} {y:Value},zae G I xs ys->Den G I x y->zae G I (xs.set j x) (ys.set j y)
 | [],ys,j,x,y,h,hx=>by simp only[zae] at h;subst h;simp[zae]
 | z::xs,ys,j,x,y,h,hx=>by
  simp only[zae] at h;obtain⟨y',ys',rfl,h2,h3⟩:=h
  cases j with
  | zero=>simp only[List.set_cons_zero,zae];exact⟨_,_,rfl,hx,h3⟩
  | succ j=>simp only[List.set_cons_succ,zae];exact⟨_,_,rfl,h2,zae.set j h3 hx⟩
theorem zae.append {G:Gh} {I:Imm}:∀{xs:List AV} {ys:List Value} {xs':List AV} {ys':List Value},zae G I xs ys->zae G I xs' ys'->zae G I (xs++xs') (ys++ys')
 | [],ys,xs',ys',h,h'=>by simp only[zae] at h;subst h;simpa using h'
 | z::xs,ys,xs',ys',h,h'=>by
  simp only[zae] at h;obtain⟨y,ys1,rfl,h2,h3⟩:=h;simp only[List.cons_append,zae];exact⟨_,_,rfl,h2,zae.append h3 h'⟩
theorem zae.drop {G:Gh} {I:Imm}:∀{xs:List AV} {ys:List Value} (k:Nat),zae G I xs ys->zae G I (xs.drop k) (ys.drop k)
 | xs,ys,0,h=>by simpa using h
 | [],ys,k+1,h=>by simp only[zae] at h;subst h;simp[zae]
 | z::xs,ys,k+1,h=>by
  simp only[zae] at h;obtain⟨y,ys1,rfl,h2,h3⟩:=h;simpa using zae.drop k h3
theorem zae.take {G:Gh} {I:Imm}:∀{xs:List AV} {ys:List Value} (k:Nat),zae G I xs ys->zae G I (xs.take k) (ys.take k)
 | xs,ys,0,h=>by simp[zae]
 | [],ys,k+1,h=>by simp only[zae] at h;subst h;simp[zae]
 | z::xs,ys,k+1,h=>by
  simp only[zae] at h;obtain⟨y,ys1,rfl,h2,h3⟩:=h;simp only[List.take_succ_cons,zae];exact⟨_,_,rfl,h2,zae.take k h3⟩
theorem zae.cons {G:Gh} {I:Imm} {x:AV} {xs:List AV} {y:Value} {ys:List Value} (h:Den G I x y) (h':zae G I xs ys):zae G I (x::xs) (y::ys):=by
 simp only[zae];exact⟨_,_,rfl,h,h'⟩
theorem zae.nil {G:Gh} {I:Imm}:zae G I [] []:=by simp[zae]
structure Cx where
 w:World
 own:Nat->Prop
 I:Imm
 gh:Gh
structure In (C:Cx) (G:Gh) (I:Imm) (w:World):Prop where
 os:w.os=C.w.os
 tape:w.tape=C.w.tape
 output:w.output=C.w.output
 size:C.w.heap.size<=w.heap.size
 block:∀k,k<C.w.heap.size->¬C.own k->w.heap[k]? = C.w.heap[k]?
 imm:Imm.le C.I I
 news:∀g o v,I g o v->C.I g o v\/C.own g\/C.w.heap.size<=g
 blk:∀b g,G.own b=some g->C.own g\/C.w.heap.size<=g
 gh:C.gh.le G
def Ents (G:Gh) (I:Imm) (es:List (List UInt8×AV)) (en:List MapEntry):Prop :=
 en.map (·.key)=es.map (fun e=>Value.string ⟨e.1.toArray⟩)/\zae G I (es.map (·.2)) (en.map (·.val))/\∀u∈en.map (·.val),u.oneCell'=true
theorem Ents.mono {G G':Gh} {I I':Imm} (hG:G.le G') (hI:Imm.le I I') {es:List (List UInt8×AV)} {en:List MapEntry} (h:Ents G I es en):Ents G' I' es en :=
 ⟨h.1,zae.mono hG hI _ _ h.2.1,h.2.2⟩
structure MemOk (G:Gh) (I:Imm) (objs:List OB) (w:World):Prop where
 imm:∀g o v,I g o v->w.cell? ⟨g,o,none⟩=some v
 box:∀(b:Nat) T cs,objs[b]? = some (.box T cs)->∃g ys,G.blk b=some g/\w.heap[g]? = some (.cells ys.toArray T (0,0))/\zae G I cs ys/\∀u∈ys,u.oneCell'=true
 row:∀(b:Nat) E sz gen n xs,objs[b]? = some (.orow E sz gen n xs)->∃v ys,G.cur b=some (gen,v)/\w.ownsRow 0 E sz v n ys/\zae G I xs ys/\(∀u∈ys,u.oneCell'=true)/\G.blk b=none
 map:∀(b:Nat) es,objs[b]? = some (.mp es)->∃g en ck,G.blk b=some g/\w.heap[g]? = some (.map en ck)/\Ents G I es en.toList
 inj:∀b b' g,G.own b=some g->G.own b'=some g->b=b'
 lt:∀b g,G.own b=some g->g<w.heap.size
 apart:∀b g o v,G.own b=some g->¬I g o v
 fresh:∀b,objs.length<=b->G.blk b=none/\G.cur b=none
def Rel (C:Cx) (objs:List OB) (tm:List AV) (a:Act) (w:World):Prop :=
 ∃G I,In C G I w/\MemOk G I objs w/\zae G I tm a.tmps.toList/\a.defers=[]
abbrev zaE:=Exit->List OB->List AV->Prop
def zdM (C:Cx) (K:zaE) (e:Exit) (a:Act) (w:World):Prop:=∃objs tm,K e objs tm/\Rel C objs tm a w
def WP (P:Program) (C:Cx) (c:Code) (K:zaE) (objs:List OB) (tm:List AV):Prop :=
 ∀a w,Rel C objs tm a w->c.wp P (zdM C K) a w
theorem ziW {P:Program} {Q:Exit->Act->World->Prop} {c:Code} (I:Nat->Act->World->Prop)
  (round:∀n a w,I n a w->c.wp P (Exit.then (fun a' w'=>∃m,m<n/\I m a' w') Q) a w):∀n a w,I n a w->(Code.loop c).wp P Q a w:=by
 intro n a w h₀ b k cs;have key:∀n a w,I n a w->∃e a' w',Q e a' w'/\Arrives P (lone (b.at a (.code c::.inLoop c::k)) cs w) b k cs e a' w':=by
  intro n
  induction n using Nat.strongRecOn with
  | _ n ih=>
   intro a w hI;obtain⟨e,a₁,w₁,hq,harr⟩:=round n a w hI b (.inLoop c::k) cs
   cases e with
   | normal=>
    obtain⟨m,hlt,hI₁⟩:=hq;obtain⟨e₂,a₂,w₂,hq₂,harr₂⟩:=ih m hlt a₁ w₁ hI₁;exact⟨e₂,a₂,w₂,hq₂,.of_steps (Steps.trans harr (.one step_inLoop)) harr₂⟩
   | exit id=>exact⟨_,a₁,w₁,hq,.pass (x:=.inLoop c) rfl (fun _ _=>.inl (by simp)) harr⟩
   | goto l=>exact⟨_,a₁,w₁,hq,.pass (x:=.inLoop c) rfl (fun _ _=>.inl (by simp)) harr⟩
   | ret=>exact⟨_,a₁,w₁,hq,.pass (x:=.inLoop c) rfl (fun _ _=>.inl (by simp)) harr⟩
   | panic ch=>exact⟨_,a₁,w₁,hq,.pass (x:=.inLoop c) rfl (fun _ _=>.inl (by simp)) harr⟩
   | outgrown=>exact⟨_,a₁,w₁,hq,.pass (x:=.inLoop c) rfl (fun _ _=>.inl (by simp)) harr⟩
 obtain⟨e,a',w',hq,harr⟩:=key n a w h₀;exact⟨e,a',w',hq,.of_steps (.one step_loop) harr⟩
section
variable {P:Program} {C:Cx} {K:zaE} {objs:List OB} {tm:List AV}
theorem WP.mono {c:Code} {K K':zaE} (h:∀e objs tm,K e objs tm->K' e objs tm) (hh:WP P C c K objs tm):WP P C c K' objs tm :=
 fun a w hr=>wp_mono (hh a w hr) fun e a w ⟨o,t,hk,hr⟩=>⟨o,t,h _ _ _ hk,hr⟩
theorem WP.skip (h:K .normal objs tm):WP P C .skip K objs tm:=fun a w hr=>wp_skip ⟨_,_,h,hr⟩
theorem WP.ret (h:K .ret objs tm):WP P C .ret K objs tm:=fun a w hr=>wp_ret ⟨_,_,h,hr⟩
theorem WP.exit {id:Nat} (h:K (.exit id) objs tm):WP P C (.exit id) K objs tm:=fun a w hr=>wp_exit ⟨_,_,h,hr⟩
def zdB (N:List OB->List AV->Prop) (K:zaE):zaE
 | .normal,objs,tm=>N objs tm
 | e,objs,tm=>K e objs tm
theorem WP.seq {x y:Code} (h:WP P C x (zdB (WP P C y K) K) objs tm):WP P C (.seq x y) K objs tm:=by
 intro a w hr;refine wp_seq (wp_mono (h a w hr) ?_);rintro e a w ⟨o,t,hk,hr⟩
 cases e with
 | normal=>exact hk a w hr
 | _=>exact⟨o,t,hk,hr⟩
def blkK (id:Nat) (K:zaE):zaE
 | .exit id',objs,tm=>if id'=id then K .normal objs tm else K (.exit id') objs tm
 | e,objs,tm=>K e objs tm
theorem WP.block {id:Nat} {c:Code} (h:WP P C c (blkK id K) objs tm):WP P C (.block id c) K objs tm:=by
 intro a w hr;refine wp_block (wp_mono (h a w hr) ?_);rintro e a w ⟨o,t,hk,hr⟩
 cases e with
 | exit id'=>
  simp only[Exit.inBlock,blkK] at hk ⊢
  split at hk
  ·rename_i hid;rw[if_pos hid];exact⟨o,t,hk,hr⟩
  ·rename_i hid;rw[if_neg hid];exact⟨o,t,hk,hr⟩
 | _=>exact⟨o,t,hk,hr⟩
theorem WP.loop {c:Code} (J:Nat->List OB->List AV->Prop) (n:Nat) (h0:J n objs tm)
  (round:∀n objs tm,J n objs tm->WP P C c (zdB (fun o t=>∃m,m<n/\J m o t) K) objs tm):WP P C (.loop c) K objs tm:=by
 intro a w hr;refine ziW (fun n a w=>∃o t,J n o t/\Rel C o t a w) ?_ n a w ⟨objs,tm,h0,hr⟩;rintro n a w ⟨o,t,hj,hr⟩;refine wp_mono (round n o t hj a w hr) ?_;rintro e a w ⟨o,t,hk,hr⟩
 cases e with
 | normal=>
  obtain⟨m,hm,hj⟩:=hk;exact⟨m,hm,o,t,hj,hr⟩
 | _=>exact⟨o,t,hk,hr⟩
def zlI:Value->AV
 | .string s=>.s s.data.toList
 | .int k n=>.i k n
 | .bool x=>.b x
 | .slice none 0 0=>.nil
 | v=>.o v
def zgM:Value->AV
 | .agg vs=>if vs.toList.all (·.oneCell')=true then .agg (vs.toList.map zlI) else .o (.agg vs)
 | v=>zlI v
theorem zf4 (G:Gh) (I:Imm) (v:Value):Den G I (zlI v) v:=by
 unfold zlI
 split
 ·simp[Den]
 ·simp[Den]
 ·simp[Den]
 ·simp[Den]
 ·simp[Den]
theorem zeE (G:Gh) (I:Imm):∀l:List Value,zae G I (l.map zlI) l
 | []=>by simp[zae]
 | v::l=>by
  rw[List.map_cons];simp only[zae];exact⟨v,l,rfl,zf4 G I v,zeE G I l⟩
theorem zdP (G:Gh) (I:Imm) (v:Value):Den G I (zgM v) v:=by
 unfold zgM
 split
 ·rename_i vs
  split
  ·rename_i h;simp only[Den];exact⟨vs.toList,by simp,zeE G I _,fun u hu=>zu.1 h u hu⟩
  ·simp[Den]
 ·exact zf4 G I _
inductive SV where
 | t (n:Nat)
 | c (v:AV)
def zah:Operand->SV
 | .tmp t=>.t t
 | .const v=>.c (zgM v)
 | .global g=>.c (.o (.pointer (some ⟨g,0,none⟩)))
 | .func f=>.c (.fn f [] [])
def SV.ev (tm:List AV):SV->AV
 | .t n=>(tm[n]?).getD .u
 | .c v=>v
theorem zad {G:Gh} {I:Imm} {a:Act} (h:zae G I tm a.tmps.toList) (x:Operand):Den G I ((zah x).ev tm) (a.eval x):=by
 cases x with
 | tmp t=>
  simp only[zah,SV.ev,Act.eval]
  cases ht:tm[t]? with
  | none=>simp[Den]
  | some v=>
   obtain⟨y,h1,h2⟩:=zae.get t h ht;simp only[Option.getD_some,Array.getD_eq_getD_getElem?];rw[Array.getElem?_toList] at h1;rw[h1];exact h2
 | const v=>exact zdP _ _ _
 | global g=>simp[zah,SV.ev,Act.eval,Den]
 | func f=>simp only[zah,SV.ev,Act.eval,Den];exact⟨[],[],rfl,by simp[zae],by simp[zae]⟩
theorem WP.cond {c:Operand} {x y:Code} {t:Bool} (hc:(zah c).ev tm=.b t) (ht:t=true->WP P C x K objs tm) (hf:t=false->WP P C y K objs tm):WP P C (.cond c x y) K objs tm:=by
 intro a w hr;have hr':=hr;obtain⟨G,I,_,_,hd,_⟩:=hr';have h1:=zad hd c;rw[hc] at h1;simp only[Den] at h1;exact wp_cond_split h1 (fun h=>ht h a w hr) (fun h=>hf h a w hr)
end
def AV.one:AV->Bool
 | .agg _ | .tup _ | .u=>false
 | .o v=>v.oneCell'
 | _=>true
def AV.cells:AV->List AV
 | .agg cs=>cs
 | v=>[v]
def AV.flat:AV->Bool
 | .agg _=>true
 | v=>v.one
theorem zlt {G:Gh} {I:Imm} {x:AV} {y:Value} (h:Den G I x y) (h1:x.one=true):y.oneCell'=true:=by
 cases x with
 | s l=>simp only[Den] at h;subst h;rfl
 | i k n=>simp only[Den] at h;subst h;rfl
 | b x=>simp only[Den] at h;subst h;rfl
 | agg cs=>simp[AV.one] at h1
 | tup cs=>simp[AV.one] at h1
 | p b off=>simp only[Den] at h;obtain⟨_,_,rfl⟩:=h;rfl
 | row n xs=>simp only[Den] at h;obtain⟨_,_,_,rfl,_⟩:=h;rfl
 | prow xs j=>simp only[Den] at h;obtain⟨_,_,_,rfl,_⟩:=h;rfl
 | crow n xs=>simp only[Den] at h;obtain⟨_,_,rfl,_⟩:=h;rfl
 | orow b gen=>simp only[Den] at h;obtain⟨_,_,_,_,_,h⟩:=h;exact h
 | porow b gen j=>simp only[Den] at h;obtain⟨_,_,_,_,_,rfl,_⟩:=h;rfl
 | bsl b off n=>simp only[Den] at h;obtain⟨_,_,_,rfl,_⟩:=h;rfl
 | m b=>simp only[Den] at h;obtain⟨_,_,rfl⟩:=h;rfl
 | zn b=>simp only[Den] at h;obtain⟨_,_,rfl,_⟩:=h;rfl
 | nil=>simp only[Den] at h;subst h;rfl
 | fn f fs cs=>simp only[Den] at h;obtain⟨_,_,rfl,_⟩:=h;rfl
 | o v=>simp only[Den] at h;subst h;exact h1
 | u=>simp[AV.one] at h1
theorem zcY {G:Gh} {I:Imm} {x:AV} {y:Value} (h:Den G I x y) (h1:x.flat=true):zae G I x.cells y.cells.toList/\∀u∈y.cells.toList,u.oneCell'=true:=by
 cases x with
 | agg cs=>
  simp only[Den] at h;obtain⟨ys,rfl,h2,h3⟩:=h;exact⟨h2,h3⟩
 | _=>
  have ho:=zlt h h1;have hc:y.cells=#[y]:=by cases y<;>first|rfl|(simp[Value.oneCell'] at ho)
  rw[hc];exact⟨zae.cons h zae.nil,by simpa using ho⟩
def zaO (P:Program) (C:Cx) (o:Op) (type:TypeId) (objs:List OB) (tm:List AV) (K:List OB->AV->Prop):Prop :=
 ∀G I a w,In C G I w->MemOk G I objs w->zae G I tm a.tmps.toList->∀(op:Oper) (next:Act->World->Prop) (Q:Exit->Act->World->Prop),op.op=o->op.type=type ->
  (∀objs' v y G' I' w',K objs' v->G.le G'->Imm.le I I'->In C G' I' w'->MemOk G' I' objs' w'->Den G' I' v y->next (a.put op.dst y) w')->op.wp P a w next Q
theorem Imm.le.refl (I:Imm):Imm.le I I:=fun _ _ _ h=>h
theorem zaK {P:Program} {op:Oper} {a:Act} {w w':World} {next:Act->World->Prop} {Q:Exit->Act->World->Prop} {y:Value}
  (h:(execOp a.eval op).run P w=.ok (.value y) w') (hn:next (a.put op.dst y) w'):op.wp P a w next Q:=by
 unfold Oper.wp;rw[h];exact hn
theorem zeM {P:Program} {op:Oper} {a:Act} {w w':World} {next:Act->World->Prop} {Q:Exit->Act->World->Prop}
  (h:(execOp a.eval op).run P w=.ok .skip w') (hn:next (a.put op.dst undef) w'):op.wp P a w next Q:=by
 unfold Oper.wp;rw[h];exact hn
theorem zaf {P:Program} {C:Cx} {o:Op} {type:TypeId} {objs:List OB} {tm:List AV} {K:List OB->AV->Prop} (v:AV) (hk:K objs v)
  (h:∀(G:Gh) (I:Imm) (a:Act) (w:World),MemOk G I objs w->zae G I tm a.tmps.toList->∀op:Oper,op.op=o->op.type=type->∃y,(execOp a.eval op).run P w=.ok (.value y) w/\Den G I v y):zaO P C o type objs tm K:=by
 intro G I a w hin hm hd op next Q ho ht hn;obtain⟨y,hr,hy⟩:=h G I a w hm hd op ho ht;exact zaK hr (hn objs v y G I w hk (Gh.le.refl G) (Imm.le.refl I) hin hm hy)
def Gh.box (G:Gh) (b g:Nat):Gh:=⟨fun x=>if x=b then some g else G.blk x,G.cur⟩
def Gh.row (G:Gh) (b n:Nat) (v:Value):Gh:=⟨G.blk,fun x=>if x=b then some (n,v) else G.cur x⟩
theorem Gh.box_own (G:Gh) (b g x:Nat):(G.box b g).own x=if x=b then some g else G.own x:=by
 by_cases h:x=b
 ·simp[Gh.own,Gh.box,h]
 ·simp only[Gh.own,Gh.box,h,if_false]
theorem Gh.row_own (G:Gh) (b n:Nat) (v:Value) (hb:G.blk b=none) (x:Nat):(G.row b n v).own x=if x=b then v.ownBlock else G.own x:=by
 by_cases h:x=b
 ·subst h;simp[Gh.own,Gh.row,hb]
 ·simp only[Gh.own,Gh.row,h,if_false]
theorem In.alloc {C:Cx} {G:Gh} {I:Imm} {w:World} (h:In C G I w) (o:Obj):In C G I (w.alloc o) :=
 ⟨h.os,h.tape,h.output,by simp;have:=h.size;omega,fun k hk hn=>(Below.heap_alloc w o k (Nat.lt_of_lt_of_le hk h.size)).trans (h.block k hk hn),h.imm,h.news,h.blk,h.gh⟩
theorem MemOk.alloc {G:Gh} {I:Imm} {objs:List OB} {w:World} (h:MemOk G I objs w) (o:Obj):MemOk G I objs (w.alloc o):=by
 refine⟨fun g o' v hi=>?_,fun b T cs hb=>?_,fun b E sz gen n xs hb=>?_,fun b es hb=>?_,h.inj,fun b g hb=>by simp;have:=h.lt b g hb;omega,h.apart,h.fresh⟩
 ·have h1:=h.imm g o' v hi;rw[World.cell?_alloc_lt (h:=World.block_lt_of_cell? (h:=h1))];exact h1
 ·obtain⟨g,ys,h1,h2,h3,h4⟩:=h.box b T cs hb;exact⟨g,ys,h1,(Below.heap_alloc w o g (h.lt b g (zau h1))).trans h2,h3,h4⟩
 ·obtain⟨v,ys,h1,h2,h3⟩:=h.row b E sz gen n xs hb;exact⟨v,ys,h1,World.ownsRow.alloc h2 o,h3⟩
 ·obtain⟨g,en,ck,h1,h2,h3⟩:=h.map b es hb;exact⟨g,en,ck,h1,(Below.heap_alloc w o g (h.lt b g (zau h1))).trans h2,h3⟩
theorem In.ghost {C:Cx} {G G':Gh} {I:Imm} {w:World} (h:In C G I w) (hle:G.le G') (hb:∀b g,G'.own b=some g->C.own g\/C.w.heap.size<=g):In C G' I w :=
 ⟨h.os,h.tape,h.output,h.size,h.block,h.imm,h.news,hb,h.gh.trans hle⟩
theorem Gh.box_le {G:Gh} {b g:Nat} (h:G.blk b=none):G.le (G.box b g):=by
 refine⟨fun x y hx=>?_,fun x n v hx=>⟨n,v,hx,.inl ⟨rfl,rfl⟩⟩⟩;show (if x=b then _ else _)=_;rw[if_neg (by rintro rfl;rw[h] at hx;cases hx)];exact hx
theorem Gh.row_le {G:Gh} {b n:Nat} {v:Value} (h:∀m u,G.cur b=some (m,u)->m<n):G.le (G.row b n v):=by
 refine⟨fun x y hx=>hx,fun x m u hx=>?_⟩
 by_cases e:x=b
 ·subst e;exact⟨n,v,by simp[Gh.row],.inr (h m u hx)⟩
 ·exact⟨m,u,by show (if x=b then _ else _)=_;rw[if_neg e];exact hx,.inl ⟨rfl,rfl⟩⟩
theorem newbox {C:Cx} {G:Gh} {I:Imm} {objs:List OB} {w:World} (hin:In C G I w) (h:MemOk G I objs w) (T:TypeId) (cs:List AV) (ys:Array Value) (hd:zae G I cs ys.toList) (h1:∀u∈ys.toList,u.oneCell'=true) :
  ∃G',G.le G'/\In C G' I (w.alloc (.cells ys T))/\MemOk G' I (objs++[.box T cs]) (w.alloc (.cells ys T))/\Den G' I (.p objs.length 0) (.pointer (some ⟨w.heap.size,0,none⟩)):=by
 have hf:=h.fresh objs.length (zd _);have hle:G.le (G.box objs.length w.heap.size):=Gh.box_le hf.1;have ha:=h.alloc (.cells ys T);have hbl:∀x y,(G.box objs.length w.heap.size).own x=some y->(x=objs.length/\y=w.heap.size)\/(x≠objs.length/\G.own x=some y):=by
  intro x y hx;rw[Gh.box_own] at hx
  split at hx
  ·rename_i e;injection hx with hx;exact .inl ⟨e,hx.symm⟩
  ·rename_i e;exact .inr ⟨e,hx⟩
 refine⟨_,hle,(hin.alloc _).ghost hle ?_,⟨ha.imm,?_,?_,?_,?_,?_,?_,?_⟩,?_⟩
 ·intro b g hb;rcases hbl b g hb with ⟨rfl,rfl⟩|⟨_,hb⟩
  ·exact .inr hin.size
  ·exact hin.blk b g hb
 ·intro b T' cs' hb;rcases zh b objs.length with hlt|hge
  ·rw[zm hlt] at hb;obtain⟨g,zs,k1,k2,k3,k4⟩:=ha.box b T' cs' hb;exact⟨g,zs,hle.blk b g k1,k2,zae.mono hle (Imm.le.refl I) _ _ k3,k4⟩
  ·rw[jb hge] at hb;have hb0:b=objs.length:=by
    rcases jf (b - objs.length) with h0|h0
    ·omega
    ·rw[zr (by simp;omega)] at hb;cases hb
   subst hb0;simp at hb;obtain⟨rfl,rfl⟩:=hb;exact⟨w.heap.size,ys.toList,by simp[Gh.box],by simpa using heap_alloc_new w (.cells ys T),zae.mono hle (Imm.le.refl I) _ _ hd,h1⟩
 ·intro b E sz gen n xs hb;rcases zh b objs.length with hlt|hge
  ·rw[zm hlt] at hb;obtain⟨v,zs,k1,k2,k3,k4,k5⟩:=ha.row b E sz gen n xs hb;refine⟨v,zs,k1,k2,zae.mono hle (Imm.le.refl I) _ _ k3,k4,?_⟩;show (if b=objs.length then _ else _)=_;rw[if_neg (by omega)];exact k5
  ·rw[jb hge] at hb;rcases jf (b - objs.length) with h0|h0
   ·rw[h0] at hb;simp at hb
   ·rw[zr (by simp;omega)] at hb;cases hb
 ·intro b es hb;rcases zh b objs.length with hlt|hge
  ·rw[zm hlt] at hb;obtain⟨g,en,ck,k1,k2,k3⟩:=ha.map b es hb;exact⟨g,en,ck,hle.blk b g k1,k2,k3.mono hle (Imm.le.refl I)⟩
  ·rw[jb hge] at hb;rcases jf (b - objs.length) with h0|h0
   ·rw[h0] at hb;simp at hb
   ·rw[zr (by simp;omega)] at hb;cases hb
 ·intro b b' g hb hb';rcases hbl b g hb with ⟨rfl,rfl⟩|⟨_,hb⟩<;>rcases hbl b' _ hb' with ⟨rfl,e⟩|⟨_,hb'⟩
  ·rfl
  ·have:=h.lt b' _ hb';omega
  ·have:=h.lt b _ hb;omega
  ·exact h.inj b b' g hb hb'
 ·intro b g hb;rcases hbl b g hb with ⟨rfl,rfl⟩|⟨_,hb⟩
  ·simp
  ·exact ha.lt b g hb
 ·intro b g o v hb hi;rcases hbl b g hb with ⟨rfl,rfl⟩|⟨_,hb⟩
  ·have:=World.block_lt_of_cell? (h:=h.imm _ _ _ hi);simp at this
  ·exact h.apart b g o v hb hi
 ·intro b hb;simp at hb;have:=h.fresh b (by omega);refine⟨?_,this.2⟩;show (if b=objs.length then _ else _)=_;rw[if_neg (by omega)];exact this.1
 ·simp only[Den];exact⟨w.heap.size,by simp[Gh.box],rfl⟩
theorem newimm {C:Cx} {G:Gh} {I:Imm} {objs:List OB} {w:World} (hin:In C G I w) (h:MemOk G I objs w) (E:TypeId) (xs:List AV) (ys:Array Value) (n:Nat) (hd:zae G I xs ys.toList) (h1:∀u∈ys.toList,u.oneCell'=true) :
  ∃I',Imm.le I I'/\In C G I' (w.alloc (.cells ys E))/\MemOk G I' objs (w.alloc (.cells ys E))/\Den G I' (.row n xs) (.slice (some ⟨w.heap.size,0,none⟩) n n):=by
 have ha:=h.alloc (.cells ys E);have hia:=hin.alloc (.cells ys E)
 let I':Imm:=fun g o v=>I g o v\/(g=w.heap.size/\ys.toList[o]? = some v)
 have hle:Imm.le I I':=fun _ _ _ hi=>.inl hi;refine⟨I',hle,⟨hia.os,hia.tape,hia.output,hia.size,hia.block,fun g o v hi=>.inl (hin.imm g o v hi),?_,hia.blk,hia.gh⟩,⟨?_,?_,?_,?_,ha.inj,ha.lt,?_,ha.fresh⟩,?_⟩
 ·rintro g o v (hi|⟨rfl,_⟩)
  ·exact hin.news g o v hi
  ·exact .inr (.inr hin.size)
 ·rintro g o v (hi|⟨rfl,hy⟩)
  ·exact ha.imm g o v hi
  ·rw[World.cell?_alloc_new];simpa using hy
 ·intro b T cs hb;obtain⟨g,zs,k1,k2,k3,k4⟩:=ha.box b T cs hb;exact⟨g,zs,k1,k2,zae.mono (Gh.le.refl G) hle _ _ k3,k4⟩
 ·intro b E' sz gen m us hb;obtain⟨v,zs,k1,k2,k3,k4,k5⟩:=ha.row b E' sz gen m us hb;exact⟨v,zs,k1,k2,zae.mono (Gh.le.refl G) hle _ _ k3,k4,k5⟩
 ·intro b es hb;obtain⟨g,en,ck,k1,k2,k3⟩:=ha.map b es hb;exact⟨g,en,ck,k1,k2,k3.mono (Gh.le.refl G) hle⟩
 ·rintro b g o v hb (hi|⟨rfl,_⟩)
  ·exact h.apart b g o v hb hi
  ·have:=h.lt b _ hb;omega
 ·simp only[Den];refine⟨some ⟨w.heap.size,0,none⟩,n,ys.toList,rfl,⟨zd _,by rintro _ ⟨⟩ _;rfl⟩,zae.mono (Gh.le.refl G) hle _ _ hd,h1,fun j u hj=>⟨w.heap.size,0,rfl,.inr ⟨rfl,by simpa using hj⟩⟩⟩
theorem zb4 (b:Nat) (T:TypeId):∀(vs:List Value) (o:Nat) (w:World) (cur:List Value),w.heap[b]? = some (.cells cur.toArray T (0,0))->o+vs.length<=cur.length ->
  (w.setCells b o vs).heap[b]? = some (.cells (cur.take o++vs++cur.drop (o+vs.length)).toArray T (0,0))/\(∀k,k≠b->(w.setCells b o vs).heap[k]? = w.heap[k]?)/\(w.setCells b o vs).heap.size=w.heap.size/\(w.setCells b o vs).os=w.os/\(w.setCells b o vs).tape=w.tape/\(w.setCells b o vs).output=w.output
 | [],o,w,cur,h,hl=>by simpa[World.setCells] using h
 | v::r,o,w,cur,h,hl=>by
  have hs:(w.setCell ⟨b,o,none⟩ v).heap[b]? = some (.cells (cur.set o v).toArray T (0,0)):=by
   simp[World.setCell,Array.getElem?_modify,h]
  simp only[qb] at hl;obtain⟨h1,h2,h3,h4,h5,h6⟩:=zb4 b T r (o+1) (w.setCell ⟨b,o,none⟩ v) (cur.set o v) hs (by simp;omega);rw[World.setCells];refine⟨?_,fun k hk=>?_,?_,h4,h5,h6⟩
  ·rw[h1]
   congr 3
   have e1:(cur.set o v).take (o+1)=cur.take o++[v]:=by
    rw[List.take_succ_eq_append_getElem (by simp;omega),List.getElem_set_self,List.take_set_of_le (zd _)]
   have e2:(cur.set o v).drop (o+1+r.length)=cur.drop (o+(v::r).length):=by
    rw[List.drop_set_of_lt (by omega),qb,show o+1+r.length=o+(r.length+1) by omega]
   rw[e1,e2];simp
  ·rw[h2 k hk];exact Below.heap_setCell w _ v k hk
  ·rw[h3];simp[World.setCell]
def zaN {α:Type} (cs:List α) (o:Nat) (vs:List α):List α:=cs.take o++vs++cs.drop (o+vs.length)
theorem setbox {C:Cx} {G:Gh} {I:Imm} {objs:List OB} {w:World} (hin:In C G I w) (h:MemOk G I objs w) (b g o:Nat) (T:TypeId) (cs vs:List AV) (us:List Value) (hb:objs[b]? = some (.box T cs)) (hg:G.blk b=some g)
  (hd:zae G I vs us) (h1:∀u∈us,u.oneCell'=true) (hl:o+vs.length<=cs.length) :
  In C G I (w.setCells g o us)/\MemOk G I (objs.set b (.box T (zaN cs o vs))) (w.setCells g o us):=by
 obtain⟨g',ys,k1,k2,k3,k4⟩:=h.box b T cs hb;obtain rfl:g=g':=zl.inj (hg.symm.trans k1);have hl1:=k3.length;have hl2:=hd.length;obtain⟨s1,s2,s3,s4,s5,s6⟩:=zb4 g T us o w ys k2 (by omega);have hblt:b<objs.length:=by
  rcases zh b objs.length with h0|h0
  ·exact h0
  ·rw[zr h0] at hb;cases hb
 refine⟨⟨s4.trans hin.os,s5.trans hin.tape,s6.trans hin.output,by rw[s3];exact hin.size,fun k hk hn=>?_,hin.imm,hin.news,hin.blk,hin.gh⟩,⟨?_,?_,?_,?_,h.inj,fun b' g' hb'=>by rw[s3];exact h.lt b' g' hb',h.apart,?_⟩⟩
 ·rcases hin.blk b g (zau hg) with ho|ho
  ·rw[s2 k (by rintro rfl;exact hn ho)];exact hin.block k hk hn
  ·rw[s2 k (by omega)];exact hin.block k hk hn
 ·intro g' o' v hi;rw[<-h.imm g' o' v hi];simp only[World.cell?];rw[s2 g' (by rintro rfl;exact h.apart b _ o' v (zau hg) hi)]
 ·intro b' T' cs' hb'
  by_cases e:b'=b
  ·subst e;rw[zg hblt] at hb';obtain⟨rfl,rfl⟩:T=T'/\zaN cs o vs=cs':=by simpa using hb'
   refine⟨g,_,k1,s1,?_,?_⟩
   ·unfold zaN;rw[hl2];exact zae.append (zae.append (zae.take o k3) hd) (zae.drop _ k3)
   ·intro u hu;rcases zt.1 hu with hu|hu
    ·rcases zt.1 hu with hu|hu
     ·exact k4 u (jg hu)
     ·exact h1 u hu
    ·exact k4 u (jo hu)
  ·rw[zf (fun e'=>e e'.symm)] at hb';obtain⟨g2,zs,m1,m2,m3,m4⟩:=h.box b' T' cs' hb';exact⟨g2,zs,m1,(s2 g2 (by rintro rfl;exact e (h.inj _ _ _ (zau m1) (zau hg)))).trans m2,m3,m4⟩
 ·intro b' E sz gen n xs hb'
  by_cases e:b'=b
  ·subst e;rw[zg hblt] at hb';simp at hb'
  ·rw[zf (fun e'=>e e'.symm)] at hb';obtain⟨v,zs,m1,m2,m3,m4,m5⟩:=h.row b' E sz gen n xs hb';refine⟨v,zs,m1,?_,m3,m4,m5⟩;obtain⟨q1,q2⟩:=m2;refine⟨q1,?_⟩;rcases q2 with q2|⟨g3,cap,cur,rfl,q3,q4,q5⟩
   ·exact .inl q2
   ·refine .inr ⟨g3,cap,cur,rfl,q3,(s2 g3 ?_).trans q4,q5⟩;rintro rfl;refine e (h.inj _ _ _ ?_ (zau hg));rw[za9 m5 m1];rfl
 ·intro b' es hb'
  by_cases e:b'=b
  ·subst e;rw[zg hblt] at hb';simp at hb'
  ·rw[zf (fun e'=>e e'.symm)] at hb';obtain⟨g2,en,ck,m1,m2,m3⟩:=h.map b' es hb';exact⟨g2,en,ck,m1,(s2 g2 (by rintro rfl;exact e (h.inj _ _ _ (zau m1) (zau hg)))).trans m2,m3⟩
 ·intro b' hb';rw[ze] at hb';exact h.fresh b' hb'
theorem setrow {C:Cx} {G:Gh} {I:Imm} {objs:List OB} {w:World} (hin:In C G I w) (h:MemOk G I objs w) (b g o:Nat) (E sz gen n cap:Nat) (xs vs:List AV) (us:List Value) (hb:objs[b]? = some (.orow E sz gen n xs)) (hg:G.cur b=some (gen,.slice (some ⟨g,0,none⟩) n cap))
  (hd:zae G I vs us) (h1:∀u∈us,u.oneCell'=true) (hl:o+vs.length<=xs.length) :
  In C G I (w.setCells g o us)/\MemOk G I (objs.set b (.orow E sz gen n (zaN xs o vs))) (w.setCells g o us):=by
 obtain⟨v,ys,k1,k2,k3,k4,k5⟩:=h.row b E sz gen n xs hb;obtain rfl:v=.slice (some ⟨g,0,none⟩) n cap:=by rw[hg] at k1;injection k1 with k1;injection k1 with _ k1;exact k1.symm
 have hown:G.own b=some g:=by rw[za9 k5 hg];rfl
 have hl1:=k3.length;have hl2:=hd.length;obtain⟨q1,q2⟩:=k2;rcases q2 with ⟨q2,_⟩|⟨g',cap',cur,q2,q3,q4,q5,q6,q7,q8⟩
 ·cases q2
 injection q2 with q2 _ q9;injection q2 with q2;injection q2 with q2;subst q2 q9
 have hcl:n*sz<=cur.size:=by rw[q7];exact Nat.mul_le_mul_right _ q5
 have q4':w.heap[g]? = some (.cells cur.toList.toArray E (0,0)):=by simpa using q4
 have hcl':cur.toList.length=cur.size:=by simp
 obtain⟨s1,s2,s3,s4,s5,s6⟩:=zb4 g E us o w cur.toList q4' (by omega);have hblt:b<objs.length:=by
  rcases zh b objs.length with h0|h0
  ·exact h0
  ·rw[zr h0] at hb;cases hb
 refine⟨⟨s4.trans hin.os,s5.trans hin.tape,s6.trans hin.output,by rw[s3];exact hin.size,fun k hk hn=>?_,hin.imm,hin.news,hin.blk,hin.gh⟩,⟨?_,?_,?_,?_,h.inj,fun b' g' hb'=>by rw[s3];exact h.lt b' g' hb',h.apart,?_⟩⟩
 ·rcases hin.blk b g hown with ho|ho
  ·rw[s2 k (by rintro rfl;exact hn ho)];exact hin.block k hk hn
  ·rw[s2 k (by omega)];exact hin.block k hk hn
 ·intro g' o' v hi;rw[<-h.imm g' o' v hi];simp only[World.cell?];rw[s2 g' (by rintro rfl;exact h.apart b _ o' v hown hi)]
 ·intro b' T' cs' hb';have e:b'≠b:=by
   rintro rfl;rw[zg hblt] at hb';simp at hb'
  rw[zf (fun e'=>e e'.symm)] at hb';obtain⟨g2,zs,m1,m2,m3,m4⟩:=h.box b' T' cs' hb';exact⟨g2,zs,m1,(s2 g2 (by rintro rfl;exact e (h.inj _ _ _ (zau m1) hown))).trans m2,m3,m4⟩
 ·intro b' E' sz' gen' n' xs' hb'
  by_cases e:b'=b
  ·subst e;rw[zg hblt] at hb';simp only[zl.injEq,OB.orow.injEq] at hb';obtain⟨rfl,rfl,rfl,rfl,rfl⟩:=hb';have hsp:(zaN ys o us).length=ys.length:=by
    unfold zaN;simp only[zq,qd,zv];omega
   refine⟨_,zaN ys o us,hg,⟨by rw[hsp];exact q1,.inr ⟨g,cap,_,rfl,q3,s1,q5,q6,?_,?_⟩⟩,?_,?_,k5⟩
   ·rw[<-q7];simp only[List.size_toArray,zq,qd,zv];omega
   ·rw[List.toList_toArray];unfold zaN;have e1:cur.toList.take o=ys.take o:=by rw[<-q8,List.take_take,Nat.min_eq_left (by omega)]
    have e2:ys.drop (o+us.length)=(cur.toList.drop (o+us.length)).take (n*sz - (o+us.length)):=by rw[<-q8,List.drop_take]
    rw[List.take_append,zq,qd,e2,e1];rw[List.take_of_length_le (by simp only[zq,qd];omega)];rw[show n*sz - (min o cur.toList.length+us.length)=n*sz - (o+us.length) by omega]
   ·unfold zaN;rw[hl2];exact zae.append (zae.append (zae.take o k3) hd) (zae.drop _ k3)
   ·intro u hu;unfold zaN at hu;rcases zt.1 hu with hu|hu
    ·rcases zt.1 hu with hu|hu
     ·exact k4 u (jg hu)
     ·exact h1 u hu
    ·exact k4 u (jo hu)
  ·rw[zf (fun e'=>e e'.symm)] at hb';obtain⟨v,zs,m1,m2,m3,m4,m5⟩:=h.row b' E' sz' gen' n' xs' hb';refine⟨v,zs,m1,?_,m3,m4,m5⟩;obtain⟨q1',q2'⟩:=m2;refine⟨q1',?_⟩;rcases q2' with q2' | ⟨g3,cap',cur',rfl,q3',q4'',q5'⟩
   ·exact .inl q2'
   ·refine .inr ⟨g3,cap',cur',rfl,q3',(s2 g3 ?_).trans q4'',q5'⟩;rintro rfl;refine e (h.inj _ _ _ ?_ hown);rw[za9 m5 m1];rfl
 ·intro b' es hb';have e:b'≠b:=by
   rintro rfl;rw[zg hblt] at hb';simp at hb'
  rw[zf (fun e'=>e e'.symm)] at hb';obtain⟨g2,en,ck,m1,m2,m3⟩:=h.map b' es hb';exact⟨g2,en,ck,m1,(s2 g2 (by rintro rfl;exact e (h.inj _ _ _ (zau m1) hown))).trans m2,m3⟩
 ·intro b' hb';rw[ze] at hb';exact h.fresh b' hb'
theorem newmap {C:Cx} {G:Gh} {I:Imm} {objs:List OB} {w:World} (hin:In C G I w) (h:MemOk G I objs w) :
  ∃G',G.le G'/\In C G' I (w.alloc (.map #[] 0))/\MemOk G' I (objs++[.mp []]) (w.alloc (.map #[] 0))/\Den G' I (.m objs.length) (.map (some w.heap.size)):=by
 have hf:=h.fresh objs.length (zd _);have hle:G.le (G.box objs.length w.heap.size):=Gh.box_le hf.1;have ha:=h.alloc (.map #[] 0);have hbl:∀x y,(G.box objs.length w.heap.size).own x=some y->(x=objs.length/\y=w.heap.size)\/(x≠objs.length/\G.own x=some y):=by
  intro x y hx;rw[Gh.box_own] at hx
  split at hx
  ·rename_i e;injection hx with hx;exact .inl ⟨e,hx.symm⟩
  ·rename_i e;exact .inr ⟨e,hx⟩
 have hold:∀(b:Nat) (ob:OB),(objs++[OB.mp []])[b]? = some ob->(b<objs.length/\objs[b]? = some ob)\/(b=objs.length/\ob=.mp []):=by
  intro b ob hb;rcases zh b objs.length with hlt|hge
  ·rw[zm hlt] at hb;exact .inl ⟨hlt,hb⟩
  ·rw[jb hge] at hb;rcases jf (b - objs.length) with h0|h0
   ·rw[h0] at hb;simp at hb;exact .inr ⟨by omega,hb.symm⟩
   ·rw[zr (by simp;omega)] at hb;cases hb
 refine⟨_,hle,(hin.alloc _).ghost hle ?_,⟨ha.imm,?_,?_,?_,?_,?_,?_,?_⟩,?_⟩
 ·intro b g hb;rcases hbl b g hb with ⟨rfl,rfl⟩|⟨_,hb⟩
  ·exact .inr hin.size
  ·exact hin.blk b g hb
 ·intro b T' cs' hb;rcases hold b _ hb with ⟨hlt,hb⟩|⟨_,hb⟩
  ·obtain⟨g,zs,k1,k2,k3,k4⟩:=ha.box b T' cs' hb;exact⟨g,zs,hle.blk b g k1,k2,zae.mono hle (Imm.le.refl I) _ _ k3,k4⟩
  ·cases hb
 ·intro b E sz gen n xs hb;rcases hold b _ hb with ⟨hlt,hb⟩|⟨_,hb⟩
  ·obtain⟨v,zs,k1,k2,k3,k4,k5⟩:=ha.row b E sz gen n xs hb;refine⟨v,zs,k1,k2,zae.mono hle (Imm.le.refl I) _ _ k3,k4,?_⟩;show (if b=objs.length then _ else _)=_;rw[if_neg (by omega)];exact k5
  ·cases hb
 ·intro b es hb;rcases hold b _ hb with ⟨hlt,hb⟩|⟨rfl,hb⟩
  ·obtain⟨g,en,ck,k1,k2,k3⟩:=ha.map b es hb;exact⟨g,en,ck,hle.blk b g k1,k2,k3.mono hle (Imm.le.refl I)⟩
  ·have hb:es=[]:=by simpa using hb
   subst hb;exact⟨w.heap.size,#[],0,by simp[Gh.box],by simpa using heap_alloc_new w (.map #[] 0),by simp[Ents,zae]⟩
 ·intro b b' g hb hb';rcases hbl b g hb with ⟨rfl,rfl⟩|⟨_,hb⟩<;>rcases hbl b' _ hb' with ⟨rfl,e⟩|⟨_,hb'⟩
  ·rfl
  ·have:=h.lt b' _ hb';omega
  ·have:=h.lt b _ hb;omega
  ·exact h.inj b b' g hb hb'
 ·intro b g hb;rcases hbl b g hb with ⟨rfl,rfl⟩|⟨_,hb⟩
  ·simp
  ·exact ha.lt b g hb
 ·intro b g o v hb hi;rcases hbl b g hb with ⟨rfl,rfl⟩|⟨_,hb⟩
  ·have:=World.block_lt_of_cell? (h:=h.imm _ _ _ hi);simp at this
  ·exact h.apart b g o v hb hi
 ·intro b hb;simp at hb;have:=h.fresh b (by omega);refine⟨?_,this.2⟩;show (if b=objs.length then _ else _)=_;rw[if_neg (by omega)];exact this.1
 ·simp only[Den];exact⟨w.heap.size,by simp[Gh.box],rfl⟩
section
variable {P:Program} {C:Cx} {type:TypeId} {objs:List OB} {tm:List AV} {K:List OB->AV->Prop}
theorem ok_move (x:Operand) (h:K objs ((zah x).ev tm)):zaO P C (.move x) type objs tm K :=
 zaf _ h fun G I a w hm hd op ho ht=>⟨a.eval x,by unfold execOp;rw[ho];rfl,zad hd x⟩
theorem zj8 (x:Operand) (h:K objs ((zah x).ev tm)):zaO P C (.assign x) type objs tm K :=
 zaf _ h fun G I a w hm hd op ho ht=>⟨a.eval x,by unfold execOp;rw[ho];rfl,zad hd x⟩
theorem ok_pick (c x y:Operand) (t:Bool) (hc:(zah c).ev tm=.b t) (h1:t=true->K objs ((zah x).ev tm)) (h2:t=false->K objs ((zah y).ev tm)):zaO P C (.pick c x y) type objs tm K:=by
 cases t with
 | true=>
  refine zaf _ (h1 rfl) fun G I a w hm hd op ho ht=>?_;have:=zad hd c;rw[hc] at this;simp only[Den] at this;exact⟨a.eval x,by unfold execOp;rw[ho];simp[this,asBool],zad hd x⟩
 | false=>
  refine zaf _ (h2 rfl) fun G I a w hm hd op ho ht=>?_;have:=zad hd c;rw[hc] at this;simp only[Den] at this;exact⟨a.eval y,by unfold execOp;rw[ho];simp[this,asBool],zad hd y⟩
theorem zbZ (G:Gh) (I:Imm):∀ys:List Value,zae G I (ys.map zgM) ys
 | []=>zae.nil
 | y::ys=>zae.cons (zdP G I y) (zbZ G I ys)
theorem ok_alloc (T:TypeId) (i:TypeInfo) (z:Value) (hi:P.info? T=some i) (hz:i.zero=some z) (h1:(z.cells.toList.all (·.oneCell'))=true)
  (h:K (objs++[.box T (z.cells.toList.map zgM)]) (.p objs.length 0)):zaO P C (.alloc T) type objs tm K:=by
 intro G I a w hin hm hd op next Q ho ht hn;obtain⟨G',k1,k2,k3,k4⟩:=newbox hin hm T (z.cells.toList.map zgM) z.cells (zbZ G I _) (fun u hu=>(zu.1 h1) u hu);refine zaK (w':=w.alloc (.cells z.cells T)) (y:=.pointer (some ⟨w.heap.size,0,none⟩)) ?_ (hn _ _ _ _ _ _ h k1 (Imm.le.refl I) k2 k3 k4);unfold execOp;rw[ho];simp[Instr.alloc,zeroValue,typeInfo,hi,hz,newVar,newRow]
theorem ok_box (T:TypeId) (x:Operand) (h1:((zah x).ev tm).flat=true) (h:K (objs++[.box T ((zah x).ev tm).cells]) (.p objs.length 0)):zaO P C (.box T x) type objs tm K:=by
 intro G I a w hin hm hd op next Q ho ht hn;obtain⟨d1,d2⟩:=zcY (zad hd x) h1;obtain⟨G',k1,k2,k3,k4⟩:=newbox hin hm T _ (a.eval x).cells d1 d2;refine zaK (w':=w.alloc (.cells (a.eval x).cells T)) (y:=.pointer (some ⟨w.heap.size,0,none⟩)) ?_ (hn _ _ _ _ _ _ h k1 (Imm.le.refl I) k2 k3 k4);unfold execOp;rw[ho];simp[Instr.box,newVar,newRow]
theorem zaw (g j:Nat) (o:Nat):(⟨g,o,none⟩:Addr).add j=⟨g,o+j,none⟩:=Addr.add_mid g o j
theorem ok_load1 (T:TypeId) (x:Operand) (d:TypeDesc) (hu:P.underlying T=some d) (hr:d.isRow=false) (b off:Nat) (B:TypeId) (cs:List AV) (v:AV) (hx:(zah x).ev tm=.p b off) (hb:objs[b]? = some (.box B cs)) (hc:cs[off]? = some v)
  (h:K objs v):zaO P C (.load T x) type objs tm K :=
 zaf _ h fun G I a w hm hd op ho ht=>by
  have h1:=zad hd x;rw[hx] at h1;simp only[Den] at h1;obtain⟨g,hg,he⟩:=h1;obtain⟨g',ys,k1,k2,k3,k4⟩:=hm.box b B cs hb;obtain rfl:g=g':=zl.inj (hg.symm.trans k1);obtain⟨y,hy,hyd⟩:=zae.get off k3 hc;refine⟨y,?_,hyd⟩;have hcell:w.cell? ⟨g,off,none⟩=some y:=by rw[cell_of_row w g off _ B (0,0) k2];simpa using hy
  unfold execOp;rw[ho];have hagg:(isAgg T).run P w=.ok false w:=by
   unfold isAgg;rw[Sem.run_bind,run_underlying hu w]
   cases d<;>simp_all
  simp[Instr.loadAt,Instr.sureAddr,he,loadVar,hagg,load,Sem.run,hcell]
theorem ok_loadn (T:TypeId) (x:Operand) (d:TypeDesc) (hu:P.underlying T=some d) (hr:d.isRow=true) (sz:Nat) (hs:(P.info? T).map (·.size)=some sz) (b off:Nat) (B:TypeId) (cs:List AV) (hx:(zah x).ev tm=.p b off) (hb:objs[b]? = some (.box B cs)) (hc:off+sz<=cs.length)
  (h:K objs (.agg ((cs.drop off).take sz))):zaO P C (.load T x) type objs tm K :=
 zaf _ h fun G I a w hm hd op ho ht=>by
  have h1:=zad hd x;rw[hx] at h1;simp only[Den] at h1;obtain⟨g,hg,he⟩:=h1;obtain⟨g',ys,k1,k2,k3,k4⟩:=hm.box b B cs hb;obtain rfl:g=g':=zl.inj (hg.symm.trans k1);have hl:=k3.length;refine⟨.agg ((ys.drop off).take sz).toArray,?_,?_⟩
  ·unfold execOp;rw[ho];have:=run_loadAt_mid (P:=P) w g off T ((ys.drop off).take sz) d ?_ hu hr (by rw[hs];simp;omega)
   ·simp[he,this]
   ·intro j v hj;rw[cell_of_row w g (off+j) _ B (0,0) k2];rw[xe] at hj
    split at hj
    ·simpa[qx] using hj
    ·cases hj
  ·simp only[Den];exact⟨_,rfl,zae.take sz (zae.drop off k3),fun u hu=>k4 u (jo (jg hu))⟩
theorem zj4 (T:TypeId) (x:Operand) (d:TypeDesc) (hu:P.underlying T=some d) (hr:d.isRow=false) (xs:List AV) (j:Nat) (v:AV) (hx:(zah x).ev tm=.prow xs j) (hc:xs[j]? = some v)
  (h:K objs v):zaO P C (.load T x) type objs tm K :=
 zaf _ h fun G I a w hm hd op ho ht=>by
  have h1:=zad hd x;rw[hx] at h1;simp only[Den] at h1;obtain⟨g,off,ys,he,k3,k4,k5⟩:=h1;obtain⟨y,hy,hyd⟩:=zae.get j k3 hc;refine⟨y,?_,hyd⟩;have hcell:=hm.imm _ _ _ (k5 j y hy);unfold execOp;rw[ho];have hagg:(isAgg T).run P w=.ok false w:=by
   unfold isAgg;rw[Sem.run_bind,run_underlying hu w]
   cases d<;>simp_all
  simp[Instr.loadAt,Instr.sureAddr,he,loadVar,hagg,load,Sem.run,hcell]
theorem zj2 (T:TypeId) (x:Operand) (d:TypeDesc) (hu:P.underlying T=some d) (hr:d.isRow=true) (sz:Nat) (hs:(P.info? T).map (·.size)=some sz) (xs:List AV) (j:Nat) (hx:(zah x).ev tm=.prow xs j) (hc:j+sz<=xs.length)
  (h:K objs (.agg ((xs.drop j).take sz))):zaO P C (.load T x) type objs tm K :=
 zaf _ h fun G I a w hm hd op ho ht=>by
  have h1:=zad hd x;rw[hx] at h1;simp only[Den] at h1;obtain⟨g,off,ys,he,k3,k4,k5⟩:=h1;have hl:=k3.length;refine⟨.agg ((ys.drop j).take sz).toArray,?_,?_⟩
  ·unfold execOp;rw[ho];have:=run_loadAt_mid (P:=P) w g (off+j) T ((ys.drop j).take sz) d ?_ hu hr (by rw[hs];simp;omega)
   ·simp[he,this]
   ·intro i v hi;rw[xe] at hi
    split at hi
    ·rw[qx] at hi;rw[Nat.add_assoc];exact hm.imm _ _ _ (k5 (j+i) v hi)
    ·cases hi
  ·simp only[Den];exact⟨_,rfl,zae.take sz (zae.drop j k3),fun u hu=>k4 u (jo (jg hu))⟩
theorem ok_store (T:TypeId) (x y:Operand) (sz:Nat) (hs:(P.info? T).map (·.size)=some sz) (b off:Nat) (B:TypeId) (cs:List AV) (hx:(zah x).ev tm=.p b off) (hb:objs[b]? = some (.box B cs)) (hf:((zah y).ev tm).flat=true) (hv:((zah y).ev tm).cells.length=sz) (hc:off+sz<=cs.length)
  (h:K (objs.set b (.box B (zaN cs off ((zah y).ev tm).cells))) .u):zaO P C (.store T x y) type objs tm K:=by
 intro G I a w hin hm hd op next Q ho ht hn;obtain⟨d1,d2⟩:=zcY (zad hd y) hf;have h1:=zad hd x;rw[hx] at h1;simp only[Den] at h1;obtain⟨g,hg,he⟩:=h1;obtain⟨k1,k2⟩:=setbox hin hm b g off B cs _ _ hb hg d1 d2 (by rw[hv];exact hc);obtain⟨g',ys,m1,m2,m3,m4⟩:=hm.box b B cs hb;obtain rfl:g=g':=zl.inj (hg.symm.trans m1);have hl:=d1.length;have hl2:=m3.length;have hst:=run_storeCells_cells (P:=P) g off (a.eval y).cells.toList 0 w (fun j hj=>by
   rw[cell_of_row w g (off+0+j) _ B (0,0) m2];simp;omega) (fun j hj=>by simp[World.frozen?,m2]) d2
 refine zeM (w':=w.setCells g off (a.eval y).cells.toList) ?_ (hn _ .u undef G I _ h (Gh.le.refl G) (Imm.le.refl I) k1 k2 (by simp[Den]));unfold execOp;rw[ho]
 cases hi:P.info? T with
 | none=>rw[hi] at hs;cases hs
 | some i=>
  rw[hi] at hs;have hsz:i.size=sz:=by simpa using hs
  have hz:(a.eval y).cells.size=i.size:=by rw[hsz,<-hv,hl];simp
  simp[Instr.storeAt,Instr.sureAddr,he,storeVar,sizeOf,typeInfo,hi,hz];simp at hst;simp[hst]
theorem ze3 {G:Gh} {I:Imm} {objs:List OB} {w:World} (hm:MemOk G I objs w) {b gen j E sz n:Nat} {xs:List AV} {y:Value} (hb:objs[b]? = some (.orow E sz gen n xs)) (h:Den G I (.porow b gen j) y) :
  ∃g cap ys,y=.pointer (some ⟨g,j,none⟩)/\G.cur b=some (gen,.slice (some ⟨g,0,none⟩) n cap)/\zae G I xs ys/\(∀u∈ys,u.oneCell'=true)/\(∀i u,ys[i]? = some u->w.cell? ⟨g,i,none⟩=some u)/\∃cur,w.heap[g]? = some (.cells cur E (0,0))/\n*sz<=cur.size/\ys.length=n*sz:=by
 simp only[Den] at h;obtain⟨g',v,g,k1,k2,rfl,k3⟩:=h;obtain⟨v',ys,m1,m2,m3,m4,m5⟩:=hm.row b E sz gen n xs hb;rw[k1] at m1;injection m1 with m1;injection m1 with m1 m6
 subst m1 m6;obtain⟨n',c,rfl⟩:=k3 rfl;have m2':=m2;obtain⟨q1,q2⟩:=m2;rcases q2 with ⟨q2,_⟩|⟨g',cap',cur,q2,q3,q4,q5,q6,q7,q8⟩
 ·cases q2
 injection q2 with q2 q10 q9;injection q2 with q2;injection q2 with q2;subst q2 q9 q10
 refine⟨g,c,ys,rfl,k1,m3,m4,fun i u hi=>?_,cur,q4,by rw[q7];exact Nat.mul_le_mul_right _ q5,q1⟩;have:=m2'.cells (g:=g) rfl i u hi
 rwa [zaw,Nat.zero_add] at this
theorem zj5 (T:TypeId) (x:Operand) (d:TypeDesc) (hu:P.underlying T=some d) (hr:d.isRow=false) (b gen j E sz n:Nat) (xs:List AV) (v:AV) (hx:(zah x).ev tm=.porow b gen j) (hb:objs[b]? = some (.orow E sz gen n xs)) (hc:xs[j]? = some v)
  (h:K objs v):zaO P C (.load T x) type objs tm K :=
 zaf _ h fun G I a w hm hd op ho ht=>by
  have h1:=zad hd x;rw[hx] at h1;obtain⟨g,cap,ys,he,k2,k3,k4,k5,_⟩:=ze3 hm hb h1;obtain⟨y,hy,hyd⟩:=zae.get j k3 hc;refine⟨y,?_,hyd⟩;have hcell:=k5 j y hy;unfold execOp;rw[ho];have hagg:(isAgg T).run P w=.ok false w:=by
   unfold isAgg;rw[Sem.run_bind,run_underlying hu w]
   cases d<;>simp_all
  simp[Instr.loadAt,Instr.sureAddr,he,loadVar,hagg,load,Sem.run,hcell]
theorem zj3 (T:TypeId) (x:Operand) (d:TypeDesc) (hu:P.underlying T=some d) (hr:d.isRow=true) (s:Nat) (hs:(P.info? T).map (·.size)=some s) (b gen j E sz n:Nat) (xs:List AV) (hx:(zah x).ev tm=.porow b gen j) (hb:objs[b]? = some (.orow E sz gen n xs)) (hc:j+s<=xs.length)
  (h:K objs (.agg ((xs.drop j).take s))):zaO P C (.load T x) type objs tm K :=
 zaf _ h fun G I a w hm hd op ho ht=>by
  have h1:=zad hd x;rw[hx] at h1;obtain⟨g,cap,ys,he,k2,k3,k4,k5,_⟩:=ze3 hm hb h1;have hl:=k3.length;refine⟨.agg ((ys.drop j).take s).toArray,?_,?_⟩
  ·unfold execOp;rw[ho];have:=run_loadAt_mid (P:=P) w g j T ((ys.drop j).take s) d ?_ hu hr (by rw[hs];simp;omega)
   ·simp[he,this]
   ·intro i v hi;rw[xe] at hi
    split at hi
    ·rw[qx] at hi;exact k5 (j+i) v hi
    ·cases hi
  ·simp only[Den];exact⟨_,rfl,zae.take s (zae.drop j k3),fun u hu=>k4 u (jo (jg hu))⟩
theorem zj1 (T:TypeId) (x y:Operand) (s:Nat) (hs:(P.info? T).map (·.size)=some s) (b gen j E sz n:Nat) (xs:List AV) (hx:(zah x).ev tm=.porow b gen j) (hb:objs[b]? = some (.orow E sz gen n xs)) (hf:((zah y).ev tm).flat=true) (hv:((zah y).ev tm).cells.length=s) (hc:j+s<=xs.length)
  (h:K (objs.set b (.orow E sz gen n (zaN xs j ((zah y).ev tm).cells))) .u):zaO P C (.store T x y) type objs tm K:=by
 intro G I a w hin hm hd op next Q ho ht hn;obtain⟨d1,d2⟩:=zcY (zad hd y) hf;have h1:=zad hd x;rw[hx] at h1;obtain⟨g,cap,ys,he,hg,k3,k4,k5,cur,hcur,hcs,hys⟩:=ze3 hm hb h1;obtain⟨k1,k2⟩:=setrow hin hm b g j E sz gen n cap xs _ _ hb hg d1 d2 (by rw[hv];exact hc);have hl:=d1.length;have hl2:=k3.length;have hst:=run_storeCells_cells (P:=P) g j (a.eval y).cells.toList 0 w (fun i hi=>by
   have hi':j+i<cur.size:=by omega
   rw[show j+0+i=j+i by omega,cell_of_row w g (j+i) cur E (0,0) hcur];simp[hi']) (fun i hi=>by simp[World.frozen?,hcur]) d2
 refine zeM (w':=w.setCells g j (a.eval y).cells.toList) ?_ (hn _ .u undef G I _ h (Gh.le.refl G) (Imm.le.refl I) k1 k2 (by simp[Den]));unfold execOp;rw[ho]
 cases hi:P.info? T with
 | none=>rw[hi] at hs;cases hs
 | some i=>
  rw[hi] at hs;have hsz:i.size=s:=by simpa using hs
  have hz:(a.eval y).cells.size=i.size:=by rw[hsz,<-hv,hl];simp
  simp[Instr.storeAt,Instr.sureAddr,he,storeVar,sizeOf,typeInfo,hi,hz];simp at hst;simp[hst]
theorem zhf (x:Operand) (h:K objs ((zah x).ev tm)) (hx:(∃b o,(zah x).ev tm=.p b o)\/(∃xs j,(zah x).ev tm=.prow xs j)\/(∃f fs cs,(zah x).ev tm=.fn f fs cs)\/(∃b gen j,(zah x).ev tm=.porow b gen j)):zaO P C (.nilCheck x) type objs tm K :=
 zaf _ h fun G I a w hm hd op ho ht=>by
  have h1:=zad hd x;refine⟨a.eval x,?_,h1⟩;rcases hx with ⟨b,o,e⟩|⟨xs,j,e⟩|⟨f,fs,cs,e⟩|⟨b,gen,j,e⟩
  ·rw[e] at h1;simp only[Den] at h1;obtain⟨g,_,he⟩:=h1;unfold execOp;rw[ho];simp[he]
  ·rw[e] at h1;simp only[Den] at h1;obtain⟨g,off,ys,he,_⟩:=h1;unfold execOp;rw[ho];simp[he]
  ·rw[e] at h1;simp only[Den] at h1;obtain⟨us,ys,he,_⟩:=h1;unfold execOp;rw[ho];simp[he]
  ·rw[e] at h1;simp only[Den] at h1;obtain⟨_,_,g,_,_,he,_⟩:=h1;unfold execOp;rw[ho];simp[he]
theorem zgr (f:FuncId) (fs cs:Array Operand) (h:K objs (.fn f (fs.toList.map fun x=>(zah x).ev tm) (cs.toList.map fun x=>(zah x).ev tm))):zaO P C (.makeFunc (.func f) fs cs) type objs tm K :=
 zaf _ h fun G I a w hm hd op ho ht=>by
  refine⟨.func (.func f) (fs.map a.eval) (cs.map a.eval),by unfold execOp;rw[ho];simp[Instr.makeFunc],?_⟩;have key:∀l:List Operand,zae G I (l.map fun x=>(zah x).ev tm) (l.map a.eval):=by
   intro l
   induction l with
   | nil=>exact zae.nil
   | cons x l ih=>exact zae.cons (zad hd x) ih
  simp only[Den];exact⟨(fs.map a.eval).toList,(cs.map a.eval).toList,by rw[Array.toArray_toList,Array.toArray_toList],by simpa using key fs.toList,by simpa using key cs.toList⟩
theorem ziy (x:Operand) (k:Nat) (cs:List AV) (v:AV) (hx:(zah x).ev tm=.tup cs) (hk:cs[k]? = some v) (h:K objs v):zaO P C (.extract x k) type objs tm K :=
 zaf _ h fun G I a w hm hd op ho ht=>by
  have h1:=zad hd x;rw[hx] at h1;simp only[Den] at h1;obtain⟨ys,he,k3⟩:=h1;obtain⟨y,hy,hyd⟩:=zae.get k k3 hk;exact⟨y,by unfold execOp;rw[ho];simp[he,Instr.extract,hy],hyd⟩
theorem ok_not (T:TypeId) (x:Operand) (t:Bool) (hx:(zah x).ev tm=.b t) (h:K objs (.b (!t))):zaO P C (.unOp .not T x) type objs tm K :=
 zaf _ h fun G I a w hm hd op ho ht=>by
  have h1:=zad hd x;rw[hx] at h1;simp only[Den] at h1;exact⟨.bool (!t),by unfold execOp;rw[ho];simp[h1,Op.unary],by simp[Den]⟩
theorem ok_neg (T:TypeId) (x:Operand) (k:IntKind) (n:Int) (hx:(zah x).ev tm=.i k n) (h:K objs (.i k (k.wrap (0 - n)))):zaO P C (.unOp .neg T x) type objs tm K :=
 zaf _ h fun G I a w hm hd op ho ht=>by
  have h1:=zad hd x;rw[hx] at h1;simp only[Den] at h1;exact⟨.int k (k.wrap (0 - n)),by unfold execOp;rw[ho];simp[h1,Op.unary,Op.intArith],by simp[Den]⟩
theorem ok_cvi (src dst:TypeId) (x:Operand) (k j:IntKind) (n:Int) (hs:(P.underlying src).isSome=true) (hu:P.underlying dst=some (.int k)) (hx:(zah x).ev tm=.i j n) (h:K objs (.i k (k.wrap n))):zaO P C (.convert src dst x) type objs tm K :=
 zaf _ h fun G I a w hm hd op ho ht=>by
  have h1:=zad hd x;rw[hx] at h1;simp only[Den] at h1;exact⟨.int k (k.wrap n),by
   have hk:P.intKind dst=k:=by simp[Program.intKind,hu]
   have hr:=run_convert_int (P:=P) w src dst j n hs (by rw[hk];exact hu);rw[hk] at hr;unfold execOp;rw[ho];simp only[h1];simp[hr],by simp[Den]⟩
theorem ok_cvs (src dst:TypeId) (x:Operand) (l:List UInt8) (hs:P.underlying src=some .string) (hu:P.underlying dst=some .string) (hx:(zah x).ev tm=.s l) (h:K objs (.s l)):zaO P C (.convert src dst x) type objs tm K :=
 zaf _ h fun G I a w hm hd op ho ht=>by
  have h1:=zad hd x;rw[hx] at h1;simp only[Den] at h1;exact⟨.string ⟨l.toArray⟩,by unfold execOp;rw[ho];simp[h1,convert,run_underlying hs,run_underlying hu],by simp[Den]⟩
end
def cmpZ:BinOp->Int->Int->Option Bool
 | .eql,x,y=>some (decide (x=y))
 | .neq,x,y=>some (decide (¬x=y))
 | .lss,x,y=>some (decide (x<y))
 | .leq,x,y=>some (decide (x<=y))
 | .gtr,x,y=>some (decide (y<x))
 | .geq,x,y=>some (decide (y<=x))
 | _,_,_=>none
def arZ:BinOp->Int->Int->Option Int
 | .add,x,y=>some (x+y)
 | .sub,x,y=>some (x - y)
 | .mul,x,y=>some (x*y)
 | _,_,_=>none
theorem beqd {α:Type} [DecidableEq α] (x y:α):(x==y)=decide (x=y):=by by_cases h:x=y<;>simp[h]
def svb (tm:List AV) (d:Int):Option Operand->Option Int
 | none=>some d
 | some x=>match (zah x).ev tm with
  | .i _ n=>some n
  | _=>none
theorem zlQ (l:List UInt8) (i j:Nat):(⟨l.toArray⟩:ByteArray).extract i j=⟨((l.take j).drop i).toArray⟩:=by
 have:((⟨l.toArray⟩:ByteArray).extract i j).data=((l.take j).drop i).toArray:=by
  rw[ByteArray.data_extract]
  apply Array.ext'
  simp only[Array.toList_extract,List.extract_eq_take_drop];rw[List.drop_take]
 exact congrArg ByteArray.mk this
theorem zfq (l:List UInt8):(⟨l.toArray⟩:ByteArray).size=l.length:=by simp[ByteArray.size]
section
variable {P:Program} {C:Cx} {type:TypeId} {objs:List OB} {tm:List AV} {K:List OB->AV->Prop}
theorem zez (op:BinOp) (T T':TypeId) (x y:Operand) (k:IntKind) (m n:Int) (r:Bool) (hx:(zah x).ev tm=.i k m) (hy:(zah y).ev tm=.i k n) (hr:cmpZ op m n=some r) (h:K objs (.b r)):zaO P C (.binOp op T x y T') type objs tm K :=
 zaf _ h fun G I a w hm hd o ho ht=>by
  have h1:=zad hd x;rw[hx] at h1;simp only[Den] at h1;have h2:=zad hd y;rw[hy] at h2;simp only[Den] at h2;refine⟨.bool r,?_,by simp[Den]⟩;unfold execOp;rw[ho]
  cases op<;>simp only[cmpZ,zl.injEq,reduceCtorEq] at hr<;>subst hr<;>simp[h1,h2,eqGuard,binOp,Op.intCmp,bne,beqd]
theorem zj9 (op:BinOp) (T T':TypeId) (x y:Operand) (k:IntKind) (m n r:Int) (hx:(zah x).ev tm=.i k m) (hy:(zah y).ev tm=.i k n) (hr:arZ op m n=some r) (h:K objs (.i k (k.wrap r))):zaO P C (.binOp op T x y T') type objs tm K :=
 zaf _ h fun G I a w hm hd o ho ht=>by
  have h1:=zad hd x;rw[hx] at h1;simp only[Den] at h1;have h2:=zad hd y;rw[hy] at h2;simp only[Den] at h2;refine⟨.int k (k.wrap r),?_,by simp[Den]⟩;unfold execOp;rw[ho]
  cases op<;>simp only[arZ,zl.injEq,reduceCtorEq] at hr<;>subst hr<;>simp[h1,h2,eqGuard,binOp,Op.intArith]
theorem ok_quo (T T':TypeId) (x y:Operand) (k:IntKind) (m n:Int) (hx:(zah x).ev tm=.i k m) (hy:(zah y).ev tm=.i k n) (hn:n≠0) (h:K objs (.i k (k.wrap (m.tdiv n)))):zaO P C (.binOp .quo T x y T') type objs tm K :=
 zaf _ h fun G I a w hm hd o ho ht=>by
  have h1:=zad hd x;rw[hx] at h1;simp only[Den] at h1;have h2:=zad hd y;rw[hy] at h2;simp only[Den] at h2;refine⟨.int k (k.wrap (m.tdiv n)),?_,by simp[Den]⟩;unfold execOp;rw[ho];simp[h1,h2,eqGuard,binOp,Op.intDiv,hn]
theorem ok_rem (T T':TypeId) (x y:Operand) (k:IntKind) (m n:Int) (hx:(zah x).ev tm=.i k m) (hy:(zah y).ev tm=.i k n) (hn:n≠0) (h:K objs (.i k (m.tmod n))):zaO P C (.binOp .rem T x y T') type objs tm K :=
 zaf _ h fun G I a w hm hd o ho ht=>by
  have h1:=zad hd x;rw[hx] at h1;simp only[Den] at h1;have h2:=zad hd y;rw[hy] at h2;simp only[Den] at h2;refine⟨.int k (m.tmod n),?_,by simp[Den]⟩;unfold execOp;rw[ho];simp[h1,h2,eqGuard,binOp,Op.intDiv,hn]
theorem ok_cat (T T':TypeId) (x y:Operand) (l m:List UInt8) (hx:(zah x).ev tm=.s l) (hy:(zah y).ev tm=.s m) (hl:l.length+m.length<=9223372036854775807) (h:K objs (.s (l++m))):zaO P C (.binOp .add T x y T') type objs tm K :=
 zaf _ h fun G I a w hm hd o ho ht=>by
  have h1:=zad hd x;rw[hx] at h1;simp only[Den] at h1;have h2:=zad hd y;rw[hy] at h2;simp only[Den] at h2;refine⟨.string ⟨(l++m).toArray⟩,?_,by simp[Den]⟩;unfold execOp;rw[ho];have hs:=run_string_add_sum (P:=P) w ⟨l.toArray⟩ ⟨m.toArray⟩ (by rw[zfq,zfq];exact hl);have e:(⟨l.toArray⟩++⟨m.toArray⟩:ByteArray)=⟨(l++m).toArray⟩:=by
   apply ByteArray.ext;simp[ByteArray.data_append]
  rw[e] at hs;simp[h1,h2,eqGuard,binOp,hs]
theorem ok_seq (op:BinOp) (T T':TypeId) (x y:Operand) (l m:List UInt8) (r:Bool) (hx:(zah x).ev tm=.s l) (hy:(zah y).ev tm=.s m) (hr:(op=.eql/\r=decide (l=m))\/(op=.neq/\r=decide (¬l=m))) (h:K objs (.b r)):zaO P C (.binOp op T x y T') type objs tm K :=
 zaf _ h fun G I a w hm hd o ho ht=>by
  have h1:=zad hd x;rw[hx] at h1;simp only[Den] at h1;have h2:=zad hd y;rw[hy] at h2;simp only[Den] at h2;refine⟨.bool r,?_,by simp[Den]⟩;unfold execOp;rw[ho];have e1:(⟨l.toArray⟩:ByteArray).toList=l:=by rw[ByteArray.toList_eq]
  have e2:(⟨m.toArray⟩:ByteArray).toList=m:=by rw[ByteArray.toList_eq]
  rcases hr with ⟨rfl,rfl⟩|⟨rfl,rfl⟩<;>(simp[h1,h2,eqGuard,binOp,Op.stringOp,e1,e2,beqd];try (by_cases hh:l=m<;>simp[hh]))
theorem ok_beq (op:BinOp) (T T':TypeId) (x y:Operand) (l m r:Bool) (hu:P.underlying T=some .bool) (hx:(zah x).ev tm=.b l) (hy:(zah y).ev tm=.b m) (hr:(op=.eql/\r=(l==m))\/(op=.neq/\r=!(l==m))) (h:K objs (.b r)):zaO P C (.binOp op T x y T') type objs tm K :=
 zaf _ h fun G I a w hm hd o ho ht=>by
  have h1:=zad hd x;rw[hx] at h1;simp only[Den] at h1;have h2:=zad hd y;rw[hy] at h2;simp only[Den] at h2;refine⟨.bool r,?_,by simp[Den]⟩;unfold execOp;rw[ho];have hs:=run_equal_bool (P:=P) w T l m hu;rcases hr with ⟨rfl,rfl⟩|⟨rfl,rfl⟩<;>simp[h1,h2,eqGuard,binOp,hs]
theorem ok_idx (T:TypeId) (x y:Operand) (l:List UInt8) (k:IntKind) (n:Int) (hu:P.underlying T=some .string) (hx:(zah x).ev tm=.s l) (hy:(zah y).ev tm=.i k n) (h0:0<=n) (h1:n<l.length) (h:K objs (.i .u8 ((l.getD n.toNat 0).toNat:Int))):zaO P C (.index T x y) type objs tm K :=
 zaf _ h fun G I a w hm hd o ho ht=>by
  have e1:=zad hd x;rw[hx] at e1;simp only[Den] at e1;have e2:=zad hd y;rw[hy] at e2;simp only[Den] at e2;refine⟨.int .u8 ((l.getD n.toNat 0).toNat:Int),?_,by simp[Den]⟩;unfold execOp;rw[ho];have hlt:n.toNat<l.length:=by omega
  have hg:(⟨l.toArray⟩:ByteArray)[n.toNat]? = some (l.getD n.toNat 0):=by
   rw[getElem?_pos _ _ (by rw[zfq];exact hlt)];rw[List.getD_eq_getElem?_getD,zk hlt];rfl
  simp[e1,e2,Instr.index,asIntOf,run_underlying hu,h0,hg]
theorem ok_slcs (T:TypeId) (x:Operand) (lo hi:Option Operand) (l:List UInt8) (i j:Int) (hu:P.underlying T=some .string) (hx:(zah x).ev tm=.s l) (hlo:svb tm 0 lo=some i) (hhi:svb tm l.length hi=some j) (h0:0<=i) (h1:i<=j) (h2:j<=l.length)
  (h:K objs (.s ((l.take j.toNat).drop i.toNat))):zaO P C (.slice T x lo hi none) type objs tm K :=
 zaf _ h fun G I a w hm hd o ho ht=>by
  have e1:=zad hd x;rw[hx] at e1;simp only[Den] at e1;refine⟨.string ⟨((l.take j.toNat).drop i.toNat).toArray⟩,?_,by simp[Den]⟩;unfold execOp;rw[ho];have hsl:=zfq l;have hb:∀(d:Int) (z:Option Operand) (q:Int),svb tm d z=some q->z=none/\q=d\/∃u k,z=some u/\a.eval u=.int k q:=by
   intro d z q hz
   cases z with
   | none=>simp[svb] at hz;exact .inl ⟨rfl,hz.symm⟩
   | some u=>
    simp only[svb] at hz
    split at hz
    ·rename_i k n hn;have e:=zad hd u;rw[hn] at e;simp only[Den] at e;injection hz with hz;subst hz
     exact .inr ⟨u,k,rfl,e⟩
    ·cases hz
  rw[<-zlQ];rcases hb _ _ _ hlo with ⟨rfl,rfl⟩|⟨u,k,rfl,e2⟩<;>rcases hb _ _ _ hhi with ⟨rfl,rfl⟩|⟨v,k',rfl,e3⟩
  ·simp[e1,run_sliceAt_string w T _ _ _ _ hu,run_slice_string_all w T _ hu,hsl]
  ·have:=run_slice_string_h (P:=P) w T ⟨l.toArray⟩ hu k' j (by omega) (by rw[hsl];exact h2);simp[e1,e3,run_sliceAt_string w T _ _ _ _ hu,this]
  ·have:=run_slice_string_l (P:=P) w T ⟨l.toArray⟩ hu k i (by omega) (by rw[hsl];omega);simp[e1,e2,run_sliceAt_string w T _ _ _ _ hu,this,hsl]
  ·have:=run_slice_string (P:=P) w T ⟨l.toArray⟩ k k' i j hu h0 h1 (by rw[hsl];exact h2);simp[e1,e2,e3,run_sliceAt_string w T _ _ _ _ hu,this]
theorem ok_lens (T:TypeId) (ty:TypeId) (x:Operand) (l:List UInt8) (hu:P.underlying T=some .string) (hx:(zah x).ev tm=.s l) (h:K objs (.i .i64 l.length)):zaO P C (.call { callee:=.builtin .len,args:=#[x],argTypes:=#[T] }) ty objs tm K :=
 zaf _ h fun G I a w hm hd o ho ht=>by
  have e1:=zad hd x;rw[hx] at e1;simp only[Den] at e1;refine⟨.int .i64 l.length,?_,by simp[Den]⟩;unfold execOp;rw[ho];simp[resolve,invoke,builtin,Builtin.len_,e1,run_underlying hu,goInt,zfq]
theorem ze6 (T:TypeId) (ty:TypeId) (x:Operand) (e:TypeId) (n:Nat) (hu:P.underlying T=some (.slice e))
  (hx:(∃xs,(zah x).ev tm=.row n xs)\/((zah x).ev tm=.nil/\n=0)\/(∃z,(zah x).ev tm=.zn z/\n=0)\/(∃b gen E sz xs,(zah x).ev tm=.orow b gen/\objs[b]? = some (.orow E sz gen n xs))) (h:K objs (.i .i64 n)):zaO P C (.call { callee:=.builtin .len,args:=#[x],argTypes:=#[T] }) ty objs tm K :=
 zaf _ h fun G I a w hm hd o ho ht=>by
  have e1:=zad hd x;refine⟨.int .i64 n,?_,by simp[Den]⟩;have hv:∃q c,a.eval x=.slice q n c:=by
   rcases hx with ⟨xs,hx⟩|⟨hx,rfl⟩|⟨z,hx,rfl⟩|⟨b,gen,E,sz,xs,hx,hb⟩
   ·rw[hx] at e1;simp only[Den] at e1;obtain⟨q,c,ys,e,_⟩:=e1;exact⟨q,c,e⟩
   ·rw[hx] at e1;simp only[Den] at e1;exact⟨none,0,e1⟩
   ·rw[hx] at e1;simp only[Den] at e1;obtain⟨q,c,e,_⟩:=e1;exact⟨q,c,e⟩
   ·rw[hx] at e1;simp only[Den] at e1;obtain⟨g',v,k1,k2,k3,_⟩:=e1;obtain⟨v',ys,m1,m2,_⟩:=hm.row b E sz gen n xs hb;rw[k1] at m1;injection m1 with m1;injection m1 with m1 m3
    have:=k3 m1.symm;subst m3;rcases m2.2 with ⟨rfl,rfl⟩|⟨g,cap,cur,rfl,_⟩
    ·exact⟨none,0,this⟩
    ·exact⟨_,cap,this⟩
  obtain⟨q,c,hv⟩:=hv;unfold execOp;rw[ho];simp[resolve,invoke,builtin,Builtin.len_,hv,run_underlying hu,goInt]
theorem zj6 (T:TypeId) (x:Operand) (k:Nat) (fs:Array Field) (f:Field) (fz:Nat) (v:AV) (hu:P.underlying T=some (.struct fs)) (hf:fs[k]? = some f) (hz:(P.info? f.type).map (·.size)=some fz) (h0:fz≠0)
  (hv:(∃b off,(zah x).ev tm=.p b off/\v=.p b (off+f.offset))\/(∃xs j,(zah x).ev tm=.prow xs j/\v=.prow xs (j+f.offset))\/(∃b gen j,(zah x).ev tm=.porow b gen j/\v=.porow b gen (j+f.offset))) (h:K objs v):zaO P C (.fieldAddr T x k) type objs tm K :=
 zaf _ h fun G I a w hm hd o ho ht=>by
  have e1:=zad hd x;have hp:∀g o':Nat,(fieldPlace ⟨g,o',none⟩ f).run P w=.ok ⟨g,o'+f.offset,none⟩ w:=by
   intro g o'
   cases hi:P.info? f.type with
   | none=>rw[hi] at hz;cases hz
   | some i=>
    rw[hi] at hz;have:i.size≠0:=by simp at hz;omega
    simp[fieldPlace,sizeOf,typeInfo,hi,this,zaw]
  rcases hv with ⟨b,off,hx,rfl⟩|⟨xs,j,hx,rfl⟩|⟨b,gen,j,hx,rfl⟩
  ·rw[hx] at e1;simp only[Den] at e1;obtain⟨g,hg,he⟩:=e1;refine⟨.pointer (some ⟨g,off+f.offset,none⟩),?_,by simp only[Den];exact⟨g,hg,rfl⟩⟩;unfold execOp;rw[ho];simp[Instr.fieldAt,run_underlying hu,hf,he,Instr.sureAddr,hp]
  ·rw[hx] at e1;simp only[Den] at e1;obtain⟨g,off,ys,he,k3,k4,k5⟩:=e1;refine⟨.pointer (some ⟨g,off+(j+f.offset),none⟩),?_,by simp only[Den];exact⟨g,off,ys,rfl,k3,k4,k5⟩⟩;unfold execOp;rw[ho];simp[Instr.fieldAt,run_underlying hu,hf,he,Instr.sureAddr,hp,Nat.add_assoc]
  ·rw[hx] at e1;simp only[Den] at e1;obtain⟨g',v,g,hg,hle,he,hn⟩:=e1;refine⟨.pointer (some ⟨g,j+f.offset,none⟩),?_,by simp only[Den];exact⟨g',v,g,hg,hle,rfl,hn⟩⟩;unfold execOp;rw[ho];simp[Instr.fieldAt,run_underlying hu,hf,he,Instr.sureAddr,hp]
theorem zcb {T:TypeId} {d:TypeDesc} (hu:P.underlying T=some d) (w:World):(isAgg T).run P w=.ok d.isRow w:=by
 unfold isAgg;rw[Sem.run_bind,run_underlying hu w]
 cases d<;>simp_all
theorem ok_fld1 (T:TypeId) (x:Operand) (k:Nat) (fs:Array Field) (f:Field) (d:TypeDesc) (cs:List AV) (v:AV) (hu:P.underlying T=some (.struct fs)) (hf:fs[k]? = some f) (hd':P.underlying f.type=some d) (hr:d.isRow=false) (hx:(zah x).ev tm=.agg cs) (hc:cs[f.offset]? = some v) (h:K objs v) :
  zaO P C (.field T x k) type objs tm K :=
 zaf _ h fun G I a w hm hd o ho ht=>by
  have e1:=zad hd x;rw[hx] at e1;simp only[Den] at e1;obtain⟨ys,he,k3,k4⟩:=e1;obtain⟨y,hy,hyd⟩:=zae.get f.offset k3 hc;refine⟨y,?_,hyd⟩;unfold execOp;rw[ho];simp[Instr.field,run_underlying hu,hf,he,asAgg,part,zcb hd',hr,hy]
theorem ok_fldn (T:TypeId) (x:Operand) (k:Nat) (fs:Array Field) (f:Field) (d:TypeDesc) (sz:Nat) (cs:List AV) (hu:P.underlying T=some (.struct fs)) (hf:fs[k]? = some f) (hd':P.underlying f.type=some d) (hr:d.isRow=true) (hs:(P.info? f.type).map (·.size)=some sz) (hx:(zah x).ev tm=.agg cs) (h:K objs (.agg ((cs.drop f.offset).take sz))) :
  zaO P C (.field T x k) type objs tm K :=
 zaf _ h fun G I a w hm hd o ho ht=>by
  have e1:=zad hd x;rw[hx] at e1;simp only[Den] at e1;obtain⟨ys,he,k3,k4⟩:=e1;refine⟨.agg ((ys.drop f.offset).take sz).toArray,?_,?_⟩
  ·unfold execOp;rw[ho]
   cases hi:P.info? f.type with
   | none=>rw[hi] at hs;cases hs
   | some i=>
    rw[hi] at hs;have hsz:i.size=sz:=by simpa using hs
    have e:(ys.toArray.extract f.offset (f.offset+sz))=((ys.drop f.offset).take sz).toArray:=by
     apply Array.ext'
     simp[List.extract_eq_take_drop]
    simp[Instr.field,run_underlying hu,hf,he,asAgg,part,zcb hd',hr,sizeOf,typeInfo,hi,hsz]
  ·simp only[Den];exact⟨_,rfl,zae.take sz (zae.drop _ k3),fun u hu=>k4 u (jo (jg hu))⟩
theorem ok_iada (T:TypeId) (x y:Operand) (e:TypeId) (sz len b off:Nat) (k:IntKind) (i:Int) (hu:P.underlying T=some (.array len e)) (hs:(P.info? e).map (·.size)=some sz) (hx:(zah x).ev tm=.p b off) (hy:(zah y).ev tm=.i k i) (h0:0<=i) (h1:i<len) (hz:0<sz)
  (h:K objs (.p b (off+i.toNat*sz))):zaO P C (.indexAddr T x y) type objs tm K :=
 zaf _ h fun G I a w hm hd o ho ht=>by
  have e1:=zad hd x;rw[hx] at e1;simp only[Den] at e1;have e2:=zad hd y;rw[hy] at e2;simp only[Den] at e2;obtain⟨g,hg,he⟩:=e1;refine⟨.pointer (some ⟨g,off+i.toNat*sz,none⟩),?_,?_⟩
  ·unfold execOp;rw[ho]
   cases hi:P.info? e with
   | none=>rw[hi] at hs;cases hs
   | some inf=>
    rw[hi] at hs;have hsz:inf.size=sz:=by simpa using hs
    simp[e2,he,Instr.indexAt,asIntOf,run_underlying hu,h0,h1,sizeOf,typeInfo,hi,hsz,zaw,Instr.sureAddr]
  ·simp only[Den];exact⟨g,hg,rfl⟩
theorem ok_iad (T:TypeId) (x y:Operand) (e:TypeId) (sz n:Nat) (xs:List AV) (k:IntKind) (i:Int) (hu:P.underlying T=some (.slice e)) (hs:(P.info? e).map (·.size)=some sz) (hx:(zah x).ev tm=.row n xs) (hy:(zah y).ev tm=.i k i) (h0:0<=i) (h1:i<n) (hl:n*sz<=xs.length) (hz:0<sz)
  (h:K objs (.prow xs (i.toNat*sz))):zaO P C (.indexAddr T x y) type objs tm K :=
 zaf _ h fun G I a w hm hd o ho ht=>by
  have e1:=zad hd x;rw[hx] at e1;simp only[Den] at e1;have e2:=zad hd y;rw[hy] at e2;simp only[Den] at e2;obtain⟨q,c,ys,he,hnc,k3,k4,k5⟩:=e1;have hlen:=k3.length;have hpos:0<n*sz:=Nat.mul_pos (by omega) hz;have hy0:ys[0]? = some (ys[0]'(by omega)):=zk (by omega);obtain⟨g,off,rfl,_⟩:=k5 0 _ hy0;refine⟨.pointer (some ⟨g,off+i.toNat*sz,none⟩),?_,?_⟩
  ·unfold execOp;rw[ho]
   cases hi:P.info? e with
   | none=>rw[hi] at hs;cases hs
   | some inf=>
    rw[hi] at hs;have hsz:inf.size=sz:=by simpa using hs
    simp[e2,he,Instr.indexAt,asIntOf,run_underlying hu,h0,h1,sizeOf,typeInfo,hi,hsz,zaw]
  ·simp only[Den];refine⟨g,off,ys,rfl,k3,k4,fun j u hj=>?_⟩;obtain⟨g',off',e,hi⟩:=k5 j u hj;injection e with e;injection e with e4 e5;subst e4 e5
   exact hi
theorem ok_iado (T:TypeId) (x y:Operand) (e:TypeId) (sz n b gen E:Nat) (xs:List AV) (k:IntKind) (i:Int) (hu:P.underlying T=some (.slice e)) (hs:(P.info? e).map (·.size)=some sz) (hx:(zah x).ev tm=.orow b gen) (hb:objs[b]? = some (.orow E sz gen n xs)) (hy:(zah y).ev tm=.i k i) (h0:0<=i) (h1:i<n)
  (h:K objs (.porow b gen (i.toNat*sz))):zaO P C (.indexAddr T x y) type objs tm K :=
 zaf _ h fun G I a w hm hd o ho ht=>by
  have e1:=zad hd x;rw[hx] at e1;simp only[Den] at e1;have e2:=zad hd y;rw[hy] at e2;simp only[Den] at e2;obtain⟨g',v,k1,k2,k3,_⟩:=e1;obtain⟨v',ys,m1,m2,m3,m4,m5⟩:=hm.row b E sz gen n xs hb;rw[k1] at m1;injection m1 with m1;injection m1 with m1 m6
  have hv:=k3 m1.symm;subst m1 m6;rcases m2.2 with ⟨rfl,h0'⟩|⟨g,cap,cur,rfl,q3,q4,q5,q6,q7,q8⟩
  ·omega
  refine⟨.pointer (some ⟨g,i.toNat*sz,none⟩),?_,?_⟩
  ·unfold execOp;rw[ho]
   cases hi:P.info? e with
   | none=>rw[hi] at hs;cases hs
   | some inf=>
    rw[hi] at hs;have hsz:inf.size=sz:=by simpa using hs
    simp[e2,hv,Instr.indexAt,asIntOf,run_underlying hu,h0,h1,sizeOf,typeInfo,hi,hsz,zaw]
  ·simp only[Den];exact⟨_,_,g,k1,zd _,rfl,fun _=>⟨n,cap,rfl⟩⟩
end
end Go.Proofs.Ytceenajkieomoaa.Sx
