/- The texts that the proofs of these statements reach, in their order, as few files. -/
import Derived.Test.YtceenajkieomoaaProg
import Derived.WalkKit
import Derived.WalkLawsBesides
import Derived.WalkSmall
import Derived.WalkSpells
import Derived.Lib.Hide
import Derived.Lib.IndexAny
import Derived.ShutString
import Derived.Lib.Strings
import Derived.Deep.QuietTactic
import Derived.BigQuiet
import Derived.Shelf.Slices.Turned
import Derived.Ground.Names2Prog
import Derived.Shelf.Slices.Clone
import Derived.Laws.BytesArg
import Derived.Laws.IdiomStrings
import Derived.Lib.ConvBytes
import Derived.Lib.AppendStr
import Derived.Laws.Rows
import Derived.Lib.ItoaMem
import Derived.Lib.ItoaLen
import Derived.Orders
import Derived.Deep.MidRow
import Derived.Laws.IdiomCopy
import Derived.Maps.AppendAt
import Derived.Laws.StructEq
import Derived.Laws.Slices
import Derived.Laws.BytesString
import Derived.Deep.OwnRows
import Derived.Great.BuildSlice
import Derived.MapKept
set_option linter.unusedVariables false
set_option linter.unusedSimpArgs false
set_option maxRecDepth 100000
namespace Go.Proofs.Ytceenajkieomoaa
open Go.RowKit
theorem zcO {a b:Bool} (h:a=b):Ending.returned (.bool a)=.returned (.bool b):=by rw [h]
theorem zdG {k:IntKind} {a b:Int} (h:a=b):Ending.returned (.int k a)=.returned (.int k b):=by rw [h]
theorem ret_str {a b:ByteArray} (h:a=b):Ending.returned (.string a)=.returned (.string b):=by rw [h]
theorem dd {p q:Prop} [Decidable p] [Decidable q] (h:p ↔ q):decide p=decide q:=decide_eq_decide.2 h
theorem dt {q:Prop} [Decidable q] (h:q):true=decide q:=(decide_eq_true h).symm
theorem df {q:Prop} [Decidable q] (h:¬ q):false=decide q:=(decide_eq_false h).symm
abbrev S (l:List UInt8):ByteArray:=⟨l.toArray⟩
theorem zd3 (l:List UInt8):(S l).size=l.length:=size_of_list l
theorem S_of (s:ByteArray):S s.data.toList=s:=rfl
theorem zaq (s:ByteArray):s.data.toList.length=s.size:=rfl
theorem zhC (s:ByteArray) (k:Nat) (h:k < s.size):s.data.toList[k]'(by rw [zaq]; exact h)=s[k]:=rfl
theorem zlN (s:ByteArray) (k:Nat) (h:k < s.size):s.data.toList.getD k 0=s[k]:=by
 rw [List.getD_eq_getElem?_getD,List.getElem?_eq_getElem (by rw [zaq]; exact h)]; rfl
theorem zge (s:ByteArray) (k:Nat) (h:k < s.size):s.data.toList.take (k + 1)=s.data.toList.take k ++ [s[k]]:=by
 rw [List.take_succ_eq_append_getElem (by simpa using h)]; rfl
theorem zcH (s:ByteArray) (k:Nat) (h:k < s.size):s.data.toList.drop k=s[k] :: s.data.toList.drop (k + 1):=by
 rw [List.drop_eq_getElem_cons (by simpa using h)]; rfl
theorem S_nil_of {s:ByteArray} (h:s.size=0):s=S []:=by
 have:s.data.toList=[]:=List.eq_nil_of_length_eq_zero (by rw [zaq]; exact h)
 rw [← S_of s,this]
def Qb (w w':World):Prop:=Below w.heap.size w w'
theorem Qb.refl (w:World):Qb w w:=Below.refl _ _
theorem Qb.trans {a b c:World} (h:Qb a b) (k:Qb b c):Qb a c:=Below.trans h (Below.mono k h.size)
theorem Qb.alloc {a b:World} (h:Qb a b) (o:Obj):Qb a (b.alloc o):=Below.alloc h h.size o
theorem Qb.drew {a b:World} (h:Qb a b):Qb a b.drew:=Below.drew h
theorem Qb.drewN {a b:World} (h:Qb a b) (n:Nat):Qb a (b.drewN n):=below_drewN h n
theorem Qb.set {a b:World} (h:Qb a b) {p:Addr} (hp:a.heap.size ≤ p.block) (u:Value):Qb a (b.setCell p u):=Below.setCell h hp u
theorem Qb.size {a b:World} (h:Qb a b):a.heap.size ≤ b.heap.size:=Below.size h
def resV (r:Int × List UInt8):Value:=.tuple #[.string (S r.2),.int .i64 r.1]
theorem size_extract (c:ByteArray) (a b:Nat) (h:b ≤ c.size):(c.extract a b).size=b - a:=by
 rw [ByteArray.size_extract]; omega
end Go.Proofs.Ytceenajkieomoaa
namespace Go.Proofs.Ytceenajkieomoaa
def cpB (r:Int):Bool:=decide (0 ≤ r ∧ r ≤ 1114111 ∧ (r < 55296 ∨ 57343 < r))
def zeK (c:UInt8):Bool:=decide (128 ≤ c.toNat ∧ c.toNat < 192)
def u8b (n:Nat):UInt8:=UInt8.ofNat n
def zdr (r:Nat):List UInt8 :=
 if r < 128 then [u8b r]
 else if r < 2048 then [u8b (192 + r / 64),u8b (128 + r % 64)]
 else if r < 65536 then [u8b (224 + r / 4096),u8b (128 + r / 64 % 64),u8b (128 + r % 64)]
 else [u8b (240 + r / 262144),u8b (128 + r / 4096 % 64),u8b (128 + r / 64 % 64),u8b (128 + r % 64)]
def r2 (c a:UInt8):Nat:=(c.toNat - 192) * 64 + (a.toNat - 128)
def r3 (c a b:UInt8):Nat:=(c.toNat - 224) * 4096 + (a.toNat - 128) * 64 + (b.toNat - 128)
def r4 (c a b d:UInt8):Nat:=(c.toNat - 240) * 262144 + (a.toNat - 128) * 4096 + (b.toNat - 128) * 64 + (d.toNat - 128)
def dec2 (c:UInt8):List UInt8 → Option (Nat × Nat)
 | [] => none
 | a :: _ => if zeK a=true ∧ 128 ≤ r2 c a then some (r2 c a,2) else none
def dec3 (c:UInt8):List UInt8 → Option (Nat × Nat)
 | [] => none
 | [_] => none
 | a :: b :: _ => if zeK a=true ∧ zeK b=true ∧ 2048 ≤ r3 c a b ∧ cpB (r3 c a b:Int)=true then some (r3 c a b,3) else none
def dec4 (c:UInt8):List UInt8 → Option (Nat × Nat)
 | [] => none
 | [_] => none
 | [_,_] => none
 | a :: b :: d :: _ => if zeK a=true ∧ zeK b=true ∧ zeK d=true ∧ 65536 ≤ r4 c a b d ∧ r4 c a b d ≤ 1114111 then some (r4 c a b d,4) else none
def zd2:List UInt8 → Option (Nat × Nat)
 | [] => none
 | c :: t =>
  if c.toNat < 128 then some (c.toNat,1)
  else if c.toNat < 192 then none
  else if c.toNat < 224 then dec2 c t
  else if c.toNat < 240 then dec3 c t
  else if c.toNat < 248 then dec4 c t
  else none
theorem zaJ {n:Nat} (h:n < 256):(u8b n).toNat=n:=by unfold u8b; rw [UInt8.toNat_ofNat']; omega
theorem zc2 {c:UInt8} {n:Nat} (hn:n < 256):u8b n=c ↔ n=c.toNat:=by
 constructor
 ·rintro rfl; rw [zaJ hn]
 ·intro h; subst h; unfold u8b; exact UInt8.ofNat_toNat
theorem zcV {l:List UInt8} {r n:Nat} (h:zd2 l=some (r,n)):cpB r=true ∧ zdr r=l.take n ∧ n ≤ l.length ∧ 1 ≤ n ∧ n ≤ 4:=by
 rcases l with _ | ⟨c,t⟩
 ·rw [zd2] at h; cases h
 have hc:=c.toNat_lt
 rw [zd2] at h
 by_cases h1:c.toNat < 128
 ·rw [if_pos h1] at h
  injection h with h; injection h with h2 h3
  subst h2 h3
  refine ⟨decide_eq_true (by omega),?_,by simp,by omega,by omega⟩
  unfold zdr; rw [if_pos h1]
  simp only [List.take_succ_cons,List.take_zero,List.cons.injEq,and_true]
  exact (zc2 (by omega)).2 rfl
 rw [if_neg h1] at h
 by_cases h2:c.toNat < 192
 ·rw [if_pos h2] at h; cases h
 rw [if_neg h2] at h
 by_cases h3:c.toNat < 224
 ·rw [if_pos h3] at h
  rcases t with _ | ⟨a,t⟩
  ·cases h
  rw [dec2] at h
  split at h
  ·rename_i h4
   unfold r2 at h h4
   have ha:128 ≤ a.toNat ∧ a.toNat < 192:=of_decide_eq_true h4.1
   injection h with h; injection h with h5 h6
   subst h5 h6
   refine ⟨decide_eq_true (by omega),?_,by simp,by omega,by omega⟩
   unfold zdr; rw [if_neg (by omega),if_pos (by omega)]
   simp only [List.take_succ_cons,List.take_zero,List.cons.injEq,and_true]
   exact ⟨(zc2 (by omega)).2 (by omega),(zc2 (by omega)).2 (by omega)⟩
  ·cases h
 rw [if_neg h3] at h
 by_cases h4:c.toNat < 240
 ·rw [if_pos h4] at h
  rcases t with _ | ⟨a,_ | ⟨b,t⟩⟩
  ·cases h
  ·cases h
  rw [dec3] at h
  split at h
  ·rename_i h5
   unfold r3 at h h5
   have ha:128 ≤ a.toNat ∧ a.toNat < 192:=of_decide_eq_true h5.1
   have hb:128 ≤ b.toNat ∧ b.toNat < 192:=of_decide_eq_true h5.2.1
   have hp:=h5.2.2
   injection h with h; injection h with h6 h7
   subst h6 h7
   refine ⟨hp.2,?_,by simp,by omega,by omega⟩
   unfold zdr; rw [if_neg (by omega),if_neg (by omega),if_pos (by omega)]
   simp only [List.take_succ_cons,List.take_zero,List.cons.injEq,and_true]
   exact ⟨(zc2 (by omega)).2 (by omega),(zc2 (by omega)).2 (by omega),(zc2 (by omega)).2 (by omega)⟩
  ·cases h
 rw [if_neg h4] at h
 by_cases h5:c.toNat < 248
 ·rw [if_pos h5] at h
  rcases t with _ | ⟨a,_ | ⟨b,_ | ⟨d,t⟩⟩⟩
  ·cases h
  ·cases h
  ·cases h
  rw [dec4] at h
  split at h
  ·rename_i h6
   unfold r4 at h h6
   have ha:128 ≤ a.toNat ∧ a.toNat < 192:=of_decide_eq_true h6.1
   have hb:128 ≤ b.toNat ∧ b.toNat < 192:=of_decide_eq_true h6.2.1
   have hd:128 ≤ d.toNat ∧ d.toNat < 192:=of_decide_eq_true h6.2.2.1
   have hp:=h6.2.2.2
   injection h with h; injection h with h7 h8
   subst h7 h8
   refine ⟨decide_eq_true (by omega),?_,by simp,by omega,by omega⟩
   unfold zdr; rw [if_neg (by omega),if_neg (by omega),if_neg (by omega)]
   simp only [List.take_succ_cons,List.take_zero,List.cons.injEq,and_true]
   exact ⟨(zc2 (by omega)).2 (by omega),(zc2 (by omega)).2 (by omega),(zc2 (by omega)).2 (by omega),(zc2 (by omega)).2 (by omega)⟩
  ·cases h
 ·rw [if_neg h5] at h; cases h
theorem zcW (n:Nat) (h:n < 64):zeK (u8b (128 + n))=true:=by unfold zeK; rw [zaJ (by omega)]; exact decide_eq_true (by omega)
theorem zhx {r:Nat} (h:cpB r=true) (t:List UInt8):zd2 (zdr r ++ t)=some (r,(zdr r).length):=by
 have hr:(r:Int) ≤ 1114111 ∧ ((r:Int) < 55296 ∨ 57343 < (r:Int)):=⟨(of_decide_eq_true h).2.1,(of_decide_eq_true h).2.2⟩
 unfold zdr
 by_cases h1:r < 128
 ·rw [if_pos h1]
  show zd2 (u8b r :: t)=_
  rw [zd2,zaJ (by omega),if_pos h1]; rfl
 ·rw [if_neg h1]
  by_cases h2:r < 2048
  ·rw [if_pos h2]
   show zd2 (u8b (192 + r / 64) :: u8b (128 + r % 64) :: t)=_
   rw [zd2,zaJ (by omega),if_neg (by omega),if_neg (by omega),if_pos (by omega),dec2]
   unfold r2
   rw [zaJ (by omega),zaJ (by omega),if_pos ⟨zcW _ (by omega),by omega⟩]
   simp only [List.length_cons,List.length_nil,Option.some.injEq,Prod.mk.injEq,and_true]
   omega
  ·rw [if_neg h2]
   by_cases h3:r < 65536
   ·rw [if_pos h3]
    show zd2 (u8b (224 + r / 4096) :: u8b (128 + r / 64 % 64) :: u8b (128 + r % 64) :: t)=_
    rw [zd2,zaJ (by omega),if_neg (by omega),if_neg (by omega),if_neg (by omega),if_pos (by omega),dec3]
    unfold r3
    have e:(224 + r / 4096 - 224) * 4096 + (128 + r / 64 % 64 - 128) * 64 + (128 + r % 64 - 128)=r:=by omega
    rw [zaJ (by omega),zaJ (by omega),zaJ (by omega),e,if_pos ⟨zcW _ (by omega),zcW _ (by omega),by omega,h⟩]
    rfl
   ·rw [if_neg h3]
    show zd2 (u8b (240 + r / 262144) :: u8b (128 + r / 4096 % 64) :: u8b (128 + r / 64 % 64) :: u8b (128 + r % 64) :: t)=_
    rw [zd2,zaJ (by omega),if_neg (by omega),if_neg (by omega),if_neg (by omega),if_neg (by omega),if_pos (by omega),dec4]
    unfold r4
    have e:(240 + r / 262144 - 240) * 262144 + (128 + r / 4096 % 64 - 128) * 4096 + (128 + r / 64 % 64 - 128) * 64 + (128 + r % 64 - 128)=r:=by omega
    rw [zaJ (by omega),zaJ (by omega),zaJ (by omega),zaJ (by omega),e,if_pos ⟨zcW _ (by omega),zcW _ (by omega),zcW _ (by omega),by omega,by omega⟩]
    rfl
theorem encU_len {r:Nat}:1 ≤ (zdr r).length ∧ (zdr r).length ≤ 4:=by
 unfold zdr; repeat' split
 all_goals simp
theorem zhw {l:List UInt8} {r n:Nat} (h:cpB r=true) (he:zdr r=l.take n) (hn:n ≤ l.length):zd2 l=some (r,n):=by
 have h1:=zhx h (l.drop n)
 rw [he,List.take_append_drop,List.length_take,Nat.min_eq_left hn] at h1
 exact h1
end Go.Proofs.Ytceenajkieomoaa
/-
 DERIVED: THE SHELF's CONTRACTS AT THIS DUMP,IN PLAIN WORDS (tools/lay-plain.mjs out of 'TryShelf.lean',which tools/lay-shelf.mjs wrote): THE SAME DECLARATIONS UNDER THE SAME NAMES: 'import','namespace','open','def','theorem' AND NOTHING ELSE: no command of the shelf's: FOR A HAND-IN. Each laying: the table of numbers ('.._ren') and one theorem,a field a fact of the dump's own or the kernel's comparison; each contract: ONE APPLICATION.
-/
namespace Go.Proofs
open Go.Shelf
end Go.Proofs
namespace Go.Proofs.Ytceenajkieomoaa
open Go.RowKit
def zdO (c:UInt8):Bool:=decide (97 ≤ c.toNat ∧ c.toNat ≤ 122 ∨ 65 ≤ c.toNat ∧ c.toNat ≤ 90)
def zar (c:UInt8):Bool:=decide (48 ≤ c.toNat ∧ c.toNat ≤ 57)
def zca (c:UInt8):Bool:=decide (48 ≤ c.toNat ∧ c.toNat ≤ 57 ∨ 97 ≤ c.toNat ∧ c.toNat ≤ 102 ∨ 65 ≤ c.toNat ∧ c.toNat ≤ 70)
def zdc (c:UInt8) (l:List UInt8):Bool:=l.contains c
theorem hasB_nil (c:UInt8):zdc c []=false:=rfl
theorem beq_u8 (c d:UInt8):(c == d)=(d.toNat == c.toNat):=by
 by_cases h:c=d
 ·subst h; rw [beq_self_eq_true,beq_self_eq_true]
 ·rw [beq_eq_false_iff_ne.2 h,beq_eq_false_iff_ne.2 (fun e => h (UInt8.toNat_inj.1 e).symm)]
theorem zgG (l:List UInt8) (c d:UInt8):zdc c (l ++ [d])=(zdc c l || (d.toNat == c.toNat)):=by
 unfold zdc
 rw [← beq_u8]
 simp only [List.contains_append,List.contains_cons,List.contains_nil,Bool.or_false]
theorem zgw (c:UInt8) (w:World) :
  Calls Try.prog 70 #[.int .u8 c.toNat] w fun e w' => e=.returned (.bool (zdO c)) ∧ w=w':=by
 go_enter Try.func70,Try.ntmps70
 go_wp2
 all_goals go_ret
 all_goals exact ⟨zcO (by unfold zdO; first | exact dt (by omega) | exact df (by omega) | (rw [Bool.eq_iff_iff]; simp only [Bool.or_eq_true,Bool.and_eq_true,decide_eq_true_eq]; omega)),rfl⟩
theorem zgv (c:UInt8) (w:World) :
  Calls Try.prog 69 #[.int .u8 c.toNat] w fun e w' => e=.returned (.bool (zar c)) ∧ w=w':=by
 go_enter Try.func69,Try.ntmps69
 go_wp2
 all_goals go_ret
 all_goals exact ⟨zcO (by unfold zar; first | exact dt (by omega) | exact df (by omega) | (rw [Bool.eq_iff_iff]; simp only [Bool.or_eq_true,Bool.and_eq_true,decide_eq_true_eq]; omega)),rfl⟩
theorem ze5 (c:UInt8) (w:World) :
  Calls Try.prog 85 #[.int .u8 c.toNat] w fun e w' => e=.returned (.bool (zca c)) ∧ w=w':=by
 go_enter Try.func85,Try.ntmps85
 go_wp2
 all_goals go_ret
 all_goals exact ⟨zcO (by unfold zca; first | exact dt (by omega) | exact df (by omega) | (rw [Bool.eq_iff_iff]; simp only [Bool.or_eq_true,Bool.and_eq_true,decide_eq_true_eq]; omega)),rfl⟩
theorem zg8 (c:UInt8) (s:ByteArray) (w:World) (hs:s.size ≤ maxLen) :
  Calls Try.prog 67 #[.int .u8 c.toNat,.string s] w fun e w' => e=.returned (.bool (zdc c s.data.toList)) ∧ w=w':=by
 unfold maxLen at hs
 go_enter Try.func67,Try.ntmps67
 go_wp2
 go_loop [5] (fun i => ∃ k:Nat,k ≤ s.size ∧ i=.int .i64 k ∧ zdc c (s.data.toList.take k)=false) (fun i => s.size - (intOf i).toNat)
 case atStart => exact ⟨0,Nat.zero_le _,rfl,hasB_nil c⟩
 case round =>
  obtain ⟨k,hk,rfl,hno⟩:=hrel
  have HN:=Lib.hid hno
  clear hno
  by_cases hlt:k < s.size
  ·have HT:=Lib.hid (zge s k hlt)
   go_wp2
   ·have he:(↑s[k].toNat == (↑c.toNat:Int))=true:=by assumption
    go_ret
    have h:zdc c s.data.toList=true:=by
     have h1:zdc c (s.data.toList.take (k + 1))=true:=by
      rw [HT.out,zgG]
      have:s[k].toNat=c.toNat:=by have:=eq_of_beq he; omega
      simp [this]
     unfold zdc at h1 ⊢
     rw [List.contains_iff_mem] at h1 ⊢
     exact List.mem_of_mem_take h1
    exact ⟨zcO h.symm,rfl⟩
   ·have he:(↑s[k].toNat == (↑c.toNat:Int))=false:=by assumption
    go_round
    case rel =>
     refine ⟨k + 1,by omega,by go_num,?_⟩
     rw [HT.out,zgG,HN.out]
     have:¬ s[k].toNat=c.toNat:=by intro h; simp [h] at he
     simp [this]
    case measure => simp [intOf]; omega
  ·go_wp2
   go_ret
   exact ⟨zcO (by have h:=HN.out; rw [List.take_of_length_le (by rw [zaq]; omega)] at h; rw [h]),rfl⟩
end Go.Proofs.Ytceenajkieomoaa
namespace Go.Proofs.Ytceenajkieomoaa
def dvN (c:UInt8):Nat:=if c.toNat ≤ 57 then c.toNat - 48 else if c.toNat ≤ 70 then c.toNat - 55 else c.toNat - 87
def zfp (base most:Nat):List UInt8 → Nat → Option Nat
 | [],n => some n
 | c :: l,n => if n * base + dvN c ≤ most then zfp base most l (n * base + dvN c) else none
def optE:Option Nat → Int × Nat
 | some n => (0,n)
 | none => (4,0)
def zja (base most:Nat) (l:List UInt8):Int × Nat:=optE (zfp base most l 0)
def zfg (p:UInt8 → Bool) (l:List UInt8):Int:=if l=[] then 3 else if l.all p=true then 0 else 1
def zd7 (p:UInt8 → Bool) (base most:Nat) (l:List UInt8):Int × Nat:=if zfg p l=0 then zja base most l else (zfg p l,0)
def numV (r:Int × Nat):Value:=.tuple #[.int .u64 r.2,.int .i64 r.1]
theorem hexC {c:UInt8} (h:zca c=true):48 ≤ c.toNat ∧ c.toNat ≤ 57 ∨ 97 ≤ c.toNat ∧ c.toNat ≤ 102 ∨ 65 ≤ c.toNat ∧ c.toNat ≤ 70:=of_decide_eq_true h
theorem dvN_lt {c:UInt8} (h:zca c=true):dvN c < 16:=by have:=hexC h; unfold dvN; (repeat' split) <;> omega
theorem zmo {p:UInt8 → Bool} {l:List UInt8} (h0:l ≠ []) (h:l.all p=true):zfg p l=0:=by unfold zfg; rw [if_neg h0,if_pos h]
theorem zjA {p:UInt8 → Bool} {l:List UInt8} (h0:l ≠ []) (h:l.all p=false):zfg p l=1:=by unfold zfg; rw [if_neg h0,if_neg (by rw [h]; exact Bool.false_ne_true)]
theorem zjP (base most:Nat):∀ (l:List UInt8) (n m:Nat),n ≤ most → zfp base most l n=some m → m ≤ most
 | [],n,m,hn,h => by rw [zfp] at h; injection h with h; omega
 | c :: l,n,m,hn,h => by
  rw [zfp] at h
  split at h
  ·rename_i h1; exact zjP base most l _ m h1 h
  ·cases h
theorem valE_le (base most:Nat) (l:List UInt8):(zja base most l).2 ≤ most:=by
 unfold zja
 rcases h:zfp base most l 0 with _ | n
 ·exact Nat.zero_le _
 ·exact zjP base most l 0 n (Nat.zero_le _) h
theorem zib (p:UInt8 → Bool) (base most:Nat) (l:List UInt8):(zd7 p base most l).2 ≤ most:=by
 unfold zd7; split
 ·exact valE_le _ _ _
 ·exact Nat.zero_le _
end Go.Proofs.Ytceenajkieomoaa
namespace Go.Proofs.Ytceenajkieomoaa
open Go.RowKit
def bv (l:List UInt8):List Value:=l.map fun c => .int .u8 c.toNat
theorem bv_get (l:List UInt8) (i:Nat) (h:i < l.length):(bv l)[i]? = some (.int .u8 l[i].toNat):=by simp [bv,h]
def zhE (w:World) (base:Nat) (v:Value) (l:List UInt8):Prop:=w.ownsRow base 5 1 v l.length (bv l)
theorem zhE.nil (w:World) (base:Nat):zhE w base (.slice none 0 0) []:=World.ownsRow_nil w base _ _
theorem zhE.drew {w:World} {base:Nat} {v:Value} {l:List UInt8} (h:zhE w base v l):zhE w.drew base v l:=h
theorem zhE.drewN {w:World} {base:Nat} {v:Value} {l:List UInt8} (h:zhE w base v l) (n:Nat):zhE (w.drewN n) base v l:=h
theorem zhE.alloc {w:World} {base:Nat} {v:Value} {l:List UInt8} (h:zhE w base v l) (o:Obj):zhE (w.alloc o) base v l:=World.ownsRow.alloc h o
theorem zhE.cell {w:World} {B g n cap:Nat} {l:List UInt8} (h:zhE w B (.slice (some ⟨g,0,none⟩) n cap) l) (j:Nat) (hj:j < l.length):w.cell? ⟨g,j,none⟩=some (.int .u8 l[j].toNat):=by
 have h':=h
 rcases h'.2 with ⟨e,_⟩ | ⟨g',cap',cur,e,_⟩
 ·simp at e
 ·simp only [Value.slice.injEq] at e
  obtain ⟨_,rfl,_⟩:=e
  rw [World.ownsRow.cellAt (h:World.ownsRow _ _ _ _ _ _ _) j (by omega),bv_get l j hj]
theorem zhE.frozen {w:World} {B g n cap:Nat} {l:List UInt8} (h:zhE w B (.slice (some ⟨g,0,none⟩) n cap) l) (j:Nat):w.frozen? ⟨g,j,none⟩=false:=by
 have h':=h
 rcases h'.2 with ⟨e,_⟩ | ⟨g',cap',cur,e,_⟩
 ·simp at e
 ·simp only [Value.slice.injEq] at e
  obtain ⟨_,rfl,_⟩:=e
  exact World.ownsRow.frozenAt (h:World.ownsRow _ _ _ _ _ _ _) j
def Crow (w:World) (g:Nat) (l:List UInt8):Prop:=∀ j (h:j < l.length),w.cell? ⟨g,j,none⟩=some (.int .u8 l[j].toNat) ∧ w.frozen? ⟨g,j,none⟩=false
theorem zax (g j:Nat):(⟨g,0,none⟩:Addr).add j=⟨g,j,none⟩:=by unfold Addr.add; split <;> simp_all
theorem Crow.str {w:World} {g:Nat} {l:List UInt8} (h:Crow w g l) (n cap:Nat) (hn:n=l.length) :
  (convert 50 9 (.slice (some ⟨g,0,none⟩) n cap)).run Try.prog w=.ok (.string ⟨l.toArray⟩) w:=by
 subst hn
 exact run_convert_bytes_back w _ _ 5 _ cap l Try.underlying50 Try.underlying5 Try.underlying9 (fun j hj => by rw [zax]; exact (h j hj).1)
theorem zdu (W:World) (xs:List Int) (n:Nat) (hn:n=xs.length) :
  (convert 50 9 (.slice (some ⟨W.heap.size,0,none⟩) n n)).run Try.prog (W.alloc (.cells (xs.map (Value.int .u8)).toArray 5))=.ok (.string (strOfNums xs)) (W.alloc (.cells (xs.map (Value.int .u8)).toArray 5)):=by
 refine run_convert_bytes_arg _ 50 5 Try.underlying50 Try.underlying5 W.heap.size 0 n n xs hn.symm ?_ _ Try.underlying9
 intro i hi
 rw [World.cell?_alloc_at _ _ _ _ rfl]
 have h:i < xs.length:=by omega
 simp [List.getD,List.getElem?_eq_getElem h]
end Go.Proofs.Ytceenajkieomoaa
namespace Go.Proofs.Ytceenajkieomoaa
open Go.RowKit
def sv (ls:List (List UInt8)):List Value:=ls.map fun l => .string (S l)
theorem sv_get (ls:List (List UInt8)) (i:Nat) (h:i < ls.length):(sv ls)[i]? = some (.string (S ls[i])):=by simp [sv,h]
def zjD (w:World) (base:Nat) (v:Value) (ls:List (List UInt8)):Prop:=w.ownsRow base 9 1 v ls.length (sv ls)
theorem zjD.nil (w:World) (base:Nat):zjD w base (.slice none 0 0) []:=World.ownsRow_nil w base _ _
theorem zjD.drew {w:World} {base:Nat} {v:Value} {l:List (List UInt8)} (h:zjD w base v l):zjD w.drew base v l:=h
theorem zjD.drewN {w:World} {base:Nat} {v:Value} {l:List (List UInt8)} (h:zjD w base v l) (n:Nat):zjD (w.drewN n) base v l:=h
theorem zjD.alloc {w:World} {base:Nat} {v:Value} {l:List (List UInt8)} (h:zjD w base v l) (o:Obj):zjD (w.alloc o) base v l:=World.ownsRow.alloc h o
theorem zjD.cell {w:World} {B g n cap:Nat} {l:List (List UInt8)} (h:zjD w B (.slice (some ⟨g,0,none⟩) n cap) l) (j:Nat) (hj:j < l.length):w.cell? ⟨g,j,none⟩=some (.string (S l[j])):=by
 have h':=h
 rcases h'.2 with ⟨e,_⟩ | ⟨g',cap',cur,e,_⟩
 ·simp at e
 ·simp only [Value.slice.injEq] at e
  obtain ⟨_,rfl,_⟩:=e
  rw [World.ownsRow.cellAt (h:World.ownsRow _ _ _ _ _ _ _) j (by omega),sv_get l j hj]
end Go.Proofs.Ytceenajkieomoaa
namespace Go.Proofs.Ytceenajkieomoaa
open Go.RowKit
theorem zi8 (p:UInt8 → Bool) (s:ByteArray) (k:Nat) (h:k < s.size):(s.data.toList.take (k + 1)).all p=((s.data.toList.take k).all p && p s[k]):=by
 rw [zge s k h,List.all_append]; simp
theorem zeS (p:UInt8 → Bool) (l:List UInt8) (k:Nat) (h:(l.take k).all p=false):l.all p=false:=by
 rw [← List.take_append_drop k l,List.all_append,h,Bool.false_and]
theorem take_all (s:ByteArray) (k:Nat) (h:¬ k < s.size):s.data.toList.take k=s.data.toList:=List.take_of_length_le (by rw [zaq]; omega)
def zdv (c:UInt8):Bool:=decide (c.toNat=32 ∨ c.toNat=9)
def rdw (l:List UInt8):List UInt8:=(l.reverse.dropWhile zdv).reverse
def trimL (l:List UInt8):List UInt8:=rdw (l.dropWhile zdv)
theorem rdw_snoc (l:List UInt8) (x:UInt8):rdw (l ++ [x])=if zdv x=true then rdw l else l ++ [x]:=by
 unfold rdw
 rw [List.reverse_append,List.reverse_singleton,List.singleton_append,List.dropWhile_cons]
 split <;> simp
def TP (n:Nat) (l:List UInt8) (f t:Nat):Prop :=
 ∃ A M B,l=A ++ M ++ B ∧ (∀ a ∈ A,zdv a=true) ∧ (∀ b ∈ B,zdv b=true) ∧ M.dropWhile zdv=M ∧ rdw M=M ∧
  ((M=[] ∧ f=n ∧ t=0) ∨ (M ≠ [] ∧ f=A.length ∧ t=A.length + M.length))
theorem TP.other {n:Nat} {l:List UInt8} {f t:Nat} {c:UInt8} (h:TP n l f t) (hc:zdv c=false) (hl:l.length < n):TP n (l ++ [c]) (min f l.length) (l.length + 1):=by
 obtain ⟨A,M,B,rfl,hA,hB,h1,h2,h3⟩:=h
 rcases h3 with ⟨rfl,rfl,rfl⟩ | ⟨h3,rfl,rfl⟩
 ·refine ⟨A ++ B,[c],[],by simp,?_,by simp,by simp [hc],by simp [rdw,hc],.inr ⟨by simp,?_,?_⟩⟩
  ·intro a ha
   rcases List.mem_append.1 ha with ha | ha
   ·exact hA a ha
   ·exact hB a ha
  ·simp at hl ⊢; omega
  ·simp
 ·refine ⟨A,M ++ B ++ [c],[],by simp,hA,by simp,?_,?_,.inr ⟨by simp,?_,?_⟩⟩
  ·cases M with
   | nil => exact absurd rfl h3
   | cons x M =>
    have hx:¬ zdv x=true:=by
     intro hx
     rw [List.dropWhile_cons,if_pos hx] at h1
     have:=congrArg List.length h1
     have h4:=(List.dropWhile_sublist (p:=zdv) (l:=M)).length_le
     simp at this
     omega
    simp only [List.cons_append]
    rw [List.dropWhile_cons,if_neg hx]
  ·rw [rdw_snoc,if_neg (by rw [hc]; exact Bool.false_ne_true)]
  ·simp
  ·simp; omega
theorem zjm {B:List UInt8} (hB:∀ b ∈ B,zdv b=true) (l:List UInt8):rdw (l ++ B)=rdw l:=by
 unfold rdw
 rw [List.reverse_append,List.dropWhile_append_of_pos]
 intro a ha
 exact hB a (List.mem_reverse.1 ha)
theorem TP.done {l:List UInt8} {f t:Nat} (h:TP l.length l f t):(t ≤ f ∧ trimL l=[]) ∨ (f < t ∧ t ≤ l.length ∧ trimL l=(l.drop f).take (t - f)):=by
 obtain ⟨A,M,B,rfl,hA,hB,h1,h2,h3⟩:=h
 have ht:trimL (A ++ M ++ B)=rdw ((M ++ B).dropWhile zdv):=by
  unfold trimL
  rw [List.append_assoc,List.dropWhile_append_of_pos hA]
 rcases h3 with ⟨rfl,rfl,rfl⟩ | ⟨h3,rfl,rfl⟩
 ·refine .inl ⟨Nat.zero_le _,?_⟩
  rw [ht,List.nil_append,← List.append_nil B,List.dropWhile_append_of_pos hB]
  rfl
 ·have hp:0 < M.length:=List.length_pos_iff.2 h3
  refine .inr ⟨by omega,by simp,?_⟩
  have hm:(M ++ B).dropWhile zdv=M ++ B:=by
   cases M with
   | nil => exact absurd rfl h3
   | cons x M =>
    have hx:¬ zdv x=true:=by
     intro hx
     rw [List.dropWhile_cons,if_pos hx] at h1
     have:=congrArg List.length h1
     have h4:=(List.dropWhile_sublist (p:=zdv) (l:=M)).length_le
     simp at this
     omega
    simp only [List.cons_append]
    rw [List.dropWhile_cons,if_neg hx]
  rw [ht,hm,zjm hB,h2,List.append_assoc,List.drop_left,Nat.add_sub_cancel_left,List.take_left]
end Go.Proofs.Ytceenajkieomoaa
namespace Go.Proofs.Ytceenajkieomoaa
open Go.RowKit
def ziX (c:UInt8):List UInt8 → List UInt8 × List UInt8 × Bool
 | [] => ([],[],false)
 | x :: t => if x=c then ([],t,true) else (x :: (ziX c t).1,(ziX c t).2.1,(ziX c t).2.2)
theorem zeI (c x:UInt8) (t:List UInt8):ziX c (x :: t)=if x=c then ([],t,true) else (x :: (ziX c t).1,(ziX c t).2.1,(ziX c t).2.2):=rfl
end Go.Proofs.Ytceenajkieomoaa
namespace Go.Proofs.Ytceenajkieomoaa
end Go.Proofs.Ytceenajkieomoaa
namespace Go.Proofs.Ytceenajkieomoaa
open Go.RowKit
def Obk (w:World) (g:Nat) (t:TypeId) (cs:Array Value):Prop:=w.heap[g]? = some (.cells cs t (0,0))
theorem Obk.lt {w:World} {g:Nat} {t:TypeId} {cs:Array Value} (h:Obk w g t cs):g < w.heap.size:=by
 rcases Nat.lt_or_ge g w.heap.size with h1 | h1
 ·exact h1
 ·unfold Obk at h; rw [Array.getElem?_eq_none h1] at h; cases h
theorem Obk.cell {w:World} {g:Nat} {t:TypeId} {cs:Array Value} (h:Obk w g t cs) (i:Nat):w.cell? ⟨g,i,none⟩=cs[i]?:=cell_of_row w g i cs t (0,0) h
theorem Obk.frozen {w:World} {g:Nat} {t:TypeId} {cs:Array Value} (h:Obk w g t cs) (i:Nat):w.frozen? ⟨g,i,none⟩=false:=by
 unfold Obk at h; simp [World.frozen?,h]
theorem Obk.new (w:World) (t:TypeId) (cs:Array Value):Obk (w.alloc (.cells cs t)) w.heap.size t cs:=heap_alloc_new w _
theorem Obk.alloc {w:World} {g:Nat} {t:TypeId} {cs:Array Value} (h:Obk w g t cs) (o:Obj):Obk (w.alloc o) g t cs:=(Below.heap_alloc w o g h.lt).trans h
theorem Obk.drew {w:World} {g:Nat} {t:TypeId} {cs:Array Value} (h:Obk w g t cs):Obk w.drew g t cs:=h
theorem Obk.drewN {w:World} {g:Nat} {t:TypeId} {cs:Array Value} (h:Obk w g t cs) (n:Nat):Obk (w.drewN n) g t cs:=h
theorem Obk.put {w:World} {g:Nat} {t:TypeId} {cs:Array Value} (h:Obk w g t cs) (i:Nat) (u:Value):Obk (w.setCell ⟨g,i,none⟩ u) g t (cs.setIfInBounds i u):=by
 unfold Obk at h ⊢
 simp [World.setCell,Array.getElem?_modify,h]
theorem Obk.far {w:World} {g:Nat} {t:TypeId} {cs:Array Value} (h:Obk w g t cs) {p:Addr} (hp:g ≠ p.block) (u:Value):Obk (w.setCell p u) g t cs:=(Below.heap_setCell w p u g hp).trans h
theorem Obk.at_ (w:World) (t:TypeId) (cs:Array Value) (g:Nat) (h:w.heap.size=g):Obk (w.alloc (.cells cs t)) g t cs:=by subst h; exact Obk.new w t cs
theorem Obk.st {w:World} {g:Nat} {t:TypeId} {cs:Array Value} (h:Obk w g t cs) (b o:Nat) (u:Value) (hne:g ≠ b):Obk (w.setCell ⟨b,o,none⟩ u) g t cs:=h.far (p:=⟨b,o,none⟩) hne u
theorem Qb.st {a c:World} (h:Qb a c) (b o:Nat) (u:Value) (hb:a.heap.size ≤ b):Qb a (c.setCell ⟨b,o,none⟩ u):=h.set (p:=⟨b,o,none⟩) hb u
theorem Obk.other {w w':World} {g b:Nat} {t:TypeId} {cs:Array Value} (h:Obk w g t cs) (hg:w.grownBy w' (some b)) (hne:g ≠ b):Obk w' g t cs:=(hg.block g h.lt (fun e => hne (Option.some.inj e))).trans h
end Go.Proofs.Ytceenajkieomoaa
namespace Go.Proofs.Ytceenajkieomoaa
open Go.RowKit
end Go.Proofs.Ytceenajkieomoaa
namespace Go.Proofs.Ytceenajkieomoaa
open Go.RowKit
def zju (l set:List UInt8):Nat:=l.findIdx fun c => zdc c set
theorem idxS_at {l set:List UInt8} {k:Nat} (h:k < l.length) (h1:∀ j (hj:j < k),zdc (l[j]'(by omega)) set=false) (h2:zdc l[k] set=true):zju l set=k:=by
 unfold zju
 rw [List.findIdx_eq h]
 exact ⟨h2,fun j hj => by rw [h1 j hj]⟩
theorem zlL {l set:List UInt8} (h1:∀ j (hj:j < l.length),zdc l[j] set=false):zju l set=l.length:=by
 unfold zju
 rw [List.findIdx_eq_length]
 intro x hx
 obtain ⟨j,hj,rfl⟩:=List.getElem_of_mem hx
 rw [h1 j hj]
theorem ziz (c:UInt8):∀ l,zju l [c]=(ziX c l).1.length
 | [] => rfl
 | x :: t => by
  have ih:=ziz c t
  unfold zju at ih ⊢
  rw [List.findIdx_cons,zeI,ih]
  by_cases h:x=c
  ·subst h; simp [zdc]
  ·rw [if_neg h]
   have:zdc x [c]=false:=by simp [zdc,h]
   rw [this]; rfl
theorem zjo (s set:ByteArray) (w:World) (hs:s.size ≤ maxLen) (ha:set.size ≤ maxLen) :
  Calls Try.prog 62 #[.string s,.string set] w fun e w' => e=.returned (.int .i64 (zju s.data.toList set.data.toList)) ∧ w=w':=by
 have hm:=hs
 unfold maxLen at hm
 go_enter Try.func62,Try.ntmps62
 go_wp2_with fail
 go_loop [5] (fun i => ∃ k:Nat,k ≤ s.size ∧ i=.int .i64 k ∧ Hid (∀ j (hj:j < s.size),j < k → zdc s[j] set.data.toList=false)) (fun i => s.size - (intOf i).toNat)
 case atStart => exact ⟨0,Nat.zero_le _,rfl,Lib.hid (fun j hj h => absurd h (Nat.not_lt_zero _))⟩
 case round =>
  obtain ⟨k,hk,rfl,HT⟩:=hrel
  by_cases hlt:k < s.size
  ·rcases hb:zdc s[k] set.data.toList with _ | _
   ·have HB:=Lib.hid hb
    have HN:Hid (∀ j (hj:j < s.size),j < k + 1 → zdc s[j] set.data.toList=false):=Lib.hid fun j hj h => by
     by_cases e:j=k
     ·subst e; exact HB.out
     ·exact HT.out j hj (by omega)
    clear hb
    go_wp2_with fail
    refine (zg8 _ _ _ ha).mono ?_
    rintro e w' ⟨rfl,rfl⟩
    rw [HB.out]
    go_wp2_with fail
    go_round
    case rel => exact ⟨k + 1,by omega,by go_num,HN⟩
    case measure => simp [intOf]; omega
   ·have HB:=Lib.hid hb
    have HN:Hid (zju s.data.toList set.data.toList=k):=Lib.hid (idxS_at (by rw [zaq]; exact hlt) (fun j hj => HT.out j (by omega) hj) hb)
    clear hb
    go_wp2_with fail
    refine (zg8 _ _ _ ha).mono ?_
    rintro e w' ⟨rfl,rfl⟩
    rw [HB.out]
    go_wp2_with fail
    go_ret
    exact ⟨zdG (by rw [HN.out]),rfl⟩
  ·have HN:Hid (zju s.data.toList set.data.toList=s.size):=Lib.hid (by
    rw [zlL (fun j hj => HT.out j (by rw [zaq] at hj; exact hj) (by rw [zaq] at hj; omega)),zaq])
   go_wp2_with fail
   go_ret
   exact ⟨zdG (by rw [HN.out]),rfl⟩
end Go.Proofs.Ytceenajkieomoaa
namespace Go.Proofs.Ytceenajkieomoaa
open Go.RowKit
def za5:List UInt8 → Nat
 | [] => 0
 | c :: t => if zar c=true then za5 t + 1 else 0
def zbu (l:List UInt8):Nat:=if l[0]? = some 45 then 1 else 0
def za2 (l:List UInt8):Nat:=if l[zbu l]? = some 48 then zbu l + 1 else zbu l + za5 (l.drop (zbu l))
def zcz (l:List UInt8) (t:Nat):Nat:=if l[t]? = some 46 ∧ 0 < za5 (l.drop (t + 1)) then t + 1 + za5 (l.drop (t + 1)) else t
def zbn (l:List UInt8) (t:Nat):Nat:=if l[t + 1]? = some 43 ∨ l[t + 1]? = some 45 then t + 2 else t + 1
def expN (l:List UInt8) (t:Nat):Nat :=
 if (l[t]? = some 101 ∨ l[t]? = some 69) ∧ 0 < za5 (l.drop (zbn l t)) then zbn l t + za5 (l.drop (zbn l t)) else t
def zec (l:List UInt8):Nat:=if za5 (l.drop (zbu l))=0 then 0 else expN l (zcz l (za2 l))
theorem zdD:∀ l:List UInt8,za5 l ≤ l.length
 | [] => Nat.le_refl _
 | c :: t => by
  have:=zdD t
  unfold za5
  split <;> simp only [List.length_cons] <;> omega
theorem za4 (l:List UInt8) (k:Nat) (h:0 < za5 (l.drop k)):k + za5 (l.drop k) ≤ l.length:=by
 have:=zdD (l.drop k)
 rw [List.length_drop] at this
 omega
theorem zdE:∀ (l:List UInt8) (i:Nat),i < za5 l → ∃ c,l[i]? = some c ∧ zar c=true
 | [],i,h => absurd h (by simp [za5])
 | c :: t,i,h => by
  unfold za5 at h
  split at h
  ·rename_i hc
   cases i with
   | zero => exact ⟨c,rfl,hc⟩
   | succ i =>
    obtain ⟨x,h1,h2⟩:=zdE t i (by omega)
    exact ⟨x,by rw [List.getElem?_cons_succ]; exact h1,h2⟩
  ·omega
theorem zk4 (l:List UInt8):zec l ≤ l.length:=by
 have key:∀ t:Nat,t ≤ l.length → expN l t ≤ l.length:=by
  intro t ht
  unfold expN
  split
  ·rename_i h; exact za4 l _ h.2
  ·exact ht
 have key2:∀ t:Nat,t ≤ l.length → zcz l t ≤ l.length:=by
  intro t ht
  unfold zcz
  split
  ·rename_i h; exact za4 l _ h.2
  ·exact ht
 unfold zec
 split
 ·exact Nat.zero_le _
 ·rename_i h
  refine key _ (key2 _ ?_)
  unfold za2
  split
  ·rename_i h2
   have:=(List.getElem?_eq_some_iff.1 h2).1
   omega
  ·exact za4 l _ (by omega)
def zes (c:UInt8):Option UInt8 :=
 if c=34 ∨ c=92 ∨ c=47 then some c else if c=98 then some 8 else if c=102 then some 12 else if c=110 then some 10 else if c=114 then some 13 else if c=116 then some 9 else none
def zct (l:List UInt8):Option Nat :=
 if l.length < 6 ∨ ¬ l[0]? = some 92 ∨ ¬ l[1]? = some 117 then none
 else if (zd7 zca 16 65535 ((l.drop 2).take 4)).1=0 then some (zd7 zca 16 65535 ((l.drop 2).take 4)).2 else none
def zd1 (l:List UInt8):Int × List UInt8 × Nat :=
 match (l[1]?).bind zes with
 | some c => (0,[c],2)
 | none => match zct l with
  | none => (130,[],0)
  | some n =>
   if n < 55296 ∨ 57343 < n then (0,zdr n,6)
   else if 56319 < n then (7,[],0)
   else match zct (l.drop 6) with
    | none => (7,[],0)
    | some m => if m < 56320 ∨ 57343 < m then (7,[],0) else (0,zdr (65536 + (n - 55296) * 1024 + (m - 56320)),12)
def zep:Nat → List UInt8 → List UInt8 → Nat → Int × List UInt8 × Nat
 | 0,_,_,_ => (130,[],0)
 | _ + 1,[],_,_ => (130,[],0)
 | n + 1,c :: t,out,k =>
  if c=34 then (0,out,k + 1)
  else if c=92 then
   (if (zd1 (c :: t)).1 ≠ 0 then ((zd1 (c :: t)).1,[],0) else zep n ((c :: t).drop (zd1 (c :: t)).2.2) (out ++ (zd1 (c :: t)).2.1) (k + (zd1 (c :: t)).2.2))
  else if c.toNat < 32 then (130,[],0)
  else match zd2 (c :: t) with
   | none => (7,[],0)
   | some (_,m) => zep n ((c :: t).drop m) (out ++ (c :: t).take m) (k + m)
def zbL:List UInt8 → Nat
 | [] => 0
 | c :: t => if zdO c=true then zbL t + 1 else 0
def zfV (c:UInt8):Bool:=zdc c [32,9,10,13]
def zbi:List UInt8 → Nat
 | [] => 0
 | c :: t => if zfV c=true then zbi t + 1 else 0
def zbr:List UInt8 → Int × Int × List UInt8 × Nat
 | [] => (0,1,[],0)
 | c :: t =>
  if zdc c [123,125,91,93,58,44]=true then (0,2,[c],1)
  else if c=34 then (if (zep (t.length + 1) t [] 0).1 ≠ 0 then ((zep (t.length + 1) t [] 0).1,0,[],0) else (0,3,(zep (t.length + 1) t [] 0).2.1,(zep (t.length + 1) t [] 0).2.2 + 1))
  else if c=45 ∨ zar c=true then (if zec (c :: t)=0 then (130,0,[],0) else (0,4,(c :: t).take (zec (c :: t)),zec (c :: t)))
  else if (c :: t).take (zbL (c :: t))=[116,114,117,101] ∨ (c :: t).take (zbL (c :: t))=[102,97,108,115,101] ∨ (c :: t).take (zbL (c :: t))=[110,117,108,108] then (0,5,(c :: t).take (zbL (c :: t)),zbL (c :: t))
  else (130,0,[],0)
end Go.Proofs.Ytceenajkieomoaa
namespace Go.Proofs.Ytceenajkieomoaa
open Go.RowKit
structure NumS where
 neg:Bool
 int:List UInt8
 fr:List UInt8
 ex:Option (UInt8 × List UInt8 × List UInt8)
def frT:List UInt8 → List UInt8
 | [] => []
 | c :: t => 46 :: c :: t
def exT:Option (UInt8 × List UInt8 × List UInt8) → List UInt8
 | none => []
 | some (c,s,d) => c :: (s ++ d)
def sgT (b:Bool):List UInt8:=if b=true then [45] else []
def NumS.txt (p:NumS):List UInt8:=sgT p.neg ++ (p.int ++ (frT p.fr ++ exT p.ex))
structure NumS.Good (p:NumS):Prop where
 i0:p.int ≠ []
 i1:p.int.all zar=true
 i2:p.int[0]? = some 48 → p.int=[48]
 f1:p.fr.all zar=true
 e1:∀ c s d,p.ex=some (c,s,d) → (c=101 ∨ c=69) ∧ (s=[] ∨ s=[43] ∨ s=[45]) ∧ d ≠ [] ∧ d.all zar=true
theorem zej (l:List UInt8) {i j:Nat} (h:i ≤ j):l.drop i=(l.drop i).take (j - i) ++ l.drop j:=by
 conv => lhs; rw [← List.take_append_drop (j - i) (l.drop i)]
 rw [List.drop_drop,show i + (j - i)=j by omega]
theorem zbd {l:List UInt8} {i:Nat} {c:UInt8} (h:l[i]? = some c):l.drop i=c :: l.drop (i + 1):=by
 obtain ⟨h1,h2⟩:=List.getElem?_eq_some_iff.1 h
 rw [List.drop_eq_getElem_cons h1,h2]
theorem zbU:∀ l:List UInt8,(l.take (za5 l)).all zar=true
 | [] => rfl
 | c :: t => by
  unfold za5
  split
  ·rename_i h
   rw [List.take_succ_cons,List.all_cons,h,zbU t]; rfl
  ·rfl
theorem zb1:∀ (d r:List UInt8),d.all zar=true → (∀ c,r[0]? = some c → zar c=false) → za5 (d ++ r)=d.length
 | [],r,_,h => by
  rw [List.nil_append]
  cases r with
  | nil => rfl
  | cons c t =>
   unfold za5
   rw [if_neg (by rw [h c rfl]; exact Bool.false_ne_true)]; rfl
 | c :: d,r,hd,h => by
  rw [List.all_cons,Bool.and_eq_true] at hd
  rw [List.cons_append]
  unfold za5
  rw [if_pos hd.1,zb1 d r hd.2 h]; rfl
theorem take_len {l:List UInt8} {k:Nat} (h:k ≤ l.length):(l.take k).length=k:=by rw [List.length_take]; omega
theorem zfr {l:List UInt8} {k:Nat} (h0:0 < k) (h:k ≤ l.length):l.take k ≠ []:=by
 intro e
 have:=congrArg List.length e
 rw [take_len h,List.length_nil] at this
 omega
theorem zk3 {l:List UInt8} (h0:l ≠ []) (h:zec l=l.length):∃ p:NumS,p.Good ∧ l=p.txt:=by
 have hl:0 < l.length:=List.length_pos_iff.2 h0
 unfold zec at h
 by_cases hr:za5 (l.drop (zbu l))=0
 ·rw [if_pos hr] at h; omega
 rw [if_neg hr] at h
 have hsg:l=sgT (decide (l[0]? = some 45)) ++ l.drop (zbu l):=by
  unfold zbu sgT
  by_cases hc:l[0]? = some 45
  ·rw [if_pos hc,if_pos (by rw [hc]; rfl)]
   conv => lhs; rw [← List.drop_zero (l:=l),zbd hc]
   rfl
  ·rw [if_neg hc,if_neg (by rw [decide_eq_false hc]; exact Bool.false_ne_true)]; simp
 have hrl:=za4 l (zbu l) (by omega)
 obtain ⟨I,hI0,hI1,hI2,hIl,hI⟩:∃ I:List UInt8,I ≠ [] ∧ I.all zar=true ∧ (I[0]? = some 48 → I=[48]) ∧ za2 l ≤ l.length ∧ l.drop (zbu l)=I ++ l.drop (za2 l):=by
  have hd:=zdE (l.drop (zbu l)) 0 (by omega)
  obtain ⟨c,hc1,hc2⟩:=hd
  rw [List.getElem?_drop,Nat.add_zero] at hc1
  have hdc:=zbd hc1
  unfold za2
  by_cases hz:l[zbu l]? = some 48
  ·rw [if_pos hz]
   refine ⟨[48],by simp,rfl,fun _ => rfl,?_,?_⟩
   ·have:=(List.getElem?_eq_some_iff.1 hz).1; omega
   ·exact zbd hz
  ·rw [if_neg hz]
   refine ⟨(l.drop (zbu l)).take (za5 (l.drop (zbu l))),zfr (by omega) (zdD _),zbU _,?_,hrl,?_⟩
   ·intro h1
    exfalso
    rw [List.getElem?_take,if_pos (by omega),List.getElem?_drop,Nat.add_zero] at h1
    exact hz h1
   ·have:=zej l (show zbu l ≤ zbu l + za5 (l.drop (zbu l)) by omega)
    rw [show zbu l + za5 (l.drop (zbu l)) - zbu l=za5 (l.drop (zbu l)) by omega] at this
    exact this
 generalize za2 l=t at *
 obtain ⟨F,hF1,hFl,hF⟩:∃ F:List UInt8,F.all zar=true ∧ zcz l t ≤ l.length ∧ l.drop t=frT F ++ l.drop (zcz l t):=by
  unfold zcz
  by_cases hc:l[t]? = some 46 ∧ 0 < za5 (l.drop (t + 1))
  ·rw [if_pos hc]
   have hb:=za4 l (t + 1) hc.2
   refine ⟨(l.drop (t + 1)).take (za5 (l.drop (t + 1))),zbU _,hb,?_⟩
   have h1:=zej l (show t + 1 ≤ t + 1 + za5 (l.drop (t + 1)) by omega)
   rw [show t + 1 + za5 (l.drop (t + 1)) - (t + 1)=za5 (l.drop (t + 1)) by omega] at h1
   have hne:=zfr hc.2 (zdD (l.drop (t + 1)))
   rw [zbd hc.1]
   generalize (l.drop (t + 1)).take (za5 (l.drop (t + 1)))=F at *
   cases F with
   | nil => exact absurd rfl hne
   | cons a F =>
    show 46 :: l.drop (t + 1)=46 :: (a :: F ++ _)
    rw [← h1]
  ·rw [if_neg hc]
   exact ⟨[],rfl,hIl,rfl⟩
 generalize zcz l t=f at *
 obtain ⟨E,hE1,hE⟩:∃ E:Option (UInt8 × List UInt8 × List UInt8),(∀ c s d,E=some (c,s,d) → (c=101 ∨ c=69) ∧ (s=[] ∨ s=[43] ∨ s=[45]) ∧ d ≠ [] ∧ d.all zar=true) ∧ l.drop f=exT E:=by
  unfold expN at h
  by_cases hc:(l[f]? = some 101 ∨ l[f]? = some 69) ∧ 0 < za5 (l.drop (zbn l f))
  ·rw [if_pos hc] at h
   obtain ⟨c,hc1,hc2⟩:∃ c,l[f]? = some c ∧ (c=101 ∨ c=69):=by
    rcases hc.1 with h1 | h1
    ·exact ⟨_,h1,.inl rfl⟩
    ·exact ⟨_,h1,.inr rfl⟩
   have hdig:l.drop (zbn l f) ≠ [] ∧ (l.drop (zbn l f)).all zar=true:=by
    have h1:=zbU (l.drop (zbn l f))
    have h2:za5 (l.drop (zbn l f))=(l.drop (zbn l f)).length:=by rw [List.length_drop]; omega
    rw [h2,List.take_length] at h1
    refine ⟨fun e => ?_,h1⟩
    rw [e] at hc
    exact absurd hc.2 (by simp [za5])
   rw [zbd hc1]
   unfold zbn at hdig hc
   by_cases hs:l[f + 1]? = some 43 ∨ l[f + 1]? = some 45
   ·rw [if_pos hs] at hdig
    obtain ⟨s,hs1,hs2⟩:∃ s,l[f + 1]? = some s ∧ (s=43 ∨ s=45):=by
     rcases hs with h1 | h1
     ·exact ⟨_,h1,.inl rfl⟩
     ·exact ⟨_,h1,.inr rfl⟩
    refine ⟨some (c,[s],l.drop (f + 2)),?_,?_⟩
    ·intro c' s' d' e
     injection e with e; injection e with e1 e2; injection e2 with e2 e3
     subst e1 e2 e3
     exact ⟨hc2,by rcases hs2 with rfl | rfl <;> simp,hdig.1,hdig.2⟩
    ·rw [zbd hs1]; rfl
   ·rw [if_neg hs] at hdig
    refine ⟨some (c,[],l.drop (f + 1)),?_,rfl⟩
    intro c' s' d' e
    injection e with e; injection e with e1 e2; injection e2 with e2 e3
    subst e1 e2 e3
    exact ⟨hc2,.inl rfl,hdig.1,hdig.2⟩
  ·rw [if_neg hc] at h
   subst h
   exact ⟨none,fun _ _ _ e => (by cases e),by simp [exT]⟩
 refine ⟨⟨decide (l[0]? = some 45),I,F,E⟩,⟨hI0,hI1,hI2,hF1,hE1⟩,?_⟩
 show l=sgT _ ++ (I ++ (frT F ++ exT E))
 rw [← hE,← hF,← hI,← hsg]
theorem zf2 {c:UInt8} (h:zar c=true):48 ≤ c.toNat ∧ c.toNat ≤ 57:=of_decide_eq_true h
theorem zbZ {c k:UInt8} (h:zar c=true) (hk:zar k=false):c ≠ k:=fun e => by subst e; rw [h] at hk; cases hk
theorem zcn {I:List UInt8} (h0:I ≠ []) (h1:I.all zar=true):∃ c t,I=c :: t ∧ zar c=true:=by
 cases I with
 | nil => exact absurd rfl h0
 | cons c t => rw [List.all_cons,Bool.and_eq_true] at h1; exact ⟨c,t,rfl,h1.1⟩
theorem zey {p:NumS} (hp:p.Good):∀ c,(frT p.fr ++ exT p.ex)[0]? = some c → zar c=false:=by
 intro c h
 cases hf:p.fr with
 | cons a t => rw [hf] at h; simp only [frT,List.cons_append,List.getElem?_cons_zero,Option.some.injEq] at h; subst h; rfl
 | nil =>
  rw [hf] at h
  cases he:p.ex with
  | none => rw [he] at h; simp [frT,exT] at h
  | some e =>
   obtain ⟨k,s,d⟩:=e
   rw [he] at h
   simp only [frT,exT,List.nil_append,List.getElem?_cons_zero,Option.some.injEq] at h
   subst h
   rcases (hp.e1 k s d he).1 with rfl | rfl <;> rfl
theorem zdq {p:NumS} (hp:p.Good):∀ c,(exT p.ex)[0]? = some c → c=101 ∨ c=69:=by
 intro c h
 cases he:p.ex with
 | none => rw [he] at h; simp [exT] at h
 | some e =>
  obtain ⟨k,s,d⟩:=e
  rw [he] at h
  simp only [exT,List.getElem?_cons_zero,Option.some.injEq] at h
  subst h
  exact (hp.e1 k s d he).1
theorem num_txt {p:NumS} (hp:p.Good):zec p.txt=p.txt.length ∧ p.txt ≠ []:=by
 obtain ⟨c,t,hI,hc⟩:=zcn hp.i0 hp.i1
 have hsg:zbu p.txt=(sgT p.neg).length:=by
  unfold zbu NumS.txt
  cases p.neg with
  | true => rw [if_pos (by rfl)]; rfl
  | false =>
   rw [if_neg ?_]
   ·rfl
   ·rw [hI]
    simp only [sgT,Bool.false_eq_true,if_false,List.nil_append,List.cons_append,List.getElem?_cons_zero,Option.some.injEq]
    exact zbZ hc rfl
 have hdrop:∀ r:List UInt8,(sgT p.neg ++ r).drop (sgT p.neg).length=r:=fun r => by simp
 have hd0:p.txt.drop (sgT p.neg).length=p.int ++ (frT p.fr ++ exT p.ex):=by unfold NumS.txt; exact hdrop _
 have hrun:=zb1 p.int (frT p.fr ++ exT p.ex) hp.i1 (zey hp)
 have hIl:0 < p.int.length:=List.length_pos_iff.2 hp.i0
 have hwhole:za2 p.txt=(sgT p.neg).length + p.int.length:=by
  unfold za2
  rw [hsg,hd0,hrun]
  have hg:p.txt[(sgT p.neg).length]? = p.int[0]?:=by
   have:p.txt[(sgT p.neg).length]? = (p.txt.drop (sgT p.neg).length)[0]?:=by rw [List.getElem?_drop,Nat.add_zero]
   rw [this,hd0,List.getElem?_append_left hIl]
  rw [hg]
  by_cases hz:p.int[0]? = some 48
  ·rw [if_pos hz,hp.i2 hz]; rfl
  ·rw [if_neg hz]
 have hd1:p.txt.drop ((sgT p.neg).length + p.int.length)=frT p.fr ++ exT p.ex:=by rw [← List.drop_drop,hd0]; simp
 have hg1:p.txt[(sgT p.neg).length + p.int.length]? = (frT p.fr ++ exT p.ex)[0]?:=by rw [← hd1,List.getElem?_drop,Nat.add_zero]
 have hfrac:zcz p.txt ((sgT p.neg).length + p.int.length)=(sgT p.neg).length + p.int.length + (frT p.fr).length:=by
  unfold zcz
  rw [hg1,← List.drop_drop,hd1]
  cases hf:p.fr with
  | nil =>
   rw [if_neg ?_]
   ·rfl
   ·rintro ⟨h1,_⟩
    rw [show frT []=[] from rfl,List.nil_append] at h1
    rcases zdq hp _ h1 with h2 | h2 <;> cases h2
  | cons a r =>
   have hr:za5 ((frT (a :: r) ++ exT p.ex).drop 1)=(a :: r).length:=by
    show za5 ((a :: r) ++ exT p.ex)=_
    refine zb1 _ _ (by rw [← hf]; exact hp.f1) ?_
    intro c h
    rcases zdq hp c h with rfl | rfl <;> rfl
   rw [hr,if_pos ⟨rfl,by simp⟩]
   simp [frT]; omega
 have hd2:p.txt.drop ((sgT p.neg).length + p.int.length + (frT p.fr).length)=exT p.ex:=by rw [← List.drop_drop,hd1]; simp
 have hlen:p.txt.length=(sgT p.neg).length + p.int.length + (frT p.fr).length + (exT p.ex).length:=by unfold NumS.txt; simp; omega
 have hexp:expN p.txt ((sgT p.neg).length + p.int.length + (frT p.fr).length)=p.txt.length:=by
  generalize (sgT p.neg).length + p.int.length + (frT p.fr).length=f at *
  have hg2:∀ k,p.txt[f + k]? = (exT p.ex)[k]?:=fun k => by rw [← hd2,List.getElem?_drop]
  have hg0:=hg2 0
  rw [Nat.add_zero] at hg0
  have hd3:∀ k,p.txt.drop (f + k)=(exT p.ex).drop k:=fun k => by rw [← List.drop_drop,hd2]
  unfold expN
  cases he:p.ex with
  | none =>
   rw [he] at hg0 hlen
   rw [hg0,if_neg (by simp [exT]),hlen]; rfl
  | some e =>
   obtain ⟨k,s,d⟩:=e
   obtain ⟨h1,h2,h3,h4⟩:=hp.e1 k s d he
   have h1':=hg2 1
   rw [he] at hg0 hlen hd3 h1'
   have hdl:0 < d.length:=List.length_pos_iff.2 h3
   have hrd:za5 d=d.length:=by
    have:=zb1 d [] h4 (by simp)
    rwa [List.append_nil] at this
   obtain ⟨c1,d1,e1,e2⟩:=zcn h3 h4
   have hat:zbn p.txt f=f + 1 + s.length:=by
    unfold zbn
    rw [h1']
    rcases h2 with rfl | rfl | rfl
    ·rw [if_neg]
     ·rfl
     ·rw [e1]
      simp only [exT,List.nil_append,List.getElem?_cons_succ,List.getElem?_cons_zero,Option.some.injEq]
      rintro (h | h)
      ·exact zbZ e2 (k:=43) rfl h
      ·exact zbZ e2 (k:=45) rfl h
    ·rw [if_pos (by simp [exT])]; rfl
    ·rw [if_pos (by simp [exT])]; rfl
   have hdd:p.txt.drop (f + 1 + s.length)=d:=by
    rw [show f + 1 + s.length=f + (1 + s.length) by omega,hd3]
    show (k :: (s ++ d)).drop (1 + s.length)=d
    rw [Nat.add_comm 1,List.drop_succ_cons]; simp
   rw [hat,hdd,hrd,hg0,if_pos]
   ·rw [hlen]; simp [exT]; omega
   ·refine ⟨?_,hdl⟩
    rcases h1 with rfl | rfl <;> simp [exT]
 constructor
 ·unfold zec
  rw [hsg,hd0,hrun,if_neg (by omega),hwhole,hfrac,hexp]
 ·intro e
  rw [e] at hlen
  simp only [List.length_nil] at hlen
  omega
end Go.Proofs.Ytceenajkieomoaa
namespace Go.Proofs.Ytceenajkieomoaa
theorem dec_one {m:Nat} (h:m < 10):Lib.decDigits m=[UInt8.ofNat (48 + m)]:=Lib.decDigits_one h
theorem dec_more {m:Nat} (h:¬ m < 10):Lib.decDigits m=Lib.decDigits (m / 10) ++ [UInt8.ofNat (48 + m % 10)]:=by
 rw [Lib.decDigits,dif_neg h]
end Go.Proofs.Ytceenajkieomoaa
namespace Go.Proofs.Ytceenajkieomoaa
open Go.RowKit
def decV:List UInt8 → Nat → Nat
 | [],n => n
 | c :: l,n => decV l (n * 10 + (c.toNat - 48))
theorem zhv:∀ (l:List UInt8) (n:Nat),n ≤ decV l n
 | [],n => Nat.le_refl _
 | c :: l,n => by
  have:=zhv l (n * 10 + (c.toNat - 48))
  unfold decV; omega
def zeF (cut:Nat):Option (UInt8 × List UInt8 × List UInt8) → Int
 | none => 0
 | some (_,s,d) => if s=[45] then -((min (decV d 0) cut:Nat):Int) else ((min (decV d 0) cut:Nat):Int)
def zL (l:List UInt8):List UInt8:=l.dropWhile (· == 48)
def zR (l:List UInt8):List UInt8:=(zL l.reverse).reverse
def zdM (p:NumS):List UInt8:=zL (p.int ++ p.fr)
def zlT (cut:Nat) (p:NumS):Int:=zeF cut p.ex - (p.fr.length:Int) + (((zdM p).length:Int) - ((zR (zdM p)).length:Int))
def expS (x:Int):List UInt8:=if x=0 then [] else 101 :: Lib.itoa x
def canP (cut:Nat) (p:NumS):Int × List UInt8 :=
 if zdM p=[] then (0,[48])
 else if 40 < (zR (zdM p)).length ∨ zlT cut p < -400 ∨ 400 < zlT cut p then (144,[])
 else (0,sgT p.neg ++ (zR (zdM p) ++ expS (zlT cut p)))
theorem zfj (c:UInt8) (t:List UInt8):zL (c :: t)=if c=48 then zL t else c :: t:=by
 unfold zL
 rw [List.dropWhile_cons]
 by_cases h:c=48
 ·rw [if_pos h,if_pos (by rw [h]; rfl)]
 ·rw [if_neg h,if_neg (by simpa using h)]
theorem zfi:∀ l:List UInt8,∃ k,l=List.replicate k 48 ++ zL l ∧ ∀ c,(zL l)[0]? = some c → c ≠ 48
 | [] => ⟨0,rfl,fun c h => by simp [zL] at h⟩
 | c :: t => by
  rw [zfj]
  by_cases h:c=48
  ·rw [if_pos h]
   obtain ⟨k,h1,h2⟩:=zfi t
   refine ⟨k + 1,?_,h2⟩
   rw [List.replicate_succ,List.cons_append,← h1,h]
  ·rw [if_neg h]
   exact ⟨0,rfl,fun d hd => by simp only [List.getElem?_cons_zero,Option.some.injEq] at hd; rw [← hd]; exact h⟩
theorem zL_rep (k:Nat) (r:List UInt8):zL (List.replicate k 48 ++ r)=zL r:=by
 induction k with
 | zero => rfl
 | succ k ih => rw [List.replicate_succ,List.cons_append,zfj,if_pos rfl,ih]
theorem zL_id {l:List UInt8} (h:∀ c,l[0]? = some c → c ≠ 48):zL l=l:=by
 cases l with
 | nil => rfl
 | cons c t => rw [zfj,if_neg (h c rfl)]
theorem zR_rep (a:List UInt8) (k:Nat):zR (a ++ List.replicate k 48)=zR a:=by
 unfold zR
 rw [List.reverse_append,List.reverse_replicate,zL_rep]
theorem zR_spec (l:List UInt8):∃ k,l=zR l ++ List.replicate k 48:=by
 obtain ⟨k,h1,h2⟩:=zfi l.reverse
 refine ⟨k,?_⟩
 have:=congrArg List.reverse h1
 rw [List.reverse_reverse,List.reverse_append,List.reverse_replicate] at this
 exact this
theorem zL_len (l:List UInt8):(zL l).length ≤ l.length:=by
 obtain ⟨k,h,_⟩:=zfi l
 have:=congrArg List.length h
 rw [List.length_append] at this; omega
theorem zR_len (l:List UInt8):(zR l).length ≤ l.length:=by
 obtain ⟨k,h⟩:=zR_spec l
 have:=congrArg List.length h
 rw [List.length_append] at this; omega
theorem zla (p:NumS):∀ c,(zdM p)[0]? = some c → c ≠ 48:=by
 obtain ⟨k,_,h⟩:=zfi (p.int ++ p.fr)
 exact h
theorem zie (p:NumS):(zdM p).length ≤ p.int.length + p.fr.length:=by
 have:=zL_len (p.int ++ p.fr)
 rw [List.length_append] at this
 exact this
theorem zjR (p:NumS):p.int.length + p.fr.length ≤ p.txt.length:=by
 unfold NumS.txt
 simp only [List.length_append]
 have:p.fr.length ≤ (frT p.fr).length:=by cases p.fr <;> simp [frT]
 omega
theorem expI_le (cut:Nat):∀ e,-(cut:Int) ≤ zeF cut e ∧ zeF cut e ≤ cut
 | none => ⟨by simp only [zeF]; omega,by simp only [zeF]; omega⟩
 | some (_,s,d) => by
  simp only [zeF]
  split <;> omega
end Go.Proofs.Ytceenajkieomoaa
namespace Go.Proofs.Ytceenajkieomoaa
open Go.RowKit
def zhg (c:Nat):List UInt8 → Nat → Nat
 | [],n => n
 | x :: l,n => zhg c l (min (n * 10 + (x.toNat - 48)) c)
theorem zhf (c:Nat):∀ (l:List UInt8) (n:Nat),n ≤ c → zhg c l n=min (decV l n) c
 | [],n,h => by rw [zhg,decV]; omega
 | x :: l,n,h => by
  rw [zhg,decV,zhf c l _ (by omega)]
  by_cases h1:n * 10 + (x.toNat - 48) ≤ c
  ·rw [Nat.min_eq_left h1]
  ·rw [Nat.min_eq_right (show c ≤ n * 10 + (x.toNat - 48) by omega)]
   have h2:=zhv l c
   have h3:=zhv l (n * 10 + (x.toNat - 48))
   omega
theorem minV_le (c:Nat):∀ (l:List UInt8) (n:Nat),n ≤ c → zhg c l n ≤ c:=fun l n h => by rw [zhf c l n h]; omega
def zdy (l:List UInt8):List UInt8:=if l[0]? = some 43 ∨ l[0]? = some 45 then l.drop 1 else l
def negE (l:List UInt8):Bool:=decide (l[0]? = some 45)
def expC (c:Nat) (l:List UInt8):Int:=if negE l=true then -(zhg c (zdy l) 0:Int) else (zhg c (zdy l) 0:Int)
theorem zhr (c:Nat) {p:NumS} (hp:p.Good) {k:UInt8} {s d:List UInt8} (he:p.ex=some (k,s,d)):expC c (s ++ d)=zeF c p.ex ∧ zdy (s ++ d)=d:=by
 obtain ⟨_,h2,h3,h4⟩:=hp.e1 k s d he
 obtain ⟨c1,d1,e1,e2⟩:=zcn h3 h4
 have hs:zdy (s ++ d)=d:=by
  unfold zdy
  rcases h2 with rfl | rfl | rfl
  ·rw [List.nil_append,if_neg]
   rw [e1]
   simp only [List.getElem?_cons_zero,Option.some.injEq]
   rintro (h | h)
   ·exact zbZ e2 (k:=43) rfl h
   ·exact zbZ e2 (k:=45) rfl h
  ·rw [if_pos (.inl rfl)]; rfl
  ·rw [if_pos (.inr rfl)]; rfl
 refine ⟨?_,hs⟩
 have hn:negE (s ++ d)=decide (s=[45]):=by
  unfold negE
  rcases h2 with rfl | rfl | rfl
  ·rw [List.nil_append,e1]
   have:c1 ≠ 45:=zbZ e2 rfl
   simp [this]
  ·simp
  ·simp
 unfold expC zeF
 rw [hs,hn,he,zhf c d 0 (Nat.zero_le _)]
 by_cases h:s=[45]
 ·simp [h]
 ·simp [h]
end Go.Proofs.Ytceenajkieomoaa
namespace Go.Proofs.Ytceenajkieomoaa.Sx
open Go.RowKit
inductive AV where
 | s (l:List UInt8)
 | i (k:IntKind) (n:Int)
 | b (x:Bool)
 | agg (cs:List AV)
 | tup (cs:List AV)
 | p (b off:Nat)
 | row (n:Nat) (xs:List AV)
 | prow (xs:List AV) (j:Nat)
 | crow (n:Nat) (xs:List AV)
 | orow (b gen:Nat)
 | porow (b gen j:Nat)
 | bsl (b off n:Nat)
 | m (b:Nat)
 | zn (b:Bool)
 | nil
 | fn (f:Nat) (first caps:List AV)
 | o (v:Value)
 | u
inductive OB where
 | box (T:TypeId) (cs:List AV)
 | orow (E sz gen n:Nat) (xs:List AV)
 | mp (es:List (List UInt8 × AV))
 | dead
structure Gh where
 blk:Nat → Option Nat
 cur:Nat → Option (Nat × Value)
def Gh.own (G:Gh) (b:Nat):Option Nat :=
 match G.blk b with
 | some g => some g
 | none => match G.cur b with
  | some p => p.2.ownBlock
  | none => none
theorem zau {G:Gh} {b g:Nat} (h:G.blk b=some g):G.own b=some g:=by simp [Gh.own,h]
theorem zbj {G:Gh} {b n:Nat} {v:Value} (h:G.blk b=none) (h':G.cur b=some (n,v)):G.own b=v.ownBlock:=by simp [Gh.own,h,h']
abbrev Imm:=Nat → Nat → Value → Prop
mutual
def Den (G:Gh) (I:Imm):AV → Value → Prop
 | .s l,y => y=.string ⟨l.toArray⟩
 | .i k n,y => y=.int k n
 | .b x,y => y=.bool x
 | .agg cs,y => ∃ ys,y=.agg ys.toArray ∧ zai G I cs ys ∧ ∀ u ∈ ys,u.oneCell'=true
 | .tup cs,y => ∃ ys,y=.tuple ys.toArray ∧ zai G I cs ys
 | .p b off,y => ∃ g,G.blk b=some g ∧ y=.pointer (some ⟨g,off,none⟩)
 | .row n xs,y => ∃ a c ys,y=.slice a n c ∧ (n ≤ c ∧ ∀ ad:Addr,a=some ad → c ≠ 0 → ad.spot=none) ∧ zai G I xs ys ∧ (∀ u ∈ ys,u.oneCell'=true) ∧ ∀ j u,ys[j]? = some u → ∃ g off,a=some ⟨g,off,none⟩ ∧ I g (off + j) u
 | .prow xs j,y => ∃ g off ys,y=.pointer (some ⟨g,off + j,none⟩) ∧ zai G I xs ys ∧ (∀ u ∈ ys,u.oneCell'=true) ∧ ∀ j u,ys[j]? = some u → I g (off + j) u
 | .crow n xs,y => ∃ a ys,y=.slice a n n ∧ (∀ ad:Addr,a=some ad → n ≠ 0 → ad.spot=none) ∧ zai G I xs ys ∧ (∀ u ∈ ys,u.oneCell'=true) ∧ ∀ j u,ys[j]? = some u → ∃ g off,a=some ⟨g,off,none⟩ ∧ I g (off + j) u
 | .orow b gen,y => ∃ g' v,G.cur b=some (g',v) ∧ gen ≤ g' ∧ (gen=g' → y=v) ∧ y.oneCell'=true
 | .porow b gen j,y => ∃ g' v g,G.cur b=some (g',v) ∧ gen ≤ g' ∧ y=.pointer (some ⟨g,j,none⟩) ∧ (gen=g' → ∃ n c,v=.slice (some ⟨g,0,none⟩) n c)
 | .bsl b off n,y => ∃ g c,G.blk b=some g ∧ y=.slice (some ⟨g,off,none⟩) n c ∧ n ≤ c
 | .m b,y => ∃ g,G.blk b=some g ∧ y=.map (some g)
 | .zn b,y => ∃ a c,y=.slice a 0 c ∧ a.isNone=b ∧ ∀ ad:Addr,a=some ad → c ≠ 0 → ad.spot=none
 | .nil,y => y=.slice none 0 0
 | .fn f fs cs,y => ∃ us ys,y=.func (.func f) us.toArray ys.toArray ∧ zai G I fs us ∧ zai G I cs ys
 | .o v,y => y=v
 | .u,y => True
def zai (G:Gh) (I:Imm):List AV → List Value → Prop
 | [],ys => ys=[]
 | x :: xs,ys => ∃ y ys',ys=y :: ys' ∧ Den G I x y ∧ zai G I xs ys'
end
structure Gh.le (G G':Gh):Prop where
 blk:∀ b g,G.blk b=some g → G'.blk b=some g
 cur:∀ b n v,G.cur b=some (n,v) → ∃ n' v',G'.cur b=some (n',v') ∧ (n'=n ∧ v'=v ∨ n < n')
theorem Gh.le.refl (G:Gh):G.le G:=⟨fun _ _ h => h,fun _ n v h => ⟨n,v,h,.inl ⟨rfl,rfl⟩⟩⟩
theorem Gh.le.trans {a b c:Gh} (h:a.le b) (k:b.le c):a.le c:=by
 refine ⟨fun x g hx => k.blk x g (h.blk x g hx),fun x n v hx => ?_⟩
 obtain ⟨n1,v1,h1,h2⟩:=h.cur x n v hx
 obtain ⟨n2,v2,h3,h4⟩:=k.cur x n1 v1 h1
 refine ⟨n2,v2,h3,?_⟩
 rcases h2 with ⟨rfl,rfl⟩ | h2
 ·exact h4
 ·rcases h4 with ⟨rfl,_⟩ | h4
  ·exact .inr h2
  ·exact .inr (by omega)
def Imm.le (I I':Imm):Prop:=∀ g o v,I g o v → I' g o v
mutual
theorem Den.mono {G G':Gh} {I I':Imm} (hG:G.le G') (hI:Imm.le I I'):∀ (x:AV) (y:Value),Den G I x y → Den G' I' x y
 | .s l,y,h => by simpa [Den] using h
 | .i k n,y,h => by simpa [Den] using h
 | .b x,y,h => by simpa [Den] using h
 | .agg cs,y,h => by
  simp only [Den] at h ⊢
  obtain ⟨ys,h1,h2,h3⟩:=h
  exact ⟨ys,h1,zai.mono hG hI cs ys h2,h3⟩
 | .tup cs,y,h => by
  simp only [Den] at h ⊢
  obtain ⟨ys,h1,h2⟩:=h
  exact ⟨ys,h1,zai.mono hG hI cs ys h2⟩
 | .p b off,y,h => by
  simp only [Den] at h ⊢
  obtain ⟨g,h1,h2⟩:=h
  exact ⟨g,hG.blk _ _ h1,h2⟩
 | .row n xs,y,h => by
  simp only [Den] at h ⊢
  obtain ⟨a,c,ys,h1,h2,h3,h4,h5⟩:=h
  refine ⟨a,c,ys,h1,h2,zai.mono hG hI xs ys h3,h4,fun j u hj => ?_⟩
  obtain ⟨g,off,e,hi⟩:=h5 j u hj
  exact ⟨g,off,e,hI _ _ _ hi⟩
 | .prow xs j,y,h => by
  simp only [Den] at h ⊢
  obtain ⟨g,off,ys,h1,h3,h4,h5⟩:=h
  exact ⟨g,off,ys,h1,zai.mono hG hI xs ys h3,h4,fun j u hj => hI _ _ _ (h5 j u hj)⟩
 | .crow n xs,y,h => by
  simp only [Den] at h ⊢
  obtain ⟨a,ys,h1,h2,h3,h4,h5⟩:=h
  refine ⟨a,ys,h1,h2,zai.mono hG hI xs ys h3,h4,fun j u hj => ?_⟩
  obtain ⟨g,off,e,hi⟩:=h5 j u hj
  exact ⟨g,off,e,hI _ _ _ hi⟩
 | .orow b gen,y,h => by
  simp only [Den] at h ⊢
  obtain ⟨g',v,h1,h2,h3,h0⟩:=h
  obtain ⟨n',v',e,h4⟩:=hG.cur _ _ _ h1
  refine ⟨n',v',e,?_,?_,h0⟩
  ·rcases h4 with ⟨rfl,_⟩ | h4 <;> omega
  ·rcases h4 with ⟨rfl,rfl⟩ | h4
   ·exact h3
   ·intro e; omega
 | .porow b gen j,y,h => by
  simp only [Den] at h ⊢
  obtain ⟨g',v,g,h1,h2,h0,h3⟩:=h
  obtain ⟨n',v',e,h4⟩:=hG.cur _ _ _ h1
  refine ⟨n',v',g,e,?_,h0,?_⟩
  ·rcases h4 with ⟨rfl,_⟩ | h4 <;> omega
  ·rcases h4 with ⟨rfl,rfl⟩ | h4
   ·exact h3
   ·intro e; omega
 | .bsl b off n,y,h => by
  simp only [Den] at h ⊢
  obtain ⟨g,c,h1,h2⟩:=h
  exact ⟨g,c,hG.blk _ _ h1,h2⟩
 | .m b,y,h => by
  simp only [Den] at h ⊢
  obtain ⟨g,h1,h2⟩:=h
  exact ⟨g,hG.blk _ _ h1,h2⟩
 | .zn b,y,h => by simpa [Den] using h
 | .nil,y,h => by simpa [Den] using h
 | .fn f fs cs,y,h => by
  simp only [Den] at h ⊢
  obtain ⟨us,ys,h1,h2,h3⟩:=h
  exact ⟨us,ys,h1,zai.mono hG hI fs us h2,zai.mono hG hI cs ys h3⟩
 | .o v,y,h => by simpa [Den] using h
 | .u,y,h => by simp [Den]
theorem zai.mono {G G':Gh} {I I':Imm} (hG:G.le G') (hI:Imm.le I I'):∀ (xs:List AV) (ys:List Value),zai G I xs ys → zai G' I' xs ys
 | [],ys,h => by simpa [zai] using h
 | x :: xs,ys,h => by
  simp only [zai] at h ⊢
  obtain ⟨y,ys',h1,h2,h3⟩:=h
  exact ⟨y,ys',h1,Den.mono hG hI x y h2,zai.mono hG hI xs ys' h3⟩
end
theorem zai.length {G:Gh} {I:Imm}:∀ {xs:List AV} {ys:List Value},zai G I xs ys → xs.length=ys.length
 | [],ys,h => by simp only [zai] at h; subst h; rfl
 | x :: xs,ys,h => by
  simp only [zai] at h
  obtain ⟨y,ys',rfl,_,h3⟩:=h
  simp [zai.length h3]
theorem zai.get {G:Gh} {I:Imm}:∀ {xs:List AV} {ys:List Value} (j:Nat) {x:AV},zai G I xs ys → xs[j]? = some x → ∃ y,ys[j]? = some y ∧ Den G I x y
 | [],ys,j,x,h,hx => by simp at hx
 | z :: xs,ys,j,x,h,hx => by
  simp only [zai] at h
  obtain ⟨y,ys',rfl,h2,h3⟩:=h
  cases j with
  | zero => simp at hx; subst hx; exact ⟨y,rfl,h2⟩
  | succ j => simpa using zai.get j h3 (by simpa using hx)
theorem zai.set {G:Gh} {I:Imm}:∀ {xs:List AV} {ys:List Value} (j:Nat) {x:AV} {y:Value},zai G I xs ys → Den G I x y → zai G I (xs.set j x) (ys.set j y)
 | [],ys,j,x,y,h,hx => by simp only [zai] at h; subst h; simp [zai]
 | z :: xs,ys,j,x,y,h,hx => by
  simp only [zai] at h
  obtain ⟨y',ys',rfl,h2,h3⟩:=h
  cases j with
  | zero => simp only [List.set_cons_zero,zai]; exact ⟨_,_,rfl,hx,h3⟩
  | succ j => simp only [List.set_cons_succ,zai]; exact ⟨_,_,rfl,h2,zai.set j h3 hx⟩
theorem zai.append {G:Gh} {I:Imm}:∀ {xs:List AV} {ys:List Value} {xs':List AV} {ys':List Value},zai G I xs ys → zai G I xs' ys' → zai G I (xs ++ xs') (ys ++ ys')
 | [],ys,xs',ys',h,h' => by simp only [zai] at h; subst h; simpa using h'
 | z :: xs,ys,xs',ys',h,h' => by
  simp only [zai] at h
  obtain ⟨y,ys1,rfl,h2,h3⟩:=h
  simp only [List.cons_append,zai]
  exact ⟨_,_,rfl,h2,zai.append h3 h'⟩
theorem zai.drop {G:Gh} {I:Imm}:∀ {xs:List AV} {ys:List Value} (k:Nat),zai G I xs ys → zai G I (xs.drop k) (ys.drop k)
 | xs,ys,0,h => by simpa using h
 | [],ys,k + 1,h => by simp only [zai] at h; subst h; simp [zai]
 | z :: xs,ys,k + 1,h => by
  simp only [zai] at h
  obtain ⟨y,ys1,rfl,h2,h3⟩:=h
  simpa using zai.drop k h3
theorem zai.take {G:Gh} {I:Imm}:∀ {xs:List AV} {ys:List Value} (k:Nat),zai G I xs ys → zai G I (xs.take k) (ys.take k)
 | xs,ys,0,h => by simp [zai]
 | [],ys,k + 1,h => by simp only [zai] at h; subst h; simp [zai]
 | z :: xs,ys,k + 1,h => by
  simp only [zai] at h
  obtain ⟨y,ys1,rfl,h2,h3⟩:=h
  simp only [List.take_succ_cons,zai]
  exact ⟨_,_,rfl,h2,zai.take k h3⟩
theorem zai.cons {G:Gh} {I:Imm} {x:AV} {xs:List AV} {y:Value} {ys:List Value} (h:Den G I x y) (h':zai G I xs ys):zai G I (x :: xs) (y :: ys):=by
 simp only [zai]; exact ⟨_,_,rfl,h,h'⟩
theorem zai.nil {G:Gh} {I:Imm}:zai G I [] []:=by simp [zai]
structure Cx where
 w:World
 own:Nat → Prop
 I:Imm
 gh:Gh
structure In (C:Cx) (G:Gh) (I:Imm) (w:World):Prop where
 os:w.os=C.w.os
 tape:w.tape=C.w.tape
 output:w.output=C.w.output
 size:C.w.heap.size ≤ w.heap.size
 block:∀ k,k < C.w.heap.size → ¬ C.own k → w.heap[k]? = C.w.heap[k]?
 imm:Imm.le C.I I
 news:∀ g o v,I g o v → C.I g o v ∨ C.own g ∨ C.w.heap.size ≤ g
 blk:∀ b g,G.own b=some g → C.own g ∨ C.w.heap.size ≤ g
 gh:C.gh.le G
def Ents (G:Gh) (I:Imm) (es:List (List UInt8 × AV)) (en:List MapEntry):Prop :=
 en.map (·.key)=es.map (fun e => Value.string ⟨e.1.toArray⟩) ∧ zai G I (es.map (·.2)) (en.map (·.val)) ∧ ∀ u ∈ en.map (·.val),u.oneCell'=true
theorem Ents.mono {G G':Gh} {I I':Imm} (hG:G.le G') (hI:Imm.le I I') {es:List (List UInt8 × AV)} {en:List MapEntry} (h:Ents G I es en):Ents G' I' es en :=
 ⟨h.1,zai.mono hG hI _ _ h.2.1,h.2.2⟩
structure MemOk (G:Gh) (I:Imm) (objs:List OB) (w:World):Prop where
 imm:∀ g o v,I g o v → w.cell? ⟨g,o,none⟩=some v
 box:∀ (b:Nat) T cs,objs[b]? = some (.box T cs) → ∃ g ys,G.blk b=some g ∧ w.heap[g]? = some (.cells ys.toArray T (0,0)) ∧ zai G I cs ys ∧ ∀ u ∈ ys,u.oneCell'=true
 row:∀ (b:Nat) E sz gen n xs,objs[b]? = some (.orow E sz gen n xs) → ∃ v ys,G.cur b=some (gen,v) ∧ w.ownsRow 0 E sz v n ys ∧ zai G I xs ys ∧ (∀ u ∈ ys,u.oneCell'=true) ∧ G.blk b=none
 map:∀ (b:Nat) es,objs[b]? = some (.mp es) → ∃ g en ck,G.blk b=some g ∧ w.heap[g]? = some (.map en ck) ∧ Ents G I es en.toList
 inj:∀ b b' g,G.own b=some g → G.own b'=some g → b=b'
 lt:∀ b g,G.own b=some g → g < w.heap.size
 apart:∀ b g o v,G.own b=some g → ¬ I g o v
 fresh:∀ b,objs.length ≤ b → G.blk b=none ∧ G.cur b=none
def Rel (C:Cx) (objs:List OB) (tm:List AV) (a:Act) (w:World):Prop :=
 ∃ G I,In C G I w ∧ MemOk G I objs w ∧ zai G I tm a.tmps.toList ∧ a.defers=[]
abbrev zaG:=Exit → List OB → List AV → Prop
def zee (C:Cx) (K:zaG) (e:Exit) (a:Act) (w:World):Prop:=∃ objs tm,K e objs tm ∧ Rel C objs tm a w
def WP (P:Program) (C:Cx) (c:Code) (K:zaG) (objs:List OB) (tm:List AV):Prop :=
 ∀ a w,Rel C objs tm a w → c.wp P (zee C K) a w
theorem zjM {P:Program} {Q:Exit → Act → World → Prop} {c:Code} (I:Nat → Act → World → Prop)
  (round:∀ n a w,I n a w → c.wp P (Exit.then (fun a' w' => ∃ m,m < n ∧ I m a' w') Q) a w):∀ n a w,I n a w → (Code.loop c).wp P Q a w:=by
 intro n a w h₀ b k cs
 have key:∀ n a w,I n a w → ∃ e a' w',Q e a' w' ∧ Arrives P (lone (b.at a (.code c :: .inLoop c :: k)) cs w) b k cs e a' w':=by
  intro n
  induction n using Nat.strongRecOn with
  | _ n ih =>
   intro a w hI
   obtain ⟨e,a₁,w₁,hq,harr⟩:=round n a w hI b (.inLoop c :: k) cs
   cases e with
   | normal =>
    obtain ⟨m,hlt,hI₁⟩:=hq
    obtain ⟨e₂,a₂,w₂,hq₂,harr₂⟩:=ih m hlt a₁ w₁ hI₁
    exact ⟨e₂,a₂,w₂,hq₂,.of_steps (Steps.trans harr (.one step_inLoop)) harr₂⟩
   | exit id => exact ⟨_,a₁,w₁,hq,.pass (x:=.inLoop c) rfl (fun _ _ => .inl (by simp)) harr⟩
   | goto l => exact ⟨_,a₁,w₁,hq,.pass (x:=.inLoop c) rfl (fun _ _ => .inl (by simp)) harr⟩
   | ret => exact ⟨_,a₁,w₁,hq,.pass (x:=.inLoop c) rfl (fun _ _ => .inl (by simp)) harr⟩
   | panic ch => exact ⟨_,a₁,w₁,hq,.pass (x:=.inLoop c) rfl (fun _ _ => .inl (by simp)) harr⟩
   | outgrown => exact ⟨_,a₁,w₁,hq,.pass (x:=.inLoop c) rfl (fun _ _ => .inl (by simp)) harr⟩
 obtain ⟨e,a',w',hq,harr⟩:=key n a w h₀
 exact ⟨e,a',w',hq,.of_steps (.one step_loop) harr⟩
section
variable {P:Program} {C:Cx} {K:zaG} {objs:List OB} {tm:List AV}
theorem WP.mono {c:Code} {K K':zaG} (h:∀ e objs tm,K e objs tm → K' e objs tm) (hh:WP P C c K objs tm):WP P C c K' objs tm :=
 fun a w hr => wp_mono (hh a w hr) fun e a w ⟨o,t,hk,hr⟩ => ⟨o,t,h _ _ _ hk,hr⟩
theorem WP.skip (h:K .normal objs tm):WP P C .skip K objs tm:=fun a w hr => wp_skip ⟨_,_,h,hr⟩
theorem WP.ret (h:K .ret objs tm):WP P C .ret K objs tm:=fun a w hr => wp_ret ⟨_,_,h,hr⟩
theorem WP.exit {id:Nat} (h:K (.exit id) objs tm):WP P C (.exit id) K objs tm:=fun a w hr => wp_exit ⟨_,_,h,hr⟩
def zd5 (N:List OB → List AV → Prop) (K:zaG):zaG
 | .normal,objs,tm => N objs tm
 | e,objs,tm => K e objs tm
theorem WP.seq {x y:Code} (h:WP P C x (zd5 (WP P C y K) K) objs tm):WP P C (.seq x y) K objs tm:=by
 intro a w hr
 refine wp_seq (wp_mono (h a w hr) ?_)
 rintro e a w ⟨o,t,hk,hr⟩
 cases e with
 | normal => exact hk a w hr
 | _ => exact ⟨o,t,hk,hr⟩
def blkK (id:Nat) (K:zaG):zaG
 | .exit id',objs,tm => if id'=id then K .normal objs tm else K (.exit id') objs tm
 | e,objs,tm => K e objs tm
theorem WP.block {id:Nat} {c:Code} (h:WP P C c (blkK id K) objs tm):WP P C (.block id c) K objs tm:=by
 intro a w hr
 refine wp_block (wp_mono (h a w hr) ?_)
 rintro e a w ⟨o,t,hk,hr⟩
 cases e with
 | exit id' =>
  simp only [Exit.inBlock,blkK] at hk ⊢
  split at hk
  ·rename_i hid; rw [if_pos hid]; exact ⟨o,t,hk,hr⟩
  ·rename_i hid; rw [if_neg hid]; exact ⟨o,t,hk,hr⟩
 | _ => exact ⟨o,t,hk,hr⟩
theorem WP.loop {c:Code} (J:Nat → List OB → List AV → Prop) (n:Nat) (h0:J n objs tm)
  (round:∀ n objs tm,J n objs tm → WP P C c (zd5 (fun o t => ∃ m,m < n ∧ J m o t) K) objs tm):WP P C (.loop c) K objs tm:=by
 intro a w hr
 refine zjM (fun n a w => ∃ o t,J n o t ∧ Rel C o t a w) ?_ n a w ⟨objs,tm,h0,hr⟩
 rintro n a w ⟨o,t,hj,hr⟩
 refine wp_mono (round n o t hj a w hr) ?_
 rintro e a w ⟨o,t,hk,hr⟩
 cases e with
 | normal =>
  obtain ⟨m,hm,hj⟩:=hk
  exact ⟨m,hm,o,t,hj,hr⟩
 | _ => exact ⟨o,t,hk,hr⟩
def zmv:Value → AV
 | .string s => .s s.data.toList
 | .int k n => .i k n
 | .bool x => .b x
 | .slice none 0 0 => .nil
 | v => .o v
def zi0:Value → AV
 | .agg vs => if vs.toList.all (·.oneCell')=true then .agg (vs.toList.map zmv) else .o (.agg vs)
 | v => zmv v
theorem zgP (G:Gh) (I:Imm) (v:Value):Den G I (zmv v) v:=by
 unfold zmv
 split
 ·simp [Den]
 ·simp [Den]
 ·simp [Den]
 ·simp [Den]
 ·simp [Den]
theorem zfd (G:Gh) (I:Imm):∀ l:List Value,zai G I (l.map zmv) l
 | [] => by simp [zai]
 | v :: l => by
  rw [List.map_cons]
  simp only [zai]
  exact ⟨v,l,rfl,zgP G I v,zfd G I l⟩
theorem zek (G:Gh) (I:Imm) (v:Value):Den G I (zi0 v) v:=by
 unfold zi0
 split
 ·rename_i vs
  split
  ·rename_i h
   simp only [Den]
   exact ⟨vs.toList,by simp,zfd G I _,fun u hu => List.all_eq_true.1 h u hu⟩
  ·simp [Den]
 ·exact zgP G I _
inductive SV where
 | t (n:Nat)
 | c (v:AV)
def zam:Operand → SV
 | .tmp t => .t t
 | .const v => .c (zi0 v)
 | .global g => .c (.o (.pointer (some ⟨g,0,none⟩)))
 | .func f => .c (.fn f [] [])
def SV.ev (tm:List AV):SV → AV
 | .t n => (tm[n]?).getD .u
 | .c v => v
theorem zae {G:Gh} {I:Imm} {a:Act} (h:zai G I tm a.tmps.toList) (x:Operand):Den G I ((zam x).ev tm) (a.eval x):=by
 cases x with
 | tmp t =>
  simp only [zam,SV.ev,Act.eval]
  cases ht:tm[t]? with
  | none => simp [Den]
  | some v =>
   obtain ⟨y,h1,h2⟩:=zai.get t h ht
   simp only [Option.getD_some,Array.getD_eq_getD_getElem?]
   rw [Array.getElem?_toList] at h1
   rw [h1]; exact h2
 | const v => exact zek _ _ _
 | global g => simp [zam,SV.ev,Act.eval,Den]
 | func f => simp only [zam,SV.ev,Act.eval,Den]; exact ⟨[],[],rfl,by simp [zai],by simp [zai]⟩
theorem WP.cond {c:Operand} {x y:Code} {t:Bool} (hc:(zam c).ev tm=.b t) (ht:t=true → WP P C x K objs tm) (hf:t=false → WP P C y K objs tm):WP P C (.cond c x y) K objs tm:=by
 intro a w hr
 have hr':=hr
 obtain ⟨G,I,_,_,hd,_⟩:=hr'
 have h1:=zae hd c
 rw [hc] at h1
 simp only [Den] at h1
 exact wp_cond_split h1 (fun h => ht h a w hr) (fun h => hf h a w hr)
end
def AV.one:AV → Bool
 | .agg _ | .tup _ | .u => false
 | .o v => v.oneCell'
 | _ => true
def AV.cells:AV → List AV
 | .agg cs => cs
 | v => [v]
def AV.flat:AV → Bool
 | .agg _ => true
 | v => v.one
theorem zmg {G:Gh} {I:Imm} {x:AV} {y:Value} (h:Den G I x y) (h1:x.one=true):y.oneCell'=true:=by
 cases x with
 | s l => simp only [Den] at h; subst h; rfl
 | i k n => simp only [Den] at h; subst h; rfl
 | b x => simp only [Den] at h; subst h; rfl
 | agg cs => simp [AV.one] at h1
 | tup cs => simp [AV.one] at h1
 | p b off => simp only [Den] at h; obtain ⟨_,_,rfl⟩:=h; rfl
 | row n xs => simp only [Den] at h; obtain ⟨_,_,_,rfl,_⟩:=h; rfl
 | prow xs j => simp only [Den] at h; obtain ⟨_,_,_,rfl,_⟩:=h; rfl
 | crow n xs => simp only [Den] at h; obtain ⟨_,_,rfl,_⟩:=h; rfl
 | orow b gen => simp only [Den] at h; obtain ⟨_,_,_,_,_,h⟩:=h; exact h
 | porow b gen j => simp only [Den] at h; obtain ⟨_,_,_,_,_,rfl,_⟩:=h; rfl
 | bsl b off n => simp only [Den] at h; obtain ⟨_,_,_,rfl,_⟩:=h; rfl
 | m b => simp only [Den] at h; obtain ⟨_,_,rfl⟩:=h; rfl
 | zn b => simp only [Den] at h; obtain ⟨_,_,rfl,_⟩:=h; rfl
 | nil => simp only [Den] at h; subst h; rfl
 | fn f fs cs => simp only [Den] at h; obtain ⟨_,_,rfl,_⟩:=h; rfl
 | o v => simp only [Den] at h; subst h; exact h1
 | u => simp [AV.one] at h1
theorem zdt {G:Gh} {I:Imm} {x:AV} {y:Value} (h:Den G I x y) (h1:x.flat=true):zai G I x.cells y.cells.toList ∧ ∀ u ∈ y.cells.toList,u.oneCell'=true:=by
 cases x with
 | agg cs =>
  simp only [Den] at h
  obtain ⟨ys,rfl,h2,h3⟩:=h
  exact ⟨h2,h3⟩
 | _ =>
  have ho:=zmg h h1
  have hc:y.cells=#[y]:=by cases y <;> first | rfl | (simp [Value.oneCell'] at ho)
  rw [hc]
  exact ⟨zai.cons h zai.nil,by simpa using ho⟩
def zaW (P:Program) (C:Cx) (o:Op) (type:TypeId) (objs:List OB) (tm:List AV) (K:List OB → AV → Prop):Prop :=
 ∀ G I a w,In C G I w → MemOk G I objs w → zai G I tm a.tmps.toList → ∀ (op:Oper) (next:Act → World → Prop) (Q:Exit → Act → World → Prop),op.op=o → op.type=type →
  (∀ objs' v y G' I' w',K objs' v → G.le G' → Imm.le I I' → In C G' I' w' → MemOk G' I' objs' w' → Den G' I' v y → next (a.put op.dst y) w') → op.wp P a w next Q
theorem Imm.le.refl (I:Imm):Imm.le I I:=fun _ _ _ h => h
theorem zaT {P:Program} {op:Oper} {a:Act} {w w':World} {next:Act → World → Prop} {Q:Exit → Act → World → Prop} {y:Value}
  (h:(execOp a.eval op).run P w=.ok (.value y) w') (hn:next (a.put op.dst y) w'):op.wp P a w next Q:=by
 unfold Oper.wp; rw [h]; exact hn
theorem zfk {P:Program} {op:Oper} {a:Act} {w w':World} {next:Act → World → Prop} {Q:Exit → Act → World → Prop}
  (h:(execOp a.eval op).run P w=.ok .skip w') (hn:next (a.put op.dst undef) w'):op.wp P a w next Q:=by
 unfold Oper.wp; rw [h]; exact hn
theorem zag {P:Program} {C:Cx} {o:Op} {type:TypeId} {objs:List OB} {tm:List AV} {K:List OB → AV → Prop} (v:AV) (hk:K objs v)
  (h:∀ (G:Gh) (I:Imm) (a:Act) (w:World),MemOk G I objs w → zai G I tm a.tmps.toList → ∀ op:Oper,op.op=o → op.type=type → ∃ y,(execOp a.eval op).run P w=.ok (.value y) w ∧ Den G I v y):zaW P C o type objs tm K:=by
 intro G I a w hin hm hd op next Q ho ht hn
 obtain ⟨y,hr,hy⟩:=h G I a w hm hd op ho ht
 exact zaT hr (hn objs v y G I w hk (Gh.le.refl G) (Imm.le.refl I) hin hm hy)
def Gh.box (G:Gh) (b g:Nat):Gh:=⟨fun x => if x=b then some g else G.blk x,G.cur⟩
def Gh.row (G:Gh) (b n:Nat) (v:Value):Gh:=⟨G.blk,fun x => if x=b then some (n,v) else G.cur x⟩
theorem Gh.box_own (G:Gh) (b g x:Nat):(G.box b g).own x=if x=b then some g else G.own x:=by
 by_cases h:x=b
 ·simp [Gh.own,Gh.box,h]
 ·simp only [Gh.own,Gh.box,h,if_false]
theorem Gh.row_own (G:Gh) (b n:Nat) (v:Value) (hb:G.blk b=none) (x:Nat):(G.row b n v).own x=if x=b then v.ownBlock else G.own x:=by
 by_cases h:x=b
 ·subst h; simp [Gh.own,Gh.row,hb]
 ·simp only [Gh.own,Gh.row,h,if_false]
theorem In.alloc {C:Cx} {G:Gh} {I:Imm} {w:World} (h:In C G I w) (o:Obj):In C G I (w.alloc o) :=
 ⟨h.os,h.tape,h.output,by simp; have:=h.size; omega,fun k hk hn => (Below.heap_alloc w o k (Nat.lt_of_lt_of_le hk h.size)).trans (h.block k hk hn),h.imm,h.news,h.blk,h.gh⟩
theorem MemOk.alloc {G:Gh} {I:Imm} {objs:List OB} {w:World} (h:MemOk G I objs w) (o:Obj):MemOk G I objs (w.alloc o):=by
 refine ⟨fun g o' v hi => ?_,fun b T cs hb => ?_,fun b E sz gen n xs hb => ?_,fun b es hb => ?_,h.inj,fun b g hb => by simp; have:=h.lt b g hb; omega,h.apart,h.fresh⟩
 ·have h1:=h.imm g o' v hi
  rw [World.cell?_alloc_lt (h:=World.block_lt_of_cell? (h:=h1))]; exact h1
 ·obtain ⟨g,ys,h1,h2,h3,h4⟩:=h.box b T cs hb
  exact ⟨g,ys,h1,(Below.heap_alloc w o g (h.lt b g (zau h1))).trans h2,h3,h4⟩
 ·obtain ⟨v,ys,h1,h2,h3⟩:=h.row b E sz gen n xs hb
  exact ⟨v,ys,h1,World.ownsRow.alloc h2 o,h3⟩
 ·obtain ⟨g,en,ck,h1,h2,h3⟩:=h.map b es hb
  exact ⟨g,en,ck,h1,(Below.heap_alloc w o g (h.lt b g (zau h1))).trans h2,h3⟩
theorem In.ghost {C:Cx} {G G':Gh} {I:Imm} {w:World} (h:In C G I w) (hle:G.le G') (hb:∀ b g,G'.own b=some g → C.own g ∨ C.w.heap.size ≤ g):In C G' I w :=
 ⟨h.os,h.tape,h.output,h.size,h.block,h.imm,h.news,hb,h.gh.trans hle⟩
theorem Gh.box_le {G:Gh} {b g:Nat} (h:G.blk b=none):G.le (G.box b g):=by
 refine ⟨fun x y hx => ?_,fun x n v hx => ⟨n,v,hx,.inl ⟨rfl,rfl⟩⟩⟩
 show (if x=b then _ else _)=_
 rw [if_neg (by rintro rfl; rw [h] at hx; cases hx)]; exact hx
theorem Gh.row_le {G:Gh} {b n:Nat} {v:Value} (h:∀ m u,G.cur b=some (m,u) → m < n):G.le (G.row b n v):=by
 refine ⟨fun x y hx => hx,fun x m u hx => ?_⟩
 by_cases e:x=b
 ·subst e
  exact ⟨n,v,by simp [Gh.row],.inr (h m u hx)⟩
 ·exact ⟨m,u,by show (if x=b then _ else _)=_; rw [if_neg e]; exact hx,.inl ⟨rfl,rfl⟩⟩
theorem newbox {C:Cx} {G:Gh} {I:Imm} {objs:List OB} {w:World} (hin:In C G I w) (h:MemOk G I objs w) (T:TypeId) (cs:List AV) (ys:Array Value) (hd:zai G I cs ys.toList) (h1:∀ u ∈ ys.toList,u.oneCell'=true) :
  ∃ G',G.le G' ∧ In C G' I (w.alloc (.cells ys T)) ∧ MemOk G' I (objs ++ [.box T cs]) (w.alloc (.cells ys T)) ∧ Den G' I (.p objs.length 0) (.pointer (some ⟨w.heap.size,0,none⟩)):=by
 have hf:=h.fresh objs.length (Nat.le_refl _)
 have hle:G.le (G.box objs.length w.heap.size):=Gh.box_le hf.1
 have ha:=h.alloc (.cells ys T)
 have hbl:∀ x y,(G.box objs.length w.heap.size).own x=some y → (x=objs.length ∧ y=w.heap.size) ∨ (x ≠ objs.length ∧ G.own x=some y):=by
  intro x y hx
  rw [Gh.box_own] at hx
  split at hx
  ·rename_i e; injection hx with hx; exact .inl ⟨e,hx.symm⟩
  ·rename_i e; exact .inr ⟨e,hx⟩
 refine ⟨_,hle,(hin.alloc _).ghost hle ?_,⟨ha.imm,?_,?_,?_,?_,?_,?_,?_⟩,?_⟩
 ·intro b g hb
  rcases hbl b g hb with ⟨rfl,rfl⟩ | ⟨_,hb⟩
  ·exact .inr hin.size
  ·exact hin.blk b g hb
 ·intro b T' cs' hb
  rcases Nat.lt_or_ge b objs.length with hlt | hge
  ·rw [List.getElem?_append_left hlt] at hb
   obtain ⟨g,zs,k1,k2,k3,k4⟩:=ha.box b T' cs' hb
   exact ⟨g,zs,hle.blk b g k1,k2,zai.mono hle (Imm.le.refl I) _ _ k3,k4⟩
  ·rw [List.getElem?_append_right hge] at hb
   have hb0:b=objs.length:=by
    rcases Nat.eq_zero_or_pos (b - objs.length) with h0 | h0
    ·omega
    ·rw [List.getElem?_eq_none (by simp; omega)] at hb; cases hb
   subst hb0
   simp at hb
   obtain ⟨rfl,rfl⟩:=hb
   exact ⟨w.heap.size,ys.toList,by simp [Gh.box],by simpa using heap_alloc_new w (.cells ys T),zai.mono hle (Imm.le.refl I) _ _ hd,h1⟩
 ·intro b E sz gen n xs hb
  rcases Nat.lt_or_ge b objs.length with hlt | hge
  ·rw [List.getElem?_append_left hlt] at hb
   obtain ⟨v,zs,k1,k2,k3,k4,k5⟩:=ha.row b E sz gen n xs hb
   refine ⟨v,zs,k1,k2,zai.mono hle (Imm.le.refl I) _ _ k3,k4,?_⟩
   show (if b=objs.length then _ else _)=_; rw [if_neg (by omega)]; exact k5
  ·rw [List.getElem?_append_right hge] at hb
   rcases Nat.eq_zero_or_pos (b - objs.length) with h0 | h0
   ·rw [h0] at hb; simp at hb
   ·rw [List.getElem?_eq_none (by simp; omega)] at hb; cases hb
 ·intro b es hb
  rcases Nat.lt_or_ge b objs.length with hlt | hge
  ·rw [List.getElem?_append_left hlt] at hb
   obtain ⟨g,en,ck,k1,k2,k3⟩:=ha.map b es hb
   exact ⟨g,en,ck,hle.blk b g k1,k2,k3.mono hle (Imm.le.refl I)⟩
  ·rw [List.getElem?_append_right hge] at hb
   rcases Nat.eq_zero_or_pos (b - objs.length) with h0 | h0
   ·rw [h0] at hb; simp at hb
   ·rw [List.getElem?_eq_none (by simp; omega)] at hb; cases hb
 ·intro b b' g hb hb'
  rcases hbl b g hb with ⟨rfl,rfl⟩ | ⟨_,hb⟩ <;> rcases hbl b' _ hb' with ⟨rfl,e⟩ | ⟨_,hb'⟩
  ·rfl
  ·have:=h.lt b' _ hb'; omega
  ·have:=h.lt b _ hb; omega
  ·exact h.inj b b' g hb hb'
 ·intro b g hb
  rcases hbl b g hb with ⟨rfl,rfl⟩ | ⟨_,hb⟩
  ·simp
  ·exact ha.lt b g hb
 ·intro b g o v hb hi
  rcases hbl b g hb with ⟨rfl,rfl⟩ | ⟨_,hb⟩
  ·have:=World.block_lt_of_cell? (h:=h.imm _ _ _ hi)
   simp at this
  ·exact h.apart b g o v hb hi
 ·intro b hb
  simp at hb
  have:=h.fresh b (by omega)
  refine ⟨?_,this.2⟩
  show (if b=objs.length then _ else _)=_
  rw [if_neg (by omega)]; exact this.1
 ·simp only [Den]; exact ⟨w.heap.size,by simp [Gh.box],rfl⟩
theorem newimm {C:Cx} {G:Gh} {I:Imm} {objs:List OB} {w:World} (hin:In C G I w) (h:MemOk G I objs w) (E:TypeId) (xs:List AV) (ys:Array Value) (n:Nat) (hd:zai G I xs ys.toList) (h1:∀ u ∈ ys.toList,u.oneCell'=true) :
  ∃ I',Imm.le I I' ∧ In C G I' (w.alloc (.cells ys E)) ∧ MemOk G I' objs (w.alloc (.cells ys E)) ∧ Den G I' (.row n xs) (.slice (some ⟨w.heap.size,0,none⟩) n n):=by
 have ha:=h.alloc (.cells ys E)
 have hia:=hin.alloc (.cells ys E)
 let I':Imm:=fun g o v => I g o v ∨ (g=w.heap.size ∧ ys.toList[o]? = some v)
 have hle:Imm.le I I':=fun _ _ _ hi => .inl hi
 refine ⟨I',hle,⟨hia.os,hia.tape,hia.output,hia.size,hia.block,fun g o v hi => .inl (hin.imm g o v hi),?_,hia.blk,hia.gh⟩,⟨?_,?_,?_,?_,ha.inj,ha.lt,?_,ha.fresh⟩,?_⟩
 ·rintro g o v (hi | ⟨rfl,_⟩)
  ·exact hin.news g o v hi
  ·exact .inr (.inr hin.size)
 ·rintro g o v (hi | ⟨rfl,hy⟩)
  ·exact ha.imm g o v hi
  ·rw [World.cell?_alloc_new]; simpa using hy
 ·intro b T cs hb
  obtain ⟨g,zs,k1,k2,k3,k4⟩:=ha.box b T cs hb
  exact ⟨g,zs,k1,k2,zai.mono (Gh.le.refl G) hle _ _ k3,k4⟩
 ·intro b E' sz gen m us hb
  obtain ⟨v,zs,k1,k2,k3,k4,k5⟩:=ha.row b E' sz gen m us hb
  exact ⟨v,zs,k1,k2,zai.mono (Gh.le.refl G) hle _ _ k3,k4,k5⟩
 ·intro b es hb
  obtain ⟨g,en,ck,k1,k2,k3⟩:=ha.map b es hb
  exact ⟨g,en,ck,k1,k2,k3.mono (Gh.le.refl G) hle⟩
 ·rintro b g o v hb (hi | ⟨rfl,_⟩)
  ·exact h.apart b g o v hb hi
  ·have:=h.lt b _ hb; omega
 ·simp only [Den]
  refine ⟨some ⟨w.heap.size,0,none⟩,n,ys.toList,rfl,⟨Nat.le_refl _,by rintro _ ⟨⟩ _; rfl⟩,zai.mono (Gh.le.refl G) hle _ _ hd,h1,fun j u hj => ⟨w.heap.size,0,rfl,.inr ⟨rfl,by simpa using hj⟩⟩⟩
theorem zcx (b:Nat) (T:TypeId):∀ (vs:List Value) (o:Nat) (w:World) (cur:List Value),w.heap[b]? = some (.cells cur.toArray T (0,0)) → o + vs.length ≤ cur.length →
  (w.setCells b o vs).heap[b]? = some (.cells (cur.take o ++ vs ++ cur.drop (o + vs.length)).toArray T (0,0)) ∧ (∀ k,k ≠ b → (w.setCells b o vs).heap[k]? = w.heap[k]?) ∧ (w.setCells b o vs).heap.size=w.heap.size ∧ (w.setCells b o vs).os=w.os ∧ (w.setCells b o vs).tape=w.tape ∧ (w.setCells b o vs).output=w.output
 | [],o,w,cur,h,hl => by simpa [World.setCells] using h
 | v :: r,o,w,cur,h,hl => by
  have hs:(w.setCell ⟨b,o,none⟩ v).heap[b]? = some (.cells (cur.set o v).toArray T (0,0)):=by
   simp [World.setCell,Array.getElem?_modify,h]
  simp only [List.length_cons] at hl
  obtain ⟨h1,h2,h3,h4,h5,h6⟩:=zcx b T r (o + 1) (w.setCell ⟨b,o,none⟩ v) (cur.set o v) hs (by simp; omega)
  rw [World.setCells]
  refine ⟨?_,fun k hk => ?_,?_,h4,h5,h6⟩
  ·rw [h1]
   congr 3
   have e1:(cur.set o v).take (o + 1)=cur.take o ++ [v]:=by
    rw [List.take_succ_eq_append_getElem (by simp; omega),List.getElem_set_self,List.take_set_of_le (Nat.le_refl _)]
   have e2:(cur.set o v).drop (o + 1 + r.length)=cur.drop (o + (v :: r).length):=by
    rw [List.drop_set_of_lt (by omega),List.length_cons,show o + 1 + r.length=o + (r.length + 1) by omega]
   rw [e1,e2]; simp
  ·rw [h2 k hk]; exact Below.heap_setCell w _ v k hk
  ·rw [h3]; simp [World.setCell]
def zaS {α:Type} (cs:List α) (o:Nat) (vs:List α):List α:=cs.take o ++ vs ++ cs.drop (o + vs.length)
theorem setbox {C:Cx} {G:Gh} {I:Imm} {objs:List OB} {w:World} (hin:In C G I w) (h:MemOk G I objs w) (b g o:Nat) (T:TypeId) (cs vs:List AV) (us:List Value) (hb:objs[b]? = some (.box T cs)) (hg:G.blk b=some g)
  (hd:zai G I vs us) (h1:∀ u ∈ us,u.oneCell'=true) (hl:o + vs.length ≤ cs.length) :
  In C G I (w.setCells g o us) ∧ MemOk G I (objs.set b (.box T (zaS cs o vs))) (w.setCells g o us):=by
 obtain ⟨g',ys,k1,k2,k3,k4⟩:=h.box b T cs hb
 obtain rfl:g=g':=Option.some.inj (hg.symm.trans k1)
 have hl1:=k3.length
 have hl2:=hd.length
 obtain ⟨s1,s2,s3,s4,s5,s6⟩:=zcx g T us o w ys k2 (by omega)
 have hblt:b < objs.length:=by
  rcases Nat.lt_or_ge b objs.length with h0 | h0
  ·exact h0
  ·rw [List.getElem?_eq_none h0] at hb; cases hb
 refine ⟨⟨s4.trans hin.os,s5.trans hin.tape,s6.trans hin.output,by rw [s3]; exact hin.size,fun k hk hn => ?_,hin.imm,hin.news,hin.blk,hin.gh⟩,⟨?_,?_,?_,?_,h.inj,fun b' g' hb' => by rw [s3]; exact h.lt b' g' hb',h.apart,?_⟩⟩
 ·rcases hin.blk b g (zau hg) with ho | ho
  ·rw [s2 k (by rintro rfl; exact hn ho)]; exact hin.block k hk hn
  ·rw [s2 k (by omega)]; exact hin.block k hk hn
 ·intro g' o' v hi
  rw [← h.imm g' o' v hi]
  simp only [World.cell?]
  rw [s2 g' (by rintro rfl; exact h.apart b _ o' v (zau hg) hi)]
 ·intro b' T' cs' hb'
  by_cases e:b'=b
  ·subst e
   rw [List.getElem?_set_self hblt] at hb'
   obtain ⟨rfl,rfl⟩:T=T' ∧ zaS cs o vs=cs':=by simpa using hb'
   refine ⟨g,_,k1,s1,?_,?_⟩
   ·unfold zaS
    rw [hl2]
    exact zai.append (zai.append (zai.take o k3) hd) (zai.drop _ k3)
   ·intro u hu
    rcases List.mem_append.1 hu with hu | hu
    ·rcases List.mem_append.1 hu with hu | hu
     ·exact k4 u (List.mem_of_mem_take hu)
     ·exact h1 u hu
    ·exact k4 u (List.mem_of_mem_drop hu)
  ·rw [List.getElem?_set_ne (fun e' => e e'.symm)] at hb'
   obtain ⟨g2,zs,m1,m2,m3,m4⟩:=h.box b' T' cs' hb'
   exact ⟨g2,zs,m1,(s2 g2 (by rintro rfl; exact e (h.inj _ _ _ (zau m1) (zau hg)))).trans m2,m3,m4⟩
 ·intro b' E sz gen n xs hb'
  by_cases e:b'=b
  ·subst e
   rw [List.getElem?_set_self hblt] at hb'
   simp at hb'
  ·rw [List.getElem?_set_ne (fun e' => e e'.symm)] at hb'
   obtain ⟨v,zs,m1,m2,m3,m4,m5⟩:=h.row b' E sz gen n xs hb'
   refine ⟨v,zs,m1,?_,m3,m4,m5⟩
   obtain ⟨q1,q2⟩:=m2
   refine ⟨q1,?_⟩
   rcases q2 with q2 | ⟨g3,cap,cur,rfl,q3,q4,q5⟩
   ·exact .inl q2
   ·refine .inr ⟨g3,cap,cur,rfl,q3,(s2 g3 ?_).trans q4,q5⟩
    rintro rfl
    refine e (h.inj _ _ _ ?_ (zau hg))
    rw [zbj m5 m1]; rfl
 ·intro b' es hb'
  by_cases e:b'=b
  ·subst e
   rw [List.getElem?_set_self hblt] at hb'
   simp at hb'
  ·rw [List.getElem?_set_ne (fun e' => e e'.symm)] at hb'
   obtain ⟨g2,en,ck,m1,m2,m3⟩:=h.map b' es hb'
   exact ⟨g2,en,ck,m1,(s2 g2 (by rintro rfl; exact e (h.inj _ _ _ (zau m1) (zau hg)))).trans m2,m3⟩
 ·intro b' hb'
  rw [List.length_set] at hb'
  exact h.fresh b' hb'
theorem setrow {C:Cx} {G:Gh} {I:Imm} {objs:List OB} {w:World} (hin:In C G I w) (h:MemOk G I objs w) (b g o:Nat) (E sz gen n cap:Nat) (xs vs:List AV) (us:List Value) (hb:objs[b]? = some (.orow E sz gen n xs)) (hg:G.cur b=some (gen,.slice (some ⟨g,0,none⟩) n cap))
  (hd:zai G I vs us) (h1:∀ u ∈ us,u.oneCell'=true) (hl:o + vs.length ≤ xs.length) :
  In C G I (w.setCells g o us) ∧ MemOk G I (objs.set b (.orow E sz gen n (zaS xs o vs))) (w.setCells g o us):=by
 obtain ⟨v,ys,k1,k2,k3,k4,k5⟩:=h.row b E sz gen n xs hb
 obtain rfl:v=.slice (some ⟨g,0,none⟩) n cap:=by rw [hg] at k1; injection k1 with k1; injection k1 with _ k1; exact k1.symm
 have hown:G.own b=some g:=by rw [zbj k5 hg]; rfl
 have hl1:=k3.length
 have hl2:=hd.length
 obtain ⟨q1,q2⟩:=k2
 rcases q2 with ⟨q2,_⟩ | ⟨g',cap',cur,q2,q3,q4,q5,q6,q7,q8⟩
 ·cases q2
 injection q2 with q2 _ q9; injection q2 with q2; injection q2 with q2; subst q2 q9
 have hcl:n * sz ≤ cur.size:=by rw [q7]; exact Nat.mul_le_mul_right _ q5
 have q4':w.heap[g]? = some (.cells cur.toList.toArray E (0,0)):=by simpa using q4
 have hcl':cur.toList.length=cur.size:=by simp
 obtain ⟨s1,s2,s3,s4,s5,s6⟩:=zcx g E us o w cur.toList q4' (by omega)
 have hblt:b < objs.length:=by
  rcases Nat.lt_or_ge b objs.length with h0 | h0
  ·exact h0
  ·rw [List.getElem?_eq_none h0] at hb; cases hb
 refine ⟨⟨s4.trans hin.os,s5.trans hin.tape,s6.trans hin.output,by rw [s3]; exact hin.size,fun k hk hn => ?_,hin.imm,hin.news,hin.blk,hin.gh⟩,⟨?_,?_,?_,?_,h.inj,fun b' g' hb' => by rw [s3]; exact h.lt b' g' hb',h.apart,?_⟩⟩
 ·rcases hin.blk b g hown with ho | ho
  ·rw [s2 k (by rintro rfl; exact hn ho)]; exact hin.block k hk hn
  ·rw [s2 k (by omega)]; exact hin.block k hk hn
 ·intro g' o' v hi
  rw [← h.imm g' o' v hi]
  simp only [World.cell?]
  rw [s2 g' (by rintro rfl; exact h.apart b _ o' v hown hi)]
 ·intro b' T' cs' hb'
  have e:b' ≠ b:=by
   rintro rfl
   rw [List.getElem?_set_self hblt] at hb'
   simp at hb'
  rw [List.getElem?_set_ne (fun e' => e e'.symm)] at hb'
  obtain ⟨g2,zs,m1,m2,m3,m4⟩:=h.box b' T' cs' hb'
  exact ⟨g2,zs,m1,(s2 g2 (by rintro rfl; exact e (h.inj _ _ _ (zau m1) hown))).trans m2,m3,m4⟩
 ·intro b' E' sz' gen' n' xs' hb'
  by_cases e:b'=b
  ·subst e
   rw [List.getElem?_set_self hblt] at hb'
   simp only [Option.some.injEq,OB.orow.injEq] at hb'
   obtain ⟨rfl,rfl,rfl,rfl,rfl⟩:=hb'
   have hsp:(zaS ys o us).length=ys.length:=by
    unfold zaS
    simp only [List.length_append,List.length_take,List.length_drop]
    omega
   refine ⟨_,zaS ys o us,hg,⟨by rw [hsp]; exact q1,.inr ⟨g,cap,_,rfl,q3,s1,q5,q6,?_,?_⟩⟩,?_,?_,k5⟩
   ·rw [← q7]
    simp only [List.size_toArray,List.length_append,List.length_take,List.length_drop]
    omega
   ·rw [List.toList_toArray]
    unfold zaS
    have e1:cur.toList.take o=ys.take o:=by rw [← q8,List.take_take,Nat.min_eq_left (by omega)]
    have e2:ys.drop (o + us.length)=(cur.toList.drop (o + us.length)).take (n * sz - (o + us.length)):=by rw [← q8,List.drop_take]
    rw [List.take_append,List.length_append,List.length_take,e2,e1]
    rw [List.take_of_length_le (by simp only [List.length_append,List.length_take]; omega)]
    rw [show n * sz - (min o cur.toList.length + us.length)=n * sz - (o + us.length) by omega]
   ·unfold zaS
    rw [hl2]
    exact zai.append (zai.append (zai.take o k3) hd) (zai.drop _ k3)
   ·intro u hu
    unfold zaS at hu
    rcases List.mem_append.1 hu with hu | hu
    ·rcases List.mem_append.1 hu with hu | hu
     ·exact k4 u (List.mem_of_mem_take hu)
     ·exact h1 u hu
    ·exact k4 u (List.mem_of_mem_drop hu)
  ·rw [List.getElem?_set_ne (fun e' => e e'.symm)] at hb'
   obtain ⟨v,zs,m1,m2,m3,m4,m5⟩:=h.row b' E' sz' gen' n' xs' hb'
   refine ⟨v,zs,m1,?_,m3,m4,m5⟩
   obtain ⟨q1',q2'⟩:=m2
   refine ⟨q1',?_⟩
   rcases q2' with q2' | ⟨g3,cap',cur',rfl,q3',q4'',q5'⟩
   ·exact .inl q2'
   ·refine .inr ⟨g3,cap',cur',rfl,q3',(s2 g3 ?_).trans q4'',q5'⟩
    rintro rfl
    refine e (h.inj _ _ _ ?_ hown)
    rw [zbj m5 m1]; rfl
 ·intro b' es hb'
  have e:b' ≠ b:=by
   rintro rfl
   rw [List.getElem?_set_self hblt] at hb'
   simp at hb'
  rw [List.getElem?_set_ne (fun e' => e e'.symm)] at hb'
  obtain ⟨g2,en,ck,m1,m2,m3⟩:=h.map b' es hb'
  exact ⟨g2,en,ck,m1,(s2 g2 (by rintro rfl; exact e (h.inj _ _ _ (zau m1) hown))).trans m2,m3⟩
 ·intro b' hb'
  rw [List.length_set] at hb'
  exact h.fresh b' hb'
theorem newmap {C:Cx} {G:Gh} {I:Imm} {objs:List OB} {w:World} (hin:In C G I w) (h:MemOk G I objs w) :
  ∃ G',G.le G' ∧ In C G' I (w.alloc (.map #[] 0)) ∧ MemOk G' I (objs ++ [.mp []]) (w.alloc (.map #[] 0)) ∧ Den G' I (.m objs.length) (.map (some w.heap.size)):=by
 have hf:=h.fresh objs.length (Nat.le_refl _)
 have hle:G.le (G.box objs.length w.heap.size):=Gh.box_le hf.1
 have ha:=h.alloc (.map #[] 0)
 have hbl:∀ x y,(G.box objs.length w.heap.size).own x=some y → (x=objs.length ∧ y=w.heap.size) ∨ (x ≠ objs.length ∧ G.own x=some y):=by
  intro x y hx
  rw [Gh.box_own] at hx
  split at hx
  ·rename_i e; injection hx with hx; exact .inl ⟨e,hx.symm⟩
  ·rename_i e; exact .inr ⟨e,hx⟩
 have hold:∀ (b:Nat) (ob:OB),(objs ++ [OB.mp []])[b]? = some ob → (b < objs.length ∧ objs[b]? = some ob) ∨ (b=objs.length ∧ ob=.mp []):=by
  intro b ob hb
  rcases Nat.lt_or_ge b objs.length with hlt | hge
  ·rw [List.getElem?_append_left hlt] at hb; exact .inl ⟨hlt,hb⟩
  ·rw [List.getElem?_append_right hge] at hb
   rcases Nat.eq_zero_or_pos (b - objs.length) with h0 | h0
   ·rw [h0] at hb; simp at hb; exact .inr ⟨by omega,hb.symm⟩
   ·rw [List.getElem?_eq_none (by simp; omega)] at hb; cases hb
 refine ⟨_,hle,(hin.alloc _).ghost hle ?_,⟨ha.imm,?_,?_,?_,?_,?_,?_,?_⟩,?_⟩
 ·intro b g hb
  rcases hbl b g hb with ⟨rfl,rfl⟩ | ⟨_,hb⟩
  ·exact .inr hin.size
  ·exact hin.blk b g hb
 ·intro b T' cs' hb
  rcases hold b _ hb with ⟨hlt,hb⟩ | ⟨_,hb⟩
  ·obtain ⟨g,zs,k1,k2,k3,k4⟩:=ha.box b T' cs' hb
   exact ⟨g,zs,hle.blk b g k1,k2,zai.mono hle (Imm.le.refl I) _ _ k3,k4⟩
  ·cases hb
 ·intro b E sz gen n xs hb
  rcases hold b _ hb with ⟨hlt,hb⟩ | ⟨_,hb⟩
  ·obtain ⟨v,zs,k1,k2,k3,k4,k5⟩:=ha.row b E sz gen n xs hb
   refine ⟨v,zs,k1,k2,zai.mono hle (Imm.le.refl I) _ _ k3,k4,?_⟩
   show (if b=objs.length then _ else _)=_; rw [if_neg (by omega)]; exact k5
  ·cases hb
 ·intro b es hb
  rcases hold b _ hb with ⟨hlt,hb⟩ | ⟨rfl,hb⟩
  ·obtain ⟨g,en,ck,k1,k2,k3⟩:=ha.map b es hb
   exact ⟨g,en,ck,hle.blk b g k1,k2,k3.mono hle (Imm.le.refl I)⟩
  ·have hb:es=[]:=by simpa using hb
   subst hb
   exact ⟨w.heap.size,#[],0,by simp [Gh.box],by simpa using heap_alloc_new w (.map #[] 0),by simp [Ents,zai]⟩
 ·intro b b' g hb hb'
  rcases hbl b g hb with ⟨rfl,rfl⟩ | ⟨_,hb⟩ <;> rcases hbl b' _ hb' with ⟨rfl,e⟩ | ⟨_,hb'⟩
  ·rfl
  ·have:=h.lt b' _ hb'; omega
  ·have:=h.lt b _ hb; omega
  ·exact h.inj b b' g hb hb'
 ·intro b g hb
  rcases hbl b g hb with ⟨rfl,rfl⟩ | ⟨_,hb⟩
  ·simp
  ·exact ha.lt b g hb
 ·intro b g o v hb hi
  rcases hbl b g hb with ⟨rfl,rfl⟩ | ⟨_,hb⟩
  ·have:=World.block_lt_of_cell? (h:=h.imm _ _ _ hi)
   simp at this
  ·exact h.apart b g o v hb hi
 ·intro b hb
  simp at hb
  have:=h.fresh b (by omega)
  refine ⟨?_,this.2⟩
  show (if b=objs.length then _ else _)=_
  rw [if_neg (by omega)]; exact this.1
 ·simp only [Den]; exact ⟨w.heap.size,by simp [Gh.box],rfl⟩
section
variable {P:Program} {C:Cx} {type:TypeId} {objs:List OB} {tm:List AV} {K:List OB → AV → Prop}
theorem ok_move (x:Operand) (h:K objs ((zam x).ev tm)):zaW P C (.move x) type objs tm K :=
 zag _ h fun G I a w hm hd op ho ht => ⟨a.eval x,by unfold execOp; rw [ho]; rfl,zae hd x⟩
theorem zk1 (x:Operand) (h:K objs ((zam x).ev tm)):zaW P C (.assign x) type objs tm K :=
 zag _ h fun G I a w hm hd op ho ht => ⟨a.eval x,by unfold execOp; rw [ho]; rfl,zae hd x⟩
theorem ok_pick (c x y:Operand) (t:Bool) (hc:(zam c).ev tm=.b t) (h1:t=true → K objs ((zam x).ev tm)) (h2:t=false → K objs ((zam y).ev tm)):zaW P C (.pick c x y) type objs tm K:=by
 cases t with
 | true =>
  refine zag _ (h1 rfl) fun G I a w hm hd op ho ht => ?_
  have:=zae hd c
  rw [hc] at this; simp only [Den] at this
  exact ⟨a.eval x,by unfold execOp; rw [ho]; simp [this,asBool],zae hd x⟩
 | false =>
  refine zag _ (h2 rfl) fun G I a w hm hd op ho ht => ?_
  have:=zae hd c
  rw [hc] at this; simp only [Den] at this
  exact ⟨a.eval y,by unfold execOp; rw [ho]; simp [this,asBool],zae hd y⟩
theorem zcI (G:Gh) (I:Imm):∀ ys:List Value,zai G I (ys.map zi0) ys
 | [] => zai.nil
 | y :: ys => zai.cons (zek G I y) (zcI G I ys)
theorem ok_alloc (T:TypeId) (i:TypeInfo) (z:Value) (hi:P.info? T=some i) (hz:i.zero=some z) (h1:(z.cells.toList.all (·.oneCell'))=true)
  (h:K (objs ++ [.box T (z.cells.toList.map zi0)]) (.p objs.length 0)):zaW P C (.alloc T) type objs tm K:=by
 intro G I a w hin hm hd op next Q ho ht hn
 obtain ⟨G',k1,k2,k3,k4⟩:=newbox hin hm T (z.cells.toList.map zi0) z.cells (zcI G I _) (fun u hu => (List.all_eq_true.1 h1) u hu)
 refine zaT (w':=w.alloc (.cells z.cells T)) (y:=.pointer (some ⟨w.heap.size,0,none⟩)) ?_ (hn _ _ _ _ _ _ h k1 (Imm.le.refl I) k2 k3 k4)
 unfold execOp; rw [ho]
 simp [Instr.alloc,zeroValue,typeInfo,hi,hz,newVar,newRow]
theorem ok_box (T:TypeId) (x:Operand) (h1:((zam x).ev tm).flat=true) (h:K (objs ++ [.box T ((zam x).ev tm).cells]) (.p objs.length 0)):zaW P C (.box T x) type objs tm K:=by
 intro G I a w hin hm hd op next Q ho ht hn
 obtain ⟨d1,d2⟩:=zdt (zae hd x) h1
 obtain ⟨G',k1,k2,k3,k4⟩:=newbox hin hm T _ (a.eval x).cells d1 d2
 refine zaT (w':=w.alloc (.cells (a.eval x).cells T)) (y:=.pointer (some ⟨w.heap.size,0,none⟩)) ?_ (hn _ _ _ _ _ _ h k1 (Imm.le.refl I) k2 k3 k4)
 unfold execOp; rw [ho]
 simp [Instr.box,newVar,newRow]
theorem zax (g j:Nat) (o:Nat):(⟨g,o,none⟩:Addr).add j=⟨g,o + j,none⟩:=Addr.add_mid g o j
theorem ok_load1 (T:TypeId) (x:Operand) (d:TypeDesc) (hu:P.underlying T=some d) (hr:d.isRow=false) (b off:Nat) (B:TypeId) (cs:List AV) (v:AV) (hx:(zam x).ev tm=.p b off) (hb:objs[b]? = some (.box B cs)) (hc:cs[off]? = some v)
  (h:K objs v):zaW P C (.load T x) type objs tm K :=
 zag _ h fun G I a w hm hd op ho ht => by
  have h1:=zae hd x; rw [hx] at h1; simp only [Den] at h1
  obtain ⟨g,hg,he⟩:=h1
  obtain ⟨g',ys,k1,k2,k3,k4⟩:=hm.box b B cs hb
  obtain rfl:g=g':=Option.some.inj (hg.symm.trans k1)
  obtain ⟨y,hy,hyd⟩:=zai.get off k3 hc
  refine ⟨y,?_,hyd⟩
  have hcell:w.cell? ⟨g,off,none⟩=some y:=by rw [cell_of_row w g off _ B (0,0) k2]; simpa using hy
  unfold execOp; rw [ho]
  have hagg:(isAgg T).run P w=.ok false w:=by
   unfold isAgg
   rw [Sem.run_bind,run_underlying hu w]
   cases d <;> simp_all
  simp [Instr.loadAt,Instr.sureAddr,he,loadVar,hagg,load,Sem.run,hcell]
theorem ok_loadn (T:TypeId) (x:Operand) (d:TypeDesc) (hu:P.underlying T=some d) (hr:d.isRow=true) (sz:Nat) (hs:(P.info? T).map (·.size)=some sz) (b off:Nat) (B:TypeId) (cs:List AV) (hx:(zam x).ev tm=.p b off) (hb:objs[b]? = some (.box B cs)) (hc:off + sz ≤ cs.length)
  (h:K objs (.agg ((cs.drop off).take sz))):zaW P C (.load T x) type objs tm K :=
 zag _ h fun G I a w hm hd op ho ht => by
  have h1:=zae hd x; rw [hx] at h1; simp only [Den] at h1
  obtain ⟨g,hg,he⟩:=h1
  obtain ⟨g',ys,k1,k2,k3,k4⟩:=hm.box b B cs hb
  obtain rfl:g=g':=Option.some.inj (hg.symm.trans k1)
  have hl:=k3.length
  refine ⟨.agg ((ys.drop off).take sz).toArray,?_,?_⟩
  ·unfold execOp; rw [ho]
   have:=run_loadAt_mid (P:=P) w g off T ((ys.drop off).take sz) d ?_ hu hr (by rw [hs]; simp; omega)
   ·simp [he,this]
   ·intro j v hj
    rw [cell_of_row w g (off + j) _ B (0,0) k2]
    rw [List.getElem?_take] at hj
    split at hj
    ·simpa [List.getElem?_drop] using hj
    ·cases hj
  ·simp only [Den]
   exact ⟨_,rfl,zai.take sz (zai.drop off k3),fun u hu => k4 u (List.mem_of_mem_drop (List.mem_of_mem_take hu))⟩
theorem zkX (T:TypeId) (x:Operand) (d:TypeDesc) (hu:P.underlying T=some d) (hr:d.isRow=false) (xs:List AV) (j:Nat) (v:AV) (hx:(zam x).ev tm=.prow xs j) (hc:xs[j]? = some v)
  (h:K objs v):zaW P C (.load T x) type objs tm K :=
 zag _ h fun G I a w hm hd op ho ht => by
  have h1:=zae hd x; rw [hx] at h1; simp only [Den] at h1
  obtain ⟨g,off,ys,he,k3,k4,k5⟩:=h1
  obtain ⟨y,hy,hyd⟩:=zai.get j k3 hc
  refine ⟨y,?_,hyd⟩
  have hcell:=hm.imm _ _ _ (k5 j y hy)
  unfold execOp; rw [ho]
  have hagg:(isAgg T).run P w=.ok false w:=by
   unfold isAgg
   rw [Sem.run_bind,run_underlying hu w]
   cases d <;> simp_all
  simp [Instr.loadAt,Instr.sureAddr,he,loadVar,hagg,load,Sem.run,hcell]
theorem zkV (T:TypeId) (x:Operand) (d:TypeDesc) (hu:P.underlying T=some d) (hr:d.isRow=true) (sz:Nat) (hs:(P.info? T).map (·.size)=some sz) (xs:List AV) (j:Nat) (hx:(zam x).ev tm=.prow xs j) (hc:j + sz ≤ xs.length)
  (h:K objs (.agg ((xs.drop j).take sz))):zaW P C (.load T x) type objs tm K :=
 zag _ h fun G I a w hm hd op ho ht => by
  have h1:=zae hd x; rw [hx] at h1; simp only [Den] at h1
  obtain ⟨g,off,ys,he,k3,k4,k5⟩:=h1
  have hl:=k3.length
  refine ⟨.agg ((ys.drop j).take sz).toArray,?_,?_⟩
  ·unfold execOp; rw [ho]
   have:=run_loadAt_mid (P:=P) w g (off + j) T ((ys.drop j).take sz) d ?_ hu hr (by rw [hs]; simp; omega)
   ·simp [he,this]
   ·intro i v hi
    rw [List.getElem?_take] at hi
    split at hi
    ·rw [List.getElem?_drop] at hi
     rw [Nat.add_assoc]
     exact hm.imm _ _ _ (k5 (j + i) v hi)
    ·cases hi
  ·simp only [Den]
   exact ⟨_,rfl,zai.take sz (zai.drop j k3),fun u hu => k4 u (List.mem_of_mem_drop (List.mem_of_mem_take hu))⟩
theorem ok_store (T:TypeId) (x y:Operand) (sz:Nat) (hs:(P.info? T).map (·.size)=some sz) (b off:Nat) (B:TypeId) (cs:List AV) (hx:(zam x).ev tm=.p b off) (hb:objs[b]? = some (.box B cs)) (hf:((zam y).ev tm).flat=true) (hv:((zam y).ev tm).cells.length=sz) (hc:off + sz ≤ cs.length)
  (h:K (objs.set b (.box B (zaS cs off ((zam y).ev tm).cells))) .u):zaW P C (.store T x y) type objs tm K:=by
 intro G I a w hin hm hd op next Q ho ht hn
 obtain ⟨d1,d2⟩:=zdt (zae hd y) hf
 have h1:=zae hd x; rw [hx] at h1; simp only [Den] at h1
 obtain ⟨g,hg,he⟩:=h1
 obtain ⟨k1,k2⟩:=setbox hin hm b g off B cs _ _ hb hg d1 d2 (by rw [hv]; exact hc)
 obtain ⟨g',ys,m1,m2,m3,m4⟩:=hm.box b B cs hb
 obtain rfl:g=g':=Option.some.inj (hg.symm.trans m1)
 have hl:=d1.length
 have hl2:=m3.length
 have hst:=run_storeCells_cells (P:=P) g off (a.eval y).cells.toList 0 w (fun j hj => by
   rw [cell_of_row w g (off + 0 + j) _ B (0,0) m2]; simp; omega) (fun j hj => by simp [World.frozen?,m2]) d2
 refine zfk (w':=w.setCells g off (a.eval y).cells.toList) ?_ (hn _ .u undef G I _ h (Gh.le.refl G) (Imm.le.refl I) k1 k2 (by simp [Den]))
 unfold execOp; rw [ho]
 cases hi:P.info? T with
 | none => rw [hi] at hs; cases hs
 | some i =>
  rw [hi] at hs
  have hsz:i.size=sz:=by simpa using hs
  have hz:(a.eval y).cells.size=i.size:=by rw [hsz,← hv,hl]; simp
  simp [Instr.storeAt,Instr.sureAddr,he,storeVar,sizeOf,typeInfo,hi,hz]
  simp at hst
  simp [hst]
theorem zfK {G:Gh} {I:Imm} {objs:List OB} {w:World} (hm:MemOk G I objs w) {b gen j E sz n:Nat} {xs:List AV} {y:Value} (hb:objs[b]? = some (.orow E sz gen n xs)) (h:Den G I (.porow b gen j) y) :
  ∃ g cap ys,y=.pointer (some ⟨g,j,none⟩) ∧ G.cur b=some (gen,.slice (some ⟨g,0,none⟩) n cap) ∧ zai G I xs ys ∧ (∀ u ∈ ys,u.oneCell'=true) ∧ (∀ i u,ys[i]? = some u → w.cell? ⟨g,i,none⟩=some u) ∧ ∃ cur,w.heap[g]? = some (.cells cur E (0,0)) ∧ n * sz ≤ cur.size ∧ ys.length=n * sz:=by
 simp only [Den] at h
 obtain ⟨g',v,g,k1,k2,rfl,k3⟩:=h
 obtain ⟨v',ys,m1,m2,m3,m4,m5⟩:=hm.row b E sz gen n xs hb
 rw [k1] at m1; injection m1 with m1; injection m1 with m1 m6
 subst m1 m6
 obtain ⟨n',c,rfl⟩:=k3 rfl
 have m2':=m2
 obtain ⟨q1,q2⟩:=m2
 rcases q2 with ⟨q2,_⟩ | ⟨g',cap',cur,q2,q3,q4,q5,q6,q7,q8⟩
 ·cases q2
 injection q2 with q2 q10 q9; injection q2 with q2; injection q2 with q2; subst q2 q9 q10
 refine ⟨g,c,ys,rfl,k1,m3,m4,fun i u hi => ?_,cur,q4,by rw [q7]; exact Nat.mul_le_mul_right _ q5,q1⟩
 have:=m2'.cells (g:=g) rfl i u hi
 rwa [zax,Nat.zero_add] at this
theorem zkY (T:TypeId) (x:Operand) (d:TypeDesc) (hu:P.underlying T=some d) (hr:d.isRow=false) (b gen j E sz n:Nat) (xs:List AV) (v:AV) (hx:(zam x).ev tm=.porow b gen j) (hb:objs[b]? = some (.orow E sz gen n xs)) (hc:xs[j]? = some v)
  (h:K objs v):zaW P C (.load T x) type objs tm K :=
 zag _ h fun G I a w hm hd op ho ht => by
  have h1:=zae hd x; rw [hx] at h1
  obtain ⟨g,cap,ys,he,k2,k3,k4,k5,_⟩:=zfK hm hb h1
  obtain ⟨y,hy,hyd⟩:=zai.get j k3 hc
  refine ⟨y,?_,hyd⟩
  have hcell:=k5 j y hy
  unfold execOp; rw [ho]
  have hagg:(isAgg T).run P w=.ok false w:=by
   unfold isAgg
   rw [Sem.run_bind,run_underlying hu w]
   cases d <;> simp_all
  simp [Instr.loadAt,Instr.sureAddr,he,loadVar,hagg,load,Sem.run,hcell]
theorem zkW (T:TypeId) (x:Operand) (d:TypeDesc) (hu:P.underlying T=some d) (hr:d.isRow=true) (s:Nat) (hs:(P.info? T).map (·.size)=some s) (b gen j E sz n:Nat) (xs:List AV) (hx:(zam x).ev tm=.porow b gen j) (hb:objs[b]? = some (.orow E sz gen n xs)) (hc:j + s ≤ xs.length)
  (h:K objs (.agg ((xs.drop j).take s))):zaW P C (.load T x) type objs tm K :=
 zag _ h fun G I a w hm hd op ho ht => by
  have h1:=zae hd x; rw [hx] at h1
  obtain ⟨g,cap,ys,he,k2,k3,k4,k5,_⟩:=zfK hm hb h1
  have hl:=k3.length
  refine ⟨.agg ((ys.drop j).take s).toArray,?_,?_⟩
  ·unfold execOp; rw [ho]
   have:=run_loadAt_mid (P:=P) w g j T ((ys.drop j).take s) d ?_ hu hr (by rw [hs]; simp; omega)
   ·simp [he,this]
   ·intro i v hi
    rw [List.getElem?_take] at hi
    split at hi
    ·rw [List.getElem?_drop] at hi
     exact k5 (j + i) v hi
    ·cases hi
  ·simp only [Den]
   exact ⟨_,rfl,zai.take s (zai.drop j k3),fun u hu => k4 u (List.mem_of_mem_drop (List.mem_of_mem_take hu))⟩
theorem zkU (T:TypeId) (x y:Operand) (s:Nat) (hs:(P.info? T).map (·.size)=some s) (b gen j E sz n:Nat) (xs:List AV) (hx:(zam x).ev tm=.porow b gen j) (hb:objs[b]? = some (.orow E sz gen n xs)) (hf:((zam y).ev tm).flat=true) (hv:((zam y).ev tm).cells.length=s) (hc:j + s ≤ xs.length)
  (h:K (objs.set b (.orow E sz gen n (zaS xs j ((zam y).ev tm).cells))) .u):zaW P C (.store T x y) type objs tm K:=by
 intro G I a w hin hm hd op next Q ho ht hn
 obtain ⟨d1,d2⟩:=zdt (zae hd y) hf
 have h1:=zae hd x; rw [hx] at h1
 obtain ⟨g,cap,ys,he,hg,k3,k4,k5,cur,hcur,hcs,hys⟩:=zfK hm hb h1
 obtain ⟨k1,k2⟩:=setrow hin hm b g j E sz gen n cap xs _ _ hb hg d1 d2 (by rw [hv]; exact hc)
 have hl:=d1.length
 have hl2:=k3.length
 have hst:=run_storeCells_cells (P:=P) g j (a.eval y).cells.toList 0 w (fun i hi => by
   have hi':j + i < cur.size:=by omega
   rw [show j + 0 + i=j + i by omega,cell_of_row w g (j + i) cur E (0,0) hcur]; simp [hi']) (fun i hi => by simp [World.frozen?,hcur]) d2
 refine zfk (w':=w.setCells g j (a.eval y).cells.toList) ?_ (hn _ .u undef G I _ h (Gh.le.refl G) (Imm.le.refl I) k1 k2 (by simp [Den]))
 unfold execOp; rw [ho]
 cases hi:P.info? T with
 | none => rw [hi] at hs; cases hs
 | some i =>
  rw [hi] at hs
  have hsz:i.size=s:=by simpa using hs
  have hz:(a.eval y).cells.size=i.size:=by rw [hsz,← hv,hl]; simp
  simp [Instr.storeAt,Instr.sureAddr,he,storeVar,sizeOf,typeInfo,hi,hz]
  simp at hst
  simp [hst]
theorem zh8 (x:Operand) (h:K objs ((zam x).ev tm)) (hx:(∃ b o,(zam x).ev tm=.p b o) ∨ (∃ xs j,(zam x).ev tm=.prow xs j) ∨ (∃ f fs cs,(zam x).ev tm=.fn f fs cs) ∨ (∃ b gen j,(zam x).ev tm=.porow b gen j)):zaW P C (.nilCheck x) type objs tm K :=
 zag _ h fun G I a w hm hd op ho ht => by
  have h1:=zae hd x
  refine ⟨a.eval x,?_,h1⟩
  rcases hx with ⟨b,o,e⟩ | ⟨xs,j,e⟩ | ⟨f,fs,cs,e⟩ | ⟨b,gen,j,e⟩
  ·rw [e] at h1; simp only [Den] at h1
   obtain ⟨g,_,he⟩:=h1
   unfold execOp; rw [ho]; simp [he]
  ·rw [e] at h1; simp only [Den] at h1
   obtain ⟨g,off,ys,he,_⟩:=h1
   unfold execOp; rw [ho]; simp [he]
  ·rw [e] at h1; simp only [Den] at h1
   obtain ⟨us,ys,he,_⟩:=h1
   unfold execOp; rw [ho]; simp [he]
  ·rw [e] at h1; simp only [Den] at h1
   obtain ⟨_,_,g,_,_,he,_⟩:=h1
   unfold execOp; rw [ho]; simp [he]
theorem zhe (f:FuncId) (fs cs:Array Operand) (h:K objs (.fn f (fs.toList.map fun x => (zam x).ev tm) (cs.toList.map fun x => (zam x).ev tm))):zaW P C (.makeFunc (.func f) fs cs) type objs tm K :=
 zag _ h fun G I a w hm hd op ho ht => by
  refine ⟨.func (.func f) (fs.map a.eval) (cs.map a.eval),by unfold execOp; rw [ho]; simp [Instr.makeFunc],?_⟩
  have key:∀ l:List Operand,zai G I (l.map fun x => (zam x).ev tm) (l.map a.eval):=by
   intro l
   induction l with
   | nil => exact zai.nil
   | cons x l ih => exact zai.cons (zae hd x) ih
  simp only [Den]
  exact ⟨(fs.map a.eval).toList,(cs.map a.eval).toList,by rw [Array.toArray_toList,Array.toArray_toList],by simpa using key fs.toList,by simpa using key cs.toList⟩
theorem zjp (x:Operand) (k:Nat) (cs:List AV) (v:AV) (hx:(zam x).ev tm=.tup cs) (hk:cs[k]? = some v) (h:K objs v):zaW P C (.extract x k) type objs tm K :=
 zag _ h fun G I a w hm hd op ho ht => by
  have h1:=zae hd x; rw [hx] at h1; simp only [Den] at h1
  obtain ⟨ys,he,k3⟩:=h1
  obtain ⟨y,hy,hyd⟩:=zai.get k k3 hk
  exact ⟨y,by unfold execOp; rw [ho]; simp [he,Instr.extract,hy],hyd⟩
theorem ok_not (T:TypeId) (x:Operand) (t:Bool) (hx:(zam x).ev tm=.b t) (h:K objs (.b (!t))):zaW P C (.unOp .not T x) type objs tm K :=
 zag _ h fun G I a w hm hd op ho ht => by
  have h1:=zae hd x; rw [hx] at h1; simp only [Den] at h1
  exact ⟨.bool (!t),by unfold execOp; rw [ho]; simp [h1,Op.unary],by simp [Den]⟩
theorem ok_neg (T:TypeId) (x:Operand) (k:IntKind) (n:Int) (hx:(zam x).ev tm=.i k n) (h:K objs (.i k (k.wrap (0 - n)))):zaW P C (.unOp .neg T x) type objs tm K :=
 zag _ h fun G I a w hm hd op ho ht => by
  have h1:=zae hd x; rw [hx] at h1; simp only [Den] at h1
  exact ⟨.int k (k.wrap (0 - n)),by unfold execOp; rw [ho]; simp [h1,Op.unary,Op.intArith],by simp [Den]⟩
theorem ok_cvi (src dst:TypeId) (x:Operand) (k j:IntKind) (n:Int) (hs:(P.underlying src).isSome=true) (hu:P.underlying dst=some (.int k)) (hx:(zam x).ev tm=.i j n) (h:K objs (.i k (k.wrap n))):zaW P C (.convert src dst x) type objs tm K :=
 zag _ h fun G I a w hm hd op ho ht => by
  have h1:=zae hd x; rw [hx] at h1; simp only [Den] at h1
  exact ⟨.int k (k.wrap n),by
   have hk:P.intKind dst=k:=by simp [Program.intKind,hu]
   have hr:=run_convert_int (P:=P) w src dst j n hs (by rw [hk]; exact hu)
   rw [hk] at hr
   unfold execOp; rw [ho]; simp only [h1]; simp [hr],by simp [Den]⟩
theorem ok_cvs (src dst:TypeId) (x:Operand) (l:List UInt8) (hs:P.underlying src=some .string) (hu:P.underlying dst=some .string) (hx:(zam x).ev tm=.s l) (h:K objs (.s l)):zaW P C (.convert src dst x) type objs tm K :=
 zag _ h fun G I a w hm hd op ho ht => by
  have h1:=zae hd x; rw [hx] at h1; simp only [Den] at h1
  exact ⟨.string ⟨l.toArray⟩,by unfold execOp; rw [ho]; simp [h1,convert,run_underlying hs,run_underlying hu],by simp [Den]⟩
end
def cmpZ:BinOp → Int → Int → Option Bool
 | .eql,x,y => some (decide (x=y))
 | .neq,x,y => some (decide (¬ x=y))
 | .lss,x,y => some (decide (x < y))
 | .leq,x,y => some (decide (x ≤ y))
 | .gtr,x,y => some (decide (y < x))
 | .geq,x,y => some (decide (y ≤ x))
 | _,_,_ => none
def arZ:BinOp → Int → Int → Option Int
 | .add,x,y => some (x + y)
 | .sub,x,y => some (x - y)
 | .mul,x,y => some (x * y)
 | _,_,_ => none
theorem beqd {α:Type} [DecidableEq α] (x y:α):(x == y)=decide (x=y):=by by_cases h:x=y <;> simp [h]
def svb (tm:List AV) (d:Int):Option Operand → Option Int
 | none => some d
 | some x => match (zam x).ev tm with
  | .i _ n => some n
  | _ => none
theorem zmC (l:List UInt8) (i j:Nat):(⟨l.toArray⟩:ByteArray).extract i j=⟨((l.take j).drop i).toArray⟩:=by
 have:((⟨l.toArray⟩:ByteArray).extract i j).data=((l.take j).drop i).toArray:=by
  rw [ByteArray.data_extract]
  apply Array.ext'
  simp only [Array.toList_extract,List.extract_eq_take_drop]
  rw [List.drop_take]
 exact congrArg ByteArray.mk this
theorem zf8 (l:List UInt8):(⟨l.toArray⟩:ByteArray).size=l.length:=by simp [ByteArray.size]
section
variable {P:Program} {C:Cx} {type:TypeId} {objs:List OB} {tm:List AV} {K:List OB → AV → Prop}
theorem ze8 (op:BinOp) (T T':TypeId) (x y:Operand) (k:IntKind) (m n:Int) (r:Bool) (hx:(zam x).ev tm=.i k m) (hy:(zam y).ev tm=.i k n) (hr:cmpZ op m n=some r) (h:K objs (.b r)):zaW P C (.binOp op T x y T') type objs tm K :=
 zag _ h fun G I a w hm hd o ho ht => by
  have h1:=zae hd x; rw [hx] at h1; simp only [Den] at h1
  have h2:=zae hd y; rw [hy] at h2; simp only [Den] at h2
  refine ⟨.bool r,?_,by simp [Den]⟩
  unfold execOp; rw [ho]
  cases op <;> simp only [cmpZ,Option.some.injEq,reduceCtorEq] at hr <;> subst hr <;> simp [h1,h2,eqGuard,binOp,Op.intCmp,bne,beqd]
theorem zk2 (op:BinOp) (T T':TypeId) (x y:Operand) (k:IntKind) (m n r:Int) (hx:(zam x).ev tm=.i k m) (hy:(zam y).ev tm=.i k n) (hr:arZ op m n=some r) (h:K objs (.i k (k.wrap r))):zaW P C (.binOp op T x y T') type objs tm K :=
 zag _ h fun G I a w hm hd o ho ht => by
  have h1:=zae hd x; rw [hx] at h1; simp only [Den] at h1
  have h2:=zae hd y; rw [hy] at h2; simp only [Den] at h2
  refine ⟨.int k (k.wrap r),?_,by simp [Den]⟩
  unfold execOp; rw [ho]
  cases op <;> simp only [arZ,Option.some.injEq,reduceCtorEq] at hr <;> subst hr <;> simp [h1,h2,eqGuard,binOp,Op.intArith]
theorem ok_quo (T T':TypeId) (x y:Operand) (k:IntKind) (m n:Int) (hx:(zam x).ev tm=.i k m) (hy:(zam y).ev tm=.i k n) (hn:n ≠ 0) (h:K objs (.i k (k.wrap (m.tdiv n)))):zaW P C (.binOp .quo T x y T') type objs tm K :=
 zag _ h fun G I a w hm hd o ho ht => by
  have h1:=zae hd x; rw [hx] at h1; simp only [Den] at h1
  have h2:=zae hd y; rw [hy] at h2; simp only [Den] at h2
  refine ⟨.int k (k.wrap (m.tdiv n)),?_,by simp [Den]⟩
  unfold execOp; rw [ho]; simp [h1,h2,eqGuard,binOp,Op.intDiv,hn]
theorem ok_rem (T T':TypeId) (x y:Operand) (k:IntKind) (m n:Int) (hx:(zam x).ev tm=.i k m) (hy:(zam y).ev tm=.i k n) (hn:n ≠ 0) (h:K objs (.i k (m.tmod n))):zaW P C (.binOp .rem T x y T') type objs tm K :=
 zag _ h fun G I a w hm hd o ho ht => by
  have h1:=zae hd x; rw [hx] at h1; simp only [Den] at h1
  have h2:=zae hd y; rw [hy] at h2; simp only [Den] at h2
  refine ⟨.int k (m.tmod n),?_,by simp [Den]⟩
  unfold execOp; rw [ho]; simp [h1,h2,eqGuard,binOp,Op.intDiv,hn]
theorem ok_cat (T T':TypeId) (x y:Operand) (l m:List UInt8) (hx:(zam x).ev tm=.s l) (hy:(zam y).ev tm=.s m) (hl:l.length + m.length ≤ 9223372036854775807) (h:K objs (.s (l ++ m))):zaW P C (.binOp .add T x y T') type objs tm K :=
 zag _ h fun G I a w hm hd o ho ht => by
  have h1:=zae hd x; rw [hx] at h1; simp only [Den] at h1
  have h2:=zae hd y; rw [hy] at h2; simp only [Den] at h2
  refine ⟨.string ⟨(l ++ m).toArray⟩,?_,by simp [Den]⟩
  unfold execOp; rw [ho]
  have hs:=run_string_add_sum (P:=P) w ⟨l.toArray⟩ ⟨m.toArray⟩ (by rw [zf8,zf8]; exact hl)
  have e:(⟨l.toArray⟩ ++ ⟨m.toArray⟩:ByteArray)=⟨(l ++ m).toArray⟩:=by
   apply ByteArray.ext; simp [ByteArray.data_append]
  rw [e] at hs
  simp [h1,h2,eqGuard,binOp,hs]
theorem ok_seq (op:BinOp) (T T':TypeId) (x y:Operand) (l m:List UInt8) (r:Bool) (hx:(zam x).ev tm=.s l) (hy:(zam y).ev tm=.s m) (hr:(op=.eql ∧ r=decide (l=m)) ∨ (op=.neq ∧ r=decide (¬ l=m))) (h:K objs (.b r)):zaW P C (.binOp op T x y T') type objs tm K :=
 zag _ h fun G I a w hm hd o ho ht => by
  have h1:=zae hd x; rw [hx] at h1; simp only [Den] at h1
  have h2:=zae hd y; rw [hy] at h2; simp only [Den] at h2
  refine ⟨.bool r,?_,by simp [Den]⟩
  unfold execOp; rw [ho]
  have e1:(⟨l.toArray⟩:ByteArray).toList=l:=by rw [ByteArray.toList_eq]
  have e2:(⟨m.toArray⟩:ByteArray).toList=m:=by rw [ByteArray.toList_eq]
  rcases hr with ⟨rfl,rfl⟩ | ⟨rfl,rfl⟩ <;> (simp [h1,h2,eqGuard,binOp,Op.stringOp,e1,e2,beqd]; try (by_cases hh:l=m <;> simp [hh]))
theorem ok_beq (op:BinOp) (T T':TypeId) (x y:Operand) (l m r:Bool) (hu:P.underlying T=some .bool) (hx:(zam x).ev tm=.b l) (hy:(zam y).ev tm=.b m) (hr:(op=.eql ∧ r=(l == m)) ∨ (op=.neq ∧ r=!(l == m))) (h:K objs (.b r)):zaW P C (.binOp op T x y T') type objs tm K :=
 zag _ h fun G I a w hm hd o ho ht => by
  have h1:=zae hd x; rw [hx] at h1; simp only [Den] at h1
  have h2:=zae hd y; rw [hy] at h2; simp only [Den] at h2
  refine ⟨.bool r,?_,by simp [Den]⟩
  unfold execOp; rw [ho]
  have hs:=run_equal_bool (P:=P) w T l m hu
  rcases hr with ⟨rfl,rfl⟩ | ⟨rfl,rfl⟩ <;> simp [h1,h2,eqGuard,binOp,hs]
theorem ok_idx (T:TypeId) (x y:Operand) (l:List UInt8) (k:IntKind) (n:Int) (hu:P.underlying T=some .string) (hx:(zam x).ev tm=.s l) (hy:(zam y).ev tm=.i k n) (h0:0 ≤ n) (h1:n < l.length) (h:K objs (.i .u8 ((l.getD n.toNat 0).toNat:Int))):zaW P C (.index T x y) type objs tm K :=
 zag _ h fun G I a w hm hd o ho ht => by
  have e1:=zae hd x; rw [hx] at e1; simp only [Den] at e1
  have e2:=zae hd y; rw [hy] at e2; simp only [Den] at e2
  refine ⟨.int .u8 ((l.getD n.toNat 0).toNat:Int),?_,by simp [Den]⟩
  unfold execOp; rw [ho]
  have hlt:n.toNat < l.length:=by omega
  have hg:(⟨l.toArray⟩:ByteArray)[n.toNat]? = some (l.getD n.toNat 0):=by
   rw [getElem?_pos _ _ (by rw [zf8]; exact hlt)]
   rw [List.getD_eq_getElem?_getD,List.getElem?_eq_getElem hlt]; rfl
  simp [e1,e2,Instr.index,asIntOf,run_underlying hu,h0,hg]
theorem ok_slcs (T:TypeId) (x:Operand) (lo hi:Option Operand) (l:List UInt8) (i j:Int) (hu:P.underlying T=some .string) (hx:(zam x).ev tm=.s l) (hlo:svb tm 0 lo=some i) (hhi:svb tm l.length hi=some j) (h0:0 ≤ i) (h1:i ≤ j) (h2:j ≤ l.length)
  (h:K objs (.s ((l.take j.toNat).drop i.toNat))):zaW P C (.slice T x lo hi none) type objs tm K :=
 zag _ h fun G I a w hm hd o ho ht => by
  have e1:=zae hd x; rw [hx] at e1; simp only [Den] at e1
  refine ⟨.string ⟨((l.take j.toNat).drop i.toNat).toArray⟩,?_,by simp [Den]⟩
  unfold execOp; rw [ho]
  have hsl:=zf8 l
  have hb:∀ (d:Int) (z:Option Operand) (q:Int),svb tm d z=some q → z=none ∧ q=d ∨ ∃ u k,z=some u ∧ a.eval u=.int k q:=by
   intro d z q hz
   cases z with
   | none => simp [svb] at hz; exact .inl ⟨rfl,hz.symm⟩
   | some u =>
    simp only [svb] at hz
    split at hz
    ·rename_i k n hn
     have e:=zae hd u; rw [hn] at e; simp only [Den] at e
     injection hz with hz; subst hz
     exact .inr ⟨u,k,rfl,e⟩
    ·cases hz
  rw [← zmC]
  rcases hb _ _ _ hlo with ⟨rfl,rfl⟩ | ⟨u,k,rfl,e2⟩ <;> rcases hb _ _ _ hhi with ⟨rfl,rfl⟩ | ⟨v,k',rfl,e3⟩
  ·simp [e1,run_sliceAt_string w T _ _ _ _ hu,run_slice_string_all w T _ hu,hsl]
  ·have:=run_slice_string_h (P:=P) w T ⟨l.toArray⟩ hu k' j (by omega) (by rw [hsl]; exact h2)
   simp [e1,e3,run_sliceAt_string w T _ _ _ _ hu,this]
  ·have:=run_slice_string_l (P:=P) w T ⟨l.toArray⟩ hu k i (by omega) (by rw [hsl]; omega)
   simp [e1,e2,run_sliceAt_string w T _ _ _ _ hu,this,hsl]
  ·have:=run_slice_string (P:=P) w T ⟨l.toArray⟩ k k' i j hu h0 h1 (by rw [hsl]; exact h2)
   simp [e1,e2,e3,run_sliceAt_string w T _ _ _ _ hu,this]
theorem ok_lens (T:TypeId) (ty:TypeId) (x:Operand) (l:List UInt8) (hu:P.underlying T=some .string) (hx:(zam x).ev tm=.s l) (h:K objs (.i .i64 l.length)):zaW P C (.call { callee:=.builtin .len,args:=#[x],argTypes:=#[T] }) ty objs tm K :=
 zag _ h fun G I a w hm hd o ho ht => by
  have e1:=zae hd x; rw [hx] at e1; simp only [Den] at e1
  refine ⟨.int .i64 l.length,?_,by simp [Den]⟩
  unfold execOp; rw [ho]
  simp [resolve,invoke,builtin,Builtin.len_,e1,run_underlying hu,goInt,zf8]
theorem zfM (T:TypeId) (ty:TypeId) (x:Operand) (e:TypeId) (n:Nat) (hu:P.underlying T=some (.slice e))
  (hx:(∃ xs,(zam x).ev tm=.row n xs) ∨ ((zam x).ev tm=.nil ∧ n=0) ∨ (∃ z,(zam x).ev tm=.zn z ∧ n=0) ∨ (∃ b gen E sz xs,(zam x).ev tm=.orow b gen ∧ objs[b]? = some (.orow E sz gen n xs))) (h:K objs (.i .i64 n)):zaW P C (.call { callee:=.builtin .len,args:=#[x],argTypes:=#[T] }) ty objs tm K :=
 zag _ h fun G I a w hm hd o ho ht => by
  have e1:=zae hd x
  refine ⟨.int .i64 n,?_,by simp [Den]⟩
  have hv:∃ q c,a.eval x=.slice q n c:=by
   rcases hx with ⟨xs,hx⟩ | ⟨hx,rfl⟩ | ⟨z,hx,rfl⟩ | ⟨b,gen,E,sz,xs,hx,hb⟩
   ·rw [hx] at e1; simp only [Den] at e1
    obtain ⟨q,c,ys,e,_⟩:=e1; exact ⟨q,c,e⟩
   ·rw [hx] at e1; simp only [Den] at e1; exact ⟨none,0,e1⟩
   ·rw [hx] at e1; simp only [Den] at e1; obtain ⟨q,c,e,_⟩:=e1; exact ⟨q,c,e⟩
   ·rw [hx] at e1; simp only [Den] at e1
    obtain ⟨g',v,k1,k2,k3,_⟩:=e1
    obtain ⟨v',ys,m1,m2,_⟩:=hm.row b E sz gen n xs hb
    rw [k1] at m1; injection m1 with m1; injection m1 with m1 m3
    have:=k3 m1.symm
    subst m3
    rcases m2.2 with ⟨rfl,rfl⟩ | ⟨g,cap,cur,rfl,_⟩
    ·exact ⟨none,0,this⟩
    ·exact ⟨_,cap,this⟩
  obtain ⟨q,c,hv⟩:=hv
  unfold execOp; rw [ho]
  simp [resolve,invoke,builtin,Builtin.len_,hv,run_underlying hu,goInt]
theorem zkZ (T:TypeId) (x:Operand) (k:Nat) (fs:Array Field) (f:Field) (fz:Nat) (v:AV) (hu:P.underlying T=some (.struct fs)) (hf:fs[k]? = some f) (hz:(P.info? f.type).map (·.size)=some fz) (h0:fz ≠ 0)
  (hv:(∃ b off,(zam x).ev tm=.p b off ∧ v=.p b (off + f.offset)) ∨ (∃ xs j,(zam x).ev tm=.prow xs j ∧ v=.prow xs (j + f.offset)) ∨ (∃ b gen j,(zam x).ev tm=.porow b gen j ∧ v=.porow b gen (j + f.offset))) (h:K objs v):zaW P C (.fieldAddr T x k) type objs tm K :=
 zag _ h fun G I a w hm hd o ho ht => by
  have e1:=zae hd x
  have hp:∀ g o':Nat,(fieldPlace ⟨g,o',none⟩ f).run P w=.ok ⟨g,o' + f.offset,none⟩ w:=by
   intro g o'
   cases hi:P.info? f.type with
   | none => rw [hi] at hz; cases hz
   | some i =>
    rw [hi] at hz
    have:i.size ≠ 0:=by simp at hz; omega
    simp [fieldPlace,sizeOf,typeInfo,hi,this,zax]
  rcases hv with ⟨b,off,hx,rfl⟩ | ⟨xs,j,hx,rfl⟩ | ⟨b,gen,j,hx,rfl⟩
  ·rw [hx] at e1; simp only [Den] at e1
   obtain ⟨g,hg,he⟩:=e1
   refine ⟨.pointer (some ⟨g,off + f.offset,none⟩),?_,by simp only [Den]; exact ⟨g,hg,rfl⟩⟩
   unfold execOp; rw [ho]
   simp [Instr.fieldAt,run_underlying hu,hf,he,Instr.sureAddr,hp]
  ·rw [hx] at e1; simp only [Den] at e1
   obtain ⟨g,off,ys,he,k3,k4,k5⟩:=e1
   refine ⟨.pointer (some ⟨g,off + (j + f.offset),none⟩),?_,by simp only [Den]; exact ⟨g,off,ys,rfl,k3,k4,k5⟩⟩
   unfold execOp; rw [ho]
   simp [Instr.fieldAt,run_underlying hu,hf,he,Instr.sureAddr,hp,Nat.add_assoc]
  ·rw [hx] at e1; simp only [Den] at e1
   obtain ⟨g',v,g,hg,hle,he,hn⟩:=e1
   refine ⟨.pointer (some ⟨g,j + f.offset,none⟩),?_,by simp only [Den]; exact ⟨g',v,g,hg,hle,rfl,hn⟩⟩
   unfold execOp; rw [ho]
   simp [Instr.fieldAt,run_underlying hu,hf,he,Instr.sureAddr,hp]
theorem zcF {T:TypeId} {d:TypeDesc} (hu:P.underlying T=some d) (w:World):(isAgg T).run P w=.ok d.isRow w:=by
 unfold isAgg
 rw [Sem.run_bind,run_underlying hu w]
 cases d <;> simp_all
theorem ok_fld1 (T:TypeId) (x:Operand) (k:Nat) (fs:Array Field) (f:Field) (d:TypeDesc) (cs:List AV) (v:AV) (hu:P.underlying T=some (.struct fs)) (hf:fs[k]? = some f) (hd':P.underlying f.type=some d) (hr:d.isRow=false) (hx:(zam x).ev tm=.agg cs) (hc:cs[f.offset]? = some v) (h:K objs v) :
  zaW P C (.field T x k) type objs tm K :=
 zag _ h fun G I a w hm hd o ho ht => by
  have e1:=zae hd x; rw [hx] at e1; simp only [Den] at e1
  obtain ⟨ys,he,k3,k4⟩:=e1
  obtain ⟨y,hy,hyd⟩:=zai.get f.offset k3 hc
  refine ⟨y,?_,hyd⟩
  unfold execOp; rw [ho]
  simp [Instr.field,run_underlying hu,hf,he,asAgg,part,zcF hd',hr,hy]
theorem ok_fldn (T:TypeId) (x:Operand) (k:Nat) (fs:Array Field) (f:Field) (d:TypeDesc) (sz:Nat) (cs:List AV) (hu:P.underlying T=some (.struct fs)) (hf:fs[k]? = some f) (hd':P.underlying f.type=some d) (hr:d.isRow=true) (hs:(P.info? f.type).map (·.size)=some sz) (hx:(zam x).ev tm=.agg cs) (h:K objs (.agg ((cs.drop f.offset).take sz))) :
  zaW P C (.field T x k) type objs tm K :=
 zag _ h fun G I a w hm hd o ho ht => by
  have e1:=zae hd x; rw [hx] at e1; simp only [Den] at e1
  obtain ⟨ys,he,k3,k4⟩:=e1
  refine ⟨.agg ((ys.drop f.offset).take sz).toArray,?_,?_⟩
  ·unfold execOp; rw [ho]
   cases hi:P.info? f.type with
   | none => rw [hi] at hs; cases hs
   | some i =>
    rw [hi] at hs
    have hsz:i.size=sz:=by simpa using hs
    have e:(ys.toArray.extract f.offset (f.offset + sz))=((ys.drop f.offset).take sz).toArray:=by
     apply Array.ext'
     simp [List.extract_eq_take_drop]
    simp [Instr.field,run_underlying hu,hf,he,asAgg,part,zcF hd',hr,sizeOf,typeInfo,hi,hsz]
  ·simp only [Den]
   exact ⟨_,rfl,zai.take sz (zai.drop _ k3),fun u hu => k4 u (List.mem_of_mem_drop (List.mem_of_mem_take hu))⟩
theorem ok_iada (T:TypeId) (x y:Operand) (e:TypeId) (sz len b off:Nat) (k:IntKind) (i:Int) (hu:P.underlying T=some (.array len e)) (hs:(P.info? e).map (·.size)=some sz) (hx:(zam x).ev tm=.p b off) (hy:(zam y).ev tm=.i k i) (h0:0 ≤ i) (h1:i < len) (hz:0 < sz)
  (h:K objs (.p b (off + i.toNat * sz))):zaW P C (.indexAddr T x y) type objs tm K :=
 zag _ h fun G I a w hm hd o ho ht => by
  have e1:=zae hd x; rw [hx] at e1; simp only [Den] at e1
  have e2:=zae hd y; rw [hy] at e2; simp only [Den] at e2
  obtain ⟨g,hg,he⟩:=e1
  refine ⟨.pointer (some ⟨g,off + i.toNat * sz,none⟩),?_,?_⟩
  ·unfold execOp; rw [ho]
   cases hi:P.info? e with
   | none => rw [hi] at hs; cases hs
   | some inf =>
    rw [hi] at hs
    have hsz:inf.size=sz:=by simpa using hs
    simp [e2,he,Instr.indexAt,asIntOf,run_underlying hu,h0,h1,sizeOf,typeInfo,hi,hsz,zax,Instr.sureAddr]
  ·simp only [Den]
   exact ⟨g,hg,rfl⟩
theorem ok_iad (T:TypeId) (x y:Operand) (e:TypeId) (sz n:Nat) (xs:List AV) (k:IntKind) (i:Int) (hu:P.underlying T=some (.slice e)) (hs:(P.info? e).map (·.size)=some sz) (hx:(zam x).ev tm=.row n xs) (hy:(zam y).ev tm=.i k i) (h0:0 ≤ i) (h1:i < n) (hl:n * sz ≤ xs.length) (hz:0 < sz)
  (h:K objs (.prow xs (i.toNat * sz))):zaW P C (.indexAddr T x y) type objs tm K :=
 zag _ h fun G I a w hm hd o ho ht => by
  have e1:=zae hd x; rw [hx] at e1; simp only [Den] at e1
  have e2:=zae hd y; rw [hy] at e2; simp only [Den] at e2
  obtain ⟨q,c,ys,he,hnc,k3,k4,k5⟩:=e1
  have hlen:=k3.length
  have hpos:0 < n * sz:=Nat.mul_pos (by omega) hz
  have hy0:ys[0]? = some (ys[0]'(by omega)):=List.getElem?_eq_getElem (by omega)
  obtain ⟨g,off,rfl,_⟩:=k5 0 _ hy0
  refine ⟨.pointer (some ⟨g,off + i.toNat * sz,none⟩),?_,?_⟩
  ·unfold execOp; rw [ho]
   cases hi:P.info? e with
   | none => rw [hi] at hs; cases hs
   | some inf =>
    rw [hi] at hs
    have hsz:inf.size=sz:=by simpa using hs
    simp [e2,he,Instr.indexAt,asIntOf,run_underlying hu,h0,h1,sizeOf,typeInfo,hi,hsz,zax]
  ·simp only [Den]
   refine ⟨g,off,ys,rfl,k3,k4,fun j u hj => ?_⟩
   obtain ⟨g',off',e,hi⟩:=k5 j u hj
   injection e with e; injection e with e4 e5; subst e4 e5
   exact hi
theorem ok_iado (T:TypeId) (x y:Operand) (e:TypeId) (sz n b gen E:Nat) (xs:List AV) (k:IntKind) (i:Int) (hu:P.underlying T=some (.slice e)) (hs:(P.info? e).map (·.size)=some sz) (hx:(zam x).ev tm=.orow b gen) (hb:objs[b]? = some (.orow E sz gen n xs)) (hy:(zam y).ev tm=.i k i) (h0:0 ≤ i) (h1:i < n)
  (h:K objs (.porow b gen (i.toNat * sz))):zaW P C (.indexAddr T x y) type objs tm K :=
 zag _ h fun G I a w hm hd o ho ht => by
  have e1:=zae hd x; rw [hx] at e1; simp only [Den] at e1
  have e2:=zae hd y; rw [hy] at e2; simp only [Den] at e2
  obtain ⟨g',v,k1,k2,k3,_⟩:=e1
  obtain ⟨v',ys,m1,m2,m3,m4,m5⟩:=hm.row b E sz gen n xs hb
  rw [k1] at m1; injection m1 with m1; injection m1 with m1 m6
  have hv:=k3 m1.symm
  subst m1 m6
  rcases m2.2 with ⟨rfl,h0'⟩ | ⟨g,cap,cur,rfl,q3,q4,q5,q6,q7,q8⟩
  ·omega
  refine ⟨.pointer (some ⟨g,i.toNat * sz,none⟩),?_,?_⟩
  ·unfold execOp; rw [ho]
   cases hi:P.info? e with
   | none => rw [hi] at hs; cases hs
   | some inf =>
    rw [hi] at hs
    have hsz:inf.size=sz:=by simpa using hs
    simp [e2,hv,Instr.indexAt,asIntOf,run_underlying hu,h0,h1,sizeOf,typeInfo,hi,hsz,zax]
  ·simp only [Den]
   exact ⟨_,_,g,k1,Nat.le_refl _,rfl,fun _ => ⟨n,cap,rfl⟩⟩
end
end Go.Proofs.Ytceenajkieomoaa.Sx
namespace Go.Proofs.Ytceenajkieomoaa.Sx
open Go.RowKit
theorem In.evolve {C:Cx} {G:Gh} {I:Imm} {w w':World} {row:Option Nat} (h:In C G I w) (hg:w.grownBy w' row) (hr:∀ k,row=some k → C.own k ∨ C.w.heap.size ≤ k):In C G I w':=by
 refine ⟨hg.os.trans h.os,hg.tape.trans h.tape,hg.output.trans h.output,Nat.le_trans h.size hg.size,fun k hk hn => ?_,h.imm,h.news,h.blk,h.gh⟩
 rw [hg.block k (Nat.lt_of_lt_of_le hk h.size) (fun e => by rcases hr k e.symm with h1 | h1; exact hn h1; omega)]
 exact h.block k hk hn
theorem zdR {w w':World} {g o:Nat} (h:w'.heap[g]? = w.heap[g]?):w'.cell? ⟨g,o,none⟩=w.cell? ⟨g,o,none⟩:=by simp only [World.cell?,h]
theorem MemOk.evolve {G:Gh} {I:Imm} {objs:List OB} {w w':World} (h:MemOk G I objs w) (hg:w.grownBy w' none):MemOk G I objs w':=by
 refine ⟨fun g o v hi => ?_,fun b T cs hb => ?_,fun b E sz gen n xs hb => ?_,fun b es hb => ?_,h.inj,fun b g hb => Nat.lt_of_lt_of_le (h.lt b g hb) hg.size,h.apart,h.fresh⟩
 ·rw [← h.imm g o v hi]
  exact zdR (hg.block g (World.block_lt_of_cell? (h:=h.imm g o v hi)) (by simp))
 ·obtain ⟨g,ys,k1,k2,k3⟩:=h.box b T cs hb
  exact ⟨g,ys,k1,(hg.block g (h.lt b g (zau k1)) (by simp)).trans k2,k3⟩
 ·obtain ⟨v,ys,k1,k2,k3⟩:=h.row b E sz gen n xs hb
  refine ⟨v,ys,k1,World.ownsRow.kept k2 hg ?_,k3⟩
  rcases hv:v.ownBlock with _ | g
  ·exact .inl rfl
  ·exact .inr (by simp)
 ·obtain ⟨g,en,ck,k1,k2,k3⟩:=h.map b es hb
  exact ⟨g,en,ck,k1,(hg.block g (h.lt b g (zau k1)) (by simp)).trans k2,k3⟩
theorem MemOk.imm_more {G:Gh} {I I':Imm} {objs:List OB} {w:World} (h:MemOk G I objs w) (hle:Imm.le I I') (h1:∀ g o v,I' g o v → w.cell? ⟨g,o,none⟩=some v) (h2:∀ b g o v,G.own b=some g → ¬ I' g o v):MemOk G I' objs w:=by
 refine ⟨h1,fun b T cs hb => ?_,fun b E sz gen n xs hb => ?_,fun b es hb => ?_,h.inj,h.lt,h2,h.fresh⟩
 ·obtain ⟨g,zs,k1,k2,k3,k4⟩:=h.box b T cs hb
  exact ⟨g,zs,k1,k2,zai.mono (Gh.le.refl G) hle _ _ k3,k4⟩
 ·obtain ⟨v,zs,k1,k2,k3,k4,k5⟩:=h.row b E sz gen n xs hb
  exact ⟨v,zs,k1,k2,zai.mono (Gh.le.refl G) hle _ _ k3,k4,k5⟩
 ·obtain ⟨g,en,ck,k1,k2,k3⟩:=h.map b es hb
  exact ⟨g,en,ck,k1,k2,k3.mono (Gh.le.refl G) hle⟩
theorem In.imm_more {C:Cx} {G:Gh} {I I':Imm} {w:World} (h:In C G I w) (hle:Imm.le I I') (hn:∀ g o v,I' g o v → I g o v ∨ C.own g ∨ C.w.heap.size ≤ g):In C G I' w :=
 ⟨h.os,h.tape,h.output,h.size,h.block,fun g o v hi => hle _ _ _ (h.imm g o v hi),fun g o v hi => by rcases hn g o v hi with h1 | h1; exact h.news g o v h1; exact .inr h1,h.blk,h.gh⟩
theorem zk6 {C:Cx} {G:Gh} {I:Imm} {objs:List OB} {w w':World} (hin:In C G I w) (h:MemOk G I objs w) (hg:w.grownBy w' none) (g n c:Nat) (xs:List AV) (ys:List Value) (hgw:w.heap.size ≤ g) (hnc:n ≤ c)
  (hd:zai G I xs ys) (h1:∀ u ∈ ys,u.oneCell'=true) (hc:∀ (j:Nat) (u:Value),ys[j]? = some u → w'.cell? ⟨g,j,none⟩=some u) :
  ∃ I',Imm.le I I' ∧ In C G I' w' ∧ MemOk G I' objs w' ∧ Den G I' (.row n xs) (.slice (some ⟨g,0,none⟩) n c):=by
 let I':Imm:=fun g' o v => I g' o v ∨ (g'=g ∧ ys[o]? = some v)
 have hle:Imm.le I I':=fun _ _ _ hi => .inl hi
 have hin':=hin.evolve hg (by simp)
 have h':=h.evolve hg
 refine ⟨I',hle,hin'.imm_more hle ?_,h'.imm_more hle ?_ ?_,?_⟩
 ·rintro g' o v (hi | ⟨rfl,_⟩)
  ·exact .inl hi
  ·exact .inr (.inr (Nat.le_trans hin.size hgw))
 ·rintro g' o v (hi | ⟨rfl,hy⟩)
  ·exact h'.imm g' o v hi
  ·exact hc o v hy
 ·rintro b g' o v hb (hi | ⟨rfl,_⟩)
  ·exact h.apart b g' o v hb hi
  ·have:=h.lt b _ hb; omega
 ·simp only [Den]
  exact ⟨some ⟨g,0,none⟩,c,ys,rfl,⟨hnc,by rintro _ ⟨⟩ _; rfl⟩,zai.mono (Gh.le.refl G) hle _ _ hd,h1,fun j u hj => ⟨g,0,rfl,.inr ⟨rfl,by simpa using hj⟩⟩⟩
theorem ze9 {C:Cx} {G:Gh} {I:Imm} {objs:List OB} {w w':World} (hin:In C G I w) (h:MemOk G I objs w) (hg:w.grownBy w' none) (E sz n:Nat) (xs:List AV) (v:Value) (ys:List Value)
  (ho:w'.ownsRow 0 E sz v n ys) (hd:zai G I xs ys) (h1:∀ u ∈ ys,u.oneCell'=true) (hv:∀ k,v.ownBlock=some k → w.heap.size ≤ k) :
  ∃ G',G.le G' ∧ In C G' I w' ∧ MemOk G' I (objs ++ [.orow E sz 0 n xs]) w' ∧ Den G' I (.orow objs.length 0) v:=by
 have hf:=h.fresh objs.length (Nat.le_refl _)
 have hle:G.le (G.row objs.length 0 v):=Gh.row_le (by intro m u hm; rw [hf.2] at hm; cases hm)
 have h':=h.evolve hg
 have hin':=hin.evolve hg (by simp)
 have hbl:∀ x y,(G.row objs.length 0 v).own x=some y → (x=objs.length ∧ v.ownBlock=some y) ∨ (x ≠ objs.length ∧ G.own x=some y):=by
  intro x y hx
  rw [Gh.row_own _ _ _ _ hf.1] at hx
  split at hx
  ·rename_i e; exact .inl ⟨e,hx⟩
  ·rename_i e; exact .inr ⟨e,hx⟩
 have hvl:∀ k,v.ownBlock=some k → k < w'.heap.size:=by
  intro k hk
  rcases ho.2 with ⟨rfl,_⟩ | ⟨g,cap,cur,rfl,_,hh,_⟩
  ·cases hk
  ·obtain rfl:g=k:=by simpa [Value.ownBlock] using hk
   exact (Array.getElem?_eq_some_iff.1 hh).1
 refine ⟨_,hle,hin'.ghost hle ?_,⟨h'.imm,?_,?_,?_,?_,?_,?_,?_⟩,?_⟩
 ·intro b g hb
  rcases hbl b g hb with ⟨rfl,hb2⟩ | ⟨_,hb2⟩
  ·exact .inr (Nat.le_trans hin.size (hv _ hb2))
  ·exact hin.blk b g hb2
 ·intro b T' cs' hb
  rcases Nat.lt_or_ge b objs.length with hlt | hge
  ·rw [List.getElem?_append_left hlt] at hb
   obtain ⟨g,zs,k1,k2,k3,k4⟩:=h'.box b T' cs' hb
   exact ⟨g,zs,hle.blk b g k1,k2,zai.mono hle (Imm.le.refl I) _ _ k3,k4⟩
  ·rw [List.getElem?_append_right hge] at hb
   rcases Nat.eq_zero_or_pos (b - objs.length) with h0 | h0
   ·rw [h0] at hb; simp at hb
   ·rw [List.getElem?_eq_none (by simp; omega)] at hb; cases hb
 ·intro b E' sz' gen m us hb
  rcases Nat.lt_or_ge b objs.length with hlt | hge
  ·rw [List.getElem?_append_left hlt] at hb
   obtain ⟨v',zs,k1,k2,k3,k4,k5⟩:=h'.row b E' sz' gen m us hb
   refine ⟨v',zs,?_,k2,zai.mono hle (Imm.le.refl I) _ _ k3,k4,?_⟩
   ·show (if b=objs.length then _ else _)=_; rw [if_neg (by omega)]; exact k1
   ·exact k5
  ·rw [List.getElem?_append_right hge] at hb
   have hb0:b=objs.length:=by
    rcases Nat.eq_zero_or_pos (b - objs.length) with h0 | h0
    ·omega
    ·rw [List.getElem?_eq_none (by simp; omega)] at hb; cases hb
   subst hb0
   simp at hb
   obtain ⟨rfl,rfl,rfl,rfl,rfl⟩:=hb
   exact ⟨v,ys,by simp [Gh.row],ho,zai.mono hle (Imm.le.refl I) _ _ hd,h1,hf.1⟩
 ·intro b es hb
  rcases Nat.lt_or_ge b objs.length with hlt | hge
  ·rw [List.getElem?_append_left hlt] at hb
   obtain ⟨g,en,ck,k1,k2,k3⟩:=h'.map b es hb
   exact ⟨g,en,ck,hle.blk b g k1,k2,k3.mono hle (Imm.le.refl I)⟩
  ·rw [List.getElem?_append_right hge] at hb
   rcases Nat.eq_zero_or_pos (b - objs.length) with h0 | h0
   ·rw [h0] at hb; simp at hb
   ·rw [List.getElem?_eq_none (by simp; omega)] at hb; cases hb
 ·intro b b' g hb hb'
  rcases hbl b g hb with ⟨e1,hb2⟩ | ⟨_,hb2⟩ <;> rcases hbl b' _ hb' with ⟨e2,hb3⟩ | ⟨_,hb3⟩
  ·omega
  ·have:=h.lt b' _ hb3; have:=hv _ hb2; omega
  ·have:=h.lt b _ hb2; have:=hv _ hb3; omega
  ·exact h.inj b b' g hb2 hb3
 ·intro b g hb
  rcases hbl b g hb with ⟨rfl,hb2⟩ | ⟨_,hb2⟩
  ·exact hvl _ hb2
  ·exact h'.lt b g hb2
 ·intro b g o u hb hi
  rcases hbl b g hb with ⟨rfl,hb2⟩ | ⟨_,hb2⟩
  ·have h7:=World.block_lt_of_cell? (h:=h.imm _ _ _ hi)
   have h8:=hv _ hb2
   simp only at h7; omega
  ·exact h.apart b g o u hb2 hi
 ·intro b hb
  simp at hb
  have:=h.fresh b (by omega)
  refine ⟨this.1,?_⟩
  show (if b=objs.length then _ else _)=_
  rw [if_neg (by omega)]; exact this.2
 ·simp only [Den]
  refine ⟨0,v,by simp [Gh.row],Nat.le_refl _,fun _ => rfl,?_⟩
  rcases ho.2 with ⟨rfl,_⟩ | ⟨g,cap,cur,rfl,_⟩ <;> rfl
theorem zhq {C:Cx} {G:Gh} {I:Imm} {objs:List OB} {w w':World} (hin:In C G I w) (h:MemOk G I objs w) (b E sz gen n n':Nat) (xs xs':List AV) (v v':Value) (ys':List Value) (hb:objs[b]? = some (.orow E sz gen n xs)) (hcur:G.cur b=some (gen,v))
  (hg:w.grownBy w' v.ownBlock) (ho:w'.ownsRow 0 E sz v' n' ys') (hd:zai G I xs' ys') (h1:∀ u ∈ ys',u.oneCell'=true) (hv:v'.ownBlock=v.ownBlock ∨ v'.ownBlock=some w.heap.size) :
  ∃ G',G.le G' ∧ In C G' I w' ∧ MemOk G' I (objs.set b (.orow E sz (gen + 1) n' xs')) w' ∧ Den G' I (.orow b (gen + 1)) v':=by
 obtain ⟨v0,ys,m1,m2,m3,m4,m5⟩:=h.row b E sz gen n xs hb
 obtain rfl:v=v0:=by rw [hcur] at m1; injection m1 with m1; injection m1 with _ m1
 have hblt:b < objs.length:=by
  rcases Nat.lt_or_ge b objs.length with h0 | h0
  ·exact h0
  ·rw [List.getElem?_eq_none h0] at hb; cases hb
 have hob:G.own b=v.ownBlock:=zbj m5 hcur
 have hle:G.le (G.row b (gen + 1) v'):=Gh.row_le (by intro m u hm; rw [hcur] at hm; injection hm with hm; injection hm with hm _; omega)
 have hbl:∀ x y,(G.row b (gen + 1) v').own x=some y → (x=b ∧ v'.ownBlock=some y) ∨ (x ≠ b ∧ G.own x=some y):=by
  intro x y hx
  rw [Gh.row_own _ _ _ _ m5] at hx
  split at hx
  ·rename_i e; exact .inl ⟨e,hx⟩
  ·rename_i e; exact .inr ⟨e,hx⟩
 have hvl:∀ k,v'.ownBlock=some k → k < w'.heap.size:=by
  intro k hk
  rcases ho.2 with ⟨rfl,_⟩ | ⟨g,cap,cur,rfl,_,hh,_⟩
  ·cases hk
  ·obtain rfl:g=k:=by simpa [Value.ownBlock] using hk
   exact (Array.getElem?_eq_some_iff.1 hh).1
 have hin':In C G I w':=hin.evolve hg (fun k hk => hin.blk b k (hob.trans hk))
 refine ⟨_,hle,hin'.ghost hle ?_,⟨?_,?_,?_,?_,?_,?_,?_,?_⟩,?_⟩
 ·intro x g hx
  rcases hbl x g hx with ⟨_,hx2⟩ | ⟨_,hx2⟩
  ·rcases hv with hv | hv
   ·exact hin.blk b g (hob.trans (hv ▸ hx2))
   ·rw [hv] at hx2; injection hx2 with hx2; subst hx2; exact .inr hin.size
  ·exact hin.blk x g hx2
 ·intro g o u hi
  rw [← h.imm g o u hi]
  refine zdR (hg.block g (World.block_lt_of_cell? (h:=h.imm g o u hi)) ?_)
  intro e
  exact h.apart b g o u (hob.trans e.symm) hi
 ·intro x T' cs' hx
  by_cases e:x=b
  ·subst e; rw [List.getElem?_set_self hblt] at hx; simp at hx
  ·rw [List.getElem?_set_ne (fun e' => e e'.symm)] at hx
   obtain ⟨g,zs,k1,k2,k3,k4⟩:=h.box x T' cs' hx
   refine ⟨g,zs,hle.blk _ _ k1,(hg.block g (h.lt x g (zau k1)) ?_).trans k2,zai.mono hle (Imm.le.refl I) _ _ k3,k4⟩
   intro e2
   exact e (h.inj x b g (zau k1) (hob.trans e2.symm))
 ·intro x E' sz' gen' m us hx
  by_cases e:x=b
  ·subst e
   rw [List.getElem?_set_self hblt] at hx
   simp at hx
   obtain ⟨rfl,rfl,rfl,rfl,rfl⟩:=hx
   exact ⟨v',ys',by simp [Gh.row],ho,zai.mono hle (Imm.le.refl I) _ _ hd,h1,m5⟩
  ·rw [List.getElem?_set_ne (fun e' => e e'.symm)] at hx
   obtain ⟨u,zs,k1,k2,k3,k4,k5⟩:=h.row x E' sz' gen' m us hx
   refine ⟨u,zs,?_,World.ownsRow.kept k2 hg ?_,zai.mono hle (Imm.le.refl I) _ _ k3,k4,k5⟩
   ·show (if x=b then _ else _)=_; rw [if_neg e]; exact k1
   ·rcases hu:u.ownBlock with _ | g
    ·exact .inl rfl
    ·refine .inr (fun e2 => e (h.inj x b g ?_ (hob.trans e2.symm)))
     rw [zbj k5 k1,hu]
 ·intro x es hx
  by_cases e:x=b
  ·subst e; rw [List.getElem?_set_self hblt] at hx; simp at hx
  ·rw [List.getElem?_set_ne (fun e' => e e'.symm)] at hx
   obtain ⟨g,en,ck,k1,k2,k3⟩:=h.map x es hx
   refine ⟨g,en,ck,hle.blk _ _ k1,(hg.block g (h.lt x g (zau k1)) ?_).trans k2,k3.mono hle (Imm.le.refl I)⟩
   intro e2
   exact e (h.inj x b g (zau k1) (hob.trans e2.symm))
 ·intro x x' g hx hx'
  rcases hbl x g hx with ⟨e1,hx2⟩ | ⟨n1,hx2⟩ <;> rcases hbl x' _ hx' with ⟨e2,hx3⟩ | ⟨n2,hx3⟩
  ·omega
  ·rcases hv with hv | hv
   ·rw [e1]; exact h.inj b x' g (hob.trans (hv ▸ hx2)) hx3
   ·rw [hv] at hx2; injection hx2 with hx2; have:=h.lt x' _ hx3; omega
  ·rcases hv with hv | hv
   ·rw [e2]; exact h.inj x b g hx2 (hob.trans (hv ▸ hx3))
   ·rw [hv] at hx3; injection hx3 with hx3; have:=h.lt x _ hx2; omega
  ·exact h.inj x x' g hx2 hx3
 ·intro x g hx
  rcases hbl x g hx with ⟨_,hx2⟩ | ⟨_,hx2⟩
  ·exact hvl _ hx2
  ·exact Nat.lt_of_lt_of_le (h.lt x g hx2) hg.size
 ·intro x g o u hx hi
  rcases hbl x g hx with ⟨_,hx2⟩ | ⟨_,hx2⟩
  ·rcases hv with hv | hv
   ·exact h.apart b g o u (hob.trans (hv ▸ hx2)) hi
   ·rw [hv] at hx2; injection hx2 with hx2
    have h7:=World.block_lt_of_cell? (h:=h.imm _ _ _ hi)
    simp only at h7; omega
  ·exact h.apart x g o u hx2 hi
 ·intro x hx
  rw [List.length_set] at hx
  have:=h.fresh x hx
  refine ⟨this.1,?_⟩
  show (if x=b then _ else _)=_
  rw [if_neg (by omega)]; exact this.2
 ·simp only [Den]
  refine ⟨gen + 1,v',by simp [Gh.row],Nat.le_refl _,fun _ => rfl,?_⟩
  rcases ho.2 with ⟨rfl,_⟩ | ⟨g,cap,cur,rfl,_⟩ <;> rfl
theorem setmap {C:Cx} {G:Gh} {I:Imm} {objs:List OB} {w w':World} (hin:In C G I w) (h:MemOk G I objs w) (b g:Nat) (es es':List (List UInt8 × AV)) (en':Array MapEntry) (ck':Nat) (hb:objs[b]? = some (.mp es)) (hgb:G.blk b=some g)
  (hg:w.grownBy w' (some g)) (hh:w'.heap[g]? = some (.map en' ck')) (he:Ents G I es' en'.toList) :
  In C G I w' ∧ MemOk G I (objs.set b (.mp es')) w':=by
 have hblt:b < objs.length:=by
  rcases Nat.lt_or_ge b objs.length with h0 | h0
  ·exact h0
  ·rw [List.getElem?_eq_none h0] at hb; cases hb
 have hob:G.own b=some g:=zau hgb
 refine ⟨hin.evolve hg (fun k hk => hin.blk b k (hob.trans hk)),⟨?_,?_,?_,?_,h.inj,fun x g' hx => Nat.lt_of_lt_of_le (h.lt x g' hx) hg.size,h.apart,fun x hx => h.fresh x (by simpa using hx)⟩⟩
 ·intro g' o u hi
  rw [← h.imm g' o u hi]
  refine zdR (hg.block g' (World.block_lt_of_cell? (h:=h.imm g' o u hi)) ?_)
  intro e
  injection e with e
  exact h.apart b g' o u (by rw [hob,e]) hi
 ·intro x T' cs' hx
  by_cases e:x=b
  ·subst e; rw [List.getElem?_set_self hblt] at hx; simp at hx
  ·rw [List.getElem?_set_ne (fun e' => e e'.symm)] at hx
   obtain ⟨g',zs,k1,k2,k3,k4⟩:=h.box x T' cs' hx
   refine ⟨g',zs,k1,(hg.block g' (h.lt x g' (zau k1)) ?_).trans k2,k3,k4⟩
   intro e2
   exact e (h.inj x b g' (zau k1) (by rw [hob,e2]))
 ·intro x E' sz' gen' m us hx
  by_cases e:x=b
  ·subst e; rw [List.getElem?_set_self hblt] at hx; simp at hx
  ·rw [List.getElem?_set_ne (fun e' => e e'.symm)] at hx
   obtain ⟨u,zs,k1,k2,k3,k4,k5⟩:=h.row x E' sz' gen' m us hx
   refine ⟨u,zs,k1,World.ownsRow.kept k2 hg ?_,k3,k4,k5⟩
   rcases hu:u.ownBlock with _ | g'
   ·exact .inl rfl
   ·refine .inr (fun e2 => e (h.inj x b g ?_ hob))
    rw [zbj k5 k1,hu,e2]
 ·intro x es2 hx
  by_cases e:x=b
  ·subst e
   rw [List.getElem?_set_self hblt] at hx
   obtain rfl:es'=es2:=by simpa using hx
   exact ⟨g,en',ck',hgb,hh,he⟩
  ·rw [List.getElem?_set_ne (fun e' => e e'.symm)] at hx
   obtain ⟨g',en,ck,k1,k2,k3⟩:=h.map x es2 hx
   refine ⟨g',en,ck,k1,(hg.block g' (h.lt x g' (zau k1)) ?_).trans k2,k3⟩
   intro e2
   exact e (h.inj x b g' (zau k1) (by rw [hob,e2]))
def byA (l:List UInt8):List AV:=l.map fun c => .i .u8 (c.toNat:Int)
theorem zf4 (G:Gh) (I:Imm):∀ l:List UInt8,zai G I (byA l) (l.map fun c => Value.int .u8 (c.toNat:Int))
 | [] => zai.nil
 | c :: l => zai.cons (by simp [Den]) (zf4 G I l)
theorem zb6 {G:Gh} {I:Imm}:∀ {l:List UInt8} {ys:List Value},zai G I (byA l) ys → ys=l.map fun c => Value.int .u8 (c.toNat:Int)
 | [],ys,h => by simpa [byA,zai] using h
 | c :: l,ys,h => by
  simp only [byA,List.map_cons,zai,Den] at h
  obtain ⟨y,ys',rfl,rfl,h3⟩:=h
  simp only [List.map_cons]
  rw [zb6 (l:=l) h3]
theorem zdj (s:ByteArray):Lib.strCells s=s.data.toList.map fun c => Value.int .u8 (c.toNat:Int):=by simp [Lib.strCells]
theorem zk9 (l:List UInt8):∀ u ∈ l.map (fun c => Value.int .u8 (c.toNat:Int)),u.oneCell'=true:=by
 intro u hu
 obtain ⟨c,_,rfl⟩:=List.mem_map.1 hu
 rfl
section
variable {P:Program}
theorem zci (w:World) (base:Nat) (t ty e:TypeId) (i:TypeInfo) (size:Nat) (ht:P.underlying t=some (.slice e)) (hi:P.info? e=some i)
  (v:Value) (n:Nat) (xs:List Value) (hown:w.ownsRow base e size v n xs) (c:Nat):(Builtin.append_ #[t,t] ty #[v,.slice none 0 c]).run P w=.ok v w:=by
 rcases hown.2 with ⟨rfl,rfl⟩ | ⟨g,cap,cur,rfl,_,_,hnc,_⟩
 ·simp [Builtin.append_,run_underlying ht,sizeOf,typeInfo,hi,Builtin.lenOf,Builtin.firstCells]
 ·simp [Builtin.append_,run_underlying ht,sizeOf,typeInfo,hi,Builtin.lenOf,Builtin.firstCells,hnc,storeCells]
theorem zch (w:World) (t u ty e:TypeId) (i:TypeInfo) (ht:P.underlying t=some (.slice e)) (hu:P.underlying u=some .string) (hi:P.info? e=some i) (hz:i.zero=some (.int .u8 0)) (hsize:i.size=1) (hby:i.bytes=1)
  (v:Value) (n:Nat) (xs:List Value) (hown:w.ownsRow 0 e 1 v n xs) (s:ByteArray) (hb:n + s.size ≤ 140737488355328) :
  ∃ v' w',(Builtin.append_ #[t,u] ty #[v,.string s]).run P w=.ok v' w' ∧ w'.ownsRow 0 e 1 v' (n + s.size) (xs ++ Lib.strCells s) ∧ w.grownBy w' v.ownBlock ∧ (v'.ownBlock=v.ownBlock ∨ v'.ownBlock=some w.heap.size):=by
 obtain ⟨v',w',hr,h1,h2,h3⟩:=Lib.run_append_own_string (P:=P) w 0 t u ty e i ht hu hi hz hsize hby v n xs hown s (by simp only [maxLen]; omega) hb (Nat.zero_le _)
 refine ⟨v',w',hr,h1,h2,?_⟩
 rcases hown.2 with ⟨rfl,rfl⟩ | ⟨g,cap,cur,rfl,_,hg,hnc,hcm,hcs,htake⟩
 ·by_cases hm:s.size=0
  ·rw [h3.2 ⟨rfl,hm⟩]; exact .inl rfl
  ·have hr2:=run_append_nil_string (P:=P) w t u ty e i (.int .u8 0) ht hu hi hz s (by omega) (by omega) (by rw [hby]; omega)
   rw [hr] at hr2
   injection hr2 with e1 _
   rw [e1]; exact .inr rfl
 ·by_cases hroom:n + s.size ≤ cap
  ·have hcs':cur.size=cap:=by simpa using hcs
   have hr2:=Lib.run_append_room_string (P:=P) w t u ty e i ht hu hi hsize g n cap cur hg s hroom (by omega)
   rw [hr] at hr2
   injection hr2 with e1 _
   rw [e1]; exact .inl rfl
  ·have holds:∀ j u,xs[j]? = some u → w.cell? ((⟨g,0,none⟩:Addr).add j)=some u:=hown.cells (g:=g) rfl
   have hxl:xs.length=n:=by simpa using hown.1
   have hr2:=Lib.run_append_grow_string (P:=P) w t u ty e i (.int .u8 0) ht hu hi hz ⟨g,0,none⟩ n cap xs (by rw [hsize]; simpa using hxl) holds s (by omega) (by omega) (by rw [hby]; exact growslice_fits (by omega) (by omega))
   rw [hr] at hr2
   injection hr2 with e1 _
   rw [e1]; exact .inr rfl
variable {C:Cx} {type:TypeId} {objs:List OB} {tm:List AV} {K:List OB → AV → Prop}
def zcu (objs:List OB) (v:AV):Option (Nat × List AV) :=
 match v with
 | .row m ys => some (m,ys)
 | .nil => some (0,[])
 | .zn _ => some (0,[])
 | _ => none
theorem zg0 {G:Gh} {I:Imm} {v:AV} {m:Nat} {ys:List AV} {y:Value} (hs:zcu objs v=some (m,ys)) (h:Den G I v y):∃ a c us,y=.slice a m c ∧ zai G I ys us ∧ (∀ u ∈ us,u.oneCell'=true) ∧ ∀ (j:Nat) u,us[j]? = some u → ∃ g off,a=some ⟨g,off,none⟩ ∧ I g (off + j) u:=by
 cases v <;> simp only [zcu,reduceCtorEq,Option.some.injEq,Prod.mk.injEq] at hs
 ·obtain ⟨rfl,rfl⟩:=hs
  simp only [Den] at h
  obtain ⟨a,c,us,h1,_,h2,h3,h4⟩:=h
  exact ⟨a,c,us,h1,h2,h3,h4⟩
 ·obtain ⟨rfl,rfl⟩:=hs
  simp only [Den] at h
  obtain ⟨a,c,h1,_⟩:=h
  exact ⟨a,c,[],h1,zai.nil,by simp,by simp⟩
 ·obtain ⟨rfl,rfl⟩:=hs
  simp only [Den] at h
  exact ⟨none,0,[],h,zai.nil,by simp,by simp⟩
theorem ok_app (T ty:TypeId) (x y:Operand) (e:TypeId) (i:TypeInfo) (z:Value) (hu:P.underlying T=some (.slice e)) (hi:P.info? e=some i) (hz:i.zero=some z) (hzs:z.cells.size=i.size) (hsz:0 < i.size)
  (b gen n m:Nat) (xs ys:List AV) (hx:(zam x).ev tm=.orow b gen) (hb:objs[b]? = some (.orow e i.size gen n xs)) (hy:zcu objs ((zam y).ev tm)=some (m,ys)) (hm:ys.length=m * i.size) (hbytes:(n + m) * i.bytes ≤ 140737488355328) (hmax:n + m ≤ 140737488355328)
  (h:K (objs.set b (.orow e i.size (gen + 1) (n + m) (xs ++ ys))) (.orow b (gen + 1))):zaW P C (.call { callee:=.builtin .append,args:=#[x,y],argTypes:=#[T,T] }) ty objs tm K:=by
 intro G I a w hin hmem hd o next Q ho ht hn
 have e1:=zae hd x; rw [hx] at e1; simp only [Den] at e1
 obtain ⟨g',v,k1,k2,k3,_⟩:=e1
 obtain ⟨v',vs,m1,m2,m3,m4,m5⟩:=hmem.row b _ _ gen n xs hb
 rw [k1] at m1; injection m1 with m1; injection m1 with m1 m6
 have hv:=k3 m1.symm
 subst m1 m6
 obtain ⟨q,c,us,f1,f2,f3,f4⟩:=zg0 hy (zae hd y)
 have hl:=f2.length
 have hrun:∃ v' w',(Builtin.append_ #[T,T] o.type #[v,.slice q m c]).run P w=.ok v' w' ∧ w'.ownsRow 0 e i.size v' (n + m) (vs ++ us) ∧ w.grownBy w' v.ownBlock ∧ (v'.ownBlock=v.ownBlock ∨ v'.ownBlock=some w.heap.size):=by
  cases q with
  | none =>
   have hus:us=[]:=by
    cases us with
    | nil => rfl
    | cons u us => obtain ⟨g,off,e,_⟩:=f4 0 u rfl; cases e
   subst hus
   have hm0:m=0:=by
    rcases Nat.eq_zero_or_pos m with h0 | h0
    ·exact h0
    ·have:=Nat.mul_pos h0 hsz; simp at hl; rw [hl] at hm; simp at hm; omega
   subst hm0
   exact ⟨v,w,zci w 0 T _ e i i.size hu hi v n vs m2 c,by simpa using m2,World.grownBy.refl w _,.inl rfl⟩
  | some ad =>
   have hnews:∀ j u,us[j]? = some u → w.cell? (ad.add j)=some u:=by
    intro j u hj
    obtain ⟨g,off,e2,hI⟩:=f4 j u hj
    injection e2 with e2; subst e2
    rw [zax]; exact hmem.imm _ _ _ hI
   obtain ⟨v',w',r1,r2,r3,_,r5⟩:=run_append_own_at (P:=P) w 0 T o.type e i z i.size i.bytes hu hi hz rfl rfl hzs hsz v n vs m2 ad m c us (by omega) hnews f3 (by simp only [maxLen]; omega) hbytes (Nat.zero_le _)
   exact ⟨v',w',r1,r2,r3,r5⟩
 obtain ⟨v',w',r1,r2,r3,r4⟩:=hrun
 obtain ⟨G',s1,s2,s3,s4⟩:=zhq hin hmem b _ _ g' n (n + m) xs (xs ++ ys) v v' (vs ++ us) hb k1 r3 r2 (zai.append m3 f2) (by
  intro u hu; rcases List.mem_append.1 hu with hu | hu; exact m4 u hu; exact f3 u hu) r4
 refine zaT (y:=v') (w':=w') ?_ (hn _ _ _ _ _ _ h s1 (Imm.le.refl I) s2 s3 s4)
 unfold execOp; rw [ho]
 simp only [resolve,invoke,builtin,Sem.run_bind,Sem.run_pure,Result.andThen_ok,List.map_toArray,List.map_cons,List.map_nil,hv,f1]
 rw [r1]; rfl
theorem ok_appn (T ty:TypeId) (x y:Operand) (e:TypeId) (i:TypeInfo) (z:Value) (hu:P.underlying T=some (.slice e)) (hi:P.info? e=some i) (hz:i.zero=some z) (hzs:z.cells.size=i.size) (hsz:0 < i.size)
  (m:Nat) (ys:List AV) (hx:(zam x).ev tm=.nil) (hy:zcu objs ((zam y).ev tm)=some (m,ys)) (hm:ys.length=m * i.size) (hbytes:m * i.bytes ≤ 140737488355328) (hmax:m ≤ 140737488355328)
  (h:K (objs ++ [.orow e i.size 0 m ys]) (.orow objs.length 0)):zaW P C (.call { callee:=.builtin .append,args:=#[x,y],argTypes:=#[T,T] }) ty objs tm K:=by
 intro G I a w hin hmem hd o next Q ho ht hn
 have hv:=zae hd x; rw [hx] at hv; simp only [Den] at hv
 have m2:w.ownsRow 0 e i.size (.slice none 0 0) 0 []:=World.ownsRow_nil w 0 e _
 obtain ⟨q,c,us,f1,f2,f3,f4⟩:=zg0 hy (zae hd y)
 have hl:=f2.length
 have hrun:∃ v' w',(Builtin.append_ #[T,T] o.type #[.slice none 0 0,.slice q m c]).run P w=.ok v' w' ∧ w'.ownsRow 0 e i.size v' m us ∧ w.grownBy w' none ∧ (v'.ownBlock=none ∨ v'.ownBlock=some w.heap.size):=by
  cases q with
  | none =>
   have hus:us=[]:=by
    cases us with
    | nil => rfl
    | cons u us => obtain ⟨g,off,e,_⟩:=f4 0 u rfl; cases e
   subst hus
   have hm0:m=0:=by
    rcases Nat.eq_zero_or_pos m with h0 | h0
    ·exact h0
    ·have:=Nat.mul_pos h0 hsz; simp at hl; rw [hl] at hm; simp at hm; omega
   subst hm0
   exact ⟨_,w,zci w 0 T _ e i i.size hu hi _ 0 [] m2 c,m2,World.grownBy.refl w _,.inl rfl⟩
  | some ad =>
   have hnews:∀ j u,us[j]? = some u → w.cell? (ad.add j)=some u:=by
    intro j u hj
    obtain ⟨g,off,e2,hI⟩:=f4 j u hj
    injection e2 with e2; subst e2
    rw [zax]; exact hmem.imm _ _ _ hI
   obtain ⟨v',w',r1,r2,r3,_,r5⟩:=run_append_own_at (P:=P) w 0 T o.type e i z i.size i.bytes hu hi hz rfl rfl hzs hsz (.slice none 0 0) 0 [] m2 ad m c us (by omega) hnews f3 (by simp only [maxLen]; omega) (by simpa using hbytes) (Nat.zero_le _)
   exact ⟨v',w',r1,by simpa using r2,r3,r5⟩
 obtain ⟨v',w',r1,r2,r3,r4⟩:=hrun
 obtain ⟨G',s1,s2,s3,s4⟩:=ze9 hin hmem r3 e i.size m ys v' us r2 f2 f3 (by
  intro k hk
  rcases r4 with r4 | r4
  ·rw [r4] at hk; cases hk
  ·rw [r4] at hk; injection hk with hk; omega)
 refine zaT (y:=v') (w':=w') ?_ (hn _ _ _ _ _ _ h s1 (Imm.le.refl I) s2 s3 s4)
 unfold execOp; rw [ho]
 simp only [resolve,invoke,builtin,Sem.run_bind,Sem.run_pure,Result.andThen_ok,List.map_toArray,List.map_cons,List.map_nil,hv,f1]
 rw [r1]; rfl
theorem ok_capp (T ty:TypeId) (x y:Operand) (e:TypeId) (i:TypeInfo) (z:Value) (hu:P.underlying T=some (.slice e)) (hi:P.info? e=some i) (hz:i.zero=some z) (hsz:0 < i.size)
  (n m:Nat) (xs ys:List AV) (hx:(zam x).ev tm=.crow n xs) (hy:zcu objs ((zam y).ev tm)=some (m,ys)) (hm:ys.length=m * i.size) (hxl:xs.length=n * i.size) (h0:0 < m) (hbytes:(n + m) * i.bytes ≤ 140737488355328) (hmax:n + m ≤ 140737488355328)
  (h:K objs (.row (n + m) (xs ++ ys))):zaW P C (.call { callee:=.builtin .append,args:=#[x,y],argTypes:=#[T,T] }) ty objs tm K:=by
 intro G I a w hin hmem hd o next Q ho ht hn
 have e1:=zae hd x; rw [hx] at e1; simp only [Den] at e1
 obtain ⟨q0,vs,v1,v2,v3,v4,v5⟩:=e1
 obtain ⟨q,c,us,f1,f2,f3,f4⟩:=zg0 hy (zae hd y)
 have hl:=f2.length
 have hvl:=v3.length
 have hpos:0 < us.length:=by rw [← hl,hm]; exact Nat.mul_pos h0 hsz
 obtain ⟨ad,rfl⟩:∃ ad,q=some ad:=by
  obtain ⟨g,off,e,_⟩:=f4 0 us[0] (List.getElem?_eq_getElem hpos)
  exact ⟨_,e⟩
 have hnews:∀ j u,us[j]? = some u → w.cell? (ad.add j)=some u:=by
  intro j u hj
  obtain ⟨g,off,e2,hI⟩:=f4 j u hj
  injection e2 with e2; subst e2
  rw [zax]; exact hmem.imm _ _ _ hI
 have h63:n + m ≤ 9223372036854775807:=by omega
 have hrun:∃ c' cells,(Builtin.append_ #[T,T] o.type #[.slice q0 n n,.slice (some ad) m c]).run P w=.ok (.slice (some ⟨w.heap.size,0,none⟩) (n + m) c') (w.drew.alloc (.cells cells e)) ∧ n + m ≤ c' ∧ ∀ (j:Nat) (u:Value),(vs ++ us)[j]? = some u → cells[j]? = some u:=by
  cases q0 with
  | none =>
   have hvs:vs=[]:=by
    cases vs with
    | nil => rfl
    | cons u us => obtain ⟨g,off,e,_⟩:=v5 0 u rfl; cases e
   subst hvs
   have hn0:n=0:=by
    rcases Nat.eq_zero_or_pos n with h1 | h1
    ·exact h1
    ·have:=Nat.mul_pos h1 hsz; simp at hvl; rw [hvl] at hxl; simp at hxl; omega
   subst hn0
   have hr:=run_append_nil (P:=P) w T o.type e i z hu hi hz ad m c us (by omega) hnews h0 (by omega) (by have hb:=hbytes; simp only [Nat.zero_add] at hb; omega)
   refine ⟨_,_,by rw [Nat.zero_add]; exact hr,by rw [Nat.zero_add]; exact grownCap_ge w m 0 e,fun j u hj => ?_⟩
   rw [List.nil_append] at hj
   rw [Array.getElem?_append_left (by have:=(List.getElem?_eq_some_iff.1 hj).1; simpa using this)]
   simpa using hj
  | some b =>
   have holds:∀ j v,vs[j]? = some v → w.cell? (b.add j)=some v:=by
    intro j u hj
    obtain ⟨g,off,e2,hI⟩:=v5 j u hj
    injection e2 with e2; subst e2
    rw [zax]; exact hmem.imm _ _ _ hI
   have hr:=run_append_grow (P:=P) w T o.type e i z hu hi hz b n n vs (by omega) holds ad m c us (by omega) hnews (by omega) (by omega) (growslice_fits (by omega) hbytes)
   refine ⟨_,_,hr,grownCap_ge w (n + m) n e,fun j u hj => ?_⟩
   rw [Array.getElem?_append_left (by have:=(List.getElem?_eq_some_iff.1 hj).1; simpa using this)]
   simpa using hj
 obtain ⟨c',cells,r1,r2,r3⟩:=hrun
 obtain ⟨I',s1,s2,s3,s4⟩:=zk6 hin hmem (w':=w.drew.alloc (.cells cells e)) ⟨rfl,rfl,rfl,by simp,fun k hk _ => heap_alloc_old w.drew _ hk⟩ w.heap.size (n + m) c' (xs ++ ys) (vs ++ us) (Nat.le_refl _) r2 (zai.append v3 f2) (by
  intro u hu; rcases List.mem_append.1 hu with hu | hu; exact v4 u hu; exact f3 u hu) (fun j u hj => by
  have h9:(w.drew.alloc (.cells cells e)).cell? ⟨w.heap.size,j,none⟩=_:=World.cell?_alloc_new w.drew cells e j
  rw [h9]; exact r3 j u hj)
 refine zaT (y:=.slice (some ⟨w.heap.size,0,none⟩) (n + m) c') (w':=w.drew.alloc (.cells cells e)) ?_ (hn _ _ _ _ _ _ h (Gh.le.refl G) s1 s2 s3 s4)
 unfold execOp; rw [ho]
 simp only [resolve,invoke,builtin,Sem.run_bind,Sem.run_pure,Result.andThen_ok,List.map_toArray,List.map_cons,List.map_nil,v1,f1]
 rw [r1]; rfl
theorem ok_apps (T U ty:TypeId) (x y:Operand) (e:TypeId) (i:TypeInfo) (hu:P.underlying T=some (.slice e)) (hus:P.underlying U=some .string) (hi:P.info? e=some i) (hz:i.zero=some (.int .u8 0)) (hsize:i.size=1) (hby:i.bytes=1)
  (b gen n:Nat) (xs:List AV) (l:List UInt8) (hx:(zam x).ev tm=.orow b gen) (hb:objs[b]? = some (.orow e 1 gen n xs)) (hy:(zam y).ev tm=.s l) (hbytes:n + l.length ≤ 140737488355328)
  (h:K (objs.set b (.orow e 1 (gen + 1) (n + l.length) (xs ++ byA l))) (.orow b (gen + 1))):zaW P C (.call { callee:=.builtin .append,args:=#[x,y],argTypes:=#[T,U] }) ty objs tm K:=by
 intro G I a w hin hmem hd o next Q ho ht hn
 have e1:=zae hd x; rw [hx] at e1; simp only [Den] at e1
 obtain ⟨g',v,k1,k2,k3,_⟩:=e1
 obtain ⟨v',vs,m1,m2,m3,m4,m5⟩:=hmem.row b _ _ gen n xs hb
 rw [k1] at m1; injection m1 with m1; injection m1 with m1 m6
 have hv:=k3 m1.symm
 subst m1 m6
 have e2:=zae hd y; rw [hy] at e2; simp only [Den] at e2
 obtain ⟨v',w',r1,r2,r3,r4⟩:=zch (P:=P) w T U o.type e i hu hus hi hz hsize hby v n vs m2 ⟨l.toArray⟩ (by rw [zf8]; exact hbytes)
 rw [zf8,zdj] at r2
 obtain ⟨G',s1,s2,s3,s4⟩:=zhq hin hmem b _ _ g' n (n + l.length) xs (xs ++ byA l) v v' _ hb k1 r3 r2 (zai.append m3 (zf4 G I l)) (by
  intro u hu; rcases List.mem_append.1 hu with hu | hu; exact m4 u hu; exact zk9 l u hu) r4
 refine zaT (y:=v') (w':=w') ?_ (hn _ _ _ _ _ _ h s1 (Imm.le.refl I) s2 s3 s4)
 unfold execOp; rw [ho]
 simp only [resolve,invoke,builtin,Sem.run_bind,Sem.run_pure,Result.andThen_ok,List.map_toArray,List.map_cons,List.map_nil,hv,e2]
 rw [r1]; rfl
theorem ok_appsn (T U ty:TypeId) (x y:Operand) (e:TypeId) (i:TypeInfo) (hu:P.underlying T=some (.slice e)) (hus:P.underlying U=some .string) (hi:P.info? e=some i) (hz:i.zero=some (.int .u8 0)) (hsize:i.size=1) (hby:i.bytes=1)
  (l:List UInt8) (hx:(zam x).ev tm=.nil) (hy:(zam y).ev tm=.s l) (hbytes:l.length ≤ 140737488355328)
  (h:K (objs ++ [.orow e 1 0 l.length (byA l)]) (.orow objs.length 0)):zaW P C (.call { callee:=.builtin .append,args:=#[x,y],argTypes:=#[T,U] }) ty objs tm K:=by
 intro G I a w hin hmem hd o next Q ho ht hn
 have hv:=zae hd x; rw [hx] at hv; simp only [Den] at hv
 have e2:=zae hd y; rw [hy] at e2; simp only [Den] at e2
 obtain ⟨v',w',r1,r2,r3,r4⟩:=zch (P:=P) w T U o.type e i hu hus hi hz hsize hby (.slice none 0 0) 0 [] (World.ownsRow_nil w 0 e _) ⟨l.toArray⟩ (by rw [zf8]; omega)
 rw [zf8,zdj,Nat.zero_add,List.nil_append] at r2
 obtain ⟨G',s1,s2,s3,s4⟩:=ze9 hin hmem r3 e 1 l.length (byA l) v' _ r2 (zf4 G I l) (zk9 l) (by
  intro k hk
  rcases r4 with r4 | r4
  ·rw [r4] at hk; cases hk
  ·rw [r4] at hk; injection hk with hk; omega)
 refine zaT (y:=v') (w':=w') ?_ (hn _ _ _ _ _ _ h s1 (Imm.le.refl I) s2 s3 s4)
 unfold execOp; rw [ho]
 simp only [resolve,invoke,builtin,Sem.run_bind,Sem.run_pure,Result.andThen_ok,List.map_toArray,List.map_cons,List.map_nil,hv,e2]
 rw [r1]; rfl
theorem ok_mks (T:TypeId) (x y:Operand) (e:TypeId) (i:TypeInfo) (z:Value) (hu:P.underlying T=some (.slice e)) (hi:P.info? e=some i) (hz:i.zero=some z) (kl kc:IntKind) (c:Int)
  (hx:(zam x).ev tm=.i kl 0) (hy:(zam y).ev tm=.i kc c) (h0:0 ≤ c) (hbytes:(i.bytes:Int) * c ≤ 281474976710656) (hmax:c ≤ 140737488355328)
  (h:K (objs ++ [.orow e i.size 0 0 []]) (.orow objs.length 0)):zaW P C (.makeSlice T x y) type objs tm K:=by
 intro G I a w hin hmem hd o next Q ho ht hn
 have e1:=zae hd x; rw [hx] at e1; simp only [Den] at e1
 have e2:=zae hd y; rw [hy] at e2; simp only [Den] at e2
 have hc:((c.toNat:Nat):Int)=c:=Int.toNat_of_nonneg h0
 have hb:i.bytes * c.toNat ≤ 281474976710656:=by
  have:((i.bytes * c.toNat:Nat):Int) ≤ 281474976710656:=by rw [Int.natCast_mul,hc]; exact hbytes
  omega
 obtain ⟨w',r1,r2,r3⟩:=run_make_own (P:=P) w 0 T e i z i.size hu hi hz rfl kl kc c.toNat hb (by simp only [maxLen]; omega) (Nat.zero_le _)
 rw [hc] at r1
 obtain ⟨G',s1,s2,s3,s4⟩:=ze9 hin hmem r3 e i.size 0 [] _ [] r2 zai.nil (by simp) (by
  intro k hk
  have:w.heap.size=k:=by simpa [Value.ownBlock] using hk
  omega)
 refine zaT (w':=w') ?_ (hn _ _ _ _ _ _ h s1 (Imm.le.refl I) s2 s3 s4)
 unfold execOp; rw [ho]
 simp [e1,e2,r1]
theorem ok_mkz (T:TypeId) (x y:Operand) (e:TypeId) (i:TypeInfo) (kd:IntKind) (z:Int) (hu:P.underlying T=some (.slice e)) (hi:P.info? e=some i) (hz:i.zero=some (.int kd z)) (hs:i.size=1) (kl:IntKind) (c:Int)
  (hx:(zam x).ev tm=.i kl c) (hy:(zam y).ev tm=.i kl c) (h0:0 ≤ c) (hbytes:(i.bytes:Int) * c ≤ 281474976710656) (hmax:c ≤ 140737488355328)
  (h:K (objs ++ [.orow e 1 0 c.toNat (List.replicate c.toNat (.i kd z))]) (.orow objs.length 0)):zaW P C (.makeSlice T x y) type objs tm K:=by
 intro G I a w hin hmem hd o next Q ho ht hn
 have e1:=zae hd x; rw [hx] at e1; simp only [Den] at e1
 have e2:=zae hd y; rw [hy] at e2; simp only [Den] at e2
 have hc:((c.toNat:Nat):Int)=c:=Int.toNat_of_nonneg h0
 have hb:i.bytes * c.toNat ≤ 281474976710656:=by
  have:((i.bytes * c.toNat:Nat):Int) ≤ 281474976710656:=by rw [Int.natCast_mul,hc]; exact hbytes
  omega
 have r1:=run_make_row (P:=P) T e i (.int kd z) hu hi hz hs rfl kl kl c.toNat hb (by omega) w
 rw [hc] at r1
 have hrow:=World.rowIs_made w (.int kd z) c.toNat e
 have r2:(w.alloc (.cells (madeCells #[Value.int kd z] c.toNat) e)).ownsRow 0 e 1 (.slice (some ⟨w.heap.size,0,none⟩) c.toNat c.toNat) c.toNat (List.replicate c.toNat (Value.int kd z)):=by
  refine ⟨by rw [List.length_replicate,Nat.mul_one],.inr ⟨w.heap.size,c.toNat,madeCells #[Value.int kd z] c.toNat,rfl,Nat.zero_le _,Go.Deep.blk_alloc_new _ _,Nat.le_refl _,by simp only [maxLen]; omega,by rw [size_madeCells,Nat.mul_one],?_⟩⟩
  rw [Nat.mul_one]
  apply List.ext_getElem
  ·rw [List.length_take,List.length_replicate,Array.length_toList,size_madeCells]; omega
  ·intro j h1 h2
   rw [List.getElem_take,List.getElem_replicate]
   simp [madeCells,Nat.mod_one]
 have hd2:∀ n:Nat,zai G I (List.replicate n (.i kd z)) (List.replicate n (Value.int kd z)):=by
  intro n
  induction n with
  | zero => exact zai.nil
  | succ n ih => rw [List.replicate_succ,List.replicate_succ]; exact zai.cons (by simp [Den]) ih
 obtain ⟨G',s1,s2,s3,s4⟩:=ze9 hin hmem (World.grownBy_alloc w (.cells (madeCells #[Value.int kd z] c.toNat) e) none) e 1 c.toNat (List.replicate c.toNat (.i kd z)) _ _ r2 (hd2 _) (by intro u hu; rw [(List.mem_replicate.1 hu).2]; rfl) (by
  intro k hk
  have:w.heap.size=k:=by simpa [Value.ownBlock] using hk
  omega)
 refine zaT (w':=w.alloc (.cells (madeCells #[Value.int kd z] c.toNat) e)) ?_ (hn _ _ _ _ _ _ h s1 (Imm.le.refl I) s2 s3 s4)
 unfold execOp; rw [ho]
 simp [e1,e2,r1]
theorem zfN (src dst:TypeId) (x:Operand) (e:TypeId) (l:List UInt8) (hs:P.underlying src=some (.slice e)) (he:P.underlying e=some (.int .u8)) (hu:P.underlying dst=some .string)
  (hx:(∃ b gen E n,(zam x).ev tm=.orow b gen ∧ objs[b]? = some (.orow E 1 gen n (byA l))) ∨ (∃ n,(zam x).ev tm=.row n (byA l) ∧ n=l.length) ∨ ((zam x).ev tm=.nil ∧ l=[]) ∨ (∃ b off n T cs,(zam x).ev tm=.bsl b off n ∧ objs[b]? = some (.box T cs) ∧ (cs.drop off).take n=byA l ∧ l.length=n)) (h:K objs (.s l)):zaW P C (.convert src dst x) type objs tm K :=
 zag _ h fun G I a w hm hd o ho ht => by
  have e1:=zae hd x
  refine ⟨.string ⟨l.toArray⟩,?_,by simp [Den]⟩
  have key:(∃ c,a.eval x=.slice none l.length c ∧ l=[]) ∨ (∃ (ad:Addr) (c:Nat),a.eval x=.slice (some ad) l.length c ∧ ∀ j (hj:j < l.length),w.cell? (ad.add j)=some (.int .u8 (l[j].toNat:Int))):=by
   rcases hx with ⟨b,gen,E,n,hx,hb⟩ | ⟨n,hx,rfl⟩ | ⟨hx,rfl⟩ | ⟨b,off,n,T,cs,hx,hb,hcs,hln⟩
   ·rw [hx] at e1; simp only [Den] at e1
    obtain ⟨g',v,k1,k2,k3,_⟩:=e1
    obtain ⟨v',vs,m1,m2,m3,m4,m5⟩:=hm.row b _ _ gen n _ hb
    rw [k1] at m1; injection m1 with m1; injection m1 with m1 m6
    have hv:=k3 m1.symm
    subst m1 m6
    have hvs:=zb6 m3
    have hn:n=l.length:=by
     have:=m2.1
     rw [hvs] at this; simpa using this.symm
    subst hn
    rcases m2.2 with ⟨rfl,h0⟩ | ⟨g,cap,cur,rfl,_,hg,hnc,hcm,hcs,htake⟩
    ·have:l=[]:=List.eq_nil_of_length_eq_zero h0
     subst this
     exact .inl ⟨0,hv,rfl⟩
    ·refine .inr ⟨⟨g,0,none⟩,cap,hv,fun j hj => ?_⟩
     have:=m2.cells (g:=g) rfl j (.int .u8 (l[j].toNat:Int)) (by rw [hvs]; simp [hj])
     exact this
   ·rw [hx] at e1; simp only [Den] at e1
    obtain ⟨q,c,ys,h1,h2,h3,h4,h5⟩:=e1
    have hys:=zb6 h3
    cases l with
    | nil =>
     cases q with
     | none => exact .inl ⟨c,by simpa using h1,rfl⟩
     | some ad => exact .inr ⟨ad,c,by simpa using h1,by simp⟩
    | cons d l =>
     obtain ⟨g,off,e2,_⟩:=h5 0 (.int .u8 (d.toNat:Int)) (by rw [hys]; rfl)
     subst e2
     refine .inr ⟨⟨g,off,none⟩,c,h1,fun j hj => ?_⟩
     obtain ⟨g',off',e2,hI⟩:=h5 j (.int .u8 ((d :: l)[j].toNat:Int)) (by rw [hys]; rw [List.getElem?_map,List.getElem?_eq_getElem hj]; rfl)
     injection e2 with e2; injection e2 with e3 e4; subst e3 e4
     rw [zax]
     exact hm.imm _ _ _ hI
   ·rw [hx] at e1; simp only [Den] at e1
    exact .inl ⟨0,e1,rfl⟩
   ·rw [hx] at e1; simp only [Den] at e1
    obtain ⟨g,c,k1,k2,k3⟩:=e1
    obtain ⟨g',ys,m1,m2,m3,m4⟩:=hm.box b T cs hb
    obtain rfl:g=g':=Option.some.inj (k1.symm.trans m1)
    subst hln
    refine .inr ⟨⟨g,off,none⟩,c,k2,fun j hj => ?_⟩
    have hys:=zb6 (hcs ▸ zai.take l.length (zai.drop off m3))
    have h6:((ys.drop off).take l.length)[j]? = some (.int .u8 (l[j].toNat:Int)):=by rw [hys]; simp [hj]
    rw [List.getElem?_take,if_pos hj,List.getElem?_drop] at h6
    rw [zax,cell_of_row w g (off + j) _ T (0,0) m2]
    simpa using h6
  unfold execOp; rw [ho]
  rcases key with ⟨c,hv,rfl⟩ | ⟨ad,c,hv,hc⟩
  ·simp [hv,run_convert_bytes_nil w src e hs he _ _ dst hu]; rfl
  ·have:=run_convert_bytes_back (P:=P) w src dst e ad c l hs he hu (fun j hj => hc j hj)
   simp [hv,this]
theorem ok_trno (T:TypeId) (x hi':Operand) (e:TypeId) (i:TypeInfo) (hu:P.underlying T=some (.slice e)) (hi:P.info? e=some i) (b gen n E:Nat) (xs:List AV) (k:IntKind) (j:Int) (hx:(zam x).ev tm=.orow b gen) (hb:objs[b]? = some (.orow E i.size gen n xs)) (hj:(zam hi').ev tm=.i k j) (h0:0 ≤ j) (h1:j ≤ n)
  (h:K (objs.set b (.orow E i.size (gen + 1) j.toNat (xs.take (j.toNat * i.size)))) (.orow b (gen + 1))):zaW P C (.slice T x none (some hi') none) type objs tm K:=by
 intro G I a w hin hmem hd o next Q ho ht hn
 have e1:=zae hd x; rw [hx] at e1; simp only [Den] at e1
 have e2:=zae hd hi'; rw [hj] at e2; simp only [Den] at e2
 obtain ⟨g',v,k1,k2,k3,_⟩:=e1
 obtain ⟨v',vs,m1,m2,m3,m4,m5⟩:=hmem.row b _ _ gen n xs hb
 rw [k1] at m1; injection m1 with m1; injection m1 with m1 m6
 have hv:=k3 m1.symm
 subst m1 m6
 have hjn:j.toNat ≤ n:=by omega
 have hjs:j.toNat * i.size ≤ n * i.size:=Nat.mul_le_mul_right _ hjn
 have hvl:=m2.1
 have hrun:∃ v',(Instr.sliceAt T v none (some (.int k j)) none).run P w=.ok v' w ∧ w.ownsRow 0 E i.size v' j.toNat (vs.take (j.toNat * i.size)) ∧ v'.ownBlock=v.ownBlock:=by
  rcases m2.2 with ⟨rfl,hn0⟩ | ⟨g,cap,cur,rfl,q3,q4,q5,q6,q7,q8⟩
  ·obtain rfl:j=0:=by omega
   have q1:=run_sliceBound (P:=P) w k 0 0 .sliceAcap (by omega) (by omega)
   refine ⟨.slice none 0 0,by simp [Instr.sliceAt,Instr.slice,run_underlying hu,Instr.sliceBounds,q1,sizeOf,typeInfo,hi],?_,rfl⟩
   simpa using World.ownsRow_nil w 0 E i.size
  ·have q1:=run_sliceBound (P:=P) w k j cap .sliceAcap h0 (by omega)
   refine ⟨.slice (some ⟨g,0,none⟩) j.toNat cap,?_,⟨by rw [List.length_take]; omega,.inr ⟨g,cap,cur,rfl,q3,q4,by omega,q6,q7,?_⟩⟩,rfl⟩
   ·simp [Instr.sliceAt,Instr.slice,run_underlying hu,Instr.sliceBounds,q1,sizeOf,typeInfo,hi,zax]
   ·rw [← q8,List.take_take,Nat.min_eq_left hjs]
 obtain ⟨v',r1,r2,r4⟩:=hrun
 obtain ⟨G',s1,s2,s3,s4⟩:=zhq hin hmem b _ _ g' n j.toNat xs (xs.take (j.toNat * i.size)) v v' _ hb k1 (World.grownBy.refl w _) r2 (zai.take _ m3) (fun u hu => m4 u (List.mem_of_mem_take hu)) (.inl r4)
 refine zaT (y:=v') (w':=w) ?_ (hn _ _ _ _ _ _ h s1 (Imm.le.refl I) s2 s3 s4)
 unfold execOp; rw [ho]
 simp [e2,hv,r1]
end
theorem zdY:∀ (vs:List Value) (k off:Nat) (A:Array Value),off + k + vs.length ≤ A.size →
  ((vs.zipIdx k).foldl (fun cs p => cs.setIfInBounds (off + p.2) p.1) A).toList=zaS A.toList (off + k) vs
 | [],k,off,A,h => by simp [zaS]
 | v :: vs,k,off,A,h => by
  simp only [List.length_cons] at h
  rw [List.zipIdx_cons,List.foldl_cons,zdY vs (k + 1) off _ (by simp; omega)]
  simp only [Array.toList_setIfInBounds,zaS,List.length_cons]
  have e1:(A.toList.set (off + k) v).take (off + (k + 1))=A.toList.take (off + k) ++ [v]:=by
   rw [show off + (k + 1)=(off + k) + 1 by omega,List.take_succ_eq_append_getElem (by simp; omega),List.getElem_set_self,List.take_set_of_le (Nat.le_refl _)]
  have e2:(A.toList.set (off + k) v).drop (off + (k + 1) + vs.length)=A.toList.drop (off + k + (vs.length + 1)):=by
   rw [List.drop_set_of_lt (by omega),show off + (k + 1) + vs.length=off + k + (vs.length + 1) by omega]
  rw [e1,e2]; simp
def zcp:List AV → List (Nat × Nat × AV) → Option (List AV)
 | cs,[] => some cs
 | cs,(o,sz,v) :: r => if v.flat=true ∧ v.cells.length=sz ∧ o + sz ≤ cs.length then zcp (zaS cs o v.cells) r else none
theorem zfW {G:Gh} {I:Imm} {a:Act} {tm:List AV} (hd:zai G I tm a.tmps.toList) (place:Nat → Option (Nat × Nat)):∀ (parts:List (Nat × Operand)) (ps:List (Nat × Nat × SV)) (cs cs':List AV) (ys:Array Value),
  parts.mapM (fun p => (place p.1).map fun q => (q.1,q.2,zam p.2))=some ps → zcp cs (ps.map fun p => (p.1,p.2.1,p.2.2.ev tm))=some cs' → zai G I cs ys.toList → (∀ u ∈ ys.toList,u.oneCell'=true) →
  ∃ ys',Instr.fill place ys (parts.map fun p => (p.1,a.eval p.2))=some ys' ∧ zai G I cs' ys'.toList ∧ ∀ u ∈ ys'.toList,u.oneCell'=true
 | [],ps,cs,cs',ys,hp,hf,h1,h2 => by
  simp at hp; subst hp
  simp only [List.map_nil,zcp,Option.some.injEq] at hf
  subst hf
  exact ⟨ys,rfl,h1,h2⟩
 | (i,x) :: parts,ps,cs,cs',ys,hp,hf,h1,h2 => by
  simp only [List.mapM_cons,Option.bind_eq_bind,Option.pure_def] at hp
  cases hpl:place i with
  | none => simp [hpl] at hp
  | some q =>
   obtain ⟨off,sz⟩:=q
   cases hr:parts.mapM (fun p => (place p.1).map fun q => (q.1,q.2,zam p.2)) with
   | none => simp [hpl,hr] at hp
   | some rest =>
    simp [hpl,hr] at hp
    subst hp
    simp only [List.map_cons,zcp] at hf
    split at hf
    ·rename_i hc
     obtain ⟨c1,c2,c3⟩:=hc
     obtain ⟨d1,d2⟩:=zdt (zae hd x) c1
     have l1:=d1.length
     have l2:=h1.length
     have hl:off + 0 + (a.eval x).cells.toList.length ≤ ys.size:=by rw [← l1,c2]; simp at l2; omega
     have hs:=zdY (a.eval x).cells.toList 0 off ys hl
     have hsz:(a.eval x).cells.size=sz:=by rw [← c2,l1]; simp
     have hfold:(a.eval x).cells.zipIdx.foldl (fun cs (p:Value × Nat) => cs.setIfInBounds (off + p.2) p.1) ys=((a.eval x).cells.toList.zipIdx 0).foldl (fun cs p => cs.setIfInBounds (off + p.2) p.1) ys:=by
      rw [← Array.foldl_toList]; simp
     simp only [Nat.add_zero] at hs
     obtain ⟨ys',r1,r2,r3⟩:=zfW hd place parts rest _ cs' (((a.eval x).cells.toList.zipIdx 0).foldl (fun cs p => cs.setIfInBounds (off + p.2) p.1) ys) hr hf (by
      rw [hs]; unfold zaS; rw [l1]
      exact zai.append (zai.append (zai.take _ h1) d1) (zai.drop _ h1)) (by
      rw [hs]; intro u hu
      rcases List.mem_append.1 hu with hu | hu
      ·rcases List.mem_append.1 hu with hu | hu
       ·exact h2 u (List.mem_of_mem_take hu)
       ·exact d2 u hu
      ·exact h2 u (List.mem_of_mem_drop hu))
     refine ⟨ys',?_,r2,r3⟩
     simp only [List.map_cons,Instr.fill,hpl]
     rw [if_neg (by simp [hsz]; simp at l2 hl; omega)]
     rw [← r1,← hfold]
    ·cases hf
section
variable {P:Program} {C:Cx} {type:TypeId} {objs:List OB} {tm:List AV} {K:List OB → AV → Prop}
def zfL (P:Program) (t:TypeId):Option (Nat → Option (Nat × Nat)) :=
 match P.underlying t with
 | some (.array _ e) => (P.info? e).map fun ie i => some (i * ie.size,ie.size)
 | some (.struct fields) => (fields.toList.mapM (fun f => (P.info? f.type).map fun i => (f.offset,i.size))).map fun places => (places.toArray[·]?)
 | _ => none
theorem ok_build (t:TypeId) (parts:Array (Nat × Operand)) (it:TypeInfo) (z:Value) (hi:P.info? t=some it) (hz:it.zero=some z) (h1:(z.cells.toList.all (·.oneCell'))=true) (place:Nat → Option (Nat × Nat)) (hpl:zfL P t=some place)
  (ps:List (Nat × Nat × SV)) (hps:parts.toList.mapM (fun p => (place p.1).map fun q => (q.1,q.2,zam p.2))=some ps) (cs:List AV) (hf:zcp (z.cells.toList.map zi0) (ps.map fun p => (p.1,p.2.1,p.2.2.ev tm))=some cs)
  (h:K objs (.agg cs)):zaW P C (.build t parts) type objs tm K :=
 zag _ h fun G I a w hm hd o ho ht => by
  obtain ⟨ys',r1,r2,r3⟩:=zfW hd place parts.toList ps _ cs z.cells hps hf (zcI G I _) (fun u hu => (List.all_eq_true.1 h1) u hu)
  have hb:P.built t (parts.map fun (i,x) => (i,a.eval x)).toList=some ys':=by
   have e:(parts.map fun (i,x) => (i,a.eval x)).toList=parts.toList.map fun p => (p.1,a.eval p.2):=by simp
   rw [e]
   unfold Program.built
   unfold zfL at hpl
   cases hu:P.underlying t with
   | none => rw [hu] at hpl; cases hpl
   | some d =>
    rw [hu] at hpl
    cases d <;> simp only [reduceCtorEq] at hpl
    ·rename_i n e
     cases hie:P.info? e with
     | none => rw [hie] at hpl; cases hpl
     | some ie =>
      rw [hie] at hpl
      simp at hpl; subst hpl
      simp only [hi,hz,hie]; exact r1
    ·rename_i fields
     cases hp:fields.toList.mapM (fun f => (P.info? f.type).map fun i => (f.offset,i.size)) with
     | none => rw [hp] at hpl; cases hpl
     | some places =>
      rw [hp] at hpl
      simp only [Option.map_some,Option.some.injEq] at hpl; subst hpl
      simp only [hi,hz,hp]; exact r1
  refine ⟨.agg ys',?_,by simp only [Den]; exact ⟨ys'.toList,by simp,r2,r3⟩⟩
  unfold execOp; rw [ho]
  simp only [Sem.run_bind,run_build w t _ ys' hb,Result.andThen_ok]; rfl
inductive ET where
 | tb
 | ts
 | ti
 | str (fs:List (Nat × Option Nat × ET))
mutual
def eqA:ET → AV → AV → Option Bool
 | .ts,.s l,.s m => some (decide (l=m))
 | .ti,.i k x,.i k' y => if k=k' then some (decide (x=y)) else none
 | .tb,.b x,.b y => some (x == y)
 | .str fs,.agg xs,.agg ys => ziF fs xs ys
 | _,_,_ => none
def ziF:List (Nat × Option Nat × ET) → List AV → List AV → Option Bool
 | [],_,_ => some true
 | (o,none,e) :: fs,xs,ys =>
  match xs[o]?,ys[o]? with
  | some x,some y => match eqA e x y,ziF fs xs ys with
   | some p,some q => some (p && q)
   | _,_ => none
  | _,_ => none
 | (o,some n,e) :: fs,xs,ys =>
  match eqA e (.agg ((xs.drop o).take n)) (.agg ((ys.drop o).take n)),ziF fs xs ys with
  | some p,some q => some (p && q)
  | _,_ => none
end
def trEs (P:Program) (rc:TypeId → Option ET):List Field → Option (List (Nat × Option Nat × ET))
 | [] => some []
 | f :: fs => match P.underlying f.type,P.info? f.type,rc f.type,trEs P rc fs with
  | some u, some i, some e, some r => if f.name = "_" then none else some ((f.offset, if u.isRow = true then some i.size else none, e) :: r)
  | _,_,_,_ => none
def trE (P:Program):Nat → TypeId → Option ET
 | 0,_ => none
 | d + 1,t => match P.underlying t with
  | some .bool => some .tb
  | some .string => some .ts
  | some (.int _) => some .ti
  | some (.struct fs) => if P.stoodInHeld t=false then (trEs P (trE P d) fs.toList).map .str else none
  | _ => none
end
theorem zh7 {P:Program} {G:Gh} {I:Imm} (w:World) (f:Field) (u:TypeDesc) (i:TypeInfo) (hu:P.underlying f.type=some u) (hi:P.info? f.type=some i) {xs:List AV} {ys:List Value} (hd:zai G I xs ys) (h1:∀ u ∈ ys,u.oneCell'=true) :
  (u.isRow=true → ∃ y,(part f.type ys.toArray f.offset).run P w=.ok y w ∧ Den G I (.agg ((xs.drop f.offset).take i.size)) y) ∧
  (u.isRow=false → ∀ x,xs[f.offset]? = some x → ∃ y,(part f.type ys.toArray f.offset).run P w=.ok y w ∧ Den G I x y):=by
 refine ⟨fun hr => ?_,fun hr x hx => ?_⟩
 ·have e:(ys.toArray.extract f.offset (f.offset + i.size))=((ys.drop f.offset).take i.size).toArray:=by
   apply Array.ext'
   simp [List.extract_eq_take_drop]
  refine ⟨.agg ((ys.drop f.offset).take i.size).toArray,?_,?_⟩
  ·simp [part,zcF hu,hr,sizeOf,typeInfo,hi]
  ·simp only [Den]
   exact ⟨_,rfl,zai.take i.size (zai.drop _ hd),fun u hu => h1 u (List.mem_of_mem_drop (List.mem_of_mem_take hu))⟩
 ·obtain ⟨y,hy,hyd⟩:=zai.get f.offset hd hx
  exact ⟨y,by simp [part,zcF hu,hr,hy],hyd⟩
theorem zlV {P:Program} {G:Gh} {I:Imm} (w:World) (d:Nat) (ih:∀ (t:TypeId) (e:ET) (x y:AV) (r:Bool) (u v:Value),trE P d t=some e → eqA e x y=some r → Den G I x u → Den G I y v → (Op.equalIn d t u v).run P w=.ok r w) (xs ys:List AV) (us vs:List Value)
  (hx:zai G I xs us) (hy:zai G I ys vs) (hu:∀ u ∈ us,u.oneCell'=true) (hv:∀ u ∈ vs,u.oneCell'=true):∀ (fs:List Field) (es:List (Nat × Option Nat × ET)) (r:Bool),trEs P (trE P d) fs=some es → ziF es xs ys=some r → (Op.eqFields d us.toArray vs.toArray fs).run P w=.ok r w
 | [],es,r,ht,hr => by
  simp [trEs] at ht; subst ht
  simp [ziF] at hr; subst hr
  simp [Op.eqFields]
 | f :: fs,es,r,ht,hr => by
  unfold trEs at ht
  split at ht
  ·rename_i td i e res htd hi he hres
   split at ht
   ·cases ht
   ·rename_i hname
    injection ht with ht; subst ht
    have hp1:=zh7 w f td i htd hi hx hu
    have hp2:=zh7 w f td i htd hi hy hv
    have key:∃ p q,r=(p && q) ∧ ziF res xs ys=some q ∧ ∃ a b,(part f.type us.toArray f.offset).run P w=.ok a w ∧ (part f.type vs.toArray f.offset).run P w=.ok b w ∧ (Op.equalIn d f.type a b).run P w=.ok p w:=by
     rcases hrow:td.isRow with _ | _
     ·rw [hrow] at hr
      simp only [Bool.false_eq_true,if_false,ziF] at hr
      split at hr
      ·rename_i x y h1 h2
       split at hr
       ·rename_i p q h3 h4
        obtain ⟨a,a1,a2⟩:=hp1.2 hrow x h1
        obtain ⟨b,b1,b2⟩:=hp2.2 hrow y h2
        exact ⟨p,q,(Option.some.inj hr).symm,h4,a,b,a1,b1,ih _ _ _ _ _ _ _ he h3 a2 b2⟩
       ·cases hr
      ·cases hr
     ·rw [hrow] at hr
      simp only [if_true,ziF] at hr
      split at hr
      ·rename_i p q h3 h4
       obtain ⟨a,a1,a2⟩:=hp1.1 hrow
       obtain ⟨b,b1,b2⟩:=hp2.1 hrow
       exact ⟨p,q,(Option.some.inj hr).symm,h4,a,b,a1,b1,ih _ _ _ _ _ _ _ he h3 a2 b2⟩
      ·cases hr
    obtain ⟨p,q,rfl,hq,a,b,a1,b1,ab⟩:=key
    have hrec:=zlV w d ih xs ys us vs hx hy hu hv fs res q hres hq
    unfold Op.eqFields
    rw [if_pos hname]
    cases p
    ·simp [Sem.run_bind,a1,b1,ab]
    ·simp [Sem.run_bind,a1,b1,ab,hrec]
  ·cases ht
theorem eqA_ok {P:Program} {G:Gh} {I:Imm} (w:World):∀ (d:Nat) (t:TypeId) (e:ET) (x y:AV) (r:Bool) (u v:Value),trE P d t=some e → eqA e x y=some r → Den G I x u → Den G I y v → (Op.equalIn d t u v).run P w=.ok r w:=by
 intro d
 induction d with
 | zero => intro t e x y r u v ht; simp [trE] at ht
 | succ d ih =>
  intro t e x y r u v ht hr hx hy
  unfold trE at ht
  split at ht
  ·rename_i hu
   injection ht with ht; subst ht
   cases x <;> (try (cases y <;> simp only [eqA,reduceCtorEq] at hr; done))
   rename_i l
   cases y <;> (try (simp only [eqA,reduceCtorEq] at hr; done))
   rename_i m
   simp only [Den] at hx hy; subst hx hy
   injection hr with hr; subst hr
   exact run_equalIn_bool w d t _ _ hu
  ·rename_i hu
   injection ht with ht; subst ht
   cases x <;> (try (cases y <;> simp only [eqA,reduceCtorEq] at hr; done))
   rename_i l
   cases y <;> (try (simp only [eqA,reduceCtorEq] at hr; done))
   rename_i m
   simp only [Den] at hx hy; subst hx hy
   injection hr with hr; subst hr
   have:=run_equalIn_string (P:=P) w d t ⟨l.toArray⟩ ⟨m.toArray⟩ hu
   rw [this,ByteArray.toList_eq,ByteArray.toList_eq]
   congr 1
   by_cases hh:l=m <;> simp [hh]
  ·rename_i k hu
   injection ht with ht; subst ht
   cases x <;> (try (cases y <;> simp only [eqA,reduceCtorEq] at hr; done))
   rename_i k1 x
   cases y <;> (try (simp only [eqA,reduceCtorEq] at hr; done))
   rename_i k2 y
   simp only [Den] at hx hy; subst hx hy
   simp only [eqA] at hr
   split at hr
   ·rename_i hk; subst hk
    injection hr with hr; subst hr
    have:=run_equalIn_int (P:=P) w d t k1 k x y hu
    rw [this,beqd]
   ·cases hr
  ·rename_i fs hu
   split at ht
   ·rename_i hp
    cases hes:trEs P (trE P d) fs.toList with
    | none => rw [hes] at ht; cases ht
    | some es =>
     rw [hes] at ht
     injection ht with ht; subst ht
     unfold eqA at hr
     split at hr <;> simp only [reduceCtorEq,ET.str.injEq] at *
     rename_i es' xs ys he
     subst he
     simp only [Den] at hx hy
     obtain ⟨us,rfl,hx1,hx2⟩:=hx
     obtain ⟨vs,rfl,hy1,hy2⟩:=hy
     have hf:P.fieldsOf t=fs:=by simp [Program.fieldsOf,hu]
     rw [run_equalIn_struct w d t _ _ (by rw [hf]; exact hu) hp,hf]
     exact zlV w d ih xs ys us vs hx1 hy1 hx2 hy2 fs.toList es r hes hr
   ·cases ht
  ·cases ht
section
variable {P:Program} {C:Cx} {type:TypeId} {objs:List OB} {tm:List AV} {K:List OB → AV → Prop}
theorem ok_eqs (op:BinOp) (T T':TypeId) (x y:Operand) (et:ET) (xs ys:List AV) (r0 r:Bool) (ht:trE P 10000 T=some et) (hg:P.eqGuardType P.depth T=false) (hx:(zam x).ev tm=.agg xs) (hy:(zam y).ev tm=.agg ys) (he:eqA et (.agg xs) (.agg ys)=some r0)
  (hr:(op=.eql ∧ r=r0) ∨ (op=.neq ∧ r=!r0)) (h:K objs (.b r)):zaW P C (.binOp op T x y T') type objs tm K :=
 zag _ h fun G I a w hm hd o ho hty => by
  have h1:=zae hd x; rw [hx] at h1
  have h2:=zae hd y; rw [hy] at h2
  have heq:=eqA_ok (P:=P) w 10000 T et _ _ r0 _ _ ht he h1 h2
  simp only [Den] at h1 h2
  obtain ⟨us,e1,_⟩:=h1
  obtain ⟨vs,e2,_⟩:=h2
  rw [e1,e2] at heq
  refine ⟨.bool r,?_,by simp [Den]⟩
  unfold execOp; rw [ho]
  have hgd:=run_eqGuard_agg (P:=P) w op T x y us.toArray vs.toArray hg
  rcases hr with ⟨rfl,rfl⟩ | ⟨rfl,rfl⟩
  ·simp only [e1,e2,Sem.run_bind,hgd,Result.andThen_ok,run_eql_struct,heq]; rfl
  ·simp only [e1,e2,Sem.run_bind,hgd,Result.andThen_ok,run_neq_struct,heq]; rfl
theorem zk0 (t e:TypeId) (len:Nat) (parts:Array (Nat × Operand)) (ie:TypeInfo) (z:Value) (hu:P.underlying t=some (.slice e)) (hie:P.info? e=some ie) (hz:ie.zero=some z) (hsmall:¬ len * ie.size > 2 ^ 24) (hpos:¬ len * ie.size=0)
  (zc:List Value) (hzc:((Array.range (len * ie.size)).map (z.cells[· % z.cells.size]!)).toList=zc) (h1:(zc.all (·.oneCell'))=true)
  (ps:List (Nat × Nat × SV)) (hps:parts.toList.mapM (fun p => ((fun i => some (i * ie.size,ie.size)) p.1:Option (Nat × Nat)).map fun q => (q.1,q.2,zam p.2))=some ps) (cs:List AV) (hf:zcp (zc.map zi0) (ps.map fun p => (p.1,p.2.1,p.2.2.ev tm))=some cs)
  (h:K objs (.row len cs)):zaW P C (.buildSlice t len parts) type objs tm K:=by
 intro G I a w hin hmem hd o next Q ho ht hn
 obtain ⟨ys',r1,r2,r3⟩:=zfW hd (fun i => some (i * ie.size,ie.size)) parts.toList ps _ cs ((Array.range (len * ie.size)).map (z.cells[· % z.cells.size]!)) hps hf (by rw [hzc]; exact zcI G I _) (by rw [hzc]; exact fun u hu => (List.all_eq_true.1 h1) u hu)
 obtain ⟨I',s1,s2,s3,s4⟩:=newimm hin hmem e cs ys' len r2 r3
 refine zaT (y:=.slice (some ⟨w.heap.size,0,none⟩) len len) (w':=w.alloc (.cells ys' e)) ?_ (hn _ _ _ _ _ _ h (Gh.le.refl G) s1 s2 s3 s4)
 unfold execOp; rw [ho]
 have e2:(parts.map fun (i,x) => (i,a.eval x)).toList=parts.toList.map fun p => (p.1,a.eval p.2):=by simp
 have hr:=run_buildSlice (P:=P) w t e len (parts.map fun (i,x) => (i,a.eval x)) ys' ie z hu hie hz hsmall hpos (by rw [e2]; exact r1)
 simp only [Sem.run_bind,hr,Result.andThen_ok]; rfl
theorem ok_bslo (t e:TypeId) (len:Nat) (parts:Array (Nat × Operand)) (ie:TypeInfo) (z:Value) (hu:P.underlying t=some (.slice e)) (hie:P.info? e=some ie) (hz:ie.zero=some z) (hsmall:¬ len * ie.size > 2 ^ 24) (hpos:¬ len * ie.size=0)
  (zc:List Value) (hzc:((Array.range (len * ie.size)).map (z.cells[· % z.cells.size]!)).toList=zc) (h1:(zc.all (·.oneCell'))=true)
  (ps:List (Nat × Nat × SV)) (hps:parts.toList.mapM (fun p => ((fun i => some (i * ie.size,ie.size)) p.1:Option (Nat × Nat)).map fun q => (q.1,q.2,zam p.2))=some ps) (cs:List AV) (hf:zcp (zc.map zi0) (ps.map fun p => (p.1,p.2.1,p.2.2.ev tm))=some cs)
  (hcl:cs.length=len * ie.size) (h:K (objs ++ [.orow e ie.size 0 len cs]) (.orow objs.length 0)):zaW P C (.buildSlice t len parts) type objs tm K:=by
 intro G I a w hin hmem hd o next Q ho ht hn
 obtain ⟨ys',r1,r2,r3⟩:=zfW hd (fun i => some (i * ie.size,ie.size)) parts.toList ps _ cs ((Array.range (len * ie.size)).map (z.cells[· % z.cells.size]!)) hps hf (by rw [hzc]; exact zcI G I _) (by rw [hzc]; exact fun u hu => (List.all_eq_true.1 h1) u hu)
 have e2:(parts.map fun (i,x) => (i,a.eval x)).toList=parts.toList.map fun p => (p.1,a.eval p.2):=by simp
 have hr:=run_buildSlice (P:=P) w t e len (parts.map fun (i,x) => (i,a.eval x)) ys' ie z hu hie hz hsmall hpos (by rw [e2]; exact r1)
 have hsz:ys'.size=len * ie.size:=by
  have:=r2.length
  rw [← hcl,this]; simp
 have hlen:len ≤ maxLen:=by
  have h1:0 < ie.size:=by
   rcases Nat.eq_zero_or_pos ie.size with h | h
   ·rw [h] at hpos; simp at hpos
   ·exact h
  have h2:len * 1 ≤ len * ie.size:=Nat.mul_le_mul (Nat.le_refl _) h1
  have h3:maxLen=2 ^ 63 - 1:=rfl
  omega
 have hg:w.grownBy (w.alloc (.cells ys' e)) none:=World.grownBy_alloc w _ none
 have hrow:(w.alloc (.cells ys' e)).ownsRow 0 e ie.size (.slice (some ⟨w.heap.size,0,none⟩) len len) len ys'.toList:=by
  refine ⟨by simpa using hsz,.inr ⟨w.heap.size,len,ys',rfl,Nat.zero_le _,heap_alloc_new w _,Nat.le_refl _,hlen,hsz,List.take_of_length_le (by simp [hsz])⟩⟩
 obtain ⟨G',s1,s2,s3,s4⟩:=ze9 hin hmem hg e ie.size len cs (.slice (some ⟨w.heap.size,0,none⟩) len len) ys'.toList hrow r2 r3 (by
  intro k hk
  have:w.heap.size=k:=by simpa [Value.ownBlock] using hk
  omega)
 refine zaT (y:=.slice (some ⟨w.heap.size,0,none⟩) len len) (w':=w.alloc (.cells ys' e)) ?_ (hn _ _ _ _ _ _ h s1 (Imm.le.refl I) s2 s3 s4)
 unfold execOp; rw [ho]
 simp only [Sem.run_bind,hr,Result.andThen_ok]; rfl
theorem ok_bsl0 (t e:TypeId) (len:Nat) (parts:Array (Nat × Operand)) (ie:TypeInfo) (hu:P.underlying t=some (.slice e)) (hie:P.info? e=some ie) (h0:len=0) (hp:parts.toList=[])
  (h:K (objs ++ [.orow e ie.size 0 0 []]) (.orow objs.length 0)):zaW P C (.buildSlice t len parts) type objs tm K:=by
 subst h0
 intro G I a w hin hmem hd o next Q ho ht hn
 have ep:parts=#[]:=by apply Array.ext'; simpa using hp
 subst ep
 have hr:(Instr.buildSlice t 0 #[]).run P w=.ok (.slice (some ⟨w.heap.size,0,none⟩) 0 0) (w.alloc (.cells #[] e)):=by
  simp [Instr.buildSlice,run_underlying hu,sizeOf,typeInfo,hie,newRow,Instr.fill,show Array.range 0=#[] from rfl]
 have hg:w.grownBy (w.alloc (.cells #[] e)) none:=World.grownBy_alloc w _ none
 have hrow:(w.alloc (.cells #[] e)).ownsRow 0 e ie.size (.slice (some ⟨w.heap.size,0,none⟩) 0 0) 0 []:=by
  refine ⟨by simp,.inr ⟨w.heap.size,0,#[],rfl,Nat.zero_le _,heap_alloc_new w _,Nat.le_refl _,Nat.zero_le _,by simp,by simp⟩⟩
 obtain ⟨G',s1,s2,s3,s4⟩:=ze9 hin hmem hg e ie.size 0 [] (.slice (some ⟨w.heap.size,0,none⟩) 0 0) [] hrow zai.nil (by simp) (by
  intro k hk
  have:w.heap.size=k:=by simpa [Value.ownBlock] using hk
  omega)
 refine zaT (y:=.slice (some ⟨w.heap.size,0,none⟩) 0 0) (w':=w.alloc (.cells #[] e)) ?_ (hn _ _ _ _ _ _ h s1 (Imm.le.refl I) s2 s3 s4)
 unfold execOp; rw [ho]
 simp [hr]
class Tabs (P:Program) where
 T:World → Prop
 keep:∀ w w':World,T w → (∀ k,k < w.heap.size → w'.heap[k]? = w.heap[k]?) → w.heap.size ≤ w'.heap.size → T w'
class On (P:Program) [Tabs P] (C:Cx):Prop where
 tab:Tabs.T (P:=P) C.w
 own:∀ k,¬ C.own k
theorem In.tab [Tabs P] [On P C] {G:Gh} {I:Imm} {w:World} (h:In C G I w):Tabs.T (P:=P) w :=
 Tabs.keep _ _ (On.tab (P:=P) (C:=C)) (fun k hk => h.block k hk (On.own P k)) h.size
def zah (P:Program) [Tabs P] (f:FuncId) (args:List AV) (objs:List OB) (K:List OB → AV → Prop):Prop :=
 ∀ (C:Cx) [On P C] (G:Gh) (I:Imm) (w:World),In C G I w → MemOk G I objs w → ∀ ys:List Value,zai G I args ys → Calls P f ys.toArray w (fun e w' => ∃ y objs' r G' I',e=.returned y ∧ K objs' r ∧ G.le G' ∧ Imm.le I I' ∧ In C G' I' w' ∧ MemOk G' I' objs' w' ∧ Den G' I' r y)
theorem ziW {G:Gh} {I:Imm} {a:Act} (hd:zai G I tm a.tmps.toList):∀ l:List Operand,zai G I (l.map fun x => (zam x).ev tm) (l.map a.eval)
 | [] => zai.nil
 | x :: l => zai.cons (zae hd x) (ziW hd l)
theorem zdC {f : FuncId} {fn : Func} (hf : P.funcs[f]? = some fn) (hb : fn.body.isSome = true) (hn : fn.name ≠ "runtime.NumGoroutine") (args : Array Value) (w : World) : (callFunc f args).run P w = .ok (.enter f args) w := by
 have h2:fn.body ≠ none:=by intro e; rw [e] at hb; cases hb
 simp [callFunc,hf,hn,h2]
theorem zh9 [Tabs P] [On P C] (f : FuncId) (args : Array Operand) (ats : Array TypeId) (x : Operand) (fs cs : List AV) (hx : (zam x).ev tm = .fn f fs cs) (fn : Func) (hf : P.funcs[f]? = some fn) (hb : fn.body.isSome = true) (hn : fn.name ≠ "runtime.NumGoroutine")
  (h:zah P f (fs ++ (args.toList.map fun x => (zam x).ev tm) ++ cs) objs K):zaW P C (.call { callee:=.value x,args:=args,argTypes:=ats }) type objs tm K:=by
 intro G I a w hin hmem hd o next Q ho ht hnx
 have h1:=zae hd x; rw [hx] at h1; simp only [Den] at h1
 obtain ⟨us,vs,e1,d1,d2⟩:=h1
 have hd3:=zai.append (zai.append d1 (ziW hd args.toList)) d2
 have hc:=h C G I w hin hmem _ hd3
 have hrun:(execOp a.eval o).run P w=.ok (.enter f (us.toArray ++ args.map a.eval ++ vs.toArray)) w:=by
  unfold execOp; rw [ho]
  simp only [resolve,e1,Deferred.ofValue,invoke,Sem.run_bind,Sem.run_pure,Result.andThen_ok]
  exact zdC hf hb hn _ w
 unfold Oper.wp
 rw [hrun]
 have e2:(us ++ args.toList.map a.eval ++ vs).toArray=us.toArray ++ args.map a.eval ++ vs.toArray:=by
  apply Array.ext'; simp
 rw [e2] at hc
 refine Calls.mono hc ?_
 rintro e w' ⟨y,objs',r,G',I',rfl,k1,k2,k3,k4,k5,k6⟩
 exact hnx objs' r y G' I' w' k1 k2 k3 k4 k5 k6
theorem zfh [Tabs P] {f:FuncId} {args:List AV} (r:AV) (hk:K objs r)
  (h:∀ (G:Gh) (I:Imm) (w:World) (ys:List Value),Tabs.T (P:=P) w → MemOk G I objs w → zai G I args ys → ∃ y,Calls P f ys.toArray w (fun e w' => e=.returned y ∧ Below w.heap.size w w') ∧ Den G I r y):zah P f args objs K:=by
 intro C _ G I w hin hm ys hd
 obtain ⟨y,hc,hr⟩:=h G I w ys (hin.tab (P:=P)) hm hd
 refine hc.mono ?_
 rintro e w' ⟨rfl,hb⟩
 have hg:w.grownBy w' none:=⟨hb.os,hb.tape,hb.output,hb.size,fun k hk _ => hb.block k hk⟩
 exact ⟨y,objs,r,G,I,rfl,hk,Gh.le.refl G,Imm.le.refl I,hin.evolve hg (by simp),hm.evolve hg,hr⟩
theorem zhB [Tabs P] {f:FuncId} {args:List AV} (r:AV) (hk:K objs r)
  (h:∀ (G:Gh) (I:Imm) (w:World) (ys:List Value),MemOk G I objs w → zai G I args ys → ∃ y,Calls P f ys.toArray w (fun e w' => e=.returned y ∧ Below w.heap.size w w') ∧ Den G I r y):zah P f args objs K :=
 zfh r hk fun G I w ys _ hm hd => h G I w ys hm hd
end
mutual
/-- a value without memory of the call's own -/
def AV.plain:AV → Bool
 | .agg cs => zan cs
 | .tup cs => zan cs
 | .row _ xs => zan xs
 | .prow xs _ => zan xs
 | .crow _ xs => zan xs
 | .fn _ fs cs => zan fs && zan cs
 | .p _ _ => false
 | .orow _ _ => false
 | .porow _ _ _ => false
 | .bsl _ _ _ => false
 | .m _ => false
 | _ => true
def zan:List AV → Bool
 | [] => true
 | x :: xs => x.plain && zan xs
end
def Gh.none:Gh:=⟨fun _ => Option.none,fun _ => Option.none⟩
mutual
theorem Den.plain {G G':Gh} {I I':Imm} (hI:Imm.le I I'):∀ (x:AV) (y:Value),x.plain=true → Den G I x y → Den G' I' x y
 | .s l,y,hp,h => by simpa [Den] using h
 | .i k n,y,hp,h => by simpa [Den] using h
 | .b x,y,hp,h => by simpa [Den] using h
 | .agg cs,y,hp,h => by
  simp only [Den] at h ⊢
  obtain ⟨ys,h1,h2,h3⟩:=h
  exact ⟨ys,h1,zai.plain hI cs ys (by simpa [AV.plain] using hp) h2,h3⟩
 | .tup cs,y,hp,h => by
  simp only [Den] at h ⊢
  obtain ⟨ys,h1,h2⟩:=h
  exact ⟨ys,h1,zai.plain hI cs ys (by simpa [AV.plain] using hp) h2⟩
 | .p b off,y,hp,h => by simp [AV.plain] at hp
 | .row n xs,y,hp,h => by
  simp only [Den] at h ⊢
  obtain ⟨a,c,ys,h1,h2,h3,h4,h5⟩:=h
  refine ⟨a,c,ys,h1,h2,zai.plain hI xs ys (by simpa [AV.plain] using hp) h3,h4,fun j u hj => ?_⟩
  obtain ⟨g,off,e,hi⟩:=h5 j u hj
  exact ⟨g,off,e,hI _ _ _ hi⟩
 | .prow xs j,y,hp,h => by
  simp only [Den] at h ⊢
  obtain ⟨g,off,ys,h1,h3,h4,h5⟩:=h
  exact ⟨g,off,ys,h1,zai.plain hI xs ys (by simpa [AV.plain] using hp) h3,h4,fun j u hj => hI _ _ _ (h5 j u hj)⟩
 | .crow n xs,y,hp,h => by
  simp only [Den] at h ⊢
  obtain ⟨a,ys,h1,h2,h3,h4,h5⟩:=h
  refine ⟨a,ys,h1,h2,zai.plain hI xs ys (by simpa [AV.plain] using hp) h3,h4,fun j u hj => ?_⟩
  obtain ⟨g,off,e,hi⟩:=h5 j u hj
  exact ⟨g,off,e,hI _ _ _ hi⟩
 | .orow b gen,y,hp,h => by simp [AV.plain] at hp
 | .porow b gen j,y,hp,h => by simp [AV.plain] at hp
 | .bsl b off n,y,hp,h => by simp [AV.plain] at hp
 | .m b,y,hp,h => by simp [AV.plain] at hp
 | .zn b,y,hp,h => by simpa [Den] using h
 | .nil,y,hp,h => by simpa [Den] using h
 | .fn f fs cs,y,hp,h => by
  simp only [Den] at h ⊢
  simp only [AV.plain,Bool.and_eq_true] at hp
  obtain ⟨us,ys,h1,h2,h3⟩:=h
  exact ⟨us,ys,h1,zai.plain hI fs us hp.1 h2,zai.plain hI cs ys hp.2 h3⟩
 | .o v,y,hp,h => by simpa [Den] using h
 | .u,y,hp,h => by simp [Den]
theorem zai.plain {G G':Gh} {I I':Imm} (hI:Imm.le I I'):∀ (xs:List AV) (ys:List Value),zan xs=true → zai G I xs ys → zai G' I' xs ys
 | [],ys,hp,h => by simpa [zai] using h
 | x :: xs,ys,hp,h => by
  simp only [zai] at h ⊢
  simp only [zan,Bool.and_eq_true] at hp
  obtain ⟨y,ys',h1,h2,h3⟩:=h
  exact ⟨y,ys',h1,Den.plain hI x y hp.1 h2,zai.plain hI xs ys' hp.2 h3⟩
end
section
variable {P:Program}
theorem zmp [Tabs P] {f:FuncId} {args:List AV} {objs:List OB} {K:List OB → AV → Prop} (hp:zan args=true) (h:zah P f args [] fun _ r => r.plain=true ∧ K objs r):zah P f args objs K:=by
 intro C hOn G I w hin hm ys hd
 let C':Cx:=⟨w,fun _ => False,I,Gh.none⟩
 haveI hOn':On P C':=⟨hin.tab (P:=P),fun _ h => h⟩
 have hc:=h C' Gh.none I w ⟨rfl,rfl,rfl,Nat.le_refl _,fun _ _ _ => rfl,fun _ _ _ h => h,fun _ _ _ h => .inl h,fun b g hb => by simp [Gh.own,Gh.none] at hb,Gh.le.refl _⟩
  ⟨hm.imm,by simp,by simp,by simp,fun b b' g hb => by simp [Gh.own,Gh.none] at hb,fun b g hb => by simp [Gh.own,Gh.none] at hb,fun b g o v hb => by simp [Gh.own,Gh.none] at hb,fun b _ => ⟨rfl,rfl⟩⟩ ys (zai.plain (Imm.le.refl I) _ _ hp hd)
 refine hc.mono ?_
 rintro e w' ⟨y,objs',r,G',I',rfl,⟨hpl,hk⟩,_,hle,hin',hm',hy⟩
 have hg:w.grownBy w' none:=⟨hin'.os,hin'.tape,hin'.output,hin'.size,fun k hk _ => hin'.block k hk (fun h => h)⟩
 have hnew:∀ g o v,I' g o v → I g o v ∨ w.heap.size ≤ g:=by
  intro g o v hi
  rcases hin'.news g o v hi with h | h | h
  ·exact .inl h
  ·exact h.elim
  ·exact .inr h
 refine ⟨y,objs,r,G,I',rfl,hk,Gh.le.refl G,hle,(hin.evolve hg (by simp)).imm_more hle ?_,(hm.evolve hg).imm_more hle hm'.imm ?_,Den.plain (Imm.le.refl _) r y hpl hy⟩
 ·intro g o v hi
  rcases hnew g o v hi with h | h
  ·exact .inl h
  ·exact .inr (.inr (Nat.le_trans hin.size h))
 ·intro b g o v hb hi
  rcases hnew g o v hi with h | h
  ·exact hm.apart b g o v hb h
  ·have:=hm.lt b g hb; omega
theorem zah.mono [Tabs P] {f:FuncId} {args:List AV} {objs:List OB} {K K':List OB → AV → Prop} (h:zah P f args objs K) (hk:∀ o r,K o r → K' o r):zah P f args objs K':=by
 intro C hOn G I w hin hm ys hd
 refine (h C G I w hin hm ys hd).mono ?_
 rintro e w' ⟨y,objs',r,G',I',h1,h2,h3⟩
 exact ⟨y,objs',r,G',I',h1,hk _ _ h2,h3⟩
end
inductive PQ where
 | bits (op:BinOp)
 | shl
 | shr
 | mn
 | mx
 | rsl (sz:Nat)
 | rslh (sz:Nat)
 | rslb (sz:Nat)
 | asl (sz len:Nat)
 | aslh (sz len:Nat)
 | aslb (sz len:Nat)
 | snil (ne:Bool)
 | scmp (op:BinOp)
 | sl3
def zjB (op:BinOp) (k:IntKind) (a b:Int):Option Int :=
 match op with
 | .and => some (k.wrap (BitVec.ofInt k.bits a &&& BitVec.ofInt k.bits b).toNat)
 | .or => some (k.wrap (BitVec.ofInt k.bits a ||| BitVec.ofInt k.bits b).toNat)
 | .xor => some (k.wrap (BitVec.ofInt k.bits a ^^^ BitVec.ofInt k.bits b).toNat)
 | _ => none
def zfs (l m:List UInt8):Bool:=Op.bytesLess l m
def scmpZ (op:BinOp) (l m:List UInt8):Option Bool :=
 match op with
 | .lss => some (zfs l m)
 | .leq => some (zfs l m || l == m)
 | .gtr => some (!zfs l m && !(l == m))
 | .geq => some (!zfs l m)
 | _ => none
def pq:PQ → List AV → Option AV
 | .bits op,[.i k a,.i k' b] => if k=k' then (zjB op k a b).map (.i k) else none
 | .shl,[.i k a,.i _ b] => if 0 ≤ b then some (.i k (k.wrap (a * 2 ^ (min b.toNat k.bits)))) else none
 | .shr,[.i k a,.i _ b] => if 0 ≤ b then some (.i k (a.fdiv (2 ^ (min b.toNat k.bits)))) else none
 | .mn,[.i k a,.i k' b] => if k=k' then some (.i k (if b < a then b else a)) else none
 | .mx,[.i k a,.i k' b] => if k=k' then some (.i k (if a < b then b else a)) else none
 | .rsl sz,[.row n xs,.i _ lo] => if 0 ≤ lo ∧ lo ≤ n then some (.row (n - lo.toNat) ((xs.take (n * sz)).drop (lo.toNat * sz))) else none
 | .rsl _,[.nil,.i _ lo] => if lo=0 then some .nil else none
 | .rslh sz,[.row n xs,.i _ hi] => if 0 ≤ hi ∧ hi ≤ n then some (.row hi.toNat (xs.take (hi.toNat * sz))) else none
 | .rslh _,[.nil,.i _ hi] => if hi=0 then some .nil else none
 | .rslb sz,[.row n xs,.i _ lo,.i _ hi] => if 0 ≤ lo ∧ lo ≤ hi ∧ hi ≤ n then some (.row (hi.toNat - lo.toNat) ((xs.take (hi.toNat * sz)).drop (lo.toNat * sz))) else none
 | .asl sz len,[.p b off,.i _ lo] => if 0 ≤ lo ∧ lo < len then some (.bsl b (off + lo.toNat * sz) (len - lo.toNat)) else none
 | .aslh sz len,[.p b off,.i _ hi] => if 0 ≤ hi ∧ hi ≤ len ∧ 0 < len then some (.bsl b off hi.toNat) else none
 | .aslb sz len,[.p b off,.i _ lo,.i _ hi] => if 0 ≤ lo ∧ lo ≤ hi ∧ hi ≤ len ∧ lo < len then some (.bsl b (off + lo.toNat * sz) (hi.toNat - lo.toNat)) else none
 | .snil ne,[x,.nil] => match x with
  | .nil => some (.b (!ne))
  | .zn b => some (.b (if ne then !b else b))
  | .row _ (_ :: _) => some (.b ne)
  | _ => none
 | .scmp op,[.s l,.s m] => (scmpZ op l m).map .b
 | .sl3,[.row n xs,.i _ a,.i _ b] => if a=n ∧ b=n then some (.crow n xs) else none
 | .sl3,[.nil,.i _ a,.i _ b] => if a=0 ∧ b=0 then some (.crow 0 []) else none
 | _,_ => none
def trPu (P:Program):Op → Option (PQ × List SV)
 | .binOp op T x y _ => match P.underlying T with
  | some (.int _) => match op with
   | .and => some (.bits .and,[zam x,zam y])
   | .or => some (.bits .or,[zam x,zam y])
   | .xor => some (.bits .xor,[zam x,zam y])
   | .shl => some (.shl,[zam x,zam y])
   | .shr => some (.shr,[zam x,zam y])
   | _ => none
  | some .string => match op with
   | .lss => some (.scmp .lss,[zam x,zam y])
   | .leq => some (.scmp .leq,[zam x,zam y])
   | .gtr => some (.scmp .gtr,[zam x,zam y])
   | .geq => some (.scmp .geq,[zam x,zam y])
   | _ => none
  | some (.slice _) => match op with
   | .eql => some (.snil false,[zam x,zam y])
   | .neq => some (.snil true,[zam x,zam y])
   | _ => none
  | _ => none
 | .call c => match c.callee with
  | .builtin .min => match c.args.toList with
   | [x,y] => some (.mn,[zam x,zam y])
   | _ => none
  | .builtin .max => match c.args.toList with
   | [x,y] => some (.mx,[zam x,zam y])
   | _ => none
  | _ => none
 | .slice T x (some lo) none none => match P.underlying T with
  | some (.slice e) => match P.info? e with
   | some i => some (.rsl i.size,[zam x,zam lo])
   | none => none
  | some (.array len e) => match P.info? e with
   | some i => some (.asl i.size len,[zam x,zam lo])
   | none => none
  | _ => none
 | .slice T x (some lo) (some hi) none => match P.underlying T with
  | some (.slice e) => match P.info? e with
   | some i => some (.rslb i.size,[zam x,zam lo,zam hi])
   | none => none
  | some (.array len e) => match P.info? e with
   | some i => some (.aslb i.size len,[zam x,zam lo,zam hi])
   | none => none
  | _ => none
 | .slice T x none (some hi) none => match P.underlying T with
  | some (.array len e) => match P.info? e with
   | some i => some (.aslh i.size len,[zam x,zam hi])
   | none => none
  | _ => none
 | .slice T x none (some hi) (some mx) => match P.underlying T with
  | some (.slice e) => match P.info? e with
   | some i => some (.sl3,[zam x,zam hi,zam mx])
   | none => none
  | _ => none
 | _ => none
section
variable {P:Program} {C:Cx} {type:TypeId} {objs:List OB} {tm:List AV} {K:List OB → AV → Prop}
theorem ok_bits (op:BinOp) (T T':TypeId) (x y:Operand) (k:IntKind) (a b r:Int) (hx:(zam x).ev tm=.i k a) (hy:(zam y).ev tm=.i k b) (hr:zjB op k a b=some r) (h:K objs (.i k r)):zaW P C (.binOp op T x y T') type objs tm K :=
 zag _ h fun G I act w hm hd o ho ht => by
  have h1:=zae hd x; rw [hx] at h1; simp only [Den] at h1
  have h2:=zae hd y; rw [hy] at h2; simp only [Den] at h2
  refine ⟨.int k r,?_,by simp [Den]⟩
  unfold execOp; rw [ho]
  cases op <;> simp only [zjB,Option.some.injEq,reduceCtorEq] at hr <;> subst hr <;> simp [h1,h2,eqGuard,binOp,Op.intBits]
theorem ok_shl (T T':TypeId) (x y:Operand) (k k':IntKind) (a b:Int) (hx:(zam x).ev tm=.i k a) (hy:(zam y).ev tm=.i k' b) (hb:0 ≤ b) (h:K objs (.i k (k.wrap (a * 2 ^ (min b.toNat k.bits))))):zaW P C (.binOp .shl T x y T') type objs tm K :=
 zag _ h fun G I act w hm hd o ho ht => by
  have h1:=zae hd x; rw [hx] at h1; simp only [Den] at h1
  have h2:=zae hd y; rw [hy] at h2; simp only [Den] at h2
  refine ⟨_,?_,by simp only [Den]; rfl⟩
  unfold execOp; rw [ho]
  simp [h1,h2,eqGuard,binOp,Op.shift,show ¬ b < 0 by omega]
theorem ok_shr (T T':TypeId) (x y:Operand) (k k':IntKind) (a b:Int) (hx:(zam x).ev tm=.i k a) (hy:(zam y).ev tm=.i k' b) (hb:0 ≤ b) (h:K objs (.i k (a.fdiv (2 ^ (min b.toNat k.bits))))):zaW P C (.binOp .shr T x y T') type objs tm K :=
 zag _ h fun G I act w hm hd o ho ht => by
  have h1:=zae hd x; rw [hx] at h1; simp only [Den] at h1
  have h2:=zae hd y; rw [hy] at h2; simp only [Den] at h2
  refine ⟨_,?_,by simp only [Den]; rfl⟩
  unfold execOp; rw [ho]
  simp [h1,h2,eqGuard,binOp,Op.shift,show ¬ b < 0 by omega]
theorem ok_mn (ty:TypeId) (x y:Operand) (ats:Array TypeId) (k:IntKind) (a b:Int) (hx:(zam x).ev tm=.i k a) (hy:(zam y).ev tm=.i k b) (h:K objs (.i k (if b < a then b else a))):zaW P C (.call { callee:=.builtin .min,args:=#[x,y],argTypes:=ats }) ty objs tm K :=
 zag _ h fun G I act w hm hd o ho ht => by
  have h1:=zae hd x; rw [hx] at h1; simp only [Den] at h1
  have h2:=zae hd y; rw [hy] at h2; simp only [Den] at h2
  refine ⟨_,?_,by simp only [Den]; rfl⟩
  unfold execOp; rw [ho]
  simp [resolve,invoke,builtin,Builtin.min_,Builtin.min2,h1,h2]
theorem ok_mx (ty:TypeId) (x y:Operand) (ats:Array TypeId) (k:IntKind) (a b:Int) (hx:(zam x).ev tm=.i k a) (hy:(zam y).ev tm=.i k b) (h:K objs (.i k (if a < b then b else a))):zaW P C (.call { callee:=.builtin .max,args:=#[x,y],argTypes:=ats }) ty objs tm K :=
 zag _ h fun G I act w hm hd o ho ht => by
  have h1:=zae hd x; rw [hx] at h1; simp only [Den] at h1
  have h2:=zae hd y; rw [hy] at h2; simp only [Den] at h2
  refine ⟨_,?_,by simp only [Den]; rfl⟩
  unfold execOp; rw [ho]
  simp [resolve,invoke,builtin,Builtin.max_,Builtin.max2,h1,h2]
theorem ok_scmp (op:BinOp) (T T':TypeId) (x y:Operand) (l m:List UInt8) (r:Bool) (hx:(zam x).ev tm=.s l) (hy:(zam y).ev tm=.s m) (hr:scmpZ op l m=some r) (h:K objs (.b r)):zaW P C (.binOp op T x y T') type objs tm K :=
 zag _ h fun G I act w hm hd o ho ht => by
  have h1:=zae hd x; rw [hx] at h1; simp only [Den] at h1
  have h2:=zae hd y; rw [hy] at h2; simp only [Den] at h2
  refine ⟨.bool r,?_,by simp [Den]⟩
  unfold execOp; rw [ho]
  have e1:(⟨l.toArray⟩:ByteArray).toList=l:=by rw [ByteArray.toList_eq]
  have e2:(⟨m.toArray⟩:ByteArray).toList=m:=by rw [ByteArray.toList_eq]
  cases op <;> simp only [scmpZ,Option.some.injEq,reduceCtorEq] at hr <;> subst hr <;> simp [h1,h2,eqGuard,binOp,Op.stringOp,e1,e2,zfs]
theorem zfx {G:Gh} {I:Imm} {P:Program} {w:World} {T e:TypeId} {i:TypeInfo} (hu:P.underlying T=some (.slice e)) (hi:P.info? e=some i) {n:Nat} {xs:List AV} {y:Value} (h:Den G I (.row n xs) y) (lo hi':Option Value) (l hh:Nat) (hl:l ≤ hh) (hn:hh ≤ n)
  (hb:∀ c,n ≤ c → (Instr.sliceBounds true n c lo hi' none).run P w=.ok (l,hh,c) w):∃ v,(Instr.sliceAt T y lo hi' none).run P w=.ok v w ∧ Den G I (.row (hh - l) ((xs.take (hh * i.size)).drop (l * i.size))) v:=by
 simp only [Den] at h
 obtain ⟨a,c,ys,rfl,h2,h3,h4,h5⟩:=h
 refine ⟨.slice (if c=l then a else a.map (·.add (l * i.size))) (hh - l) (c - l),?_,?_⟩
 ·have:=hb c h2.1
  simp [Instr.sliceAt,Instr.slice,run_underlying hu,this,sizeOf,typeInfo,hi]
 ·simp only [Den]
  refine ⟨_,_,(ys.take (hh * i.size)).drop (l * i.size),rfl,⟨by omega,?_⟩,zai.drop _ (zai.take _ h3),fun u hu => h4 u (List.mem_of_mem_take (List.mem_of_mem_drop hu)),?_⟩
  ·intro ad had hc0
   split at had
   ·rename_i hcl; omega
   ·cases a with
    | none => simp at had
    | some a0 =>
     simp at had
     have:=h2.2 a0 rfl (by omega)
     obtain ⟨g,off,sp⟩:=a0
     simp at this; subst this
     rw [zax] at had
     rw [← had]
  ·intro j u hj
   rw [List.getElem?_drop,List.getElem?_take] at hj
   split at hj
   ·rename_i hlt
    obtain ⟨g,off,e1,e2⟩:=h5 _ _ hj
    refine ⟨g,off + l * i.size,?_,by rw [Nat.add_assoc]; exact e2⟩
    have hne:¬ c=l:=by
     rintro rfl
     have:hh=c:=by omega
     subst this
     omega
    rw [if_neg hne,e1,Option.map_some,zax]
   ·cases hj
theorem ok_rsl (T:TypeId) (x lo:Operand) (e:TypeId) (i:TypeInfo) (hu:P.underlying T=some (.slice e)) (hi:P.info? e=some i) (n:Nat) (xs:List AV) (k:IntKind) (l:Int) (hx:(zam x).ev tm=.row n xs) (hlo:(zam lo).ev tm=.i k l) (h0:0 ≤ l) (h1:l ≤ n)
  (h:K objs (.row (n - l.toNat) ((xs.take (n * i.size)).drop (l.toNat * i.size)))):zaW P C (.slice T x (some lo) none none) type objs tm K :=
 zag _ h fun G I act w hm hd o ho ht => by
  have e1:=zae hd x; rw [hx] at e1
  have e2:=zae hd lo; rw [hlo] at e2; simp only [Den] at e2
  obtain ⟨v,k1,k2⟩:=zfx (P:=P) (w:=w) hu hi e1 (some (.int k l)) none l.toNat n (by omega) (Nat.le_refl _) (fun c hc => by
   simp [Instr.sliceBounds,run_sliceBound w k l n _ h0 h1])
  refine ⟨v,?_,k2⟩
  unfold execOp; rw [ho]
  simp [e2,k1]
theorem ok_rslh (T:TypeId) (x lo:Operand) (e:TypeId) (i:TypeInfo) (hu:P.underlying T=some (.slice e)) (hi:P.info? e=some i) (n:Nat) (xs:List AV) (k:IntKind) (l:Int) (hx:(zam x).ev tm=.row n xs) (hlo:(zam lo).ev tm=.i k l) (h0:0 ≤ l) (h1:l ≤ n)
  (h:K objs (.row l.toNat (xs.take (l.toNat * i.size)))):zaW P C (.slice T x none (some lo) none) type objs tm K :=
 zag _ h fun G I act w hm hd o ho ht => by
  have e1:=zae hd x; rw [hx] at e1
  have e2:=zae hd lo; rw [hlo] at e2; simp only [Den] at e2
  obtain ⟨v,k1,k2⟩:=zfx (P:=P) (w:=w) hu hi e1 none (some (.int k l)) 0 l.toNat (by omega) (by omega) (fun c hc => by
   simp [Instr.sliceBounds,run_sliceBound w k l c _ h0 (by omega)])
  refine ⟨v,?_,by simpa using k2⟩
  unfold execOp; rw [ho]
  simp [e2,k1]
theorem ok_rslb (T:TypeId) (x lo hi':Operand) (e:TypeId) (i:TypeInfo) (hu:P.underlying T=some (.slice e)) (hi:P.info? e=some i) (n:Nat) (xs:List AV) (k k':IntKind) (l m:Int) (hx:(zam x).ev tm=.row n xs) (hlo:(zam lo).ev tm=.i k l) (hhi:(zam hi').ev tm=.i k' m) (h0:0 ≤ l) (h1:l ≤ m) (h2:m ≤ n)
  (h:K objs (.row (m.toNat - l.toNat) ((xs.take (m.toNat * i.size)).drop (l.toNat * i.size)))):zaW P C (.slice T x (some lo) (some hi') none) type objs tm K :=
 zag _ h fun G I act w hm hd o ho ht => by
  have e1:=zae hd x; rw [hx] at e1
  have e2:=zae hd lo; rw [hlo] at e2; simp only [Den] at e2
  have e3:=zae hd hi'; rw [hhi] at e3; simp only [Den] at e3
  obtain ⟨v,k1,k2⟩:=zfx (P:=P) (w:=w) hu hi e1 (some (.int k l)) (some (.int k' m)) l.toNat m.toNat (by omega) (by omega) (fun c hc => by
   have q1:=run_sliceBound (P:=P) w k' m c .sliceAcap (by omega) (by omega)
   have q2:=run_sliceBound (P:=P) w k l m.toNat .sliceB h0 (by omega)
   simp [Instr.sliceBounds,q1,q2])
  refine ⟨v,?_,k2⟩
  unfold execOp; rw [ho]
  simp [e2,e3,k1]
theorem ok_rsn (T:TypeId) (x lo:Operand) (e:TypeId) (i:TypeInfo) (hu:P.underlying T=some (.slice e)) (hi:P.info? e=some i) (k:IntKind) (hx:(zam x).ev tm=.nil) (hlo:(zam lo).ev tm=.i k 0) (h:K objs .nil):zaW P C (.slice T x (some lo) none none) type objs tm K :=
 zag _ h fun G I act w hm hd o ho ht => by
  have e1:=zae hd x; rw [hx] at e1; simp only [Den] at e1
  have e2:=zae hd lo; rw [hlo] at e2; simp only [Den] at e2
  refine ⟨.slice none 0 0,?_,by simp [Den]⟩
  unfold execOp; rw [ho]
  have q1:=run_sliceBound (P:=P) w k 0 0 .sliceB (by omega) (by omega)
  simp [e1,e2,Instr.sliceAt,Instr.slice,run_underlying hu,Instr.sliceBounds,q1,sizeOf,typeInfo,hi]
theorem ok_rsnh (T:TypeId) (x lo:Operand) (e:TypeId) (i:TypeInfo) (hu:P.underlying T=some (.slice e)) (hi:P.info? e=some i) (k:IntKind) (hx:(zam x).ev tm=.nil) (hlo:(zam lo).ev tm=.i k 0) (h:K objs .nil):zaW P C (.slice T x none (some lo) none) type objs tm K :=
 zag _ h fun G I act w hm hd o ho ht => by
  have e1:=zae hd x; rw [hx] at e1; simp only [Den] at e1
  have e2:=zae hd lo; rw [hlo] at e2; simp only [Den] at e2
  refine ⟨.slice none 0 0,?_,by simp [Den]⟩
  unfold execOp; rw [ho]
  have q1:=run_sliceBound (P:=P) w k 0 0 .sliceAcap (by omega) (by omega)
  simp [e1,e2,Instr.sliceAt,Instr.slice,run_underlying hu,Instr.sliceBounds,q1,sizeOf,typeInfo,hi]
theorem ok_asl (T:TypeId) (x lo:Operand) (e:TypeId) (i:TypeInfo) (len:Nat) (hu:P.underlying T=some (.array len e)) (hi:P.info? e=some i) (b off:Nat) (k:IntKind) (l:Int) (hx:(zam x).ev tm=.p b off) (hlo:(zam lo).ev tm=.i k l) (h0:0 ≤ l) (h1:l < len)
  (h:K objs (.bsl b (off + l.toNat * i.size) (len - l.toNat))):zaW P C (.slice T x (some lo) none none) type objs tm K :=
 zag _ h fun G I act w hm hd o ho ht => by
  have e1:=zae hd x; rw [hx] at e1; simp only [Den] at e1
  have e2:=zae hd lo; rw [hlo] at e2; simp only [Den] at e2
  obtain ⟨g,k1,k2⟩:=e1
  refine ⟨.slice (some ⟨g,off + l.toNat * i.size,none⟩) (len - l.toNat) (len - l.toNat),?_,by simp only [Den]; exact ⟨g,_,k1,rfl,Nat.le_refl _⟩⟩
  unfold execOp; rw [ho]
  have q1:=run_sliceBound (P:=P) w k l len .sliceB h0 (by omega)
  simp [e2,k2,Instr.sliceAt,Instr.sureAddr,run_underlying hu,Instr.sliceBounds,q1,sizeOf,typeInfo,hi,show ¬ len=l.toNat by omega,zax]
theorem ok_aslh (T:TypeId) (x hi':Operand) (e:TypeId) (i:TypeInfo) (len:Nat) (hu:P.underlying T=some (.array len e)) (hi:P.info? e=some i) (b off:Nat) (k:IntKind) (l:Int) (hx:(zam x).ev tm=.p b off) (hlo:(zam hi').ev tm=.i k l) (h0:0 ≤ l) (h1:l ≤ len) (h2:0 < len)
  (h:K objs (.bsl b off l.toNat)):zaW P C (.slice T x none (some hi') none) type objs tm K :=
 zag _ h fun G I act w hm hd o ho ht => by
  have e1:=zae hd x; rw [hx] at e1; simp only [Den] at e1
  have e2:=zae hd hi'; rw [hlo] at e2; simp only [Den] at e2
  obtain ⟨g,k1,k2⟩:=e1
  refine ⟨.slice (some ⟨g,off,none⟩) l.toNat len,?_,by simp only [Den]; exact ⟨g,_,k1,rfl,by omega⟩⟩
  unfold execOp; rw [ho]
  have q1:=run_sliceBound (P:=P) w k l len .sliceAlen h0 (by omega)
  simp [e2,k2,Instr.sliceAt,Instr.sureAddr,run_underlying hu,Instr.sliceBounds,q1,sizeOf,typeInfo,hi,show ¬ len=0 by omega,zax]
theorem ok_aslb (T:TypeId) (x lo hi':Operand) (e:TypeId) (i:TypeInfo) (len:Nat) (hu:P.underlying T=some (.array len e)) (hi:P.info? e=some i) (b off:Nat) (k k':IntKind) (l m:Int) (hx:(zam x).ev tm=.p b off) (hlo:(zam lo).ev tm=.i k l) (hhi:(zam hi').ev tm=.i k' m) (h0:0 ≤ l) (h1:l ≤ m) (h2:m ≤ len) (h3:l < len)
  (h:K objs (.bsl b (off + l.toNat * i.size) (m.toNat - l.toNat))):zaW P C (.slice T x (some lo) (some hi') none) type objs tm K :=
 zag _ h fun G I act w hm hd o ho ht => by
  have e1:=zae hd x; rw [hx] at e1; simp only [Den] at e1
  have e2:=zae hd lo; rw [hlo] at e2; simp only [Den] at e2
  have e3:=zae hd hi'; rw [hhi] at e3; simp only [Den] at e3
  obtain ⟨g,k1,k2⟩:=e1
  refine ⟨.slice (some ⟨g,off + l.toNat * i.size,none⟩) (m.toNat - l.toNat) (len - l.toNat),?_,by simp only [Den]; exact ⟨g,_,k1,rfl,by omega⟩⟩
  unfold execOp; rw [ho]
  have q1:=run_sliceBound (P:=P) w k' m len .sliceAlen (by omega) (by omega)
  have q2:=run_sliceBound (P:=P) w k l m.toNat .sliceB h0 (by omega)
  simp [e2,e3,k2,Instr.sliceAt,Instr.sureAddr,run_underlying hu,Instr.sliceBounds,q1,q2,sizeOf,typeInfo,hi,show ¬ len=l.toNat by omega,zax]
theorem zhd (op:BinOp) (ne:Bool) (hop:op=(if ne then .neq else .eql)) (T T' e:TypeId) (x y:Operand) (hu:P.underlying T=some (.slice e)) (r:Bool) (hy:(zam y).ev tm=.nil)
  (hx:((zam x).ev tm=.nil ∧ r=!ne) ∨ (∃ b,(zam x).ev tm=.zn b ∧ r=(if ne then !b else b)) ∨ (∃ n z zs,(zam x).ev tm=.row n (z :: zs) ∧ r=ne)) (h:K objs (.b r)):zaW P C (.binOp op T x y T') type objs tm K :=
 zag _ h fun G I act w hm hd o ho ht => by
  have e1:=zae hd x
  have e2:=zae hd y; rw [hy] at e2; simp only [Den] at e2
  have key:∃ a n c,act.eval x=.slice a n c ∧ r=(if ne then !a.isNone else a.isNone):=by
   rcases hx with ⟨hx,rfl⟩ | ⟨b,hx,rfl⟩ | ⟨n,z,zs,hx,rfl⟩
   ·rw [hx] at e1; simp only [Den] at e1
    exact ⟨none,0,0,e1,by cases ne <;> rfl⟩
   ·rw [hx] at e1; simp only [Den] at e1
    obtain ⟨a,c,e1,e3,_⟩:=e1
    exact ⟨a,0,c,e1,by rw [e3]⟩
   ·rw [hx] at e1; simp only [Den] at e1
    obtain ⟨a,c,ys,e1,_,k3,_,k5⟩:=e1
    cases ys with
    | nil => have:=k3.length; simp at this
    | cons y' ys =>
     obtain ⟨g,off,e,_⟩:=k5 0 y' rfl
     subst e
     exact ⟨_,n,c,e1,by cases r <;> rfl⟩
  obtain ⟨a,n,c,hv,rfl⟩:=key
  refine ⟨.bool (if ne then !a.isNone else a.isNone),?_,by simp [Den]⟩
  unfold execOp; rw [ho]
  have hq:(Op.equal T (.slice a n c) (.slice none 0 0)).run P w=.ok a.isNone w:=by
   unfold Op.equal
   have hmd:∃ d,Op.maxDepth=d + 1:=⟨_,rfl⟩
   obtain ⟨d,hmd⟩:=hmd
   rw [hmd,Op.equalIn]
   cases a <;> simp [run_underlying hu]
  cases ne <;> subst hop <;> simp [hv,e2,eqGuard,binOp,hq]
theorem ok_sl3 (T:TypeId) (x h' m':Operand) (e:TypeId) (i:TypeInfo) (hu:P.underlying T=some (.slice e)) (hi:P.info? e=some i) (n:Nat) (xs:List AV) (k k':IntKind) (hx:(zam x).ev tm=.row n xs ∨ ((zam x).ev tm=.nil ∧ n=0 ∧ xs=[])) (hh:(zam h').ev tm=.i k n) (hm':(zam m').ev tm=.i k' n)
  (h:K objs (.crow n xs)):zaW P C (.slice T x none (some h') (some m')) type objs tm K :=
 zag _ h fun G I act w hm hd o ho ht => by
  have e1:=zae hd x
  have e2:=zae hd h'; rw [hh] at e2; simp only [Den] at e2
  have e3:=zae hd m'; rw [hm'] at e3; simp only [Den] at e3
  obtain ⟨a,c,ys,f1,f2,f3,f4,f5⟩:∃ a c ys,act.eval x=.slice a n c ∧ (n ≤ c ∧ ∀ ad:Addr,a=some ad → c ≠ 0 → ad.spot=none) ∧ zai G I xs ys ∧ (∀ u ∈ ys,u.oneCell'=true) ∧ ∀ (j:Nat) u,ys[j]? = some u → ∃ g off,a=some ⟨g,off,none⟩ ∧ I g (off + j) u:=by
   rcases hx with hx | ⟨hx,rfl,rfl⟩
   ·rw [hx] at e1; simp only [Den] at e1; exact e1
   ·rw [hx] at e1; simp only [Den] at e1
    exact ⟨none,0,[],e1,⟨Nat.le_refl _,by simp⟩,zai.nil,by simp,by simp⟩
  have q1:=run_sliceBound (P:=P) w k' n c .slice3Acap (by omega) (by omega)
  have q2:=run_sliceBound (P:=P) w k n n .slice3B (by omega) (by omega)
  have ha:(if n=0 then a else a.map (·.add (0 * i.size)))=a:=by
   by_cases h0:n=0
   ·rw [if_pos h0]
   ·rw [if_neg h0]
    cases a with
    | none => rfl
    | some ad =>
     have:=f2.2 ad rfl (by omega)
     obtain ⟨g,off,sp⟩:=ad
     dsimp only at this
     subst this
     rw [Option.map_some,zax,Nat.zero_mul,Nat.add_zero]
  simp only [Int.toNat_natCast] at q1 q2
  refine ⟨.slice a n n,?_,?_⟩
  ·unfold execOp; rw [ho]
   have hb:(Instr.sliceBounds true n c none (some (.int k n)) (some (.int k' n))).run P w=.ok (0,n,n) w:=by
    simp [Instr.sliceBounds,q1,q2]
   simp only [f1,e2,e3,Option.map_some,Option.map_none]
   simp [Instr.sliceAt,Instr.slice,run_underlying hu,hb,sizeOf,typeInfo,hi]
   simpa using ha
  ·simp only [Den]
   exact ⟨a,ys,rfl,fun ad h1 h2 => f2.2 ad h1 (by omega),f3,f4,f5⟩
theorem pu_ok (o:Op) (q:PQ) (xs:List SV) (v:AV) (ht:trPu P o=some (q,xs)) (hv:pq q (xs.map fun x => x.ev tm)=some v) (h:K objs v):zaW P C o type objs tm K:=by
 unfold trPu at ht
 split at ht
 ·rename_i op T x y T'
  split at ht
  ·have int:∀ op',(some (PQ.bits op',[zam x,zam y]):Option (PQ × List SV))=some (q,xs) → zaW P C (.binOp op' T x y T') type objs tm K:=by
    intro op' e
    injection e with e; injection e with e1 e2; subst e1 e2
    simp only [List.map_cons,List.map_nil] at hv
    unfold pq at hv
    split at hv <;> simp only [reduceCtorEq,PQ.bits.injEq,List.cons.injEq,and_true] at *
    rename_i op2 k a k' b e1 e2
    subst e1
    obtain ⟨hx,hy⟩:=e2
    split at hv
    ·rename_i hk; subst hk
     simp only [Option.map_eq_some_iff] at hv
     obtain ⟨r,hr,rfl⟩:=hv
     exact ok_bits _ T T' x y k a b r hx hy hr h
    ·cases hv
   split at ht
   ·exact int _ ht
   ·exact int _ ht
   ·exact int _ ht
   ·injection ht with e; injection e with e1 e2; subst e1 e2
    simp only [List.map_cons,List.map_nil] at hv
    unfold pq at hv
    split at hv <;> simp only [reduceCtorEq,List.cons.injEq,and_true] at *
    rename_i k a k' b _ e2
    obtain ⟨hx,hy⟩:=e2
    split at hv
    ·rename_i hb
     injection hv with hv; subst hv
     exact ok_shl T T' x y k k' a b hx hy hb h
    ·cases hv
   ·injection ht with e; injection e with e1 e2; subst e1 e2
    simp only [List.map_cons,List.map_nil] at hv
    unfold pq at hv
    split at hv <;> simp only [reduceCtorEq,List.cons.injEq,and_true] at *
    rename_i k a k' b _ e2
    obtain ⟨hx,hy⟩:=e2
    split at hv
    ·rename_i hb
     injection hv with hv; subst hv
     exact ok_shr T T' x y k k' a b hx hy hb h
    ·cases hv
   ·cases ht
  ·have str:∀ op',(some (PQ.scmp op',[zam x,zam y]):Option (PQ × List SV))=some (q,xs) → zaW P C (.binOp op' T x y T') type objs tm K:=by
    intro op' e
    injection e with e; injection e with e1 e2; subst e1 e2
    simp only [List.map_cons,List.map_nil] at hv
    unfold pq at hv
    split at hv <;> simp only [reduceCtorEq,PQ.scmp.injEq,List.cons.injEq,and_true] at *
    rename_i op2 l m e1 e2
    subst e1
    obtain ⟨hx,hy⟩:=e2
    simp only [Option.map_eq_some_iff] at hv
    obtain ⟨r,hr,rfl⟩:=hv
    exact ok_scmp _ T T' x y l m r hx hy hr h
   split at ht
   ·exact str _ ht
   ·exact str _ ht
   ·exact str _ ht
   ·exact str _ ht
   ·cases ht
  ·rename_i e hu
   have nl:∀ (op':BinOp) (ne:Bool),op'=(if ne then .neq else .eql) → (some (PQ.snil ne,[zam x,zam y]):Option (PQ × List SV))=some (q,xs) → zaW P C (.binOp op' T x y T') type objs tm K:=by
    intro op' ne hop e'
    injection e' with e'; injection e' with e1 e2; subst e1 e2
    simp only [List.map_cons,List.map_nil] at hv
    unfold pq at hv
    split at hv <;> simp only [reduceCtorEq,PQ.snil.injEq,List.cons.injEq,and_true] at *
    rename_i ne' x' e1 e2
    subst e1
    obtain ⟨hx,hy⟩:=e2
    split at hv
    ·injection hv with hv; subst hv
     exact zhd op' ne hop T T' e x y hu _ hy (.inl ⟨hx,rfl⟩) h
    ·injection hv with hv; subst hv
     exact zhd op' ne hop T T' e x y hu _ hy (.inr (.inl ⟨_,hx,rfl⟩)) h
    ·injection hv with hv; subst hv
     exact zhd op' ne hop T T' e x y hu _ hy (.inr (.inr ⟨_,_,_,hx,rfl⟩)) h
    ·cases hv
   split at ht
   ·exact nl _ false rfl ht
   ·exact nl _ true rfl ht
   ·cases ht
  ·cases ht
 ·rename_i c
  obtain ⟨callee,args,ats⟩:=c
  split at ht
  ·rename_i hc
   simp only at hc; subst hc
   split at ht
   ·rename_i x y hargs
    have ea:args=#[x,y]:=by apply Array.ext'; simpa using hargs
    subst ea
    injection ht with e; injection e with e1 e2; subst e1 e2
    simp only [List.map_cons,List.map_nil] at hv
    unfold pq at hv
    split at hv <;> simp only [reduceCtorEq,List.cons.injEq,and_true] at *
    rename_i k a k' b _ e2
    obtain ⟨hx,hy⟩:=e2
    split at hv
    ·rename_i hk; subst hk
     injection hv with hv; subst hv
     exact ok_mn _ x y ats k a b hx hy h
    ·cases hv
   ·cases ht
  ·rename_i hc
   simp only at hc; subst hc
   split at ht
   ·rename_i x y hargs
    have ea:args=#[x,y]:=by apply Array.ext'; simpa using hargs
    subst ea
    injection ht with e; injection e with e1 e2; subst e1 e2
    simp only [List.map_cons,List.map_nil] at hv
    unfold pq at hv
    split at hv <;> simp only [reduceCtorEq,List.cons.injEq,and_true] at *
    rename_i k a k' b _ e2
    obtain ⟨hx,hy⟩:=e2
    split at hv
    ·rename_i hk; subst hk
     injection hv with hv; subst hv
     exact ok_mx _ x y ats k a b hx hy h
    ·cases hv
   ·cases ht
  ·cases ht
 ·rename_i T x lo
  split at ht
  ·rename_i e hu
   split at ht
   ·rename_i i hi
    injection ht with ee; injection ee with e1 e2; subst e1 e2
    simp only [List.map_cons,List.map_nil] at hv
    unfold pq at hv
    split at hv <;> simp only [reduceCtorEq,PQ.rsl.injEq,List.cons.injEq,and_true] at *
    ·rename_i sz n ys k l e1 e2
     subst e1
     obtain ⟨hx,hy⟩:=e2
     split at hv
     ·rename_i hb
      injection hv with hv; subst hv
      exact ok_rsl T x lo e i hu hi n ys k l hx hy hb.1 hb.2 h
     ·cases hv
    ·rename_i sz k l e1 e2
     obtain ⟨hx,hy⟩:=e2
     split at hv
     ·rename_i hb
      subst hb
      injection hv with hv; subst hv
      exact ok_rsn T x lo e i hu hi k hx hy h
     ·cases hv
   ·cases ht
  ·rename_i len e hu
   split at ht
   ·rename_i i hi
    injection ht with ee; injection ee with e1 e2; subst e1 e2
    simp only [List.map_cons,List.map_nil] at hv
    unfold pq at hv
    split at hv <;> simp only [reduceCtorEq,PQ.asl.injEq,List.cons.injEq,and_true] at *
    rename_i sz len' b off k l e1 e2
    obtain ⟨e1,e3⟩:=e1
    subst e1 e3
    obtain ⟨hx,hy⟩:=e2
    split at hv
    ·rename_i hb
     injection hv with hv; subst hv
     exact ok_asl T x lo e i len hu hi b off k l hx hy hb.1 hb.2 h
    ·cases hv
   ·cases ht
  ·cases ht
 ·rename_i T x lo hi'
  split at ht
  ·rename_i e hu
   split at ht
   ·rename_i i hi
    injection ht with ee; injection ee with e1 e2; subst e1 e2
    simp only [List.map_cons,List.map_nil] at hv
    unfold pq at hv
    split at hv <;> simp only [reduceCtorEq,PQ.rslb.injEq,List.cons.injEq,and_true] at *
    rename_i sz n ys k l k' m e1 e2
    subst e1
    obtain ⟨hx,hlo,hhi⟩:=e2
    split at hv
    ·rename_i hb
     injection hv with hv; subst hv
     exact ok_rslb T x lo hi' e i hu hi n ys k k' l m hx hlo hhi hb.1 hb.2.1 hb.2.2 h
    ·cases hv
   ·cases ht
  ·rename_i len e hu
   split at ht
   ·rename_i i hi
    injection ht with ee; injection ee with e1 e2; subst e1 e2
    simp only [List.map_cons,List.map_nil] at hv
    unfold pq at hv
    split at hv <;> simp only [reduceCtorEq,PQ.aslb.injEq,List.cons.injEq,and_true] at *
    rename_i sz len' b off k l k' m e1 e2
    obtain ⟨e1,e3⟩:=e1
    subst e1 e3
    obtain ⟨hx,hlo,hhi⟩:=e2
    split at hv
    ·rename_i hb
     injection hv with hv; subst hv
     exact ok_aslb T x lo hi' e i len hu hi b off k k' l m hx hlo hhi hb.1 hb.2.1 hb.2.2.1 hb.2.2.2 h
    ·cases hv
   ·cases ht
  ·cases ht
 ·rename_i T x hi'
  split at ht
  ·rename_i len e hu
   split at ht
   ·rename_i i hi
    injection ht with ee; injection ee with e1 e2; subst e1 e2
    simp only [List.map_cons,List.map_nil] at hv
    unfold pq at hv
    split at hv <;> simp only [reduceCtorEq,PQ.aslh.injEq,List.cons.injEq,and_true] at *
    rename_i sz len' b off k l e1 e2
    obtain ⟨e1,e3⟩:=e1
    subst e1 e3
    obtain ⟨hx,hy⟩:=e2
    split at hv
    ·rename_i hb
     injection hv with hv; subst hv
     exact ok_aslh T x hi' e i len hu hi b off k l hx hy hb.1 hb.2.1 hb.2.2 h
    ·cases hv
   ·cases ht
  ·cases ht
 ·rename_i T x hi' mx'
  split at ht
  ·rename_i e hu
   split at ht
   ·rename_i i hi
    injection ht with ee; injection ee with e1 e2; subst e1 e2
    simp only [List.map_cons,List.map_nil] at hv
    unfold pq at hv
    split at hv <;> simp only [reduceCtorEq,List.cons.injEq,and_true] at *
    ·rename_i n ys k a k' b _ e2
     obtain ⟨hx,hh,hm⟩:=e2
     split at hv
     ·rename_i hb
      obtain ⟨rfl,rfl⟩:=hb
      injection hv with hv; subst hv
      exact ok_sl3 T x hi' mx' e i hu hi n ys k k' (.inl hx) hh hm h
     ·cases hv
    ·rename_i k a k' b _ e2
     obtain ⟨hx,hh,hm⟩:=e2
     split at hv
     ·rename_i hb
      obtain ⟨rfl,rfl⟩:=hb
      injection hv with hv; subst hv
      exact ok_sl3 T x hi' mx' e i hu hi 0 [] k k' (.inr ⟨hx,rfl,rfl⟩) hh hm h
     ·cases hv
   ·cases ht
  ·cases ht
 ·cases ht
end
set_option linter.constructorNameAsVariable false
def zjH (k:List UInt8):List (List UInt8 × AV) → Option AV
 | [] => none
 | e :: r => if e.1=k then some e.2 else zjH k r
def zid (k:List UInt8) (v:AV):List (List UInt8 × AV) → List (List UInt8 × AV)
 | [] => [(k,v)]
 | e :: r => if e.1=k then (k,v) :: r else e :: zid k v r
def lkA (z:AV) (ok:Bool):Option AV → AV
 | some v => if ok then .tup [v,.b true] else v
 | none => if ok then .tup [z,.b false] else z
theorem same_str (l m:List UInt8):Instr.sameNow .string (.string ⟨l.toArray⟩) (.string ⟨m.toArray⟩)=some (decide (m=l)):=by
 obtain ⟨r,hr,hi⟩:=MapKept.sameNow_of_keys (d:=.string) (a:=.string ⟨l.toArray⟩) (b:=.string ⟨m.toArray⟩) (by simp [MapKept.IsKey]) (by simp [MapKept.IsKey])
 rw [hr]
 congr 1
 by_cases c:m=l
 ·rw [decide_eq_true c]; exact hi.2 (by rw [c])
 ·rw [decide_eq_false c]
  cases r with
  | false => rfl
  | true =>
   have:=hi.1 rfl
   simp only [Value.string.injEq,ByteArray.mk.injEq] at this
   exact absurd (by simpa using this.symm) c
theorem zdL {α β:Type} (f:α → β) (g:α → α) (c:β) (h:∀ x,f (g x)=c):∀ (l:List α) (j:Nat),(l.modify j g).map f=(l.map f).set j c
 | [],j => by simp
 | a :: l,0 => by simp [h]
 | a :: l,j + 1 => by simp [zdL f g c h l j]
theorem zeE {G:Gh} {I:Imm} (k:List UInt8):∀ (es:List (List UInt8 × AV)) (en:List MapEntry) (i:Nat),en.map (·.key)=es.map (fun e => Value.string ⟨e.1.toArray⟩) → zai G I (es.map (·.2)) (en.map (·.val)) →
  (zjH k es=none ∧ Instr.findNow .string (.string ⟨k.toArray⟩) en i=some none ∧ zid k .u es=es ++ [(k,.u)]) ∨
  (∃ (v:AV) (y:Value) (j:Nat) (e:MapEntry),zjH k es=some v ∧ Instr.findNow .string (.string ⟨k.toArray⟩) en i=some (some (i + j,y)) ∧ Den G I v y ∧ en[j]? = some e ∧ e.key=.string ⟨k.toArray⟩ ∧ e.val=y ∧ ∀ u,zid k u es=es.set j (k,u))
 | [],[],i,_,_ => .inl ⟨rfl,rfl,rfl⟩
 | [],e :: en,i,hk,_ => by simp at hk
 | a :: es,[],i,hk,_ => by simp at hk
 | a :: es,e :: en,i,hk,hd => by
  simp only [List.map_cons,List.cons.injEq] at hk
  simp only [List.map_cons,zai] at hd
  obtain ⟨y,ys,h1,h2,h3⟩:=hd
  injection h1 with h1 h4
  subst h1 h4
  have hs:Instr.sameNow .string (.string ⟨k.toArray⟩) e.key=some (decide (a.1=k)):=by rw [hk.1]; exact same_str k a.1
  by_cases c:a.1=k
  ·refine .inr ⟨a.2,e.val,0,e,by simp [zjH,c],?_,h2,rfl,by rw [hk.1,c],rfl,fun u => by simp [zid,c]⟩
   simp only [Instr.findNow,hs,decide_eq_true c]
   rfl
  ·have hf:Instr.findNow .string (.string ⟨k.toArray⟩) (e :: en) i=Instr.findNow .string (.string ⟨k.toArray⟩) en (i + 1):=by
    rw [Instr.findNow,hs,decide_eq_false c]
   rcases zeE k es en (i + 1) hk.2 h3 with ⟨q1,q2,q3⟩ | ⟨v,y,j,e',q1,q2,q3,q4,q5,q6,q7⟩
   ·exact .inl ⟨by simp [zjH,c,q1],by rw [hf,q2],by simp [zid,c,q3]⟩
   ·exact .inr ⟨v,y,j + 1,e',by simp [zjH,c,q1],by rw [hf,q2]; congr 3; omega,q3,by simpa using q4,q5,q6,fun u => by simp [zid,c,q7]⟩
section
variable {P:Program} {C:Cx} {objs:List OB} {tm:List AV} {K:List OB → AV → Prop} {type:TypeId}
theorem ok_mkm0 (T:TypeId) (h:K (objs ++ [.mp []]) (.m objs.length)):zaW P C (.makeMap T none) type objs tm K:=by
 intro G I a w hin hm hd op next Q ho ht hn
 obtain ⟨G',k1,k2,k3,k4⟩:=newmap hin hm
 refine zaT (w':=w.alloc (.map #[] 0)) (y:=.map (some w.heap.size)) ?_ (hn _ _ _ _ _ _ h k1 (Imm.le.refl I) k2 k3 k4)
 unfold execOp; rw [ho]
 simp [run_makeMap]
theorem ok_mkm1 (T:TypeId) (x:Operand) (kt e:TypeId) (hu:P.underlying T=some (.map kt e)) (k:IntKind) (n:Int) (hx:(zam x).ev tm=.i k n) (h:K (objs ++ [.mp []]) (.m objs.length)):zaW P C (.makeMap T (some x)) type objs tm K:=by
 intro G I a w hin hm hd op next Q ho ht hn
 have e1:=zae hd x; rw [hx] at e1; simp only [Den] at e1
 obtain ⟨G',k1,k2,k3,k4⟩:=newmap hin hm
 refine zaT (w':=w.alloc (.map #[] 0)) (y:=.map (some w.heap.size)) ?_ (hn _ _ _ _ _ _ h k1 (Imm.le.refl I) k2 k3 k4)
 have hr:(Instr.makeMap T (some (a.eval x))).run P w=.ok (.map (some w.heap.size)) (w.alloc (.map #[] 0)):=by
  rw [e1]
  unfold Instr.makeMap
  simp only [Sem.run_bind,run_underlying hu w,asInt,asIntOf,Sem.run_pure,Result.andThen_ok]
  rfl
 unfold execOp; rw [ho]
 simp [hr]
theorem ok_lk (T:TypeId) (x y:Operand) (ok:Bool) (kt e:TypeId) (i:TypeInfo) (z:Value) (hu:P.underlying T=some (.map kt e)) (hk:P.underlying kt=some .string) (hi:P.info? e=some i) (hz:i.zero=some z)
  (b:Nat) (es:List (List UInt8 × AV)) (k:List UInt8) (hx:(zam x).ev tm=.m b) (hb:objs[b]? = some (.mp es)) (hy:(zam y).ev tm=.s k)
  (h:K objs (lkA (zi0 z) ok (zjH k es))):zaW P C (.lookup T x y ok) type objs tm K :=
 zag _ h fun G I a w hm hd op ho ht => by
  have e1:=zae hd x; rw [hx] at e1; simp only [Den] at e1
  obtain ⟨g,hg,e1⟩:=e1
  have e2:=zae hd y; rw [hy] at e2; simp only [Den] at e2
  obtain ⟨g',en,ck,k1,k2,k3⟩:=hm.map b es hb
  obtain rfl:g=g':=Option.some.inj (hg.symm.trans k1)
  have hzv:(zeroValue e).run P w=.ok z w:=by simp [zeroValue,typeInfo,Sem.run_bind,hi,hz,Sem.run]
  have hck:=MapKept.run_checkKey (P:=P) (w:=w) (k:=.string ⟨k.toArray⟩) hk (by simp [MapKept.IsKey]) en.isEmpty 9999
  have hgo:=MapKept.run_getObj_map (P:=P) k2
  rcases zeE k es en.toList 0 k3.1 k3.2.1 with ⟨q1,q2,_⟩ | ⟨v,yv,j,e',q1,q2,q3,_⟩
  ·have hr:(Instr.lookup T (.map (some g)) (.string ⟨k.toArray⟩) ok).run P w=.ok (if ok then .tuple #[z,.bool false] else z) w:=by
    simp only [Instr.lookup,Instr.findKey,Sem.run_bind,run_underlying hu w,Result.andThen_ok,hgo,run_underlying hk w,q2,Sem.run_pure,hck,hzv]
   rw [q1]
   refine ⟨_,by unfold execOp; rw [ho]; simp only [e1,e2,hr,Sem.run_bind,Result.andThen_ok,Sem.run_pure]; rfl,?_⟩
   cases ok
   ·exact zek G I z
   ·simp only [lkA,if_true,Den]
    exact ⟨[z,.bool false],rfl,zai.cons (zek G I z) (zai.cons (by simp [Den]) zai.nil)⟩
  ·have hr:(Instr.lookup T (.map (some g)) (.string ⟨k.toArray⟩) ok).run P w=.ok (if ok then .tuple #[yv,.bool true] else yv) w:=by
    simp only [Instr.lookup,Instr.findKey,Sem.run_bind,run_underlying hu w,Result.andThen_ok,hgo,run_underlying hk w,q2,Sem.run_pure,hck,hzv]
   rw [q1]
   refine ⟨_,by unfold execOp; rw [ho]; simp only [e1,e2,hr,Sem.run_bind,Result.andThen_ok,Sem.run_pure]; rfl,?_⟩
   cases ok
   ·exact q3
   ·simp only [lkA,if_true,Den]
    exact ⟨[yv,.bool true],rfl,zai.cons q3 (zai.cons (by simp [Den]) zai.nil)⟩
theorem ok_mup (T:TypeId) (x y v:Operand) (kt e:TypeId) (hu:P.underlying T=some (.map kt e)) (hk:P.underlying kt=some .string)
  (b:Nat) (es:List (List UInt8 × AV)) (k:List UInt8) (hx:(zam x).ev tm=.m b) (hb:objs[b]? = some (.mp es)) (hy:(zam y).ev tm=.s k) (hv:((zam v).ev tm).one=true)
  (h:K (objs.set b (.mp (zid k ((zam v).ev tm) es))) .u):zaW P C (.mapUpdate T x y v) type objs tm K:=by
 intro G I a w hin hm hd op next Q ho ht hn
 have e1:=zae hd x; rw [hx] at e1; simp only [Den] at e1
 obtain ⟨g,hg,e1⟩:=e1
 have e2:=zae hd y; rw [hy] at e2; simp only [Den] at e2
 have e3:=zae hd v
 have e4:=zmg e3 hv
 obtain ⟨g',en,ck,k1,k2,k3,k4,k5⟩:=hm.map b es hb
 obtain rfl:g=g':=Option.some.inj (hg.symm.trans k1)
 have hck:=MapKept.run_checkKey (P:=P) (w:=w) (k:=.string ⟨k.toArray⟩) hk (by simp [MapKept.IsKey]) false 9999
 have hgo:=MapKept.run_getObj_map (P:=P) k2
 have hglt:g < w.heap.size:=(Array.getElem?_eq_some_iff.1 k2).1
 have fin:∀ (en':Array MapEntry) (ck':Nat),(Instr.mapUpdate T (.map (some g)) (.string ⟨k.toArray⟩) (a.eval v)).run P w=.ok () { w with heap:=w.heap.setIfInBounds g (.map en' ck') } → Ents G I (zid k ((zam v).ev tm) es) en'.toList → op.wp P a w next Q:=by
  intro en' ck' hr he
  have hgb:w.grownBy { w with heap:=w.heap.setIfInBounds g (.map en' ck') } (some g):=by
   refine ⟨rfl,rfl,rfl,by simp,fun j hj hne => ?_⟩
   show (w.heap.setIfInBounds g (.map en' ck'))[j]? = _
   rw [Array.getElem?_setIfInBounds_ne (fun e => hne (by rw [e]))]
  obtain ⟨s1,s2⟩:=setmap hin hm b g es _ en' ck' hb hg hgb (by show (w.heap.setIfInBounds g (.map en' ck'))[g]? = _; rw [Array.getElem?_setIfInBounds_self_of_lt hglt]) he
  refine zfk (w':={ w with heap:=w.heap.setIfInBounds g (.map en' ck') }) ?_ (hn _ .u undef G I _ h (Gh.le.refl G) (Imm.le.refl I) s1 s2 (by simp [Den]))
  unfold execOp; rw [ho]
  simp only [e1,e2,hr,Sem.run_bind,Result.andThen_ok,Sem.run_pure]
 rcases zeE k es en.toList 0 k3 k4 with ⟨q1,q2,q3⟩ | ⟨v',yv,j,e',q1,q2,q3,q4,q5,q6,q7⟩
 ·refine fin (en.push { key:=.string ⟨k.toArray⟩,val:=a.eval v,born:=ck }) (ck + 1) ?_ ?_
  ·simp only [Instr.mapUpdate,Instr.findKey,Sem.run_bind,run_underlying hu w,Result.andThen_ok,hgo,run_underlying hk w,q2,Sem.run_pure,hck]
   exact MapKept.run_setObj_map _ k2
  ·have q3':∀ u,zid k u es=es ++ [(k,u)]:=by
    have:∀ (u:AV) (l:List (List UInt8 × AV)),zjH k l=none → zid k u l=l ++ [(k,u)]:=by
     intro u l
     induction l with
     | nil => intro _; rfl
     | cons a l ih =>
      intro hl
      unfold zjH at hl
      split at hl
      ·cases hl
      ·rename_i c; simp [zid,c,ih hl]
    exact fun u => this u es q1
   rw [q3']
   refine ⟨by simp [k3],?_,?_⟩
   ·simp only [Array.toList_push,List.map_append,List.map_cons,List.map_nil]
    exact zai.append k4 (zai.cons e3 zai.nil)
   ·intro u hu
    simp only [Array.toList_push,List.map_append,List.map_cons,List.map_nil,List.mem_append,List.mem_singleton] at hu
    rcases hu with hu | rfl
    ·exact k5 u hu
    ·exact e4
 ·refine fin (en.modify (0 + j) fun e => { e with key:=.string ⟨k.toArray⟩,val:=a.eval v }) ck ?_ ?_
  ·have hkey:(((en[0 + j]?).map (·.key)).getD (.string ⟨k.toArray⟩))=.string ⟨k.toArray⟩:=by
    rw [Nat.zero_add]
    have:en[j]? = some e':=by simpa using q4
    rw [this]; simp [q5]
   have hst:(Instr.keyThatStays (.string ⟨k.toArray⟩) (.string ⟨k.toArray⟩)).run P w=.ok (.string ⟨k.toArray⟩) w:=by
    have:Instr.sameBits 10000 (.string ⟨k.toArray⟩) (.string ⟨k.toArray⟩)=true:=by
     show ((⟨k.toArray⟩:ByteArray) == ⟨k.toArray⟩)=true
     exact MapKept.bytes_beq _ _ |>.2 rfl
    unfold Instr.keyThatStays
    rw [if_pos this]; rfl
   simp only [Instr.mapUpdate,Instr.findKey,Sem.run_bind,run_underlying hu w,Result.andThen_ok,hgo,run_underlying hk w,q2,Sem.run_pure,hck,hkey,hst]
   exact MapKept.run_setObj_map _ k2
  ·rw [q7,Nat.zero_add]
   have hl:=k4.length
   simp only [List.length_map] at hl
   have hj:j < en.toList.length:=by
    rcases Nat.lt_or_ge j en.toList.length with h0 | h0
    ·exact h0
    ·rw [List.getElem?_eq_none h0] at q4; cases q4
   have ek:(en.modify j fun e => { e with key:=.string ⟨k.toArray⟩,val:=a.eval v }).toList.map (·.key)=(en.toList.map (·.key)).set j (.string ⟨k.toArray⟩):=by
    rw [Array.toList_modify]
    exact zdL _ (fun (q:MapEntry) => { q with key:=.string ⟨k.toArray⟩,val:=a.eval v }) _ (fun _ => rfl) _ _
   have ev':(en.modify j fun e => { e with key:=.string ⟨k.toArray⟩,val:=a.eval v }).toList.map (·.val)=(en.toList.map (·.val)).set j (a.eval v):=by
    rw [Array.toList_modify]
    exact zdL _ (fun (q:MapEntry) => { q with key:=.string ⟨k.toArray⟩,val:=a.eval v }) _ (fun _ => rfl) _ _
   refine ⟨?_,?_,?_⟩
   ·rw [ek,k3,List.map_set]
   ·rw [ev',List.map_set]
    exact zai.set j k4 e3
   ·intro u hu
    rw [ev'] at hu
    rcases List.mem_or_eq_of_mem_set hu with hu | rfl
    ·exact k5 u hu
    ·exact e4
end
inductive SOp where
 | mv (x:SV)
 | pick (c x y:SV)
 | alloc (T:Nat) (z:List AV)
 | box (T:Nat) (x:SV)
 | build (z:List AV) (ps:List (Nat × Nat × SV))
 | bslice (len:Nat) (z:List AV) (ps:List (Nat × Nat × SV))
 | bslo (E sz len:Nat) (z:List AV) (ps:List (Nat × Nat × SV))
 | load1 (x:SV)
 | loadn (sz:Nat) (x:SV)
 | store (sz:Nat) (x y:SV)
 | nck (x:SV)
 | bin (op:BinOp) (x y:SV)
 | beq (ne:Bool) (x y:SV)
 | eqs (ne:Bool) (et:ET) (x y:SV)
 | not (x:SV)
 | neg (x:SV)
 | cvi (k:IntKind) (x:SV)
 | cvs (x:SV)
 | cvbs (x:SV)
 | slcs (x:SV) (lo hi:Option SV)
 | fad (off:Nat) (x:SV)
 | fld1 (off:Nat) (x:SV)
 | fldn (off sz:Nat) (x:SV)
 | iad (sz:Nat) (x y:SV)
 | iada (sz len:Nat) (x y:SV)
 | iadr (sz:Nat) (x y:SV)
 | idx (x y:SV)
 | ext (x:SV) (k:Nat)
 | call (f:Nat) (args:List SV)
 | pcall (f:Nat) (args:List SV)
 | callv (x:SV) (args:List SV)
 | app (E sz bytes:Nat) (x y:SV)
 | apps (E:Nat) (x y:SV)
 | lens (x:SV)
 | lenr (x:SV)
 | mks (E sz bytes:Nat) (x y:SV)
 | mkz (E bytes:Nat) (kd:IntKind) (z:Int) (x:SV)
 | capp (sz bytes:Nat) (x y:SV)
 | trn (sz:Nat) (x y:SV)
 | mkf (f:Nat) (fs cs:List SV)
 | pu (q:PQ) (xs:List SV)
 | mkm0
 | mkm1 (x:SV)
 | lk (z:AV) (ok:Bool) (x y:SV)
 | mup (x y v:SV)
def arK (k:IntKind) (r:Int) (K:Int → Prop):Prop :=
 match k with
 | .i64 => (-9223372036854775808 ≤ r ∧ r ≤ 9223372036854775807) ∧ K r
 | k => K (k.wrap r)
def zgZ (tm:List AV) (d:Int):Option SV → Option Int
 | none => some d
 | some x => match x.ev tm with
  | .i _ n => some n
  | _ => none
def binK (op:BinOp) (x y:AV) (K:AV → Prop):Prop :=
 match x,y with
 | .i k m,.i k' n => k=k' ∧
  match op with
  | .add => arK k (m + n) fun r => K (.i k r)
  | .sub => arK k (m - n) fun r => K (.i k r)
  | .mul => arK k (m * n) fun r => K (.i k r)
  | .quo => n ≠ 0 ∧ arK k (m.tdiv n) fun r => K (.i k r)
  | .rem => n ≠ 0 ∧ K (.i k (m.tmod n))
  | .eql => K (.b (decide (m=n)))
  | .neq => K (.b (decide (¬ m=n)))
  | .lss => K (.b (decide (m < n)))
  | .leq => K (.b (decide (m ≤ n)))
  | .gtr => K (.b (decide (n < m)))
  | .geq => K (.b (decide (n ≤ m)))
  | _ => False
 | .s l,.s m =>
  match op with
  | .add => l.length + m.length ≤ 9223372036854775807 ∧ K (.s (l ++ m))
  | .eql => K (.b (decide (l=m)))
  | .neq => K (.b (decide (¬ l=m)))
  | _ => False
 | _,_ => False
def wpS (P:Program) [Tabs P] (so:SOp) (objs:List OB) (tm:List AV) (K:List OB → AV → Prop):Prop :=
 match so with
 | .mv x => K objs (x.ev tm)
 | .pick c x y => match c.ev tm with
  | .b t => (t=true → K objs (x.ev tm)) ∧ (t=false → K objs (y.ev tm))
  | _ => False
 | .alloc T z => K (objs ++ [.box T z]) (.p objs.length 0)
 | .box T x => (x.ev tm).flat=true ∧ K (objs ++ [.box T (x.ev tm).cells]) (.p objs.length 0)
 | .build z ps => match zcp z (ps.map fun p => (p.1,p.2.1,p.2.2.ev tm)) with
  | some cs => K objs (.agg cs)
  | none => False
 | .bslice len z ps => match zcp z (ps.map fun p => (p.1,p.2.1,p.2.2.ev tm)) with
  | some cs => K objs (.row len cs)
  | none => False
 | .bslo E sz len z ps => match zcp z (ps.map fun p => (p.1,p.2.1,p.2.2.ev tm)) with
  | some cs => cs.length=len * sz ∧ K (objs ++ [.orow E sz 0 len cs]) (.orow objs.length 0)
  | none => False
 | .load1 x => match x.ev tm with
  | .p b off => match objs[b]? with
   | some (.box _ cs) => match cs[off]? with
    | some v => K objs v
    | none => False
   | _ => False
  | .prow xs j => ∃ v,xs[j]? = some v ∧ K objs v
  | .porow b gen j => match objs[b]? with
   | some (.orow _ _ gen' _ xs) => gen'=gen ∧ ∃ v,xs[j]? = some v ∧ K objs v
   | _ => False
  | _ => False
 | .loadn sz x => match x.ev tm with
  | .p b off => match objs[b]? with
   | some (.box _ cs) => off + sz ≤ cs.length ∧ K objs (.agg ((cs.drop off).take sz))
   | _ => False
  | .prow xs j => j + sz ≤ xs.length ∧ K objs (.agg ((xs.drop j).take sz))
  | .porow b gen j => match objs[b]? with
   | some (.orow _ _ gen' _ xs) => (gen'=gen ∧ j + sz ≤ xs.length) ∧ K objs (.agg ((xs.drop j).take sz))
   | _ => False
  | _ => False
 | .store sz x y => match x.ev tm with
  | .p b off => match objs[b]? with
   | some (.box T cs) => ((y.ev tm).flat=true ∧ (y.ev tm).cells.length=sz ∧ off + sz ≤ cs.length) ∧ K (objs.set b (.box T (zaS cs off (y.ev tm).cells))) .u
   | _ => False
  | .porow b gen j => match objs[b]? with
   | some (.orow E s gen' n xs) => (gen'=gen ∧ (y.ev tm).flat=true ∧ (y.ev tm).cells.length=sz ∧ j + sz ≤ xs.length) ∧ K (objs.set b (.orow E s gen' n (zaS xs j (y.ev tm).cells))) .u
   | _ => False
  | _ => False
 | .nck x => match x.ev tm with
  | .p b o => K objs (.p b o)
  | .prow xs j => K objs (.prow xs j)
  | .fn f fs cs => K objs (.fn f fs cs)
  | .porow b gen j => K objs (.porow b gen j)
  | _ => False
 | .bin op x y => binK op (x.ev tm) (y.ev tm) fun v => K objs v
 | .beq ne x y => match x.ev tm,y.ev tm with
  | .b l,.b m => K objs (.b (if ne then !(l == m) else (l == m)))
  | _,_ => False
 | .eqs ne et x y => match x.ev tm,y.ev tm with
  | .agg xs,.agg ys => match eqA et (.agg xs) (.agg ys) with
   | some r => K objs (.b (if ne then !r else r))
   | none => False
  | _,_ => False
 | .not x => match x.ev tm with
  | .b t => K objs (.b (!t))
  | _ => False
 | .neg x => match x.ev tm with
  | .i k n => arK k (0 - n) fun r => K objs (.i k r)
  | _ => False
 | .cvi k x => match x.ev tm with
  | .i _ n => K objs (.i k (k.wrap n))
  | _ => False
 | .cvs x => match x.ev tm with
  | .s l => K objs (.s l)
  | _ => False
 | .cvbs x => match x.ev tm with
  | .orow b gen => match objs[b]? with
   | some (.orow _ sz gen' _ xs) => (gen'=gen ∧ sz=1) ∧ ∃ l,xs=byA l ∧ K objs (.s l)
   | _ => False
  | .row n xs => ∃ l,(xs=byA l ∧ n=l.length) ∧ K objs (.s l)
  | .nil => K objs (.s [])
  | .bsl b off n => match objs[b]? with
   | some (.box _ cs) => ∃ l,((cs.drop off).take n=byA l ∧ l.length=n) ∧ K objs (.s l)
   | _ => False
  | _ => False
 | .slcs x lo hi => match x.ev tm with
  | .s l => match zgZ tm 0 lo,zgZ tm l.length hi with
   | some i,some j => (0 ≤ i ∧ i ≤ j ∧ j ≤ l.length) ∧ K objs (.s ((l.take j.toNat).drop i.toNat))
   | _,_ => False
  | _ => False
 | .fad off x => match x.ev tm with
  | .p b o => K objs (.p b (o + off))
  | .prow xs j => K objs (.prow xs (j + off))
  | .porow b gen j => K objs (.porow b gen (j + off))
  | _ => False
 | .fld1 off x => match x.ev tm with
  | .agg cs => match cs[off]? with
   | some v => K objs v
   | none => False
  | _ => False
 | .fldn off sz x => match x.ev tm with
  | .agg cs => K objs (.agg ((cs.drop off).take sz))
  | _ => False
 | .iad sz x y => match x.ev tm,y.ev tm with
  | .row n xs,.i _ i => (0 ≤ i ∧ i < n ∧ n * sz ≤ xs.length) ∧ K objs (.prow xs (i.toNat * sz))
  | .orow b gen,.i _ i => match objs[b]? with
   | some (.orow _ s gen' n _) => (gen'=gen ∧ s=sz ∧ 0 ≤ i ∧ i < n) ∧ K objs (.porow b gen (i.toNat * sz))
   | _ => False
  | _,_ => False
 | .iadr sz x y => match x.ev tm,y.ev tm with
  | .row n xs,.i _ i => (0 ≤ i ∧ i < n ∧ n * sz ≤ xs.length) ∧ K objs (.prow xs (i.toNat * sz))
  | _,_ => False
 | .iada sz len x y => match x.ev tm,y.ev tm with
  | .p b off,.i _ i => (0 ≤ i ∧ i < len) ∧ K objs (.p b (off + i.toNat * sz))
  | _,_ => False
 | .idx x y => match x.ev tm,y.ev tm with
  | .s l,.i _ n => (0 ≤ n ∧ n < l.length) ∧ K objs (.i .u8 ((l.getD n.toNat 0).toNat:Int))
  | _,_ => False
 | .ext x k => match x.ev tm with
  | .tup vs => match vs[k]? with
   | some v => K objs v
   | none => False
  | _ => False
 | .call f args => zah P f (args.map fun x => x.ev tm) objs K
 | .pcall f args => zan (args.map fun x => x.ev tm)=true ∧ zah P f (args.map fun x => x.ev tm) [] fun _ r => r.plain=true ∧ K objs r
 | .callv x args => match x.ev tm with
  | .fn f fs cs => (∃ fn, P.funcs[f]? = some fn ∧ fn.body.isSome = true ∧ fn.name ≠ "runtime.NumGoroutine") ∧ zah P f (fs ++ (args.map fun x => x.ev tm) ++ cs) objs K
  | _ => False
 | .app E sz bytes x y => match zcu objs (y.ev tm) with
  | some (m,ys) => match x.ev tm with
   | .orow b gen => match objs[b]? with
    | some (.orow E' sz' gen' n xs) => ((E'=E ∧ sz'=sz ∧ gen'=gen) ∧ ys.length=m * sz ∧ (n + m) * bytes ≤ 140737488355328 ∧ n + m ≤ 140737488355328) ∧ K (objs.set b (.orow E sz (gen + 1) (n + m) (xs ++ ys))) (.orow b (gen + 1))
    | _ => False
   | .nil => (ys.length=m * sz ∧ m * bytes ≤ 140737488355328 ∧ m ≤ 140737488355328) ∧ K (objs ++ [.orow E sz 0 m ys]) (.orow objs.length 0)
   | _ => False
  | none => False
 | .capp sz bytes x y => match x.ev tm,zcu [] (y.ev tm) with
  | .crow n xs,some (m,ys) => ((xs.length=n * sz ∧ ys.length=m * sz) ∧ 0 < m ∧ (n + m) * bytes ≤ 140737488355328 ∧ n + m ≤ 140737488355328) ∧ K objs (.row (n + m) (xs ++ ys))
  | _,_ => False
 | .apps E x y => match y.ev tm with
  | .s l => match x.ev tm with
   | .orow b gen => match objs[b]? with
    | some (.orow E' sz' gen' n xs) => ((E'=E ∧ sz'=1 ∧ gen'=gen) ∧ n + l.length ≤ 140737488355328) ∧ K (objs.set b (.orow E 1 (gen + 1) (n + l.length) (xs ++ byA l))) (.orow b (gen + 1))
    | _ => False
   | .nil => l.length ≤ 140737488355328 ∧ K (objs ++ [.orow E 1 0 l.length (byA l)]) (.orow objs.length 0)
   | _ => False
  | _ => False
 | .lens x => match x.ev tm with
  | .s l => K objs (.i .i64 l.length)
  | _ => False
 | .lenr x => match x.ev tm with
  | .row n _ => K objs (.i .i64 n)
  | .nil => K objs (.i .i64 0)
  | .zn _ => K objs (.i .i64 0)
  | .orow b gen => match objs[b]? with
   | some (.orow _ _ gen' n _) => gen'=gen ∧ K objs (.i .i64 n)
   | _ => False
  | _ => False
 | .mks E sz bytes x y => match x.ev tm,y.ev tm with
  | .i _ l,.i _ c => (l=0 ∧ 0 ≤ c ∧ (bytes:Int) * c ≤ 281474976710656 ∧ c ≤ 140737488355328) ∧ K (objs ++ [.orow E sz 0 0 []]) (.orow objs.length 0)
  | _,_ => False
 | .mkz E bytes kd z x => match x.ev tm with
  | .i _ l => (0 ≤ l ∧ (bytes:Int) * l ≤ 281474976710656 ∧ l ≤ 140737488355328) ∧ K (objs ++ [.orow E 1 0 l.toNat (List.replicate l.toNat (.i kd z))]) (.orow objs.length 0)
  | _ => False
 | .trn sz x y => match x.ev tm,y.ev tm with
  | .row n xs,.i _ j => (0 ≤ j ∧ j ≤ n) ∧ K objs (.row j.toNat (xs.take (j.toNat * sz)))
  | .nil,.i _ j => j=0 ∧ K objs .nil
  | .orow b gen,.i _ j => match objs[b]? with
   | some (.orow E s gen' n xs) => (gen'=gen ∧ s=sz ∧ 0 ≤ j ∧ j ≤ n) ∧ K (objs.set b (.orow E s (gen + 1) j.toNat (xs.take (j.toNat * s)))) (.orow b (gen + 1))
   | _ => False
  | _,_ => False
 | .mkf f fs cs => K objs (.fn f (fs.map fun x => x.ev tm) (cs.map fun x => x.ev tm))
 | .pu q xs => match pq q (xs.map fun x => x.ev tm) with
  | some v => K objs v
  | none => False
 | .mkm0 => K (objs ++ [.mp []]) (.m objs.length)
 | .mkm1 x => match x.ev tm with
  | .i _ _ => K (objs ++ [.mp []]) (.m objs.length)
  | _ => False
 | .lk z ok x y => match x.ev tm,y.ev tm with
  | .m b,.s l => match objs[b]? with
   | some (.mp es) => K objs (lkA z ok (zjH l es))
   | _ => False
  | _,_ => False
 | .mup x y v => match x.ev tm,y.ev tm with
  | .m b,.s l => match objs[b]? with
   | some (.mp es) => (v.ev tm).one=true ∧ K (objs.set b (.mp (zid l (v.ev tm) es))) .u
   | _ => False
  | _,_ => False
def zgX (P:Program):Op → Option SOp
 | .move x | .assign x => some (.mv (zam x))
 | .pick c x y => some (.pick (zam c) (zam x) (zam y))
 | .alloc T => match P.info? T with
  | some i => match i.zero with
   | some z => if z.cells.toList.all (·.oneCell')=true then some (.alloc T (z.cells.toList.map zi0)) else none
   | none => none
  | none => none
 | .box T x => some (.box T (zam x))
 | .build t parts => match P.info? t,zfL P t with
  | some it,some place => match it.zero,parts.toList.mapM (fun p => (place p.1).map fun q => (q.1,q.2,zam p.2)) with
   | some z,some ps => if z.cells.toList.all (·.oneCell')=true then some (.build (z.cells.toList.map zi0) ps) else none
   | _,_ => none
  | _,_ => none
 | .buildSlice t len parts => match P.underlying t with
  | some (.slice e) => match P.info? e with
   | some ie => match ie.zero,parts.toList.mapM (fun p => ((fun i => some (i * ie.size,ie.size)) p.1:Option (Nat × Nat)).map fun q => (q.1,q.2,zam p.2)) with
    | some z,some ps => if (¬ len * ie.size > 2 ^ 24 ∧ ¬ len * ie.size=0) ∧ ((Array.range (len * ie.size)).map (z.cells[· % z.cells.size]!)).toList.all (·.oneCell')=true then some (.bslice len (((Array.range (len * ie.size)).map (z.cells[· % z.cells.size]!)).toList.map zi0) ps) else if len=0 ∧ parts.toList=[] then some (.mks e ie.size 1 (.c (.i .i64 0)) (.c (.i .i64 0))) else none
    | _,_ => none
   | none => none
  | _ => none
 | .load t x => match P.underlying t,P.info? t with
  | some d,some i => if d.isRow=true then some (.loadn i.size (zam x)) else some (.load1 (zam x))
  | _,_ => none
 | .store t x y => match P.info? t with
  | some i => some (.store i.size (zam x) (zam y))
  | none => none
 | .nilCheck x => some (.nck (zam x))
 | .binOp op T x y _ => match P.underlying T with
  | some .bool => match op with
   | .eql => some (.beq false (zam x) (zam y))
   | .neq => some (.beq true (zam x) (zam y))
   | _ => none
  | some (.struct _) => match trE P 10000 T with
   | some et => if P.eqGuardType P.depth T=false then (match op with
    | .eql => some (.eqs false et (zam x) (zam y))
    | .neq => some (.eqs true et (zam x) (zam y))
    | _ => none) else none
   | none => none
  | _ => some (.bin op (zam x) (zam y))
 | .unOp .not _ x => some (.not (zam x))
 | .unOp .neg _ x => some (.neg (zam x))
 | .convert src dst x => match P.underlying src,P.underlying dst with
  | some .string,some .string => some (.cvs (zam x))
  | some (.slice e),some .string => match P.underlying e with
   | some (.int .u8) => some (.cvbs (zam x))
   | _ => none
  | some _,some (.int k) => some (.cvi k (zam x))
  | _,_ => none
 | .slice t x lo hi none => match P.underlying t with
  | some .string => some (.slcs (zam x) (lo.map zam) (hi.map zam))
  | some (.slice e) => match lo,hi,P.info? e with
   | none,some hi,some i => some (.trn i.size (zam x) (zam hi))
   | _,_,_ => none
  | _ => none
 | .fieldAddr t x k => match P.underlying t with
  | some (.struct fs) => match fs[k]? with
   | some f => match P.info? f.type with
    | some i => if i.size=0 then none else some (.fad f.offset (zam x))
    | none => none
   | none => none
  | _ => none
 | .field t x k => match P.underlying t with
  | some (.struct fs) => match fs[k]? with
   | some f => match P.underlying f.type,P.info? f.type with
    | some d,some i => if d.isRow=true then some (.fldn f.offset i.size (zam x)) else some (.fld1 f.offset (zam x))
    | _,_ => none
   | none => none
  | _ => none
 | .indexAddr t x y => match P.underlying t with
  | some (.slice e) => match P.info? e with
   | some i => if i.size=0 then none else some (.iad i.size (zam x) (zam y))
   | none => none
  | some (.array len e) => match P.info? e with
   | some i => if i.size=0 then none else some (.iada i.size len (zam x) (zam y))
   | none => none
  | _ => none
 | .index t x y => match P.underlying t with
  | some .string => some (.idx (zam x) (zam y))
  | _ => none
 | .extract x k => some (.ext (zam x) k)
 | .makeFunc (.func f) fs cs => some (.mkf f (fs.toList.map zam) (cs.toList.map zam))
 | .makeMap t none => match P.underlying t with
  | some (.map _ _) => some .mkm0
  | _ => none
 | .makeMap t (some x) => match P.underlying t with
  | some (.map _ _) => some (.mkm1 (zam x))
  | _ => none
 | .lookup t x y ok => match P.underlying t with
  | some (.map kt e) => match P.underlying kt with
   | some .string => match P.info? e with
    | some i => match i.zero with
     | some z => some (.lk (zi0 z) ok (zam x) (zam y))
     | none => none
    | none => none
   | _ => none
  | _ => none
 | .mapUpdate t x y v => match P.underlying t with
  | some (.map kt _) => match P.underlying kt with
   | some .string => some (.mup (zam x) (zam y) (zam v))
   | _ => none
  | _ => none
 | .makeSlice t x y => match P.underlying t with
  | some (.slice e) => match P.info? e with
   | some i => match i.zero with
    | some (.int kd z) => match zam x,zam y with
     | .t p,.t q => if p=q ∧ i.size=1 then some (.mkz e i.bytes kd z (.t p)) else some (.mks e i.size i.bytes (zam x) (zam y))
     | _,_ => some (.mks e i.size i.bytes (zam x) (zam y))
    | some _ => some (.mks e i.size i.bytes (zam x) (zam y))
    | none => none
   | none => none
  | _ => none
 | .call c => match c.callee with
  | .value (.func f) => match P.funcs[f]? with
   | some fn => if fn.body.isSome = true ∧ fn.name ≠ "runtime.NumGoroutine" then some (.call f (c.args.toList.map zam)) else none
   | none => none
  | .value (.tmp t) => some (.callv (.t t) (c.args.toList.map zam))
  | .builtin .len => match c.args.toList,c.argTypes.toList with
   | [x],[T] => match P.underlying T with
    | some .string => some (.lens (zam x))
    | some (.slice _) => some (.lenr (zam x))
    | _ => none
   | _,_ => none
  | .builtin .append => match c.args.toList,c.argTypes.toList with
   | [x,y],[T,U] => match P.underlying T with
    | some (.slice e) => match P.info? e with
     | some i => match i.zero with
      | some z => if T=U then (if z.cells.size=i.size ∧ 0 < i.size then some (.app e i.size i.bytes (zam x) (zam y)) else none)
       else match P.underlying U,z with
        | some .string,.int .u8 0 => if i.size=1 ∧ i.bytes=1 then some (.apps e (zam x) (zam y)) else none
        | _,_ => none
      | none => none
     | none => none
    | _ => none
   | _,_ => none
  | _ => none
 | _ => none
def trOp (P:Program) (o:Op):Option SOp :=
 match trPu P o with
 | some (q,xs) => some (.pu q xs)
 | none => zgX P o
theorem zgS {k:IntKind} {r:Int} {K:Int → Prop} (h:arK k r K):K (k.wrap r):=by
 cases k <;> simp only [arK] at h <;> first | exact h | (rw [IntWalk.i64_in r h.1]; exact h.2)
theorem svb_svOf (tm:List AV) (d:Int) (o:Option Operand):zgZ tm d (o.map zam)=svb tm d o:=by cases o <;> rfl
section
variable {P:Program} {C:Cx} {type:TypeId} {objs:List OB} {tm:List AV} {K:List OB → AV → Prop}
theorem bin_ok (op:BinOp) (T T':TypeId) (x y:Operand) (h:binK op ((zam x).ev tm) ((zam y).ev tm) fun v => K objs v):zaW P C (.binOp op T x y T') type objs tm K:=by
 unfold binK at h
 split at h
 ·rename_i k m k' n hx hy
  obtain ⟨rfl,h⟩:=h
  split at h
  ·exact zk2 .add T T' x y k m n _ hx hy rfl (zgS h)
  ·exact zk2 .sub T T' x y k m n _ hx hy rfl (zgS h)
  ·exact zk2 .mul T T' x y k m n _ hx hy rfl (zgS h)
  ·exact ok_quo T T' x y k m n hx hy h.1 (zgS h.2)
  ·exact ok_rem T T' x y k m n hx hy h.1 h.2
  ·exact ze8 .eql T T' x y k m n _ hx hy rfl h
  ·exact ze8 .neq T T' x y k m n _ hx hy rfl h
  ·exact ze8 .lss T T' x y k m n _ hx hy rfl h
  ·exact ze8 .leq T T' x y k m n _ hx hy rfl h
  ·exact ze8 .gtr T T' x y k m n _ hx hy rfl h
  ·exact ze8 .geq T T' x y k m n _ hx hy rfl h
  ·exact h.elim
 ·rename_i l m hx hy
  split at h
  ·exact ok_cat T T' x y l m hx hy h.1 h.2
  ·exact ok_seq .eql T T' x y l m _ hx hy (.inl ⟨rfl,rfl⟩) h
  ·exact ok_seq .neq T T' x y l m _ hx hy (.inr ⟨rfl,rfl⟩) h
  ·exact h.elim
 ·exact h.elim
end
section
variable {P:Program} [Tabs P] {C:Cx} [On P C] {type:TypeId} {objs:List OB} {tm:List AV} {K:List OB → AV → Prop}
omit [On P C] in
theorem zk7 {T:TypeId} {x y:Operand} {e:TypeId} {i:TypeInfo} {z:Value} {so:SOp} (hu:P.underlying T=some (.slice e)) (hi:P.info? e=some i) (hz:i.zero=some z) (ht:some (SOp.mks e i.size i.bytes (zam x) (zam y))=some so) (h:wpS P so objs tm K):zaW P C (.makeSlice T x y) type objs tm K:=by
 injection ht with ht; subst ht
 simp only [wpS] at h
 split at h
 ·rename_i kl l kc c hx hy
  obtain ⟨⟨rfl,h0,h1,h2⟩,h⟩:=h
  exact ok_mks _ _ _ e i z hu hi hz kl kc c hx hy h0 h1 h2 h
 ·exact h.elim
theorem wpS_ok0 (o:Op) (so:SOp) (ht:zgX P o=some so) (h:wpS P so objs tm K):zaW P C o type objs tm K:=by
 unfold zgX at ht
 split at ht
 ·injection ht with ht; subst ht; exact ok_move _ h
 ·injection ht with ht; subst ht; exact zk1 _ h
 ·injection ht with ht; subst ht
  simp only [wpS] at h
  split at h
  ·rename_i t hc; exact ok_pick _ _ _ t hc h.1 h.2
  ·exact h.elim
 ·-- alloc
  split at ht
  ·rename_i i hi
   split at ht
   ·rename_i z hz
    split at ht
    ·rename_i h1
     injection ht with ht; subst ht
     exact ok_alloc _ i z hi hz h1 h
    ·cases ht
   ·cases ht
  ·cases ht
 ·injection ht with ht; subst ht
  exact ok_box _ _ h.1 h.2
 ·-- build
  split at ht
  ·rename_i it place hi hpl
   split at ht
   ·rename_i z ps hz hps
    split at ht
    ·rename_i h1
     injection ht with ht; subst ht
     simp only [wpS] at h
     split at h
     ·rename_i cs hf; exact ok_build _ _ it z hi hz h1 place hpl ps hps cs hf h
     ·exact h.elim
    ·cases ht
   ·cases ht
  ·cases ht
 ·-- buildSlice
  split at ht
  ·rename_i e hu
   split at ht
   ·rename_i ie hie
    split at ht
    ·rename_i z ps hz hps
     split at ht
     ·rename_i h1
      injection ht with ht; subst ht
      simp only [wpS] at h
      split at h
      ·rename_i cs hf; exact zk0 _ e _ _ ie z hu hie hz h1.1.1 h1.1.2 _ rfl h1.2 ps hps cs hf h
      ·exact h.elim
     ·split at ht
      ·rename_i h0
       injection ht with ht; subst ht
       simp only [wpS,SV.ev] at h
       exact ok_bsl0 _ e _ _ ie hu hie h0.1 h0.2 h.2
      ·cases ht
    ·cases ht
   ·cases ht
  ·cases ht
 ·-- load
  split at ht
  ·rename_i d i hu hi
   split at ht
   ·rename_i hr
    injection ht with ht; subst ht
    simp only [wpS] at h
    split at h
    ·rename_i b off hx
     split at h
     ·rename_i B cs hb; exact ok_loadn _ _ d hu hr i.size (by rw [hi]; rfl) b off B cs hx hb h.1 h.2
     ·exact h.elim
    ·rename_i xs j hx; exact zkV _ _ d hu hr i.size (by rw [hi]; rfl) xs j hx h.1 h.2
    ·rename_i b gen j hx
     split at h
     ·rename_i E s gen' n xs hb
      obtain ⟨⟨rfl,h1⟩,h⟩:=h
      exact zkW _ _ d hu hr i.size (by rw [hi]; rfl) b _ j E s n xs hx hb h1 h
     ·exact h.elim
    ·exact h.elim
   ·rename_i hr
    have hr:d.isRow=false:=by simpa using hr
    injection ht with ht; subst ht
    simp only [wpS] at h
    split at h
    ·rename_i b off hx
     split at h
     ·rename_i B cs hb
      split at h
      ·rename_i v hv; exact ok_load1 _ _ d hu hr b off B cs v hx hb hv h
      ·exact h.elim
     ·exact h.elim
    ·rename_i xs j hx
     obtain ⟨v,hv,h⟩:=h
     exact zkX _ _ d hu hr xs j v hx hv h
    ·rename_i b gen j hx
     split at h
     ·rename_i E s gen' n xs hb
      obtain ⟨rfl,v,hv,h⟩:=h
      exact zkY _ _ d hu hr b _ j E s n xs v hx hb hv h
     ·exact h.elim
    ·exact h.elim
  ·cases ht
 ·-- store
  split at ht
  ·rename_i i hi
   injection ht with ht; subst ht
   simp only [wpS] at h
   split at h
   ·rename_i b off hx
    split at h
    ·rename_i T cs hb
     exact ok_store _ _ _ i.size (by rw [hi]; rfl) b off T cs hx hb h.1.1 h.1.2.1 h.1.2.2 h.2
    ·exact h.elim
   ·rename_i b gen j hx
    split at h
    ·rename_i E s gen' n xs hb
     obtain ⟨⟨rfl,h1,h2,h3⟩,h⟩:=h
     exact zkU _ _ _ i.size (by rw [hi]; rfl) b _ j E s n xs hx hb h1 h2 h3 h
    ·exact h.elim
   ·exact h.elim
  ·cases ht
 ·-- nilCheck
  injection ht with ht; subst ht
  simp only [wpS] at h
  split at h
  ·rename_i b o hx; exact zh8 _ (by rw [hx]; exact h) (.inl ⟨b,o,hx⟩)
  ·rename_i xs j hx; exact zh8 _ (by rw [hx]; exact h) (.inr (.inl ⟨xs,j,hx⟩))
  ·rename_i f fs cs hx; exact zh8 _ (by rw [hx]; exact h) (.inr (.inr (.inl ⟨f,fs,cs,hx⟩)))
  ·rename_i b gen j hx; exact zh8 _ (by rw [hx]; exact h) (.inr (.inr (.inr ⟨b,gen,j,hx⟩)))
  ·exact h.elim
 ·-- binOp
  rename_i op T x y T'
  split at ht
  ·rename_i hu
   split at ht
   ·injection ht with ht; subst ht
    simp only [wpS,Bool.false_eq_true,if_false] at h
    split at h
    ·rename_i l m hx hy; exact ok_beq .eql T T' x y l m _ hu hx hy (.inl ⟨rfl,rfl⟩) h
    ·exact h.elim
   ·injection ht with ht; subst ht
    simp only [wpS,if_true] at h
    split at h
    ·rename_i l m hx hy; exact ok_beq .neq T T' x y l m _ hu hx hy (.inr ⟨rfl,rfl⟩) h
    ·exact h.elim
   ·cases ht
  ·rename_i fs hu
   split at ht
   ·rename_i et het
    split at ht
    ·rename_i hg
     split at ht
     ·injection ht with ht; subst ht
      simp only [wpS,Bool.false_eq_true,if_false] at h
      split at h
      ·rename_i xs ys hx hy
       split at h
       ·rename_i r hr; exact ok_eqs .eql T T' x y et xs ys r _ het hg hx hy hr (.inl ⟨rfl,rfl⟩) h
       ·exact h.elim
      ·exact h.elim
     ·injection ht with ht; subst ht
      simp only [wpS,if_true] at h
      split at h
      ·rename_i xs ys hx hy
       split at h
       ·rename_i r hr; exact ok_eqs .neq T T' x y et xs ys r _ het hg hx hy hr (.inr ⟨rfl,rfl⟩) h
       ·exact h.elim
      ·exact h.elim
     ·cases ht
    ·cases ht
   ·cases ht
  ·injection ht with ht; subst ht
   exact bin_ok op T T' x y h
 ·injection ht with ht; subst ht
  simp only [wpS] at h
  split at h
  ·rename_i t hx; exact ok_not _ _ t hx h
  ·exact h.elim
 ·injection ht with ht; subst ht
  simp only [wpS] at h
  split at h
  ·rename_i k n hx; exact ok_neg _ _ k n hx (zgS h)
  ·exact h.elim
 ·-- convert
  split at ht
  ·rename_i hs hu
   injection ht with ht; subst ht
   simp only [wpS] at h
   split at h
   ·rename_i l hx; exact ok_cvs _ _ _ l hs hu hx h
   ·exact h.elim
  ·rename_i e hs hu
   split at ht
   ·rename_i he
    injection ht with ht; subst ht
    simp only [wpS] at h
    split at h
    ·rename_i b gen hx
     split at h
     ·rename_i E sz gen' n xs hb
      obtain ⟨⟨rfl,rfl⟩,l,rfl,h⟩:=h
      exact zfN _ _ _ e l hs he hu (.inl ⟨b,gen',E,n,hx,hb⟩) h
     ·exact h.elim
    ·rename_i n xs hx
     obtain ⟨l,⟨rfl,hn⟩,h⟩:=h
     exact zfN _ _ _ e l hs he hu (.inr (.inl ⟨n,hx,hn⟩)) h
    ·rename_i hx
     exact zfN _ _ _ e [] hs he hu (.inr (.inr (.inl ⟨hx,rfl⟩))) h
    ·rename_i b off n hx
     split at h
     ·rename_i T cs hb
      obtain ⟨l,⟨h1,h2⟩,h⟩:=h
      exact zfN _ _ _ e l hs he hu (.inr (.inr (.inr ⟨b,off,n,T,cs,hx,hb,h1,h2⟩))) h
     ·exact h.elim
    ·exact h.elim
   ·cases ht
  ·rename_i d k hs hu
   injection ht with ht; subst ht
   simp only [wpS] at h
   split at h
   ·rename_i j n hx; exact ok_cvi _ _ _ k j n (by rw [hs]; rfl) hu hx h
   ·exact h.elim
  ·cases ht
 ·-- slice
  split at ht
  ·rename_i hu
   injection ht with ht; subst ht
   simp only [wpS,svb_svOf] at h
   split at h
   ·rename_i l hx
    split at h
    ·rename_i i j hlo hhi; exact ok_slcs _ _ _ _ l i j hu hx hlo hhi h.1.1 h.1.2.1 h.1.2.2 h.2
    ·exact h.elim
   ·exact h.elim
  ·rename_i e hu
   split at ht
   ·rename_i hi' i hi
    injection ht with ht; subst ht
    simp only [wpS] at h
    split at h
    ·rename_i n xs k j hx hj; exact ok_rslh _ _ _ e i hu hi n xs k j hx hj h.1.1 h.1.2 h.2
    ·rename_i k j hx hj
     obtain ⟨rfl,h⟩:=h
     exact ok_rsnh _ _ _ e i hu hi k hx hj h
    ·rename_i b gen k j hx hj
     split at h
     ·rename_i E s gen' n xs hb
      obtain ⟨⟨rfl,rfl,h1,h2⟩,h⟩:=h
      exact ok_trno _ _ _ e i hu hi b _ n E xs k j hx hb hj h1 h2 h
     ·exact h.elim
    ·exact h.elim
   ·cases ht
  ·cases ht
 ·-- fieldAddr
  split at ht
  ·rename_i fs hu
   split at ht
   ·rename_i f hf
    split at ht
    ·rename_i i hi
     split at ht
     ·cases ht
     ·rename_i h0
      injection ht with ht; subst ht
      simp only [wpS] at h
      split at h
      ·rename_i b o hx; exact zkZ _ _ _ fs f i.size _ hu hf (by rw [hi]; rfl) h0 (.inl ⟨b,o,hx,rfl⟩) h
      ·rename_i xs j hx; exact zkZ _ _ _ fs f i.size _ hu hf (by rw [hi]; rfl) h0 (.inr (.inl ⟨xs,j,hx,rfl⟩)) h
      ·rename_i b gen j hx; exact zkZ _ _ _ fs f i.size _ hu hf (by rw [hi]; rfl) h0 (.inr (.inr ⟨b,gen,j,hx,rfl⟩)) h
      ·exact h.elim
    ·cases ht
   ·cases ht
  ·cases ht
 ·-- field
  split at ht
  ·rename_i fs hu
   split at ht
   ·rename_i f hf
    split at ht
    ·rename_i d i hd hi
     split at ht
     ·rename_i hr
      injection ht with ht; subst ht
      simp only [wpS] at h
      split at h
      ·rename_i cs hx; exact ok_fldn _ _ _ fs f d i.size cs hu hf hd hr (by rw [hi]; rfl) hx h
      ·exact h.elim
     ·rename_i hr
      injection ht with ht; subst ht
      simp only [wpS] at h
      split at h
      ·rename_i cs hx
       split at h
       ·rename_i v hv; exact ok_fld1 _ _ _ fs f d cs v hu hf hd (by simpa using hr) hx hv h
       ·exact h.elim
      ·exact h.elim
    ·cases ht
   ·cases ht
  ·cases ht
 ·-- indexAddr
  split at ht
  ·rename_i e hu
   split at ht
   ·rename_i i hi
    split at ht
    ·cases ht
    ·rename_i h0
     injection ht with ht; subst ht
     simp only [wpS] at h
     split at h
     ·rename_i n xs k j hx hy; exact ok_iad _ _ _ e i.size n xs k j hu (by rw [hi]; rfl) hx hy h.1.1 h.1.2.1 h.1.2.2 (by omega) h.2
     ·rename_i b gen k j hx hy
      split at h
      ·rename_i E s gen' n xs hb
       obtain ⟨⟨rfl,rfl,h1,h2⟩,h⟩:=h
       exact ok_iado _ _ _ e i.size n b _ E xs k j hu (by rw [hi]; rfl) hx hb hy h1 h2 h
      ·exact h.elim
     ·exact h.elim
   ·cases ht
  ·rename_i len e hu
   split at ht
   ·rename_i i hi
    split at ht
    ·cases ht
    ·rename_i h0
     injection ht with ht; subst ht
     simp only [wpS] at h
     split at h
     ·rename_i b off k j hx hy; exact ok_iada _ _ _ e i.size len b off k j hu (by rw [hi]; rfl) hx hy h.1.1 h.1.2 (by omega) h.2
     ·exact h.elim
   ·cases ht
  ·cases ht
 ·-- index
  split at ht
  ·rename_i hu
   injection ht with ht; subst ht
   simp only [wpS] at h
   split at h
   ·rename_i l k n hx hy; exact ok_idx _ _ _ l k n hu hx hy h.1.1 h.1.2 h.2
   ·exact h.elim
  ·cases ht
 ·injection ht with ht; subst ht
  simp only [wpS] at h
  split at h
  ·rename_i vs hx
   split at h
   ·rename_i v hv; exact zjp _ _ vs v hx hv h
   ·exact h.elim
  ·exact h.elim
 ·injection ht with ht; subst ht
  refine zhe _ _ _ ?_
  simpa [wpS,Function.comp_def] using h
 ·-- makeMap
  split at ht
  ·injection ht with ht; subst ht
   simp only [wpS] at h
   exact ok_mkm0 _ h
  ·cases ht
 ·-- makeMap,with a hint
  split at ht
  ·rename_i kt e hu
   injection ht with ht; subst ht
   simp only [wpS] at h
   split at h
   ·rename_i k n hx
    exact ok_mkm1 _ _ kt e hu k n hx h
   ·exact h.elim
  ·cases ht
 ·-- lookup
  split at ht
  ·rename_i kt e hu
   split at ht
   ·rename_i hk
    split at ht
    ·rename_i i hi
     split at ht
     ·rename_i z hz
      injection ht with ht; subst ht
      simp only [wpS] at h
      split at h
      ·rename_i b l hx hy
       split at h
       ·rename_i es hb
        exact ok_lk _ _ _ _ kt e i z hu hk hi hz b es l hx hb hy h
       ·exact h.elim
      ·exact h.elim
     ·cases ht
    ·cases ht
   ·cases ht
  ·cases ht
 ·-- mapUpdate
  split at ht
  ·rename_i kt e hu
   split at ht
   ·rename_i hk
    injection ht with ht; subst ht
    simp only [wpS] at h
    split at h
    ·rename_i b l hx hy
     split at h
     ·rename_i es hb
      exact ok_mup _ _ _ _ kt e hu hk b es l hx hb hy h.1 h.2
     ·exact h.elim
    ·exact h.elim
   ·cases ht
  ·cases ht
 ·-- makeSlice
  split at ht
  ·rename_i e hu
   split at ht
   ·rename_i i hi
    split at ht
    ·rename_i kd z hz
     split at ht
     ·rename_i p q hp hq
      split at ht
      ·rename_i hc
       injection ht with ht; subst ht
       simp only [wpS] at h
       split at h
       ·rename_i kl c hx
        obtain ⟨⟨h0,h1,h2⟩,h⟩:=h
        exact ok_mkz _ _ _ e i kd z hu hi hz hc.2 kl c (by rw [hp]; exact hx) (by rw [hq,← hc.1]; exact hx) h0 h1 h2 h
       ·exact h.elim
      ·exact zk7 hu hi hz ht h
     ·exact zk7 hu hi hz ht h
    ·rename_i z hz
     injection ht with ht; subst ht
     simp only [wpS] at h
     split at h
     ·rename_i kl l kc c hx hy
      obtain ⟨⟨rfl,h0,h1,h2⟩,h⟩:=h
      exact ok_mks _ _ _ e i _ hu hi (by assumption) kl kc c hx hy h0 h1 h2 h
     ·exact h.elim
    ·cases ht
   ·cases ht
  ·cases ht
 ·-- call
  rename_i c
  obtain ⟨callee,args,ats⟩:=c
  split at ht
  ·rename_i f hc
   simp only at hc; subst hc
   split at ht
   ·rename_i fn hf
    split at ht
    ·rename_i hb
     injection ht with ht; subst ht
     refine zh9 f args ats _ [] [] rfl fn hf hb.1 hb.2 ?_
     simpa [wpS,Function.comp_def] using h
    ·cases ht
   ·cases ht
  ·rename_i t hc
   simp only at hc; subst hc
   injection ht with ht; subst ht
   simp only [wpS] at h
   split at h
   ·rename_i f fs cs hx
    obtain ⟨⟨fn,hf,hb,hn⟩,h⟩:=h
    refine zh9 f args ats _ fs cs hx fn hf hb hn ?_
    simpa [Function.comp_def] using h
   ·exact h.elim
  ·rename_i hc
   simp only at hc; subst hc
   split at ht
   ·rename_i x T hargs hats
    have ea:args=#[x]:=by apply Array.ext'; simpa using hargs
    have et:ats=#[T]:=by apply Array.ext'; simpa using hats
    subst ea et
    split at ht
    ·rename_i hu
     injection ht with ht; subst ht
     simp only [wpS] at h
     split at h
     ·rename_i l hx; exact ok_lens T _ x l hu hx h
     ·exact h.elim
    ·rename_i e hu
     injection ht with ht; subst ht
     simp only [wpS] at h
     split at h
     ·rename_i n xs hx; exact zfM T _ x e n hu (.inl ⟨xs,hx⟩) h
     ·rename_i hx; exact zfM T _ x e 0 hu (.inr (.inl ⟨hx,rfl⟩)) h
     ·rename_i z hx; exact zfM T _ x e 0 hu (.inr (.inr (.inl ⟨z,hx,rfl⟩))) h
     ·rename_i b gen hx
      split at h
      ·rename_i E sz gen' n xs hb
       obtain ⟨rfl,h⟩:=h
       exact zfM T _ x e n hu (.inr (.inr (.inr ⟨b,gen',E,sz,xs,hx,hb⟩))) h
      ·exact h.elim
     ·exact h.elim
    ·cases ht
   ·cases ht
  ·rename_i hc
   simp only at hc; subst hc
   split at ht
   ·rename_i x y T U hargs hats
    have ea:args=#[x,y]:=by apply Array.ext'; simpa using hargs
    have et:ats=#[T,U]:=by apply Array.ext'; simpa using hats
    subst ea et
    split at ht
    ·rename_i e hu
     split at ht
     ·rename_i i hi
      split at ht
      ·rename_i z hz
       split at ht
       ·rename_i hTU
        subst hTU
        split at ht
        ·rename_i hzs
         injection ht with ht; subst ht
         simp only [wpS] at h
         split at h
         ·rename_i m ys hy
          split at h
          ·rename_i b gen hx
           split at h
           ·rename_i E' sz' gen' n xs hb
            obtain ⟨⟨⟨rfl,rfl,rfl⟩,h1,h2,h3⟩,h⟩:=h
            exact ok_app T _ x y _ i z hu hi hz hzs.1 hzs.2 b gen' n m xs ys hx hb hy h1 h2 h3 h
           ·exact h.elim
          ·rename_i hx
           exact ok_appn T _ x y _ i z hu hi hz hzs.1 hzs.2 m ys hx hy h.1.1 h.1.2.1 h.1.2.2 h.2
          ·exact h.elim
         ·exact h.elim
        ·cases ht
       ·split at ht
        ·rename_i hus
         split at ht
         ·rename_i h11
          injection ht with ht; subst ht
          simp only [wpS] at h
          split at h
          ·rename_i l hy
           split at h
           ·rename_i b gen hx
            split at h
            ·rename_i E' sz' gen' n xs hb
             obtain ⟨⟨⟨rfl,rfl,rfl⟩,h1⟩,h⟩:=h
             exact ok_apps T U _ x y _ i hu hus hi hz h11.1 h11.2 b gen' n xs l hx hb hy h1 h
            ·exact h.elim
           ·rename_i hx
            exact ok_appsn T U _ x y _ i hu hus hi hz h11.1 h11.2 l hx hy h.1 h.2
           ·exact h.elim
          ·exact h.elim
         ·cases ht
        ·cases ht
      ·cases ht
     ·cases ht
    ·cases ht
   ·cases ht
  ·cases ht
 ·cases ht
theorem zem (o:Op) (so:SOp) (ht:trOp P o=some so) (h:wpS P so objs tm K):zaW P C o type objs tm K:=by
 unfold trOp at ht
 split at ht
 ·rename_i q xs hq
  injection ht with ht; subst ht
  simp only [wpS] at h
  split at h
  ·rename_i v hv
   exact pu_ok o q xs v hq hv h
  ·exact h.elim
 ·exact wpS_ok0 o so ht h
end
end Go.Proofs.Ytceenajkieomoaa.Sx
