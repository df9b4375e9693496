/- The texts that the proofs of these statements reach, in their order, as few files. -/
import Derived.Test.YtadhjoggdbhkgaaGreatDoorProg
import Derived.WalkKit
import Derived.WalkLawsBesides
import Derived.WalkSmall
import Derived.WalkSpells
import Derived.Lib.Hide
import Derived.Lib.IndexAny
import Derived.ShutString
import Derived.Lib.Strings
import Derived.Deep.QuietTactic
import Derived.BigQuiet
import Derived.Shelf.Strings.Trim
import Derived.Shelf.Small.Utf8
import Derived.Shelf.Small.Bits
import Derived.Shelf.Small.Strs
import Derived.Shelf.Small.Wraps
import Derived.Shelf.Strconv.Itoa0
import Derived.Shelf.Strconv.Itoa1
import Derived.Shelf.LaysM
import Derived.Shelf.Strconv.Itoa2
import Derived.Shelf.Strconv.Itoa3
import Derived.Shelf.Strconv.Itoa4
import Derived.Shelf.Strings.Search1
import Derived.Shelf.Strings.Search2
import Derived.Shelf.Strings.Cut
import Derived.Shelf.Strings.Shaped
import Derived.Shelf.Strings.Prefix
import Derived.Shelf.Unicode.Decode
import Derived.Shelf.Strings.Runes
import Derived.Shelf.Strings.IndexAny
import Derived.Shelf.Strings.AsciiSet
import Derived.Shelf.Strings.IndexAnyAll
import Derived.Shelf.Unicode.DecodeSlow
import Derived.Shelf.Unicode.DecodeAny
import Derived.Shelf.Unicode.DecodeLast
import Derived.Ground.SlsfProg
import Derived.Shelf.SlSortCmp.Insertion
import Derived.Shelf.SlSortCmp.SiftDown1
import Derived.Shelf.SlSortCmp.HeapSort1
import Derived.Shelf.SlSortCmp.Insertion1
import Derived.Shelf.SlSortCmp.Median1
import Derived.Shelf.SlSortCmp.Pivot1
import Derived.Shelf.SlSortCmp.ReverseRange1
import Derived.Shelf.SlSortCmp.PartialInsertion1
import Derived.Shelf.SlSortCmp.PartitionEqual1
import Derived.Shelf.SlSortCmp.Partition1
import Derived.Shelf.SlSortCmp.Pdq1
import Derived.Shelf.SlSortCmp.Whole1
import Derived.Laws.BytesArg
import Derived.Laws.IdiomStrings
import Derived.Lib.ConvBytes
import Derived.Lib.AppendStr
import Derived.Laws.Rows
import Derived.Lib.ItoaMem
import Derived.Lib.ItoaLen
import Derived.Orders
import Derived.Deep.MidRow
import Derived.Laws.IdiomCopy
import Derived.Maps.AppendAt
import Derived.Laws.StructEq
import Derived.Laws.Slices
set_option linter.unusedVariables false
set_option linter.unusedSimpArgs false
set_option maxRecDepth 100000
namespace Go.Proofs.YtadhjoggdbhkgaaGreatDoor
open Go.RowKit
theorem zb5 {a b:Bool} (h:a=b):Ending.returned (.bool a)=.returned (.bool b):=by rw [h]
theorem zbk {k:IntKind} {a b:Int} (h:a=b):Ending.returned (.int k a)=.returned (.int k b):=by rw [h]
theorem ret_str {a b:ByteArray} (h:a=b):Ending.returned (.string a)=.returned (.string b):=by rw [h]
theorem dd {p q:Prop} [Decidable p] [Decidable q] (h:p ↔ q):decide p=decide q:=decide_eq_decide.2 h
theorem dt {q:Prop} [Decidable q] (h:q):true=decide q:=(decide_eq_true h).symm
theorem df {q:Prop} [Decidable q] (h:¬ q):false=decide q:=(decide_eq_false h).symm
abbrev S (l:List UInt8):ByteArray:=⟨l.toArray⟩
theorem zb1 (l:List UInt8):(S l).size=l.length:=size_of_list l
theorem S_of (s:ByteArray):S s.data.toList=s:=rfl
theorem zai (s:ByteArray):s.data.toList.length=s.size:=rfl
theorem zip (s:ByteArray) (k:Nat) (h:k < s.size):s.data.toList[k]'(by rw [zai]; exact h)=s[k]:=rfl
theorem zm8 (s:ByteArray) (k:Nat) (h:k < s.size):s.data.toList.getD k 0=s[k]:=by
 rw [List.getD_eq_getElem?_getD,List.getElem?_eq_getElem (by rw [zai]; exact h)]; rfl
theorem zgF (s:ByteArray) (k:Nat) (h:k < s.size):s.data.toList.take (k + 1)=s.data.toList.take k ++ [s[k]]:=by
 rw [List.take_succ_eq_append_getElem (by simpa using h)]; rfl
theorem zbw (s:ByteArray) (k:Nat) (h:k < s.size):s.data.toList.drop k=s[k] :: s.data.toList.drop (k + 1):=by
 rw [List.drop_eq_getElem_cons (by simpa using h)]; rfl
theorem zj9 {s:ByteArray} (h:s.size=0):s=S []:=by
 have:s.data.toList=[]:=List.eq_nil_of_length_eq_zero (by rw [zai]; exact h)
 rw [← S_of s,this]
def Qb (w w':World):Prop:=Below w.heap.size w w'
theorem Qb.refl (w:World):Qb w w:=Below.refl _ _
theorem Qb.trans {a b c:World} (h:Qb a b) (k:Qb b c):Qb a c:=Below.trans h (Below.mono k h.size)
theorem Qb.alloc {a b:World} (h:Qb a b) (o:Obj):Qb a (b.alloc o):=Below.alloc h h.size o
theorem Qb.drewN {a b:World} (h:Qb a b) (n:Nat):Qb a (b.drewN n):=below_drewN h n
theorem Qb.set {a b:World} (h:Qb a b) {p:Addr} (hp:a.heap.size ≤ p.block) (u:Value):Qb a (b.setCell p u):=Below.setCell h hp u
theorem Qb.size {a b:World} (h:Qb a b):a.heap.size ≤ b.heap.size:=Below.size h
theorem Qb.below {a b:World} (h:Qb a b):Below a.heap.size a b:=h
def resV (r:Int × List UInt8):Value:=.tuple #[.string (S r.2),.int .i64 r.1]
theorem size_extract (c:ByteArray) (a b:Nat) (h:b ≤ c.size):(c.extract a b).size=b - a:=by
 rw [ByteArray.size_extract]; omega
end Go.Proofs.YtadhjoggdbhkgaaGreatDoor
namespace Go.Proofs.YtadhjoggdbhkgaaGreatDoor
def cpB (r:Int):Bool:=decide (0 ≤ r ∧ r ≤ 1114111 ∧ (r < 55296 ∨ 57343 < r))
def zcG (c:UInt8):Bool:=decide (128 ≤ c.toNat ∧ c.toNat < 192)
def u8b (n:Nat):UInt8:=UInt8.ofNat n
def zdq (r:Nat):List UInt8 :=
 if r < 128 then [u8b r]
 else if r < 2048 then [u8b (192 + r / 64),u8b (128 + r % 64)]
 else if r < 65536 then [u8b (224 + r / 4096),u8b (128 + r / 64 % 64),u8b (128 + r % 64)]
 else [u8b (240 + r / 262144),u8b (128 + r / 4096 % 64),u8b (128 + r / 64 % 64),u8b (128 + r % 64)]
def r2 (c a:UInt8):Nat:=(c.toNat - 192) * 64 + (a.toNat - 128)
def r3 (c a b:UInt8):Nat:=(c.toNat - 224) * 4096 + (a.toNat - 128) * 64 + (b.toNat - 128)
def r4 (c a b d:UInt8):Nat:=(c.toNat - 240) * 262144 + (a.toNat - 128) * 4096 + (b.toNat - 128) * 64 + (d.toNat - 128)
def dec2 (c:UInt8):List UInt8 → Option (Nat × Nat)
 | [] => none
 | a :: _ => if zcG a=true ∧ 128 ≤ r2 c a then some (r2 c a,2) else none
def dec3 (c:UInt8):List UInt8 → Option (Nat × Nat)
 | [] => none
 | [_] => none
 | a :: b :: _ => if zcG a=true ∧ zcG b=true ∧ 2048 ≤ r3 c a b ∧ cpB (r3 c a b:Int)=true then some (r3 c a b,3) else none
def dec4 (c:UInt8):List UInt8 → Option (Nat × Nat)
 | [] => none
 | [_] => none
 | [_,_] => none
 | a :: b :: d :: _ => if zcG a=true ∧ zcG b=true ∧ zcG d=true ∧ 65536 ≤ r4 c a b d ∧ r4 c a b d ≤ 1114111 then some (r4 c a b d,4) else none
def zbK:List UInt8 → Option (Nat × Nat)
 | [] => none
 | c :: t =>
  if c.toNat < 128 then some (c.toNat,1)
  else if c.toNat < 192 then none
  else if c.toNat < 224 then dec2 c t
  else if c.toNat < 240 then dec3 c t
  else if c.toNat < 248 then dec4 c t
  else none
theorem zaJ {n:Nat} (h:n < 256):(u8b n).toNat=n:=by unfold u8b; rw [UInt8.toNat_ofNat']; omega
theorem zda {c:UInt8} {n:Nat} (hn:n < 256):u8b n=c ↔ n=c.toNat:=by
 constructor
 ·rintro rfl; rw [zaJ hn]
 ·intro h; subst h; unfold u8b; exact UInt8.ofNat_toNat
theorem za7 {l:List UInt8} {r n:Nat} (h:zbK l=some (r,n)):cpB r=true ∧ zdq r=l.take n ∧ n ≤ l.length ∧ 1 ≤ n ∧ n ≤ 4:=by
 rcases l with _ | ⟨c,t⟩
 ·rw [zbK] at h; cases h
 have hc:=c.toNat_lt
 rw [zbK] at h
 by_cases h1:c.toNat < 128
 ·rw [if_pos h1] at h
  injection h with h; injection h with h2 h3
  subst h2 h3
  refine ⟨decide_eq_true (by omega),?_,by simp,by omega,by omega⟩
  unfold zdq; rw [if_pos h1]
  simp only [List.take_succ_cons,List.take_zero,List.cons.injEq,and_true]
  exact (zda (by omega)).2 rfl
 rw [if_neg h1] at h
 by_cases h2:c.toNat < 192
 ·rw [if_pos h2] at h; cases h
 rw [if_neg h2] at h
 by_cases h3:c.toNat < 224
 ·rw [if_pos h3] at h
  rcases t with _ | ⟨a,t⟩
  ·cases h
  rw [dec2] at h
  split at h
  ·rename_i h4
   unfold r2 at h h4
   have ha:128 ≤ a.toNat ∧ a.toNat < 192:=of_decide_eq_true h4.1
   injection h with h; injection h with h5 h6
   subst h5 h6
   refine ⟨decide_eq_true (by omega),?_,by simp,by omega,by omega⟩
   unfold zdq; rw [if_neg (by omega),if_pos (by omega)]
   simp only [List.take_succ_cons,List.take_zero,List.cons.injEq,and_true]
   exact ⟨(zda (by omega)).2 (by omega),(zda (by omega)).2 (by omega)⟩
  ·cases h
 rw [if_neg h3] at h
 by_cases h4:c.toNat < 240
 ·rw [if_pos h4] at h
  rcases t with _ | ⟨a,_ | ⟨b,t⟩⟩
  ·cases h
  ·cases h
  rw [dec3] at h
  split at h
  ·rename_i h5
   unfold r3 at h h5
   have ha:128 ≤ a.toNat ∧ a.toNat < 192:=of_decide_eq_true h5.1
   have hb:128 ≤ b.toNat ∧ b.toNat < 192:=of_decide_eq_true h5.2.1
   have hp:=h5.2.2
   injection h with h; injection h with h6 h7
   subst h6 h7
   refine ⟨hp.2,?_,by simp,by omega,by omega⟩
   unfold zdq; rw [if_neg (by omega),if_neg (by omega),if_pos (by omega)]
   simp only [List.take_succ_cons,List.take_zero,List.cons.injEq,and_true]
   exact ⟨(zda (by omega)).2 (by omega),(zda (by omega)).2 (by omega),(zda (by omega)).2 (by omega)⟩
  ·cases h
 rw [if_neg h4] at h
 by_cases h5:c.toNat < 248
 ·rw [if_pos h5] at h
  rcases t with _ | ⟨a,_ | ⟨b,_ | ⟨d,t⟩⟩⟩
  ·cases h
  ·cases h
  ·cases h
  rw [dec4] at h
  split at h
  ·rename_i h6
   unfold r4 at h h6
   have ha:128 ≤ a.toNat ∧ a.toNat < 192:=of_decide_eq_true h6.1
   have hb:128 ≤ b.toNat ∧ b.toNat < 192:=of_decide_eq_true h6.2.1
   have hd:128 ≤ d.toNat ∧ d.toNat < 192:=of_decide_eq_true h6.2.2.1
   have hp:=h6.2.2.2
   injection h with h; injection h with h7 h8
   subst h7 h8
   refine ⟨decide_eq_true (by omega),?_,by simp,by omega,by omega⟩
   unfold zdq; rw [if_neg (by omega),if_neg (by omega),if_neg (by omega)]
   simp only [List.take_succ_cons,List.take_zero,List.cons.injEq,and_true]
   exact ⟨(zda (by omega)).2 (by omega),(zda (by omega)).2 (by omega),(zda (by omega)).2 (by omega),(zda (by omega)).2 (by omega)⟩
  ·cases h
 ·rw [if_neg h5] at h; cases h
theorem zc4 (n:Nat) (h:n < 64):zcG (u8b (128 + n))=true:=by unfold zcG; rw [zaJ (by omega)]; exact decide_eq_true (by omega)
theorem zeZ {r:Nat} (h:cpB r=true) (t:List UInt8):zbK (zdq r ++ t)=some (r,(zdq r).length):=by
 have hr:(r:Int) ≤ 1114111 ∧ ((r:Int) < 55296 ∨ 57343 < (r:Int)):=⟨(of_decide_eq_true h).2.1,(of_decide_eq_true h).2.2⟩
 unfold zdq
 by_cases h1:r < 128
 ·rw [if_pos h1]
  show zbK (u8b r :: t)=_
  rw [zbK,zaJ (by omega),if_pos h1]; rfl
 ·rw [if_neg h1]
  by_cases h2:r < 2048
  ·rw [if_pos h2]
   show zbK (u8b (192 + r / 64) :: u8b (128 + r % 64) :: t)=_
   rw [zbK,zaJ (by omega),if_neg (by omega),if_neg (by omega),if_pos (by omega),dec2]
   unfold r2
   rw [zaJ (by omega),zaJ (by omega),if_pos ⟨zc4 _ (by omega),by omega⟩]
   simp only [List.length_cons,List.length_nil,Option.some.injEq,Prod.mk.injEq,and_true]
   omega
  ·rw [if_neg h2]
   by_cases h3:r < 65536
   ·rw [if_pos h3]
    show zbK (u8b (224 + r / 4096) :: u8b (128 + r / 64 % 64) :: u8b (128 + r % 64) :: t)=_
    rw [zbK,zaJ (by omega),if_neg (by omega),if_neg (by omega),if_neg (by omega),if_pos (by omega),dec3]
    unfold r3
    have e:(224 + r / 4096 - 224) * 4096 + (128 + r / 64 % 64 - 128) * 64 + (128 + r % 64 - 128)=r:=by omega
    rw [zaJ (by omega),zaJ (by omega),zaJ (by omega),e,if_pos ⟨zc4 _ (by omega),zc4 _ (by omega),by omega,h⟩]
    rfl
   ·rw [if_neg h3]
    show zbK (u8b (240 + r / 262144) :: u8b (128 + r / 4096 % 64) :: u8b (128 + r / 64 % 64) :: u8b (128 + r % 64) :: t)=_
    rw [zbK,zaJ (by omega),if_neg (by omega),if_neg (by omega),if_neg (by omega),if_neg (by omega),if_pos (by omega),dec4]
    unfold r4
    have e:(240 + r / 262144 - 240) * 262144 + (128 + r / 4096 % 64 - 128) * 4096 + (128 + r / 64 % 64 - 128) * 64 + (128 + r % 64 - 128)=r:=by omega
    rw [zaJ (by omega),zaJ (by omega),zaJ (by omega),zaJ (by omega),e,if_pos ⟨zc4 _ (by omega),zc4 _ (by omega),zc4 _ (by omega),by omega,by omega⟩]
    rfl
theorem encU_len {r:Nat}:1 ≤ (zdq r).length ∧ (zdq r).length ≤ 4:=by
 unfold zdq; repeat' split
 all_goals simp
theorem zeY {l:List UInt8} {r n:Nat} (h:cpB r=true) (he:zdq r=l.take n) (hn:n ≤ l.length):zbK l=some (r,n):=by
 have h1:=zeZ h (l.drop n)
 rw [he,List.take_append_drop,List.length_take,Nat.min_eq_left hn] at h1
 exact h1
def zkD:Nat → List UInt8 → Int
 | 0,_ => 0
 | n + 1,l => if l=[] then 0 else match zbK l with
  | none => -1
  | some (_,k) => if zkD n (l.drop k)=-1 then -1 else zkD n (l.drop k) + 1
end Go.Proofs.YtadhjoggdbhkgaaGreatDoor
/-
 DERIVED: THE SHELF's CONTRACTS AT THIS DUMP,IN PLAIN WORDS (tools/lay-plain.mjs out of 'TryzShelf.lean',which tools/lay-shelf.mjs wrote): THE SAME DECLARATIONS UNDER THE SAME NAMES: 'import','namespace','open','def','theorem' AND NOTHING ELSE: no command of the shelf's: FOR A HAND-IN. Each laying: the table of numbers ('.._ren') and one theorem,a field a fact of the dump's own or the kernel's comparison; each contract: ONE APPLICATION.
-/
namespace Go.Proofs
open Go.Shelf
def Tryz.lays161_ren:Go.Shelf.Ren:=⟨fun | 161 => 61 | 231 => 93 | 227 => 94 | 233 => 95 | 235 => 96 | 228 => 114 | 197 => 119 | 151 => 120 | 260 => 139 | 152 => 112 | 137 => 132 | 119 => 133 | 224 => 134 | 225 => 135 | 217 => 137 | 266 => 147 | n => n,fun | 9 => 9 | 4 => 4 | 3 => 3 | 5 => 5 | 117 => 112 | 116 => 111 | 0 => 0 | 124 => 115 | 105 => 129 | 21 => 21 | 119 => 154 | 46 => 77 | 139 => 157 | 138 => 156 | n => n,fun | 3 => 4 | 4 => 5 | n => n⟩
theorem Tryz.lays161:Go.Proofs.Lays.n161 Tryz.prog Tryz.lays161_ren:={
 mixed:=by kernel_rfl
 f119:=Tryz.func133.trans (congrArg some (by kernel_rfl))
 f137:=Tryz.func132.trans (congrArg some (by kernel_rfl))
 f151:=Tryz.func120.trans (congrArg some (by kernel_rfl))
 f152:=Tryz.func112.trans (congrArg some (by kernel_rfl))
 f161:=Tryz.func61.trans (congrArg some (by kernel_rfl))
 f197:=Tryz.func119.trans (congrArg some (by kernel_rfl))
 f217:=Tryz.func137.trans (congrArg some (by kernel_rfl))
 f224:=Tryz.func134.trans (congrArg some (by kernel_rfl))
 f225:=Tryz.func135.trans (congrArg some (by kernel_rfl))
 f227:=Tryz.func94.trans (congrArg some (by kernel_rfl))
 f228:=Tryz.func114.trans (congrArg some (by kernel_rfl))
 f231:=Tryz.func93.trans (congrArg some (by kernel_rfl))
 f233:=Tryz.func95.trans (congrArg some (by kernel_rfl))
 f235:=Tryz.func96.trans (congrArg some (by kernel_rfl))
 f260:=Tryz.func139.trans (congrArg some (by kernel_rfl))
 f266:=Tryz.func147.trans (congrArg some (by kernel_rfl))
 t0:=Tryz.underlying0
 a0:=Tryz.isAgg0
 z0:=Tryz.sizeOf0
 v0:=Tryz.zeroValue0
 t3:=Tryz.underlying3
 a3:=Tryz.isAgg3
 z3:=Tryz.sizeOf3
 v3:=Tryz.zeroValue3
 t4:=Tryz.underlying4
 a4:=Tryz.isAgg4
 z4:=Tryz.sizeOf4
 v4:=Tryz.zeroValue4
 t5:=Tryz.underlying5
 a5:=Tryz.isAgg5
 z5:=Tryz.sizeOf5
 v5:=Tryz.zeroValue5
 t9:=Tryz.underlying9
 a9:=Tryz.isAgg9
 z9:=Tryz.sizeOf9
 v9:=Tryz.zeroValue9
 t21:=Tryz.underlying21
 a21:=Tryz.isAgg21
 z21:=Tryz.sizeOf21
 v21:=Tryz.zeroValue21
 t46:=Tryz.underlying77
 a46:=Tryz.isAgg77
 z46:=Tryz.sizeOf77
 v46:=Tryz.zeroValue77
 t105:=Tryz.underlying129
 a105:=Tryz.isAgg129
 z105:=Tryz.sizeOf129
 v105:=Tryz.zeroValue129
 t116:=Tryz.underlying111
 a116:=Tryz.isAgg111
 z116:=Tryz.sizeOf111
 t117:=Tryz.underlying112
 a117:=Tryz.isAgg112
 z117:=Tryz.sizeOf112
 v117:=Tryz.zeroValue112
 t119:=Tryz.underlying154
 a119:=Tryz.isAgg154
 z119:=Tryz.sizeOf154
 t124:=Tryz.underlying115
 a124:=Tryz.isAgg115
 z124:=Tryz.sizeOf115
 v124:=Tryz.zeroValue115
 t138:=Tryz.underlying156
 a138:=Tryz.isAgg156
 z138:=Tryz.sizeOf156
 v138:=Tryz.zeroValue156
 t139:=Tryz.underlying157
 a139:=Tryz.isAgg157
 z139:=Tryz.sizeOf157
 v139:=Tryz.zeroValue157
 g3:=by kernel_rfl
 g4:=by kernel_rfl }
open Go.RowKit in
/-- strings.TrimLeft: "TrimLeft returns a slice of the string s with all leading Unicode code points contained in cutset removed.": AT A cutset OF ONE ASCII BYTE. The world is as it was. (LAID: no walk: one application.) -/
theorem Tryz.strings_TrimLeft_one (s:ByteArray) (c:UInt8) (hc:c.toNat < 128) (w:World) :
  Calls Tryz.prog 61 #[.string s,.string ⟨#[c]⟩] w fun e w' => e=.returned (.string ⟨(Lib.trimLeftB s.data.toList c).toArray⟩) ∧ w'=w:=Any.strings_TrimLeft_one Tryz.lays161 s c hc w
def Tryz.lays162_ren:Go.Shelf.Ren:=⟨fun | 162 => 62 | 232 => 97 | 227 => 94 | 234 => 98 | 236 => 99 | 228 => 114 | 271 => 121 | 151 => 120 | 120 => 140 | 197 => 119 | 152 => 112 | 260 => 139 | 137 => 132 | 119 => 133 | 224 => 134 | 225 => 135 | 217 => 137 | 266 => 147 | n => n,fun | 9 => 9 | 4 => 4 | 3 => 3 | 5 => 5 | 117 => 112 | 116 => 111 | 0 => 0 | 124 => 115 | 21 => 21 | 105 => 129 | 46 => 77 | 119 => 154 | 139 => 157 | 138 => 156 | n => n,fun | 3 => 4 | 4 => 5 | n => n⟩
theorem Tryz.lays162:Go.Proofs.Lays.n162 Tryz.prog Tryz.lays162_ren:={
 mixed:=by kernel_rfl
 f119:=Tryz.func133.trans (congrArg some (by kernel_rfl))
 f120:=Tryz.func140.trans (congrArg some (by kernel_rfl))
 f137:=Tryz.func132.trans (congrArg some (by kernel_rfl))
 f151:=Tryz.func120.trans (congrArg some (by kernel_rfl))
 f152:=Tryz.func112.trans (congrArg some (by kernel_rfl))
 f162:=Tryz.func62.trans (congrArg some (by kernel_rfl))
 f197:=Tryz.func119.trans (congrArg some (by kernel_rfl))
 f217:=Tryz.func137.trans (congrArg some (by kernel_rfl))
 f224:=Tryz.func134.trans (congrArg some (by kernel_rfl))
 f225:=Tryz.func135.trans (congrArg some (by kernel_rfl))
 f227:=Tryz.func94.trans (congrArg some (by kernel_rfl))
 f228:=Tryz.func114.trans (congrArg some (by kernel_rfl))
 f232:=Tryz.func97.trans (congrArg some (by kernel_rfl))
 f234:=Tryz.func98.trans (congrArg some (by kernel_rfl))
 f236:=Tryz.func99.trans (congrArg some (by kernel_rfl))
 f260:=Tryz.func139.trans (congrArg some (by kernel_rfl))
 f266:=Tryz.func147.trans (congrArg some (by kernel_rfl))
 f271:=Tryz.func121.trans (congrArg some (by kernel_rfl))
 t0:=Tryz.underlying0
 a0:=Tryz.isAgg0
 z0:=Tryz.sizeOf0
 v0:=Tryz.zeroValue0
 t3:=Tryz.underlying3
 a3:=Tryz.isAgg3
 z3:=Tryz.sizeOf3
 v3:=Tryz.zeroValue3
 t4:=Tryz.underlying4
 a4:=Tryz.isAgg4
 z4:=Tryz.sizeOf4
 v4:=Tryz.zeroValue4
 t5:=Tryz.underlying5
 a5:=Tryz.isAgg5
 z5:=Tryz.sizeOf5
 v5:=Tryz.zeroValue5
 t9:=Tryz.underlying9
 a9:=Tryz.isAgg9
 z9:=Tryz.sizeOf9
 v9:=Tryz.zeroValue9
 t21:=Tryz.underlying21
 a21:=Tryz.isAgg21
 z21:=Tryz.sizeOf21
 v21:=Tryz.zeroValue21
 t46:=Tryz.underlying77
 a46:=Tryz.isAgg77
 z46:=Tryz.sizeOf77
 v46:=Tryz.zeroValue77
 t105:=Tryz.underlying129
 a105:=Tryz.isAgg129
 z105:=Tryz.sizeOf129
 v105:=Tryz.zeroValue129
 t116:=Tryz.underlying111
 a116:=Tryz.isAgg111
 z116:=Tryz.sizeOf111
 t117:=Tryz.underlying112
 a117:=Tryz.isAgg112
 z117:=Tryz.sizeOf112
 v117:=Tryz.zeroValue112
 t119:=Tryz.underlying154
 a119:=Tryz.isAgg154
 z119:=Tryz.sizeOf154
 t124:=Tryz.underlying115
 a124:=Tryz.isAgg115
 z124:=Tryz.sizeOf115
 v124:=Tryz.zeroValue115
 t138:=Tryz.underlying156
 a138:=Tryz.isAgg156
 z138:=Tryz.sizeOf156
 v138:=Tryz.zeroValue156
 t139:=Tryz.underlying157
 a139:=Tryz.isAgg157
 z139:=Tryz.sizeOf157
 v139:=Tryz.zeroValue157
 g3:=by kernel_rfl
 g4:=by kernel_rfl }
open Go.RowKit in
/-- strings.TrimRight: "TrimRight returns a slice of the string s, with all trailing Unicode code points contained in cutset removed.": AT A cutset OF ONE ASCII BYTE. The world is as it was. (LAID: no walk: one application.) -/
theorem Tryz.strings_TrimRight_one (s:ByteArray) (c:UInt8) (hc:c.toNat < 128) (w:World) (hs:s.size ≤ 9223372036854775807) :
  Calls Tryz.prog 62 #[.string s,.string ⟨#[c]⟩] w fun e w' => e=.returned (.string ⟨(Lib.trimRightB s.data.toList c).toArray⟩) ∧ w'=w:=Any.strings_TrimRight_one Tryz.lays162 s c hc w hs
def Tryz.lays103_ren:Go.Shelf.Ren:=⟨fun | 103 => 58 | 210 => 88 | 206 => 111 | n => n,fun | 9 => 9 | 4 => 4 | 24 => 79 | 3 => 3 | n => n,fun | n => n⟩
theorem Tryz.lays103:Go.Proofs.Lays.n103 Tryz.prog Tryz.lays103_ren:={
 mixed:=by kernel_rfl
 f103:=Tryz.func58.trans (congrArg some (by kernel_rfl))
 f206:=Tryz.func111.trans (congrArg some (by kernel_rfl))
 f210:=Tryz.func88.trans (congrArg some (by kernel_rfl))
 t3:=Tryz.underlying3
 a3:=Tryz.isAgg3
 z3:=Tryz.sizeOf3
 v3:=Tryz.zeroValue3
 t4:=Tryz.underlying4
 a4:=Tryz.isAgg4
 z4:=Tryz.sizeOf4
 v4:=Tryz.zeroValue4
 t9:=Tryz.underlying9
 a9:=Tryz.isAgg9
 z9:=Tryz.sizeOf9
 v9:=Tryz.zeroValue9
 t24:=Tryz.underlying79
 a24:=Tryz.isAgg79
 z24:=Tryz.sizeOf79
 v24:=Tryz.zeroValue79 }
open Go.RowKit in
/-- strings.CutPrefix: "CutPrefix returns s without the provided leading prefix string and reports whether it found the prefix. If s doesn't start with prefix, CutPrefix returns s, false. If prefix is the empty string, CutPrefix returns s, true.": IT RETURNS '(Lib.trimPrefix s p, Lib.hasPrefix s p)'; the world is as it was. (LAID: no walk: one application.) -/
theorem Tryz.strings_CutPrefix (s p:ByteArray) (w:World) :
  Calls Tryz.prog 58 #[.string s,.string p] w fun e w' => e=.returned (.tuple #[.string ⟨(Lib.trimPrefix s.data.toList p.data.toList).toArray⟩,.bool (Lib.hasPrefix s.data.toList p.data.toList)]) ∧ w'=w:=Any.strings_CutPrefix Tryz.lays103 s p w
def Tryz.laysM173_ren:Go.Shelf.Ren:=⟨fun | 173 => 63 | 246 => 100 | 283 => 122 | 284 => 123 | 285 => 124 | 286 => 125 | 129 => 86 | 317 => 141 | 318 => 142 | 319 => 143 | 320 => 144 | 337 => 149 | 338 => 150 | n => n,fun | 2 => 2 | 3 => 3 | 9 => 9 | 4 => 4 | 171 => 133 | 0 => 0 | 53 => 90 | 37 => 39 | 5 => 5 | 173 => 135 | 212 => 150 | 51 => 105 | 20 => 20 | 213 => 151 | 46 => 77 | 232 => 158 | 233 => 159 | n => n,fun | 17 => 3 | 18 => 6 | 19 => 7 | n => n⟩
theorem Tryz.laysM173:Go.Proofs.LaysM.n173 Tryz.prog Tryz.laysM173_ren:={
 mixed:=by kernel_rfl
 f129:=Tryz.func86.trans (congrArg some (by kernel_rfl))
 f173:=Tryz.func63.trans (congrArg some (by kernel_rfl))
 f246:=Tryz.func100.trans (congrArg some (by kernel_rfl))
 f283:=Tryz.func122.trans (congrArg some (by kernel_rfl))
 f284:=Tryz.func123.trans (congrArg some (by kernel_rfl))
 f285:=Tryz.func124.trans (congrArg some (by kernel_rfl))
 f286:=Tryz.func125.trans (congrArg some (by kernel_rfl))
 f317:=Tryz.func141.trans (congrArg some (by kernel_rfl))
 f318:=Tryz.func142.trans (congrArg some (by kernel_rfl))
 f319:=Tryz.func143.trans (congrArg some (by kernel_rfl))
 f320:=Tryz.func144.trans (congrArg some (by kernel_rfl))
 f337:=Tryz.func149.trans (congrArg some (by kernel_rfl))
 f338:=Tryz.func150.trans (congrArg some (by kernel_rfl))
 t0:=Tryz.underlying0
 a0:=Tryz.isAgg0
 z0:=Tryz.sizeOf0
 v0:=Tryz.zeroValue0
 t2:=Tryz.underlying2
 a2:=Tryz.isAgg2
 z2:=Tryz.sizeOf2
 v2:=Tryz.zeroValue2
 t3:=Tryz.underlying3
 a3:=Tryz.isAgg3
 z3:=Tryz.sizeOf3
 v3:=Tryz.zeroValue3
 t4:=Tryz.underlying4
 a4:=Tryz.isAgg4
 z4:=Tryz.sizeOf4
 v4:=Tryz.zeroValue4
 t5:=Tryz.underlying5
 a5:=Tryz.isAgg5
 z5:=Tryz.sizeOf5
 v5:=Tryz.zeroValue5
 t9:=Tryz.underlying9
 a9:=Tryz.isAgg9
 z9:=Tryz.sizeOf9
 v9:=Tryz.zeroValue9
 t20:=Tryz.underlying20
 a20:=Tryz.isAgg20
 z20:=Tryz.sizeOf20
 v20:=Tryz.zeroValue20
 t37:=Tryz.underlying39
 a37:=Tryz.isAgg39
 z37:=Tryz.sizeOf39
 v37:=Tryz.zeroValue39
 t46:=Tryz.underlying77
 a46:=Tryz.isAgg77
 z46:=Tryz.sizeOf77
 v46:=Tryz.zeroValue77
 t51:=Tryz.underlying105
 a51:=Tryz.isAgg105
 z51:=Tryz.sizeOf105
 v51:=Tryz.zeroValue105
 t53:=Tryz.underlying90
 a53:=Tryz.isAgg90
 z53:=Tryz.sizeOf90
 v53:=Tryz.zeroValue90
 t171:=Tryz.underlying133
 a171:=Tryz.isAgg133
 z171:=Tryz.sizeOf133
 v171:=Tryz.zeroValue133
 t173:=Tryz.underlying135
 a173:=Tryz.isAgg135
 z173:=Tryz.sizeOf135
 v173:=Tryz.zeroValue135
 t212:=Tryz.underlying150
 a212:=Tryz.isAgg150
 z212:=Tryz.sizeOf150
 v212:=Tryz.zeroValue150
 t213:=Tryz.underlying151
 a213:=Tryz.isAgg151
 z213:=Tryz.sizeOf151
 t232:=Tryz.underlying158
 a232:=Tryz.isAgg158
 z232:=Tryz.sizeOf158
 v232:=Tryz.zeroValue158
 t233:=Tryz.underlying159
 a233:=Tryz.isAgg159
 z233:=Tryz.sizeOf159
 v233:=Tryz.zeroValue159
 g17:=by kernel_rfl
 g18:=by kernel_rfl
 g19:=by kernel_rfl
 i0:=by kernel_rfl
 i2:=by kernel_rfl
 i3:=by kernel_rfl
 i4:=by kernel_rfl
 i5:=by kernel_rfl
 i9:=by kernel_rfl
 i20:=by kernel_rfl
 i37:=by kernel_rfl
 i46:=by kernel_rfl
 i51:=by kernel_rfl
 i53:=by kernel_rfl
 i171:=by kernel_rfl
 i173:=by kernel_rfl
 i212:=by kernel_rfl
 i232:=by kernel_rfl
 i233:=by kernel_rfl
 m17:=by kernel_rfl
 m18:=by kernel_rfl
 m19:=by kernel_rfl }
open Go.RowKit Go.Sort Go.Lib in
/-- strconv.FormatInt: "FormatInt returns the string representation of i in the given base": AT BASE 10: i's decimal numeral, for every int64. (LAID: no walk: one application.) -/
theorem Tryz.strconv_FormatInt_10 (n : Int) (h0 : -9223372036854775808 ≤ n) (h1 : n ≤ 9223372036854775807) (w : World) (htab : Lib.TabIs Tryz.prog w "internal/strconv.uint64pow10" .u64 Lib.pow10Tab) :
  Calls Tryz.prog 63 #[.int .i64 n,.int .i64 10] w fun e w' => e=.returned (.string ⟨(Lib.itoa n).toArray⟩) ∧ ∃ k os,w'=grow (w.drewN k) os:=Any.strconv_FormatInt_10 Tryz.laysM173 n h0 h1 w htab
def Tryz.lays219_ren:Go.Shelf.Ren:=⟨fun | 219 => 118 | 217 => 137 | 225 => 135 | 224 => 134 | 267 => 138 | 266 => 147 | 314 => 148 | n => n,fun | 9 => 9 | 3 => 3 | 4 => 4 | 5 => 5 | 46 => 77 | 146 => 152 | 51 => 105 | n => n,fun | 1 => 2 | n => n⟩
theorem Tryz.lays219:Go.Proofs.Lays.n219 Tryz.prog Tryz.lays219_ren:={
 mixed:=by kernel_rfl
 f217:=Tryz.func137.trans (congrArg some (by kernel_rfl))
 f219:=Tryz.func118.trans (congrArg some (by kernel_rfl))
 f224:=Tryz.func134.trans (congrArg some (by kernel_rfl))
 f225:=Tryz.func135.trans (congrArg some (by kernel_rfl))
 f266:=Tryz.func147.trans (congrArg some (by kernel_rfl))
 f267:=Tryz.func138.trans (congrArg some (by kernel_rfl))
 f314:=Tryz.func148.trans (congrArg some (by kernel_rfl))
 t3:=Tryz.underlying3
 a3:=Tryz.isAgg3
 z3:=Tryz.sizeOf3
 v3:=Tryz.zeroValue3
 t4:=Tryz.underlying4
 a4:=Tryz.isAgg4
 z4:=Tryz.sizeOf4
 v4:=Tryz.zeroValue4
 t5:=Tryz.underlying5
 a5:=Tryz.isAgg5
 z5:=Tryz.sizeOf5
 v5:=Tryz.zeroValue5
 t9:=Tryz.underlying9
 a9:=Tryz.isAgg9
 z9:=Tryz.sizeOf9
 v9:=Tryz.zeroValue9
 t46:=Tryz.underlying77
 a46:=Tryz.isAgg77
 z46:=Tryz.sizeOf77
 v46:=Tryz.zeroValue77
 t51:=Tryz.underlying105
 a51:=Tryz.isAgg105
 z51:=Tryz.sizeOf105
 v51:=Tryz.zeroValue105
 t146:=Tryz.underlying152
 a146:=Tryz.isAgg152
 z146:=Tryz.sizeOf152
 v146:=Tryz.zeroValue152
 g1:=by kernel_rfl }
open Go.RowKit Go.Lib in
/-- internal/stringslite.Index (what strings.Index calls) AT A substr OF ONE BYTE c: IT RETURNS 'Lib.indexByte s c'; the world is as it was. (LAID: no walk: one application.) -/
theorem Tryz.stringslite_Index_one (s:ByteArray) (c:UInt8) (w:World) :
  Calls Tryz.prog 118 #[.string s,.string ⟨#[c]⟩] w fun e w' => e=.returned (.int .i64 (Lib.indexByte s.data.toList c)) ∧ w'=w:=Any.stringslite_Index_one Tryz.lays219 s c w
def Tryz.lays101_ren:Go.Shelf.Ren:=⟨fun | 101 => 91 | 208 => 117 | 206 => 111 | n => n,fun | 9 => 9 | 4 => 4 | 3 => 3 | n => n,fun | n => n⟩
theorem Tryz.lays101:Go.Proofs.Lays.n101 Tryz.prog Tryz.lays101_ren:={
 mixed:=by kernel_rfl
 f101:=Tryz.func91.trans (congrArg some (by kernel_rfl))
 f206:=Tryz.func111.trans (congrArg some (by kernel_rfl))
 f208:=Tryz.func117.trans (congrArg some (by kernel_rfl))
 t3:=Tryz.underlying3
 a3:=Tryz.isAgg3
 z3:=Tryz.sizeOf3
 v3:=Tryz.zeroValue3
 t4:=Tryz.underlying4
 a4:=Tryz.isAgg4
 z4:=Tryz.sizeOf4
 v4:=Tryz.zeroValue4
 t9:=Tryz.underlying9
 a9:=Tryz.isAgg9
 z9:=Tryz.sizeOf9
 v9:=Tryz.zeroValue9 }
open Go.RowKit Go.Lib in
/-- strings.TrimPrefix: "TrimPrefix returns s without the provided leading prefix string. If s doesn't start with prefix, s is returned unchanged.": IT RETURNS 'Lib.trimPrefix s prefix'; the world is as it was. (LAID: no walk: one application.) -/
theorem Tryz.strings_TrimPrefix (s p:ByteArray) (w:World) :
  Calls Tryz.prog 91 #[.string s,.string p] w fun e w' => e=.returned (.string ⟨(Lib.trimPrefix s.data.toList p.data.toList).toArray⟩) ∧ w'=w:=Any.strings_TrimPrefix Tryz.lays101 s p w
def Tryz.lays226_ren:Go.Shelf.Ren:=⟨fun | 226 => 113 | n => n,fun | 3 => 3 | 4 => 4 | n => n,fun | n => n⟩
theorem Tryz.lays226:Go.Proofs.Lays.n226 Tryz.prog Tryz.lays226_ren:={
 mixed:=by kernel_rfl
 f226:=Tryz.func113.trans (congrArg some (by kernel_rfl))
 t3:=Tryz.underlying3
 a3:=Tryz.isAgg3
 z3:=Tryz.sizeOf3
 v3:=Tryz.zeroValue3
 t4:=Tryz.underlying4
 a4:=Tryz.isAgg4
 z4:=Tryz.sizeOf4
 v4:=Tryz.zeroValue4 }
open Go.RowKit Go.Lib in
theorem Tryz.strings_shouldUseASCIISet (n:Int) (w:World) :
  Calls Tryz.prog 113 #[.int .i64 n] w fun e w' => e=.returned (.bool (decide (8 < n))) ∧ w'=w:=Any.strings_shouldUseASCIISet Tryz.lays226 n w
def Tryz.lays153_ren:Go.Shelf.Ren:=⟨fun | 153 => 89 | 152 => 112 | 226 => 113 | 227 => 94 | 228 => 114 | 137 => 132 | 119 => 133 | 224 => 134 | 225 => 135 | 217 => 137 | 266 => 147 | n => n,fun | 9 => 9 | 3 => 3 | 4 => 4 | 5 => 5 | 21 => 21 | 117 => 112 | 116 => 111 | 0 => 0 | 46 => 77 | 124 => 115 | n => n,fun | n => n⟩
theorem Tryz.lays153:Go.Proofs.Lays.n153 Tryz.prog Tryz.lays153_ren:={
 mixed:=by kernel_rfl
 f119:=Tryz.func133.trans (congrArg some (by kernel_rfl))
 f137:=Tryz.func132.trans (congrArg some (by kernel_rfl))
 f152:=Tryz.func112.trans (congrArg some (by kernel_rfl))
 f153:=Tryz.func89.trans (congrArg some (by kernel_rfl))
 f217:=Tryz.func137.trans (congrArg some (by kernel_rfl))
 f224:=Tryz.func134.trans (congrArg some (by kernel_rfl))
 f225:=Tryz.func135.trans (congrArg some (by kernel_rfl))
 f226:=Tryz.func113.trans (congrArg some (by kernel_rfl))
 f227:=Tryz.func94.trans (congrArg some (by kernel_rfl))
 f228:=Tryz.func114.trans (congrArg some (by kernel_rfl))
 f266:=Tryz.func147.trans (congrArg some (by kernel_rfl))
 t0:=Tryz.underlying0
 a0:=Tryz.isAgg0
 z0:=Tryz.sizeOf0
 v0:=Tryz.zeroValue0
 t3:=Tryz.underlying3
 a3:=Tryz.isAgg3
 z3:=Tryz.sizeOf3
 v3:=Tryz.zeroValue3
 t4:=Tryz.underlying4
 a4:=Tryz.isAgg4
 z4:=Tryz.sizeOf4
 v4:=Tryz.zeroValue4
 t5:=Tryz.underlying5
 a5:=Tryz.isAgg5
 z5:=Tryz.sizeOf5
 v5:=Tryz.zeroValue5
 t9:=Tryz.underlying9
 a9:=Tryz.isAgg9
 z9:=Tryz.sizeOf9
 v9:=Tryz.zeroValue9
 t21:=Tryz.underlying21
 a21:=Tryz.isAgg21
 z21:=Tryz.sizeOf21
 v21:=Tryz.zeroValue21
 t46:=Tryz.underlying77
 a46:=Tryz.isAgg77
 z46:=Tryz.sizeOf77
 v46:=Tryz.zeroValue77
 t116:=Tryz.underlying111
 a116:=Tryz.isAgg111
 z116:=Tryz.sizeOf111
 t117:=Tryz.underlying112
 a117:=Tryz.isAgg112
 z117:=Tryz.sizeOf112
 v117:=Tryz.zeroValue112
 t124:=Tryz.underlying115
 a124:=Tryz.isAgg115
 z124:=Tryz.sizeOf115
 v124:=Tryz.zeroValue115 }
def Tryz.lays227_ren:Go.Shelf.Ren:=⟨fun | 227 => 94 | n => n,fun | 9 => 9 | 116 => 111 | 4 => 4 | 0 => 0 | 3 => 3 | 5 => 5 | n => n,fun | n => n⟩
theorem Tryz.lays227:Go.Proofs.Lays.n227 Tryz.prog Tryz.lays227_ren:={
 mixed:=by kernel_rfl
 f227:=Tryz.func94.trans (congrArg some (by kernel_rfl))
 t0:=Tryz.underlying0
 a0:=Tryz.isAgg0
 z0:=Tryz.sizeOf0
 v0:=Tryz.zeroValue0
 t3:=Tryz.underlying3
 a3:=Tryz.isAgg3
 z3:=Tryz.sizeOf3
 v3:=Tryz.zeroValue3
 t4:=Tryz.underlying4
 a4:=Tryz.isAgg4
 z4:=Tryz.sizeOf4
 v4:=Tryz.zeroValue4
 t5:=Tryz.underlying5
 a5:=Tryz.isAgg5
 z5:=Tryz.sizeOf5
 v5:=Tryz.zeroValue5
 t9:=Tryz.underlying9
 a9:=Tryz.isAgg9
 z9:=Tryz.sizeOf9
 v9:=Tryz.zeroValue9
 t116:=Tryz.underlying111
 a116:=Tryz.isAgg111
 z116:=Tryz.sizeOf111 }
open Go.RowKit Go.Lib in
theorem Tryz.strings_makeASCIISet (hv116:∀ w,(zeroValue 111).run Tryz.prog w=.ok (.agg (Array.replicate 256 (.bool false))) w) (chars:ByteArray) (w:World) (hs:chars.size < 4294967281) (hascii:∀ (j:Nat) b,chars.data.toList[j]? = some b → b.toNat < 128) :
  Calls Tryz.prog 94 #[.string chars] w fun e w' => e=.returned (.tuple #[.agg (Lib.setCells chars.data.toList),.bool true]) ∧ w'=w.alloc (.cells (Lib.setCells chars.data.toList) 111):=Any.strings_makeASCIISet Tryz.lays227 hv116 (by kernel_rfl) chars w hs hascii
def Tryz.lays228_ren:Go.Shelf.Ren:=⟨fun | 228 => 114 | n => n,fun | 124 => 115 | 5 => 5 | 4 => 4 | 0 => 0 | 116 => 111 | n => n,fun | n => n⟩
theorem Tryz.lays228:Go.Proofs.Lays.n228 Tryz.prog Tryz.lays228_ren:={
 mixed:=by kernel_rfl
 f228:=Tryz.func114.trans (congrArg some (by kernel_rfl))
 t0:=Tryz.underlying0
 a0:=Tryz.isAgg0
 z0:=Tryz.sizeOf0
 v0:=Tryz.zeroValue0
 t4:=Tryz.underlying4
 a4:=Tryz.isAgg4
 z4:=Tryz.sizeOf4
 v4:=Tryz.zeroValue4
 t5:=Tryz.underlying5
 a5:=Tryz.isAgg5
 z5:=Tryz.sizeOf5
 v5:=Tryz.zeroValue5
 t116:=Tryz.underlying111
 a116:=Tryz.isAgg111
 z116:=Tryz.sizeOf111
 t124:=Tryz.underlying115
 a124:=Tryz.isAgg115
 z124:=Tryz.sizeOf115
 v124:=Tryz.zeroValue115 }
open Go.RowKit Go.Lib in
/-- '(as *asciiSet) contains(c)': 'as[c]': the set lies at block b, whole. (LAID: no walk: one application.) -/
theorem Tryz.asciiSet_contains (b:Nat) (x:UInt8) (v:Bool) (w:World) (hc:w.cell? ⟨b,x.toNat,none⟩=some (.bool v)) :
  Calls Tryz.prog 114 #[.pointer (some ⟨b,0,none⟩),.int .u8 x.toNat] w fun e w' => e=.returned (.bool v) ∧ w'=w:=Any.asciiSet_contains Tryz.lays228 b x v w hc
open Go.RowKit Go.Lib in
theorem Tryz.strings_IndexAny_laid (s chars:ByteArray) (w:World) (hs:s.size < 4294967281) (hcs:chars.size < 4294967281) (has:∀ (j:Nat) b,s.data.toList[j]? = some b → b.toNat < 128) (hac:∀ (j:Nat) b,chars.data.toList[j]? = some b → b.toNat < 128) :
  Calls Tryz.prog 89 #[.string s,.string chars] w fun e w' => e=.returned (.int .i64 (Lib.indexAny s.data.toList chars.data.toList)) ∧ Below w.heap.size w w':=Any.strings_IndexAny_laid Tryz.lays153 (by kernel_rfl) s chars w hs hcs has hac
def Tryz.laysSlF6_f35_ren:Go.Shelf.Ren:=⟨fun | 6 => 35 | 15 => 55 | 14 => 54 | 28 => 85 | 29 => 86 | 20 => 77 | 21 => 78 | 22 => 79 | 23 => 80 | 24 => 81 | 25 => 82 | 26 => 83 | 27 => 84 | 46 => 105 | 47 => 106 | 48 => 107 | 49 => 108 | 50 => 109 | 57 => 131 | n => n,fun | 22 => 61 | 24 => 3 | 25 => 64 | 3 => 3 | 39 => 77 | 0 => 0 | 53 => 105 | 55 => 90 | 4 => 4 | 46 => 98 | 45 => 97 | 50 => 102 | 5 => 5 | 9 => 9 | 66 => 118 | 70 => 122 | 76 => 142 | 77 => 143 | n => n,fun | n => n⟩
theorem Tryz.laysSlF6_f35:Go.Proofs.SlLaysF.n6 Tryz.prog Tryz.laysSlF6_f35_ren:={
 mixed:=by kernel_rfl
 f6:=⟨Tryz.f35.name,by decide,Tryz.func35.trans (congrArg some (by kernel_rfl))⟩
 f14:=⟨Tryz.f54.name,by decide,Tryz.func54.trans (congrArg some (by kernel_rfl))⟩
 f15:=Tryz.func55.trans (congrArg some (by kernel_rfl))
 f20:=⟨Tryz.f77.name,by decide,Tryz.func77.trans (congrArg some (by kernel_rfl))⟩
 f21:=⟨Tryz.f78.name,by decide,Tryz.func78.trans (congrArg some (by kernel_rfl))⟩
 f22:=⟨Tryz.f79.name,by decide,Tryz.func79.trans (congrArg some (by kernel_rfl))⟩
 f23:=⟨Tryz.f80.name,by decide,Tryz.func80.trans (congrArg some (by kernel_rfl))⟩
 f24:=⟨Tryz.f81.name,by decide,Tryz.func81.trans (congrArg some (by kernel_rfl))⟩
 f25:=⟨Tryz.f82.name,by decide,Tryz.func82.trans (congrArg some (by kernel_rfl))⟩
 f26:=⟨Tryz.f83.name,by decide,Tryz.func83.trans (congrArg some (by kernel_rfl))⟩
 f27:=⟨Tryz.f84.name,by decide,Tryz.func84.trans (congrArg some (by kernel_rfl))⟩
 f28:=Tryz.func85.trans (congrArg some (by kernel_rfl))
 f29:=Tryz.func86.trans (congrArg some (by kernel_rfl))
 f46:=⟨Tryz.f105.name,by decide,Tryz.func105.trans (congrArg some (by kernel_rfl))⟩
 f47:=Tryz.func106.trans (congrArg some (by kernel_rfl))
 f48:=Tryz.func107.trans (congrArg some (by kernel_rfl))
 f49:=⟨Tryz.f108.name,by decide,Tryz.func108.trans (congrArg some (by kernel_rfl))⟩
 f50:=⟨Tryz.f109.name,by decide,Tryz.func109.trans (congrArg some (by kernel_rfl))⟩
 f57:=⟨Tryz.f131.name,by decide,Tryz.func131.trans (congrArg some (by kernel_rfl))⟩
 t0:=Tryz.underlying0
 a0:=Tryz.isAgg0
 z0:=Tryz.sizeOf0
 v0:=Tryz.zeroValue0
 t3:=Tryz.underlying3
 a3:=Tryz.isAgg3
 z3:=Tryz.sizeOf3
 v3:=Tryz.zeroValue3
 t4:=Tryz.underlying4
 a4:=Tryz.isAgg4
 z4:=Tryz.sizeOf4
 v4:=Tryz.zeroValue4
 t5:=Tryz.underlying5
 a5:=Tryz.isAgg5
 z5:=Tryz.sizeOf5
 v5:=Tryz.zeroValue5
 t9:=Tryz.underlying9
 a9:=Tryz.isAgg9
 z9:=Tryz.sizeOf9
 v9:=Tryz.zeroValue9
 t22:=Tryz.underlying61
 a22:=Tryz.isAgg61
 z22:=Tryz.sizeOf61
 v22:=Tryz.zeroValue61
 a24:=Tryz.isAgg3
 z24:=Tryz.sizeOf3
 t25:=Tryz.underlying64
 a25:=Tryz.isAgg64
 z25:=Tryz.sizeOf64
 v25:=Tryz.zeroValue64
 t39:=Tryz.underlying77
 a39:=Tryz.isAgg77
 z39:=Tryz.sizeOf77
 v39:=Tryz.zeroValue77
 t45:=Tryz.underlying97
 a45:=Tryz.isAgg97
 z45:=Tryz.sizeOf97
 v45:=Tryz.zeroValue97
 t46:=Tryz.underlying98
 a46:=Tryz.isAgg98
 z46:=Tryz.sizeOf98
 v46:=Tryz.zeroValue98
 t50:=Tryz.underlying102
 a50:=Tryz.isAgg102
 z50:=Tryz.sizeOf102
 v50:=Tryz.zeroValue102
 t53:=Tryz.underlying105
 a53:=Tryz.isAgg105
 z53:=Tryz.sizeOf105
 v53:=Tryz.zeroValue105
 t55:=Tryz.underlying90
 a55:=Tryz.isAgg90
 z55:=Tryz.sizeOf90
 v55:=Tryz.zeroValue90
 t66:=Tryz.underlying118
 a66:=Tryz.isAgg118
 z66:=Tryz.sizeOf118
 v66:=Tryz.zeroValue118
 t70:=Tryz.underlying122
 a70:=Tryz.isAgg122
 z70:=Tryz.sizeOf122
 v70:=Tryz.zeroValue122
 t76:=Tryz.underlying142
 a76:=Tryz.isAgg142
 z76:=Tryz.sizeOf142
 v76:=Tryz.zeroValue142
 t77:=Tryz.underlying143
 a77:=Tryz.isAgg143
 z77:=Tryz.sizeOf143
 v77:=Tryz.zeroValue143 }
open Go.RowKit Go.Lib Go.Sort in
/-- **slices.SortFunc, IN THE DOCUMENTATION's OWN TERMS: A PERMUTATION OF WHAT THE ROW HELD, SORTED BY 'cmp(a, b) < 0'.** Which of two equals comes first is left open ("The sort is not guaranteed to be stable"). (LAID AT THE INSTANCE 'slices.SortFunc[[]int,int]': no walk: one application.) -/
theorem Tryz.slices_SortFunc {α:Type} [Inhabited α] (enc:α → Value) (h1:OneCell enc) (cf:α → α → Int) (hO:SWO (ltOf cf)) (g:Nat) (cb:Array Value) (blk off cap:Nat) (d:Array α) (w:World) (eg:∀ args w,(callFunc g args).run Tryz.prog w=.ok (.enter g args) w) (hcmp:CmpLays1 Tryz.prog g cb enc cf blk off d.size w) (hH:Holds enc w blk off d) (hblk:blk < w.heap.size) (hsz:d.size < 4611686018427387904) :
  Calls Tryz.prog 35 #[.slice (some ⟨blk,off,none⟩) d.size cap,.func (.func g) #[] cb] w fun e w' =>
   e=.returned (.tuple #[]) ∧ ∃ d' n os,PermIn 0 d.size d d' ∧ SortedIn (ltOf cf) 0 d.size d' ∧ w'=sortWorld enc w blk off n d' os:=Any.slices_SortFunc Tryz.laysSlF6_f35 enc h1 cf hO g cb blk off cap d w eg hcmp hH hblk hsz
end Go.Proofs
namespace Go.Proofs.YtadhjoggdbhkgaaGreatDoor
open Go.RowKit
def zdZ (c:UInt8):Bool:=decide (97 ≤ c.toNat ∧ c.toNat ≤ 122 ∨ 65 ≤ c.toNat ∧ c.toNat ≤ 90)
def zaj (c:UInt8):Bool:=decide (48 ≤ c.toNat ∧ c.toNat ≤ 57)
def zbH (c:UInt8):Bool:=decide (48 ≤ c.toNat ∧ c.toNat ≤ 57 ∨ 97 ≤ c.toNat ∧ c.toNat ≤ 102 ∨ 65 ≤ c.toNat ∧ c.toNat ≤ 70)
def zcw (c:UInt8) (l:List UInt8):Bool:=l.contains c
theorem hasB_nil (c:UInt8):zcw c []=false:=rfl
theorem beq_u8 (c d:UInt8):(c == d)=(d.toNat == c.toNat):=by
 by_cases h:c=d
 ·subst h; rw [beq_self_eq_true,beq_self_eq_true]
 ·rw [beq_eq_false_iff_ne.2 h,beq_eq_false_iff_ne.2 (fun e => h (UInt8.toNat_inj.1 e).symm)]
theorem zhf (l:List UInt8) (c d:UInt8):zcw c (l ++ [d])=(zcw c l || (d.toNat == c.toNat)):=by
 unfold zcw
 rw [← beq_u8]
 simp only [List.contains_append,List.contains_cons,List.contains_nil,Bool.or_false]
theorem zb2 (c:UInt8) (w:World) :
  Calls Tryz.prog 110 #[.int .u8 c.toNat] w fun e w' => e=.returned (.bool (zaj c)) ∧ w=w':=by
 go_enter Tryz.func110,Tryz.ntmps110
 go_wp2
 all_goals go_ret
 all_goals exact ⟨zb5 (by unfold zaj; first | exact dt (by omega) | exact df (by omega) | (rw [Bool.eq_iff_iff]; simp only [Bool.or_eq_true,Bool.and_eq_true,decide_eq_true_eq]; omega)),rfl⟩
theorem zg0 (c:UInt8) (w:World) :
  Calls Tryz.prog 75 #[.int .u8 c.toNat] w fun e w' => e=.returned (.bool (zdZ c)) ∧ w=w':=by
 go_enter Tryz.func75,Tryz.ntmps75
 go_wp2
 all_goals go_ret
 all_goals exact ⟨zb5 (by unfold zdZ; first | exact dt (by omega) | exact df (by omega) | (rw [Bool.eq_iff_iff]; simp only [Bool.or_eq_true,Bool.and_eq_true,decide_eq_true_eq]; omega)),rfl⟩
theorem zgZ (c:UInt8) (w:World) :
  Calls Tryz.prog 74 #[.int .u8 c.toNat] w fun e w' => e=.returned (.bool (zaj c)) ∧ w=w':=by
 go_enter Tryz.func74,Tryz.ntmps74
 go_wp2
 all_goals go_ret
 all_goals exact ⟨zb5 (by unfold zaj; first | exact dt (by omega) | exact df (by omega) | (rw [Bool.eq_iff_iff]; simp only [Bool.or_eq_true,Bool.and_eq_true,decide_eq_true_eq]; omega)),rfl⟩
theorem zfp (c:UInt8) (w:World) :
  Calls Tryz.prog 152 #[.int .u8 c.toNat] w fun e w' => e=.returned (.bool (zbH c)) ∧ w=w':=by
 go_enter Tryz.func152,Tryz.ntmps152
 go_wp2
 all_goals go_ret
 all_goals exact ⟨zb5 (by unfold zbH; first | exact dt (by omega) | exact df (by omega) | (rw [Bool.eq_iff_iff]; simp only [Bool.or_eq_true,Bool.and_eq_true,decide_eq_true_eq]; omega)),rfl⟩
theorem zhV (c:UInt8) (s:ByteArray) (w:World) (hs:s.size ≤ maxLen) :
  Calls Tryz.prog 72 #[.int .u8 c.toNat,.string s] w fun e w' => e=.returned (.bool (zcw c s.data.toList)) ∧ w=w':=by
 unfold maxLen at hs
 go_enter Tryz.func72,Tryz.ntmps72
 go_wp2
 go_loop [5] (fun i => ∃ k:Nat,k ≤ s.size ∧ i=.int .i64 k ∧ zcw c (s.data.toList.take k)=false) (fun i => s.size - (intOf i).toNat)
 case atStart => exact ⟨0,Nat.zero_le _,rfl,hasB_nil c⟩
 case round =>
  obtain ⟨k,hk,rfl,hno⟩:=hrel
  have HN:=Lib.hid hno
  clear hno
  by_cases hlt:k < s.size
  ·have HT:=Lib.hid (zgF s k hlt)
   go_wp2
   ·have he:(↑s[k].toNat == (↑c.toNat:Int))=true:=by assumption
    go_ret
    have h:zcw c s.data.toList=true:=by
     have h1:zcw c (s.data.toList.take (k + 1))=true:=by
      rw [HT.out,zhf]
      have:s[k].toNat=c.toNat:=by have:=eq_of_beq he; omega
      simp [this]
     unfold zcw at h1 ⊢
     rw [List.contains_iff_mem] at h1 ⊢
     exact List.mem_of_mem_take h1
    exact ⟨zb5 h.symm,rfl⟩
   ·have he:(↑s[k].toNat == (↑c.toNat:Int))=false:=by assumption
    go_round
    case rel =>
     refine ⟨k + 1,by omega,by go_num,?_⟩
     rw [HT.out,zhf,HN.out]
     have:¬ s[k].toNat=c.toNat:=by intro h; simp [h] at he
     simp [this]
    case measure => simp [intOf]; omega
  ·go_wp2
   go_ret
   exact ⟨zb5 (by have h:=HN.out; rw [List.take_of_length_le (by rw [zai]; omega)] at h; rw [h]),rfl⟩
end Go.Proofs.YtadhjoggdbhkgaaGreatDoor
namespace Go.Proofs.YtadhjoggdbhkgaaGreatDoor
def dvN (c:UInt8):Nat:=if c.toNat ≤ 57 then c.toNat - 48 else if c.toNat ≤ 70 then c.toNat - 55 else c.toNat - 87
def zcf (base most:Nat):List UInt8 → Nat → Option Nat
 | [],n => some n
 | c :: l,n => if n * base + dvN c ≤ most then zcf base most l (n * base + dvN c) else none
def optE:Option Nat → Int × Nat
 | some n => (0,n)
 | none => (4,0)
def zfQ (base most:Nat) (l:List UInt8):Int × Nat:=optE (zcf base most l 0)
def zct (p:UInt8 → Bool) (l:List UInt8):Int:=if l=[] then 3 else if l.all p=true then 0 else 1
def zbW (p:UInt8 → Bool) (base most:Nat) (l:List UInt8):Int × Nat:=if zct p l=0 then zfQ base most l else (zct p l,0)
def numV (r:Int × Nat):Value:=.tuple #[.int .u64 r.2,.int .i64 r.1]
theorem hexC {c:UInt8} (h:zbH c=true):48 ≤ c.toNat ∧ c.toNat ≤ 57 ∨ 97 ≤ c.toNat ∧ c.toNat ≤ 102 ∨ 65 ≤ c.toNat ∧ c.toNat ≤ 70:=of_decide_eq_true h
theorem dvN_lt {c:UInt8} (h:zbH c=true):dvN c < 16:=by have:=hexC h; unfold dvN; (repeat' split) <;> omega
theorem zeV {c:UInt8} (h:zaj c=true):dvN c=c.toNat - 48 ∧ 48 ≤ c.toNat ∧ c.toNat ≤ 57:=by
 have h2:48 ≤ c.toNat ∧ c.toNat ≤ 57:=of_decide_eq_true h
 exact ⟨by unfold dvN; rw [if_pos h2.2],h2⟩
theorem znA {c:UInt8} (h:zaj c=true):zbH c=true:=by
 have h2:48 ≤ c.toNat ∧ c.toNat ≤ 57:=of_decide_eq_true h
 exact decide_eq_true (.inl h2)
theorem zgu {l:List UInt8} (h:l.all zaj=true):l.all zbH=true:=by
 rw [List.all_eq_true] at h ⊢
 exact fun c hc => znA (h c hc)
theorem ze2 {p:UInt8 → Bool} {l:List UInt8} (h0:l ≠ []) (h:l.all p=true):zct p l=0:=by unfold zct; rw [if_neg h0,if_pos h]
theorem zfG {p:UInt8 → Bool} {l:List UInt8} (h0:l ≠ []) (h:l.all p=false):zct p l=1:=by unfold zct; rw [if_neg h0,if_neg (by rw [h]; exact Bool.false_ne_true)]
theorem zkG {p:UInt8 → Bool} {l:List UInt8} (h:zct p l=0):l ≠ [] ∧ l.all p=true:=by
 unfold zct at h
 by_cases h0:l=[]
 ·rw [if_pos h0] at h; cases h
 ·rw [if_neg h0] at h
  by_cases h1:l.all p=true
  ·exact ⟨h0,h1⟩
  ·rw [if_neg h1] at h; cases h
theorem zht (p:UInt8 → Bool) (l:List UInt8):zct p l=0 ∨ zct p l=1 ∨ zct p l=3:=by
 unfold zct; repeat' split
 all_goals simp
theorem zk3 (base most:Nat):∀ (l:List UInt8) (n m:Nat),n ≤ most → zcf base most l n=some m → m ≤ most
 | [],n,m,hn,h => by rw [zcf] at h; injection h with h; omega
 | c :: l,n,m,hn,h => by
  rw [zcf] at h
  split at h
  ·rename_i h1; exact zk3 base most l _ m h1 h
  ·cases h
theorem valE_le (base most:Nat) (l:List UInt8):(zfQ base most l).2 ≤ most:=by
 unfold zfQ
 rcases h:zcf base most l 0 with _ | n
 ·exact Nat.zero_le _
 ·exact zk3 base most l 0 n (Nat.zero_le _) h
theorem zi9 (p:UInt8 → Bool) (base most:Nat) (l:List UInt8):(zbW p base most l).2 ≤ most:=by
 unfold zbW; split
 ·exact valE_le _ _ _
 ·exact Nat.zero_le _
end Go.Proofs.YtadhjoggdbhkgaaGreatDoor
namespace Go.Proofs.YtadhjoggdbhkgaaGreatDoor
open Go.RowKit
def bv (l:List UInt8):List Value:=l.map fun c => .int .u8 c.toNat
theorem bv_get (l:List UInt8) (i:Nat) (h:i < l.length):(bv l)[i]? = some (.int .u8 l[i].toNat):=by simp [bv,h]
def zit (w:World) (base:Nat) (v:Value) (l:List UInt8):Prop:=w.ownsRow base 5 1 v l.length (bv l)
theorem zit.nil (w:World) (base:Nat):zit w base (.slice none 0 0) []:=World.ownsRow_nil w base _ _
theorem zit.drewN {w:World} {base:Nat} {v:Value} {l:List UInt8} (h:zit w base v l) (n:Nat):zit (w.drewN n) base v l:=h
theorem zit.alloc {w:World} {base:Nat} {v:Value} {l:List UInt8} (h:zit w base v l) (o:Obj):zit (w.alloc o) base v l:=World.ownsRow.alloc h o
theorem zit.below {w w':World} {base:Nat} {v:Value} {l:List UInt8} (h:zit w base v l) (hb:Qb w w'):zit w' base v l:=by
 refine World.ownsRow.kept (row:=none) h ⟨hb.os,hb.tape,hb.output,Below.size hb,fun k hk _ => Below.block hb k hk⟩ ?_
 rcases h.2 with ⟨rfl,_⟩ | ⟨g,cap,cur,rfl,_⟩
 ·exact .inl rfl
 ·exact .inr (by simp [Value.ownBlock])
theorem zit.cell {w:World} {B g n cap:Nat} {l:List UInt8} (h:zit w B (.slice (some ⟨g,0,none⟩) n cap) l) (j:Nat) (hj:j < l.length):w.cell? ⟨g,j,none⟩=some (.int .u8 l[j].toNat):=by
 have h':=h
 rcases h'.2 with ⟨e,_⟩ | ⟨g',cap',cur,e,_⟩
 ·simp at e
 ·simp only [Value.slice.injEq] at e
  obtain ⟨_,rfl,_⟩:=e
  rw [World.ownsRow.cellAt (h:World.ownsRow _ _ _ _ _ _ _) j (by omega),bv_get l j hj]
theorem zit.frozen {w:World} {B g n cap:Nat} {l:List UInt8} (h:zit w B (.slice (some ⟨g,0,none⟩) n cap) l) (j:Nat):w.frozen? ⟨g,j,none⟩=false:=by
 have h':=h
 rcases h'.2 with ⟨e,_⟩ | ⟨g',cap',cur,e,_⟩
 ·simp at e
 ·simp only [Value.slice.injEq] at e
  obtain ⟨_,rfl,_⟩:=e
  exact World.ownsRow.frozenAt (h:World.ownsRow _ _ _ _ _ _ _) j
def Crow (w:World) (g:Nat) (l:List UInt8):Prop:=∀ j (h:j < l.length),w.cell? ⟨g,j,none⟩=some (.int .u8 l[j].toNat) ∧ w.frozen? ⟨g,j,none⟩=false
theorem zaz (g j:Nat):(⟨g,0,none⟩:Addr).add j=⟨g,j,none⟩:=by unfold Addr.add; split <;> simp_all
theorem Crow.str {w:World} {g:Nat} {l:List UInt8} (h:Crow w g l) (n cap:Nat) (hn:n=l.length) :
  (convert 39 9 (.slice (some ⟨g,0,none⟩) n cap)).run Tryz.prog w=.ok (.string ⟨l.toArray⟩) w:=by
 subst hn
 exact run_convert_bytes_back w _ _ 5 _ cap l Tryz.underlying39 Tryz.underlying5 Tryz.underlying9 (fun j hj => by rw [zaz]; exact (h j hj).1)
theorem zdI (W:World) (xs:List Int) (n:Nat) (hn:n=xs.length) :
  (convert 39 9 (.slice (some ⟨W.heap.size,0,none⟩) n n)).run Tryz.prog (W.alloc (.cells (xs.map (Value.int .u8)).toArray 5))=.ok (.string (strOfNums xs)) (W.alloc (.cells (xs.map (Value.int .u8)).toArray 5)):=by
 refine run_convert_bytes_arg _ 39 5 Tryz.underlying39 Tryz.underlying5 W.heap.size 0 n n xs hn.symm ?_ _ Tryz.underlying9
 intro i hi
 rw [World.cell?_alloc_at _ _ _ _ rfl]
 have h:i < xs.length:=by omega
 simp [List.getD,List.getElem?_eq_getElem h]
end Go.Proofs.YtadhjoggdbhkgaaGreatDoor
namespace Go.Proofs.YtadhjoggdbhkgaaGreatDoor
open Go.RowKit
def sv (ls:List (List UInt8)):List Value:=ls.map fun l => .string (S l)
theorem sv_get (ls:List (List UInt8)) (i:Nat) (h:i < ls.length):(sv ls)[i]? = some (.string (S ls[i])):=by simp [sv,h]
def zkM (w:World) (base:Nat) (v:Value) (ls:List (List UInt8)):Prop:=w.ownsRow base 9 1 v ls.length (sv ls)
theorem zkM.nil (w:World) (base:Nat):zkM w base (.slice none 0 0) []:=World.ownsRow_nil w base _ _
theorem zkM.drewN {w:World} {base:Nat} {v:Value} {l:List (List UInt8)} (h:zkM w base v l) (n:Nat):zkM (w.drewN n) base v l:=h
theorem zkM.alloc {w:World} {base:Nat} {v:Value} {l:List (List UInt8)} (h:zkM w base v l) (o:Obj):zkM (w.alloc o) base v l:=World.ownsRow.alloc h o
theorem zkM.below {w w':World} {base:Nat} {v:Value} {l:List (List UInt8)} (h:zkM w base v l) (hb:Qb w w'):zkM w' base v l:=by
 refine World.ownsRow.kept (row:=none) h ⟨hb.os,hb.tape,hb.output,Below.size hb,fun k hk _ => Below.block hb k hk⟩ ?_
 rcases h.2 with ⟨rfl,_⟩ | ⟨g,cap,cur,rfl,_⟩
 ·exact .inl rfl
 ·exact .inr (by simp [Value.ownBlock])
theorem zkM.cell {w:World} {B g n cap:Nat} {l:List (List UInt8)} (h:zkM w B (.slice (some ⟨g,0,none⟩) n cap) l) (j:Nat) (hj:j < l.length):w.cell? ⟨g,j,none⟩=some (.string (S l[j])):=by
 have h':=h
 rcases h'.2 with ⟨e,_⟩ | ⟨g',cap',cur,e,_⟩
 ·simp at e
 ·simp only [Value.slice.injEq] at e
  obtain ⟨_,rfl,_⟩:=e
  rw [World.ownsRow.cellAt (h:World.ownsRow _ _ _ _ _ _ _) j (by omega),sv_get l j hj]
end Go.Proofs.YtadhjoggdbhkgaaGreatDoor
namespace Go.Proofs.YtadhjoggdbhkgaaGreatDoor
open Go.RowKit
theorem zeu (p:UInt8 → Bool) (s:ByteArray) (k:Nat) (h:k < s.size):(s.data.toList.take (k + 1)).all p=((s.data.toList.take k).all p && p s[k]):=by
 rw [zgF s k h,List.all_append]; simp
theorem zdc (p:UInt8 → Bool) (l:List UInt8) (k:Nat) (h:(l.take k).all p=false):l.all p=false:=by
 rw [← List.take_append_drop k l,List.all_append,h,Bool.false_and]
theorem ziD (s:ByteArray) (k:Nat) (h:¬ k < s.size):s.data.toList.take k=s.data.toList:=List.take_of_length_le (by rw [zai]; omega)
def zdK (c:UInt8):Bool:=decide (c.toNat=32 ∨ c.toNat=9)
def rdw (l:List UInt8):List UInt8:=(l.reverse.dropWhile zdK).reverse
def trimL (l:List UInt8):List UInt8:=rdw (l.dropWhile zdK)
theorem rdw_snoc (l:List UInt8) (x:UInt8):rdw (l ++ [x])=if zdK x=true then rdw l else l ++ [x]:=by
 unfold rdw
 rw [List.reverse_append,List.reverse_singleton,List.singleton_append,List.dropWhile_cons]
 split <;> simp
def TP (n:Nat) (l:List UInt8) (f t:Nat):Prop :=
 ∃ A M B,l=A ++ M ++ B ∧ (∀ a ∈ A,zdK a=true) ∧ (∀ b ∈ B,zdK b=true) ∧ M.dropWhile zdK=M ∧ rdw M=M ∧
  ((M=[] ∧ f=n ∧ t=0) ∨ (M ≠ [] ∧ f=A.length ∧ t=A.length + M.length))
theorem TP.other {n:Nat} {l:List UInt8} {f t:Nat} {c:UInt8} (h:TP n l f t) (hc:zdK c=false) (hl:l.length < n):TP n (l ++ [c]) (min f l.length) (l.length + 1):=by
 obtain ⟨A,M,B,rfl,hA,hB,h1,h2,h3⟩:=h
 rcases h3 with ⟨rfl,rfl,rfl⟩ | ⟨h3,rfl,rfl⟩
 ·refine ⟨A ++ B,[c],[],by simp,?_,by simp,by simp [hc],by simp [rdw,hc],.inr ⟨by simp,?_,?_⟩⟩
  ·intro a ha
   rcases List.mem_append.1 ha with ha | ha
   ·exact hA a ha
   ·exact hB a ha
  ·simp at hl ⊢; omega
  ·simp
 ·refine ⟨A,M ++ B ++ [c],[],by simp,hA,by simp,?_,?_,.inr ⟨by simp,?_,?_⟩⟩
  ·cases M with
   | nil => exact absurd rfl h3
   | cons x M =>
    have hx:¬ zdK x=true:=by
     intro hx
     rw [List.dropWhile_cons,if_pos hx] at h1
     have:=congrArg List.length h1
     have h4:=(List.dropWhile_sublist (p:=zdK) (l:=M)).length_le
     simp at this
     omega
    simp only [List.cons_append]
    rw [List.dropWhile_cons,if_neg hx]
  ·rw [rdw_snoc,if_neg (by rw [hc]; exact Bool.false_ne_true)]
  ·simp
  ·simp; omega
theorem zkn {B:List UInt8} (hB:∀ b ∈ B,zdK b=true) (l:List UInt8):rdw (l ++ B)=rdw l:=by
 unfold rdw
 rw [List.reverse_append,List.dropWhile_append_of_pos]
 intro a ha
 exact hB a (List.mem_reverse.1 ha)
theorem TP.done {l:List UInt8} {f t:Nat} (h:TP l.length l f t):(t ≤ f ∧ trimL l=[]) ∨ (f < t ∧ t ≤ l.length ∧ trimL l=(l.drop f).take (t - f)):=by
 obtain ⟨A,M,B,rfl,hA,hB,h1,h2,h3⟩:=h
 have ht:trimL (A ++ M ++ B)=rdw ((M ++ B).dropWhile zdK):=by
  unfold trimL
  rw [List.append_assoc,List.dropWhile_append_of_pos hA]
 rcases h3 with ⟨rfl,rfl,rfl⟩ | ⟨h3,rfl,rfl⟩
 ·refine .inl ⟨Nat.zero_le _,?_⟩
  rw [ht,List.nil_append,← List.append_nil B,List.dropWhile_append_of_pos hB]
  rfl
 ·have hp:0 < M.length:=List.length_pos_iff.2 h3
  refine .inr ⟨by omega,by simp,?_⟩
  have hm:(M ++ B).dropWhile zdK=M ++ B:=by
   cases M with
   | nil => exact absurd rfl h3
   | cons x M =>
    have hx:¬ zdK x=true:=by
     intro hx
     rw [List.dropWhile_cons,if_pos hx] at h1
     have:=congrArg List.length h1
     have h4:=(List.dropWhile_sublist (p:=zdK) (l:=M)).length_le
     simp at this
     omega
    simp only [List.cons_append]
    rw [List.dropWhile_cons,if_neg hx]
  rw [ht,hm,zkn hB,h2,List.append_assoc,List.drop_left,Nat.add_sub_cancel_left,List.take_left]
end Go.Proofs.YtadhjoggdbhkgaaGreatDoor
namespace Go.Proofs.YtadhjoggdbhkgaaGreatDoor
open Go.RowKit
def ze7 (c:UInt8):List UInt8 → List UInt8 × List UInt8 × Bool
 | [] => ([],[],false)
 | x :: t => if x=c then ([],t,true) else (x :: (ze7 c t).1,(ze7 c t).2.1,(ze7 c t).2.2)
theorem zjW (c:UInt8):∀ l:List UInt8,(Lib.indexByte l c=-1 ∧ ze7 c l=(l,[],false) ∧ c ∉ l) ∨ ∃ k:Nat,Lib.indexByte l c=k ∧ k < l.length ∧ ze7 c l=(l.take k,l.drop (k + 1),true) ∧ l[k]? = some c
 | [] => .inl ⟨rfl,rfl,by simp⟩
 | x :: t => by
  unfold Lib.indexByte ze7
  by_cases h:x=c
  ·subst h
   exact .inr ⟨0,by simp,by simp,by simp,by simp⟩
  ·rw [if_neg (by simpa using h),if_neg h]
   rcases zjW c t with ⟨h1,h2,h3⟩ | ⟨k,h1,h2,h3,h4⟩
   ·refine .inl ⟨by rw [h1]; rfl,by rw [h2],?_⟩
    simp only [List.mem_cons,not_or]
    exact ⟨fun e => h e.symm,h3⟩
   ·refine .inr ⟨k + 1,?_,by simpa using h2,?_,by simpa using h4⟩
    ·rw [h1,if_neg (by simp only [beq_iff_eq]; omega)]; omega
    ·rw [h3]; simp
theorem ze0 (c x:UInt8) (t:List UInt8):ze7 c (x :: t)=if x=c then ([],t,true) else (x :: (ze7 c t).1,(ze7 c t).2.1,(ze7 c t).2.2):=rfl
def cutV (x:List UInt8 × List UInt8 × Bool):Value:=.tuple #[.string (S x.1),.string (S x.2.1),.bool x.2.2]
theorem lCut_any (s:ByteArray) (c:UInt8) (w:World) (hs:s.size ≤ maxLen) :
  Calls Tryz.prog 92 #[.string s,.string ⟨#[c]⟩] w fun e w' => e=.returned (cutV (ze7 c s.data.toList)) ∧ Qb w w':=by
 unfold maxLen at hs
 rcases zjW c s.data.toList with ⟨h1,h2,_⟩ | ⟨k,h1,h2,h3,_⟩
 ·have HI:=Lib.hid h1
  have HC:=Lib.hid h2
  clear h1 h2
  go_enter Tryz.func92,Tryz.ntmps92
  go_wp2_with fail
  refine (Tryz.stringslite_Index_one _ _ _).mono ?_
  rintro e w' ⟨rfl,rfl⟩
  rw [HI.out]
  go_wp2_with fail
  go_ret3
  exact ⟨by rw [HC.out]; rfl,Qb.refl _⟩
 ·rw [zai] at h2
  have HI:=Lib.hid h1
  have HC:=Lib.hid h3
  clear h1 h3
  have i0:(0:Int) ≤ (k:Int):=by omega
  have i1:(k:Int) < (s.size:Int):=by omega
  have q1:IntKind.i64.wrap ((k:Int) + 1)=(k:Int) + 1:=IntWalk.i64_in _ (by omega)
  have q2:(0:Int) ≤ (k:Int) + 1:=by omega
  have q3:((k:Int) + 1).toNat=k + 1:=by omega
  have q4:(k:Int) + 1 ≤ (s.size:Int):=by omega
  go_enter Tryz.func92,Tryz.ntmps92
  go_wp2_with fail
  refine (Tryz.stringslite_Index_one _ _ _).mono ?_
  rintro e w' ⟨rfl,rfl⟩
  rw [HI.out]
  go_wp2_with fail
  go_quiet (fail)
  go_wp2_with fail
  go_ret3
  refine ⟨?_,(Qb.refl _).drewN _⟩
  rw [HC.out]
  refine congrArg Ending.returned (congrArg Value.tuple ?_)
  rw [show S (s.data.toList.take k)=s.extract 0 k from by rw [← S_of (s.extract 0 k),Lib.extract_data]; simp,show S (s.data.toList.drop (k + 1))=s.extract (k + 1) s.size from by
   rw [← S_of (s.extract (k + 1) s.size),Lib.extract_data]; congr 2; rw [List.take_of_length_le]; rw [List.length_drop,zai]; omega]
  try rfl
theorem Cut_any (s:ByteArray) (c:UInt8) (w:World) (hs:s.size ≤ maxLen) :
  Calls Tryz.prog 60 #[.string s,.string ⟨#[c]⟩] w fun e w' => e=.returned (cutV (ze7 c s.data.toList)) ∧ Qb w w':=by
 go_enter Tryz.func60,Tryz.ntmps60
 go_wp2_with fail
 refine (lCut_any _ _ _ hs).mono ?_
 rintro e w' ⟨rfl,hq⟩
 unfold cutV
 go_wp2_with fail
 go_ret3
 exact ⟨rfl,hq⟩
end Go.Proofs.YtadhjoggdbhkgaaGreatDoor
namespace Go.Proofs.YtadhjoggdbhkgaaGreatDoor
end Go.Proofs.YtadhjoggdbhkgaaGreatDoor
namespace Go.Proofs.YtadhjoggdbhkgaaGreatDoor
open Go.RowKit
def Obk (w:World) (g:Nat) (t:TypeId) (cs:Array Value):Prop:=w.heap[g]? = some (.cells cs t (0,0))
theorem Obk.lt {w:World} {g:Nat} {t:TypeId} {cs:Array Value} (h:Obk w g t cs):g < w.heap.size:=by
 rcases Nat.lt_or_ge g w.heap.size with h1 | h1
 ·exact h1
 ·unfold Obk at h; rw [Array.getElem?_eq_none h1] at h; cases h
theorem Obk.cell {w:World} {g:Nat} {t:TypeId} {cs:Array Value} (h:Obk w g t cs) (i:Nat):w.cell? ⟨g,i,none⟩=cs[i]?:=cell_of_row w g i cs t (0,0) h
theorem Obk.frozen {w:World} {g:Nat} {t:TypeId} {cs:Array Value} (h:Obk w g t cs) (i:Nat):w.frozen? ⟨g,i,none⟩=false:=by
 unfold Obk at h; simp [World.frozen?,h]
theorem Obk.new (w:World) (t:TypeId) (cs:Array Value):Obk (w.alloc (.cells cs t)) w.heap.size t cs:=heap_alloc_new w _
theorem Obk.alloc {w:World} {g:Nat} {t:TypeId} {cs:Array Value} (h:Obk w g t cs) (o:Obj):Obk (w.alloc o) g t cs:=(Below.heap_alloc w o g h.lt).trans h
theorem Obk.drewN {w:World} {g:Nat} {t:TypeId} {cs:Array Value} (h:Obk w g t cs) (n:Nat):Obk (w.drewN n) g t cs:=h
theorem Obk.put {w:World} {g:Nat} {t:TypeId} {cs:Array Value} (h:Obk w g t cs) (i:Nat) (u:Value):Obk (w.setCell ⟨g,i,none⟩ u) g t (cs.setIfInBounds i u):=by
 unfold Obk at h ⊢
 simp [World.setCell,Array.getElem?_modify,h]
theorem Obk.far {w:World} {g:Nat} {t:TypeId} {cs:Array Value} (h:Obk w g t cs) {p:Addr} (hp:g ≠ p.block) (u:Value):Obk (w.setCell p u) g t cs:=(Below.heap_setCell w p u g hp).trans h
theorem Obk.at_ (w:World) (t:TypeId) (cs:Array Value) (g:Nat) (h:w.heap.size=g):Obk (w.alloc (.cells cs t)) g t cs:=by subst h; exact Obk.new w t cs
theorem Obk.st {w:World} {g:Nat} {t:TypeId} {cs:Array Value} (h:Obk w g t cs) (b o:Nat) (u:Value) (hne:g ≠ b):Obk (w.setCell ⟨b,o,none⟩ u) g t cs:=h.far (p:=⟨b,o,none⟩) hne u
theorem Qb.st {a c:World} (h:Qb a c) (b o:Nat) (u:Value) (hb:a.heap.size ≤ b):Qb a (c.setCell ⟨b,o,none⟩ u):=h.set (p:=⟨b,o,none⟩) hb u
theorem Obk.other {w w':World} {g b:Nat} {t:TypeId} {cs:Array Value} (h:Obk w g t cs) (hg:w.grownBy w' (some b)) (hne:g ≠ b):Obk w' g t cs:=(hg.block g h.lt (fun e => hne (Option.some.inj e))).trans h
end Go.Proofs.YtadhjoggdbhkgaaGreatDoor
namespace Go.Proofs.YtadhjoggdbhkgaaGreatDoor
open Go.RowKit
end Go.Proofs.YtadhjoggdbhkgaaGreatDoor
namespace Go.Proofs.YtadhjoggdbhkgaaGreatDoor
open Go.RowKit
def zkz (l set:List UInt8):Nat:=l.findIdx fun c => zcw c set
theorem idxS_at {l set:List UInt8} {k:Nat} (h:k < l.length) (h1:∀ j (hj:j < k),zcw (l[j]'(by omega)) set=false) (h2:zcw l[k] set=true):zkz l set=k:=by
 unfold zkz
 rw [List.findIdx_eq h]
 exact ⟨h2,fun j hj => by rw [h1 j hj]⟩
theorem zm5 {l set:List UInt8} (h1:∀ j (hj:j < l.length),zcw l[j] set=false):zkz l set=l.length:=by
 unfold zkz
 rw [List.findIdx_eq_length]
 intro x hx
 obtain ⟨j,hj,rfl⟩:=List.getElem_of_mem hx
 rw [h1 j hj]
theorem zjy (c:UInt8):∀ l,zkz l [c]=(ze7 c l).1.length
 | [] => rfl
 | x :: t => by
  have ih:=zjy c t
  unfold zkz at ih ⊢
  rw [List.findIdx_cons,ze0,ih]
  by_cases h:x=c
  ·subst h; simp [zcw]
  ·rw [if_neg h]
   have:zcw x [c]=false:=by simp [zcw,h]
   rw [this]; rfl
theorem zkp (s set:ByteArray) (w:World) (hs:s.size ≤ maxLen) (ha:set.size ≤ maxLen) :
  Calls Tryz.prog 66 #[.string s,.string set] w fun e w' => e=.returned (.int .i64 (zkz s.data.toList set.data.toList)) ∧ w=w':=by
 have hm:=hs
 unfold maxLen at hm
 go_enter Tryz.func66,Tryz.ntmps66
 go_wp2_with fail
 go_loop [5] (fun i => ∃ k:Nat,k ≤ s.size ∧ i=.int .i64 k ∧ Hid (∀ j (hj:j < s.size),j < k → zcw s[j] set.data.toList=false)) (fun i => s.size - (intOf i).toNat)
 case atStart => exact ⟨0,Nat.zero_le _,rfl,Lib.hid (fun j hj h => absurd h (Nat.not_lt_zero _))⟩
 case round =>
  obtain ⟨k,hk,rfl,HT⟩:=hrel
  by_cases hlt:k < s.size
  ·rcases hb:zcw s[k] set.data.toList with _ | _
   ·have HB:=Lib.hid hb
    have HN:Hid (∀ j (hj:j < s.size),j < k + 1 → zcw s[j] set.data.toList=false):=Lib.hid fun j hj h => by
     by_cases e:j=k
     ·subst e; exact HB.out
     ·exact HT.out j hj (by omega)
    clear hb
    go_wp2_with fail
    refine (zhV _ _ _ ha).mono ?_
    rintro e w' ⟨rfl,rfl⟩
    rw [HB.out]
    go_wp2_with fail
    go_round
    case rel => exact ⟨k + 1,by omega,by go_num,HN⟩
    case measure => simp [intOf]; omega
   ·have HB:=Lib.hid hb
    have HN:Hid (zkz s.data.toList set.data.toList=k):=Lib.hid (idxS_at (by rw [zai]; exact hlt) (fun j hj => HT.out j (by omega) hj) hb)
    clear hb
    go_wp2_with fail
    refine (zhV _ _ _ ha).mono ?_
    rintro e w' ⟨rfl,rfl⟩
    rw [HB.out]
    go_wp2_with fail
    go_ret
    exact ⟨zbk (by rw [HN.out]),rfl⟩
  ·have HN:Hid (zkz s.data.toList set.data.toList=s.size):=Lib.hid (by
    rw [zm5 (fun j hj => HT.out j (by rw [zai] at hj; exact hj) (by rw [zai] at hj; omega)),zai])
   go_wp2_with fail
   go_ret
   exact ⟨zbk (by rw [HN.out]),rfl⟩
theorem pre_take (s p:List UInt8):Lib.hasPrefix s p=(s.take p.length == p):=by
 unfold Lib.hasPrefix
 rw [Bool.eq_iff_iff,List.isPrefixOf_iff_prefix,beq_iff_eq]
 constructor
 ·rintro ⟨t,rfl⟩; simp
 ·intro h; exact ⟨s.drop p.length,by have:=List.take_append_drop p.length s; rw [h] at this; exact this⟩
end Go.Proofs.YtadhjoggdbhkgaaGreatDoor
namespace Go.Proofs.YtadhjoggdbhkgaaGreatDoor
open Go.RowKit
def zaT:List UInt8 → Nat
 | [] => 0
 | c :: t => if zaj c=true then zaT t + 1 else 0
def zba (l:List UInt8):Nat:=if l[0]? = some 45 then 1 else 0
def zaF (l:List UInt8):Nat:=if l[zba l]? = some 48 then zba l + 1 else zba l + zaT (l.drop (zba l))
def zbY (l:List UInt8) (t:Nat):Nat:=if l[t]? = some 46 ∧ 0 < zaT (l.drop (t + 1)) then t + 1 + zaT (l.drop (t + 1)) else t
def zaZ (l:List UInt8) (t:Nat):Nat:=if l[t + 1]? = some 43 ∨ l[t + 1]? = some 45 then t + 2 else t + 1
def zkP (l:List UInt8) (t:Nat):Nat :=
 if (l[t]? = some 101 ∨ l[t]? = some 69) ∧ 0 < zaT (l.drop (zaZ l t)) then zaZ l t + zaT (l.drop (zaZ l t)) else t
def zc8 (l:List UInt8):Nat:=if zaT (l.drop (zba l))=0 then 0 else zkP l (zbY l (zaF l))
theorem zdT:∀ l:List UInt8,zaT l ≤ l.length
 | [] => Nat.le_refl _
 | c :: t => by
  have:=zdT t
  unfold zaT
  split <;> simp only [List.length_cons] <;> omega
theorem zaP (l:List UInt8) (k:Nat) (h:0 < zaT (l.drop k)):k + zaT (l.drop k) ≤ l.length:=by
 have:=zdT (l.drop k)
 rw [List.length_drop] at this
 omega
theorem zdU:∀ (l:List UInt8) (i:Nat),i < zaT l → ∃ c,l[i]? = some c ∧ zaj c=true
 | [],i,h => absurd h (by simp [zaT])
 | c :: t,i,h => by
  unfold zaT at h
  split at h
  ·rename_i hc
   cases i with
   | zero => exact ⟨c,rfl,hc⟩
   | succ i =>
    obtain ⟨x,h1,h2⟩:=zdU t i (by omega)
    exact ⟨x,by rw [List.getElem?_cons_succ]; exact h1,h2⟩
  ·omega
theorem zh6 (l:List UInt8):zc8 l ≤ l.length:=by
 have key:∀ t:Nat,t ≤ l.length → zkP l t ≤ l.length:=by
  intro t ht
  unfold zkP
  split
  ·rename_i h; exact zaP l _ h.2
  ·exact ht
 have key2:∀ t:Nat,t ≤ l.length → zbY l t ≤ l.length:=by
  intro t ht
  unfold zbY
  split
  ·rename_i h; exact zaP l _ h.2
  ·exact ht
 unfold zc8
 split
 ·exact Nat.zero_le _
 ·rename_i h
  refine key _ (key2 _ ?_)
  unfold zaF
  split
  ·rename_i h2
   have:=(List.getElem?_eq_some_iff.1 h2).1
   omega
  ·exact zaP l _ (by omega)
def zcK (c:UInt8):Option UInt8 :=
 if c=34 ∨ c=92 ∨ c=47 then some c else if c=98 then some 8 else if c=102 then some 12 else if c=110 then some 10 else if c=114 then some 13 else if c=116 then some 9 else none
def zch (l:List UInt8):Option Nat :=
 if l.length < 6 ∨ ¬ l[0]? = some 92 ∨ ¬ l[1]? = some 117 then none
 else if (zbW zbH 16 65535 ((l.drop 2).take 4)).1=0 then some (zbW zbH 16 65535 ((l.drop 2).take 4)).2 else none
def zcU (l:List UInt8):Int × List UInt8 × Nat :=
 match (l[1]?).bind zcK with
 | some c => (0,[c],2)
 | none => match zch l with
  | none => (130,[],0)
  | some n =>
   if n < 55296 ∨ 57343 < n then (0,zdq n,6)
   else if 56319 < n then (7,[],0)
   else match zch (l.drop 6) with
    | none => (7,[],0)
    | some m => if m < 56320 ∨ 57343 < m then (7,[],0) else (0,zdq (65536 + (n - 55296) * 1024 + (m - 56320)),12)
def zc7:Nat → List UInt8 → List UInt8 → Nat → Int × List UInt8 × Nat
 | 0,_,_,_ => (130,[],0)
 | _ + 1,[],_,_ => (130,[],0)
 | n + 1,c :: t,out,k =>
  if c=34 then (0,out,k + 1)
  else if c=92 then
   (if (zcU (c :: t)).1 ≠ 0 then ((zcU (c :: t)).1,[],0) else zc7 n ((c :: t).drop (zcU (c :: t)).2.2) (out ++ (zcU (c :: t)).2.1) (k + (zcU (c :: t)).2.2))
  else if c.toNat < 32 then (130,[],0)
  else match zbK (c :: t) with
   | none => (7,[],0)
   | some (_,m) => zc7 n ((c :: t).drop m) (out ++ (c :: t).take m) (k + m)
def zbF:List UInt8 → Nat
 | [] => 0
 | c :: t => if zdZ c=true then zbF t + 1 else 0
def zcB (c:UInt8):Bool:=zcw c [32,9,10,13]
def za8:List UInt8 → Nat
 | [] => 0
 | c :: t => if zcB c=true then za8 t + 1 else 0
def zaU:List UInt8 → Int × Int × List UInt8 × Nat
 | [] => (0,1,[],0)
 | c :: t =>
  if zcw c [123,125,91,93,58,44]=true then (0,2,[c],1)
  else if c=34 then (if (zc7 (t.length + 1) t [] 0).1 ≠ 0 then ((zc7 (t.length + 1) t [] 0).1,0,[],0) else (0,3,(zc7 (t.length + 1) t [] 0).2.1,(zc7 (t.length + 1) t [] 0).2.2 + 1))
  else if c=45 ∨ zaj c=true then (if zc8 (c :: t)=0 then (130,0,[],0) else (0,4,(c :: t).take (zc8 (c :: t)),zc8 (c :: t)))
  else if (c :: t).take (zbF (c :: t))=[116,114,117,101] ∨ (c :: t).take (zbF (c :: t))=[102,97,108,115,101] ∨ (c :: t).take (zbF (c :: t))=[110,117,108,108] then (0,5,(c :: t).take (zbF (c :: t)),zbF (c :: t))
  else (130,0,[],0)
def hexS (n:Nat):UInt8:=if n < 10 then UInt8.ofNat (48 + n) else UInt8.ofNat (87 + n)
def zlZ (c:UInt8):List UInt8 :=
 if c=34 ∨ c=92 then [92,c] else if c=8 then [92,98] else if c=12 then [92,102] else if c=10 then [92,110] else if c=13 then [92,114] else if c=9 then [92,116]
 else if c.toNat < 32 then [92,117,48,48,hexS (c.toNat / 16),hexS (c.toNat % 16)] else [c]
def zkO (l:List UInt8):List UInt8:=34 :: (l.flatMap zlZ ++ [34])
end Go.Proofs.YtadhjoggdbhkgaaGreatDoor
namespace Go.Proofs.YtadhjoggdbhkgaaGreatDoor
open Go.RowKit
structure NumS where
 neg:Bool
 int:List UInt8
 fr:List UInt8
 ex:Option (UInt8 × List UInt8 × List UInt8)
def frT:List UInt8 → List UInt8
 | [] => []
 | c :: t => 46 :: c :: t
def exT:Option (UInt8 × List UInt8 × List UInt8) → List UInt8
 | none => []
 | some (c,s,d) => c :: (s ++ d)
def sgT (b:Bool):List UInt8:=if b=true then [45] else []
def NumS.txt (p:NumS):List UInt8:=sgT p.neg ++ (p.int ++ (frT p.fr ++ exT p.ex))
structure NumS.Good (p:NumS):Prop where
 i0:p.int ≠ []
 i1:p.int.all zaj=true
 i2:p.int[0]? = some 48 → p.int=[48]
 f1:p.fr.all zaj=true
 e1:∀ c s d,p.ex=some (c,s,d) → (c=101 ∨ c=69) ∧ (s=[] ∨ s=[43] ∨ s=[45]) ∧ d ≠ [] ∧ d.all zaj=true
theorem zer (l:List UInt8) {i j:Nat} (h:i ≤ j):l.drop i=(l.drop i).take (j - i) ++ l.drop j:=by
 conv => lhs; rw [← List.take_append_drop (j - i) (l.drop i)]
 rw [List.drop_drop,show i + (j - i)=j by omega]
theorem zbh {l:List UInt8} {i:Nat} {c:UInt8} (h:l[i]? = some c):l.drop i=c :: l.drop (i + 1):=by
 obtain ⟨h1,h2⟩:=List.getElem?_eq_some_iff.1 h
 rw [List.drop_eq_getElem_cons h1,h2]
theorem zbU:∀ l:List UInt8,(l.take (zaT l)).all zaj=true
 | [] => rfl
 | c :: t => by
  unfold zaT
  split
  ·rename_i h
   rw [List.take_succ_cons,List.all_cons,h,zbU t]; rfl
  ·rfl
theorem zb4:∀ (d r:List UInt8),d.all zaj=true → (∀ c,r[0]? = some c → zaj c=false) → zaT (d ++ r)=d.length
 | [],r,_,h => by
  rw [List.nil_append]
  cases r with
  | nil => rfl
  | cons c t =>
   unfold zaT
   rw [if_neg (by rw [h c rfl]; exact Bool.false_ne_true)]; rfl
 | c :: d,r,hd,h => by
  rw [List.all_cons,Bool.and_eq_true] at hd
  rw [List.cons_append]
  unfold zaT
  rw [if_pos hd.1,zb4 d r hd.2 h]; rfl
theorem take_len {l:List UInt8} {k:Nat} (h:k ≤ l.length):(l.take k).length=k:=by rw [List.length_take]; omega
theorem zfS {l:List UInt8} {k:Nat} (h0:0 < k) (h:k ≤ l.length):l.take k ≠ []:=by
 intro e
 have:=congrArg List.length e
 rw [take_len h,List.length_nil] at this
 omega
theorem zeQ {l:List UInt8} (h0:l ≠ []) (h:zc8 l=l.length):∃ p:NumS,p.Good ∧ l=p.txt:=by
 have hl:0 < l.length:=List.length_pos_iff.2 h0
 unfold zc8 at h
 by_cases hr:zaT (l.drop (zba l))=0
 ·rw [if_pos hr] at h; omega
 rw [if_neg hr] at h
 have hsg:l=sgT (decide (l[0]? = some 45)) ++ l.drop (zba l):=by
  unfold zba sgT
  by_cases hc:l[0]? = some 45
  ·rw [if_pos hc,if_pos (by rw [hc]; rfl)]
   conv => lhs; rw [← List.drop_zero (l:=l),zbh hc]
   rfl
  ·rw [if_neg hc,if_neg (by rw [decide_eq_false hc]; exact Bool.false_ne_true)]; simp
 have hrl:=zaP l (zba l) (by omega)
 obtain ⟨I,hI0,hI1,hI2,hIl,hI⟩:∃ I:List UInt8,I ≠ [] ∧ I.all zaj=true ∧ (I[0]? = some 48 → I=[48]) ∧ zaF l ≤ l.length ∧ l.drop (zba l)=I ++ l.drop (zaF l):=by
  have hd:=zdU (l.drop (zba l)) 0 (by omega)
  obtain ⟨c,hc1,hc2⟩:=hd
  rw [List.getElem?_drop,Nat.add_zero] at hc1
  have hdc:=zbh hc1
  unfold zaF
  by_cases hz:l[zba l]? = some 48
  ·rw [if_pos hz]
   refine ⟨[48],by simp,rfl,fun _ => rfl,?_,?_⟩
   ·have:=(List.getElem?_eq_some_iff.1 hz).1; omega
   ·exact zbh hz
  ·rw [if_neg hz]
   refine ⟨(l.drop (zba l)).take (zaT (l.drop (zba l))),zfS (by omega) (zdT _),zbU _,?_,hrl,?_⟩
   ·intro h1
    exfalso
    rw [List.getElem?_take,if_pos (by omega),List.getElem?_drop,Nat.add_zero] at h1
    exact hz h1
   ·have:=zer l (show zba l ≤ zba l + zaT (l.drop (zba l)) by omega)
    rw [show zba l + zaT (l.drop (zba l)) - zba l=zaT (l.drop (zba l)) by omega] at this
    exact this
 generalize zaF l=t at *
 obtain ⟨F,hF1,hFl,hF⟩:∃ F:List UInt8,F.all zaj=true ∧ zbY l t ≤ l.length ∧ l.drop t=frT F ++ l.drop (zbY l t):=by
  unfold zbY
  by_cases hc:l[t]? = some 46 ∧ 0 < zaT (l.drop (t + 1))
  ·rw [if_pos hc]
   have hb:=zaP l (t + 1) hc.2
   refine ⟨(l.drop (t + 1)).take (zaT (l.drop (t + 1))),zbU _,hb,?_⟩
   have h1:=zer l (show t + 1 ≤ t + 1 + zaT (l.drop (t + 1)) by omega)
   rw [show t + 1 + zaT (l.drop (t + 1)) - (t + 1)=zaT (l.drop (t + 1)) by omega] at h1
   have hne:=zfS hc.2 (zdT (l.drop (t + 1)))
   rw [zbh hc.1]
   generalize (l.drop (t + 1)).take (zaT (l.drop (t + 1)))=F at *
   cases F with
   | nil => exact absurd rfl hne
   | cons a F =>
    show 46 :: l.drop (t + 1)=46 :: (a :: F ++ _)
    rw [← h1]
  ·rw [if_neg hc]
   exact ⟨[],rfl,hIl,rfl⟩
 generalize zbY l t=f at *
 obtain ⟨E,hE1,hE⟩:∃ E:Option (UInt8 × List UInt8 × List UInt8),(∀ c s d,E=some (c,s,d) → (c=101 ∨ c=69) ∧ (s=[] ∨ s=[43] ∨ s=[45]) ∧ d ≠ [] ∧ d.all zaj=true) ∧ l.drop f=exT E:=by
  unfold zkP at h
  by_cases hc:(l[f]? = some 101 ∨ l[f]? = some 69) ∧ 0 < zaT (l.drop (zaZ l f))
  ·rw [if_pos hc] at h
   obtain ⟨c,hc1,hc2⟩:∃ c,l[f]? = some c ∧ (c=101 ∨ c=69):=by
    rcases hc.1 with h1 | h1
    ·exact ⟨_,h1,.inl rfl⟩
    ·exact ⟨_,h1,.inr rfl⟩
   have hdig:l.drop (zaZ l f) ≠ [] ∧ (l.drop (zaZ l f)).all zaj=true:=by
    have h1:=zbU (l.drop (zaZ l f))
    have h2:zaT (l.drop (zaZ l f))=(l.drop (zaZ l f)).length:=by rw [List.length_drop]; omega
    rw [h2,List.take_length] at h1
    refine ⟨fun e => ?_,h1⟩
    rw [e] at hc
    exact absurd hc.2 (by simp [zaT])
   rw [zbh hc1]
   unfold zaZ at hdig hc
   by_cases hs:l[f + 1]? = some 43 ∨ l[f + 1]? = some 45
   ·rw [if_pos hs] at hdig
    obtain ⟨s,hs1,hs2⟩:∃ s,l[f + 1]? = some s ∧ (s=43 ∨ s=45):=by
     rcases hs with h1 | h1
     ·exact ⟨_,h1,.inl rfl⟩
     ·exact ⟨_,h1,.inr rfl⟩
    refine ⟨some (c,[s],l.drop (f + 2)),?_,?_⟩
    ·intro c' s' d' e
     injection e with e; injection e with e1 e2; injection e2 with e2 e3
     subst e1 e2 e3
     exact ⟨hc2,by rcases hs2 with rfl | rfl <;> simp,hdig.1,hdig.2⟩
    ·rw [zbh hs1]; rfl
   ·rw [if_neg hs] at hdig
    refine ⟨some (c,[],l.drop (f + 1)),?_,rfl⟩
    intro c' s' d' e
    injection e with e; injection e with e1 e2; injection e2 with e2 e3
    subst e1 e2 e3
    exact ⟨hc2,.inl rfl,hdig.1,hdig.2⟩
  ·rw [if_neg hc] at h
   subst h
   exact ⟨none,fun _ _ _ e => (by cases e),by simp [exT]⟩
 refine ⟨⟨decide (l[0]? = some 45),I,F,E⟩,⟨hI0,hI1,hI2,hF1,hE1⟩,?_⟩
 show l=sgT _ ++ (I ++ (frT F ++ exT E))
 rw [← hE,← hF,← hI,← hsg]
theorem zgj {c:UInt8} (h:zaj c=true):48 ≤ c.toNat ∧ c.toNat ≤ 57:=of_decide_eq_true h
theorem zbd {c k:UInt8} (h:zaj c=true) (hk:zaj k=false):c ≠ k:=fun e => by subst e; rw [h] at hk; cases hk
theorem zbC {I:List UInt8} (h0:I ≠ []) (h1:I.all zaj=true):∃ c t,I=c :: t ∧ zaj c=true:=by
 cases I with
 | nil => exact absurd rfl h0
 | cons c t => rw [List.all_cons,Bool.and_eq_true] at h1; exact ⟨c,t,rfl,h1.1⟩
theorem zeI {p:NumS} (hp:p.Good):∀ c,(frT p.fr ++ exT p.ex)[0]? = some c → zaj c=false:=by
 intro c h
 cases hf:p.fr with
 | cons a t => rw [hf] at h; simp only [frT,List.cons_append,List.getElem?_cons_zero,Option.some.injEq] at h; subst h; rfl
 | nil =>
  rw [hf] at h
  cases he:p.ex with
  | none => rw [he] at h; simp [frT,exT] at h
  | some e =>
   obtain ⟨k,s,d⟩:=e
   rw [he] at h
   simp only [frT,exT,List.nil_append,List.getElem?_cons_zero,Option.some.injEq] at h
   subst h
   rcases (hp.e1 k s d he).1 with rfl | rfl <;> rfl
theorem zdF {p:NumS} (hp:p.Good):∀ c,(exT p.ex)[0]? = some c → c=101 ∨ c=69:=by
 intro c h
 cases he:p.ex with
 | none => rw [he] at h; simp [exT] at h
 | some e =>
  obtain ⟨k,s,d⟩:=e
  rw [he] at h
  simp only [exT,List.getElem?_cons_zero,Option.some.injEq] at h
  subst h
  exact (hp.e1 k s d he).1
theorem num_txt {p:NumS} (hp:p.Good):zc8 p.txt=p.txt.length ∧ p.txt ≠ []:=by
 obtain ⟨c,t,hI,hc⟩:=zbC hp.i0 hp.i1
 have hsg:zba p.txt=(sgT p.neg).length:=by
  unfold zba NumS.txt
  cases p.neg with
  | true => rw [if_pos (by rfl)]; rfl
  | false =>
   rw [if_neg ?_]
   ·rfl
   ·rw [hI]
    simp only [sgT,Bool.false_eq_true,if_false,List.nil_append,List.cons_append,List.getElem?_cons_zero,Option.some.injEq]
    exact zbd hc rfl
 have hdrop:∀ r:List UInt8,(sgT p.neg ++ r).drop (sgT p.neg).length=r:=fun r => by simp
 have hd0:p.txt.drop (sgT p.neg).length=p.int ++ (frT p.fr ++ exT p.ex):=by unfold NumS.txt; exact hdrop _
 have hrun:=zb4 p.int (frT p.fr ++ exT p.ex) hp.i1 (zeI hp)
 have hIl:0 < p.int.length:=List.length_pos_iff.2 hp.i0
 have hwhole:zaF p.txt=(sgT p.neg).length + p.int.length:=by
  unfold zaF
  rw [hsg,hd0,hrun]
  have hg:p.txt[(sgT p.neg).length]? = p.int[0]?:=by
   have:p.txt[(sgT p.neg).length]? = (p.txt.drop (sgT p.neg).length)[0]?:=by rw [List.getElem?_drop,Nat.add_zero]
   rw [this,hd0,List.getElem?_append_left hIl]
  rw [hg]
  by_cases hz:p.int[0]? = some 48
  ·rw [if_pos hz,hp.i2 hz]; rfl
  ·rw [if_neg hz]
 have hd1:p.txt.drop ((sgT p.neg).length + p.int.length)=frT p.fr ++ exT p.ex:=by rw [← List.drop_drop,hd0]; simp
 have hg1:p.txt[(sgT p.neg).length + p.int.length]? = (frT p.fr ++ exT p.ex)[0]?:=by rw [← hd1,List.getElem?_drop,Nat.add_zero]
 have hfrac:zbY p.txt ((sgT p.neg).length + p.int.length)=(sgT p.neg).length + p.int.length + (frT p.fr).length:=by
  unfold zbY
  rw [hg1,← List.drop_drop,hd1]
  cases hf:p.fr with
  | nil =>
   rw [if_neg ?_]
   ·rfl
   ·rintro ⟨h1,_⟩
    rw [show frT []=[] from rfl,List.nil_append] at h1
    rcases zdF hp _ h1 with h2 | h2 <;> cases h2
  | cons a r =>
   have hr:zaT ((frT (a :: r) ++ exT p.ex).drop 1)=(a :: r).length:=by
    show zaT ((a :: r) ++ exT p.ex)=_
    refine zb4 _ _ (by rw [← hf]; exact hp.f1) ?_
    intro c h
    rcases zdF hp c h with rfl | rfl <;> rfl
   rw [hr,if_pos ⟨rfl,by simp⟩]
   simp [frT]; omega
 have hd2:p.txt.drop ((sgT p.neg).length + p.int.length + (frT p.fr).length)=exT p.ex:=by rw [← List.drop_drop,hd1]; simp
 have hlen:p.txt.length=(sgT p.neg).length + p.int.length + (frT p.fr).length + (exT p.ex).length:=by unfold NumS.txt; simp; omega
 have hexp:zkP p.txt ((sgT p.neg).length + p.int.length + (frT p.fr).length)=p.txt.length:=by
  generalize (sgT p.neg).length + p.int.length + (frT p.fr).length=f at *
  have hg2:∀ k,p.txt[f + k]? = (exT p.ex)[k]?:=fun k => by rw [← hd2,List.getElem?_drop]
  have hg0:=hg2 0
  rw [Nat.add_zero] at hg0
  have hd3:∀ k,p.txt.drop (f + k)=(exT p.ex).drop k:=fun k => by rw [← List.drop_drop,hd2]
  unfold zkP
  cases he:p.ex with
  | none =>
   rw [he] at hg0 hlen
   rw [hg0,if_neg (by simp [exT]),hlen]; rfl
  | some e =>
   obtain ⟨k,s,d⟩:=e
   obtain ⟨h1,h2,h3,h4⟩:=hp.e1 k s d he
   have h1':=hg2 1
   rw [he] at hg0 hlen hd3 h1'
   have hdl:0 < d.length:=List.length_pos_iff.2 h3
   have hrd:zaT d=d.length:=by
    have:=zb4 d [] h4 (by simp)
    rwa [List.append_nil] at this
   obtain ⟨c1,d1,e1,e2⟩:=zbC h3 h4
   have hat:zaZ p.txt f=f + 1 + s.length:=by
    unfold zaZ
    rw [h1']
    rcases h2 with rfl | rfl | rfl
    ·rw [if_neg]
     ·rfl
     ·rw [e1]
      simp only [exT,List.nil_append,List.getElem?_cons_succ,List.getElem?_cons_zero,Option.some.injEq]
      rintro (h | h)
      ·exact zbd e2 (k:=43) rfl h
      ·exact zbd e2 (k:=45) rfl h
    ·rw [if_pos (by simp [exT])]; rfl
    ·rw [if_pos (by simp [exT])]; rfl
   have hdd:p.txt.drop (f + 1 + s.length)=d:=by
    rw [show f + 1 + s.length=f + (1 + s.length) by omega,hd3]
    show (k :: (s ++ d)).drop (1 + s.length)=d
    rw [Nat.add_comm 1,List.drop_succ_cons]; simp
   rw [hat,hdd,hrd,hg0,if_pos]
   ·rw [hlen]; simp [exT]; omega
   ·refine ⟨?_,hdl⟩
    rcases h1 with rfl | rfl <;> simp [exT]
 constructor
 ·unfold zc8
  rw [hsg,hd0,hrun,if_neg (by omega),hwhole,hfrac,hexp]
 ·intro e
  rw [e] at hlen
  simp only [List.length_nil] at hlen
  omega
end Go.Proofs.YtadhjoggdbhkgaaGreatDoor
namespace Go.Proofs.YtadhjoggdbhkgaaGreatDoor
theorem zeX {m:Nat} (h:m < 10):Lib.decDigits m=[UInt8.ofNat (48 + m)]:=Lib.decDigits_one h
theorem zgn {m:Nat} (h:¬ m < 10):Lib.decDigits m=Lib.decDigits (m / 10) ++ [UInt8.ofNat (48 + m % 10)]:=by
 rw [Lib.decDigits,dif_neg h]
theorem zeA (b M:Nat):∀ (l1 l2:List UInt8) (a:Nat),zcf b M (l1 ++ l2) a=match zcf b M l1 a with | some m => zcf b M l2 m | none => none
 | [],l2,a => rfl
 | c :: l,l2,a => by
  rw [List.cons_append,zcf,zcf]
  split
  ·exact zeA b M l l2 _
  ·rfl
theorem dig_nat {d:Nat} (h:d < 10):(UInt8.ofNat (48 + d)).toNat=48 + d:=by rw [UInt8.toNat_ofNat']; omega
theorem zjT {d:Nat} (h:d < 10):dvN (UInt8.ofNat (48 + d))=d ∧ zaj (UInt8.ofNat (48 + d))=true:=by
 have e:=dig_nat h
 have h2:zaj (UInt8.ofNat (48 + d))=true:=decide_eq_true (by rw [e]; omega)
 exact ⟨by rw [(zeV h2).1,e]; omega,h2⟩
theorem valU_dec (M:Nat):∀ (k n:Nat),n ≤ k → n ≤ M → zcf 10 M (Lib.decDigits n) 0=some n:=by
 intro k
 induction k with
 | zero =>
  intro n hn hM
  obtain rfl:n=0:=by omega
  rw [zeX (by decide)]
  rfl
 | succ k ih =>
  intro n hn hM
  by_cases h10:n < 10
  ·rw [zeX h10,zcf,(zjT h10).1,if_pos (by omega),zcf]
   congr 1; omega
  ·rw [zgn h10,zeA,ih (n / 10) (by omega) (by omega)]
   simp only
   rw [zcf,(zjT (show n % 10 < 10 by omega)).1,if_pos (by omega),zcf]
   congr 1; omega
theorem znD:∀ (k n:Nat),n ≤ k → (Lib.decDigits n).all zaj=true ∧ Lib.decDigits n ≠ []:=by
 intro k
 induction k with
 | zero =>
  intro n hn
  obtain rfl:n=0:=by omega
  rw [zeX (by decide)]
  exact ⟨by decide,by simp⟩
 | succ k ih =>
  intro n hn
  by_cases h10:n < 10
  ·rw [zeX h10]
   exact ⟨by rw [List.all_cons,(zjT h10).2]; rfl,by simp⟩
  ·rw [zgn h10]
   exact ⟨by rw [List.all_append,(ih (n / 10) (by omega)).1,List.all_cons,(zjT (show n % 10 < 10 by omega)).2]; rfl,by simp⟩
end Go.Proofs.YtadhjoggdbhkgaaGreatDoor
namespace Go.Proofs.YtadhjoggdbhkgaaGreatDoor
open Go.RowKit
def zgz:List UInt8 → Nat → Nat
 | [],n => n
 | c :: l,n => zgz l (n * 10 + (c.toNat - 48))
theorem zgo:∀ (l:List UInt8) (n:Nat),n ≤ zgz l n
 | [],n => Nat.le_refl _
 | c :: l,n => by
  have:=zgo l (n * 10 + (c.toNat - 48))
  unfold zgz; omega
theorem zez (M:Nat):∀ (l:List UInt8) (n:Nat),l.all zaj=true → n ≤ M → zcf 10 M l n=if zgz l n ≤ M then some (zgz l n) else none
 | [],n,_,hn => by rw [zcf,zgz,if_pos hn]
 | c :: l,n,h,hn => by
  rw [List.all_cons,Bool.and_eq_true] at h
  have hv:=(zeV h.1).1
  rw [zcf,hv,zgz]
  by_cases h1:n * 10 + (c.toNat - 48) ≤ M
  ·rw [if_pos h1,zez M l _ h.2 h1]
  ·rw [if_neg h1,if_neg]
   have:=zgo l (n * 10 + (c.toNat - 48)); omega
theorem zkt {d:List UInt8} (M:Nat) (h0:d ≠ []) (h:d.all zaj=true):zbW zaj 10 M d=if zgz d 0 ≤ M then (0,zgz d 0) else (4,0):=by
 unfold zbW zfQ
 rw [if_pos (ze2 h0 h),zez M d 0 h (Nat.zero_le _)]
 split <;> rfl
theorem decV_dec (n:Nat):zgz (Lib.decDigits n) 0=n:=by
 have h:=valU_dec n n n (Nat.le_refl _) (Nat.le_refl _)
 rw [zez n _ 0 (znD n n (Nat.le_refl _)).1 (Nat.zero_le _)] at h
 split at h
 ·injection h
 ·cases h
def zdM (cut:Nat):Option (UInt8 × List UInt8 × List UInt8) → Int
 | none => 0
 | some (_,s,d) => if s=[45] then -((min (zgz d 0) cut:Nat):Int) else ((min (zgz d 0) cut:Nat):Int)
def zL (l:List UInt8):List UInt8:=l.dropWhile (· == 48)
def zR (l:List UInt8):List UInt8:=(zL l.reverse).reverse
def zbs (p:NumS):List UInt8:=zL (p.int ++ p.fr)
def zfy (cut:Nat) (p:NumS):Int:=zdM cut p.ex - (p.fr.length:Int) + (((zbs p).length:Int) - ((zR (zbs p)).length:Int))
def expS (x:Int):List UInt8:=if x=0 then [] else 101 :: Lib.itoa x
def zfH (cut:Nat) (p:NumS):Int × List UInt8 :=
 if zbs p=[] then (0,[48])
 else if 40 < (zR (zbs p)).length ∨ zfy cut p < -400 ∨ 400 < zfy cut p then (144,[])
 else (0,sgT p.neg ++ (zR (zbs p) ++ expS (zfy cut p)))
theorem zfK (c:UInt8) (t:List UInt8):zL (c :: t)=if c=48 then zL t else c :: t:=by
 unfold zL
 rw [List.dropWhile_cons]
 by_cases h:c=48
 ·rw [if_pos h,if_pos (by rw [h]; rfl)]
 ·rw [if_neg h,if_neg (by simpa using h)]
theorem zev:∀ l:List UInt8,∃ k,l=List.replicate k 48 ++ zL l ∧ ∀ c,(zL l)[0]? = some c → c ≠ 48
 | [] => ⟨0,rfl,fun c h => by simp [zL] at h⟩
 | c :: t => by
  rw [zfK]
  by_cases h:c=48
  ·rw [if_pos h]
   obtain ⟨k,h1,h2⟩:=zev t
   refine ⟨k + 1,?_,h2⟩
   rw [List.replicate_succ,List.cons_append,← h1,h]
  ·rw [if_neg h]
   exact ⟨0,rfl,fun d hd => by simp only [List.getElem?_cons_zero,Option.some.injEq] at hd; rw [← hd]; exact h⟩
theorem zL_rep (k:Nat) (r:List UInt8):zL (List.replicate k 48 ++ r)=zL r:=by
 induction k with
 | zero => rfl
 | succ k ih => rw [List.replicate_succ,List.cons_append,zfK,if_pos rfl,ih]
theorem zL_id {l:List UInt8} (h:∀ c,l[0]? = some c → c ≠ 48):zL l=l:=by
 cases l with
 | nil => rfl
 | cons c t => rw [zfK,if_neg (h c rfl)]
theorem zR_rep (a:List UInt8) (k:Nat):zR (a ++ List.replicate k 48)=zR a:=by
 unfold zR
 rw [List.reverse_append,List.reverse_replicate,zL_rep]
theorem zfJ (l:List UInt8):∃ k,l=zR l ++ List.replicate k 48:=by
 obtain ⟨k,h1,h2⟩:=zev l.reverse
 refine ⟨k,?_⟩
 have:=congrArg List.reverse h1
 rw [List.reverse_reverse,List.reverse_append,List.reverse_replicate] at this
 exact this
theorem zR_again (l:List UInt8):zR (zR l)=zR l:=by
 obtain ⟨k,h⟩:=zfJ l
 conv => rhs; rw [h,zR_rep]
theorem zL_len (l:List UInt8):(zL l).length ≤ l.length:=by
 obtain ⟨k,h,_⟩:=zev l
 have:=congrArg List.length h
 rw [List.length_append] at this; omega
theorem ziu (l:List UInt8):(zR l).length ≤ l.length:=by
 obtain ⟨k,h⟩:=zfJ l
 have:=congrArg List.length h
 rw [List.length_append] at this; omega
theorem zL_all {l:List UInt8} {p:UInt8 → Bool} (h:l.all p=true):(zL l).all p=true:=by
 obtain ⟨k,h1,_⟩:=zev l
 rw [h1,List.all_append,Bool.and_eq_true] at h
 exact h.2
theorem zR_all {l:List UInt8} {p:UInt8 → Bool} (h:l.all p=true):(zR l).all p=true:=by
 obtain ⟨k,h1⟩:=zfJ l
 rw [h1,List.all_append,Bool.and_eq_true] at h
 exact h.1
theorem zR_head {l:List UInt8} (h0:l ≠ []) (h:∀ c,l[0]? = some c → c ≠ 48):zR l ≠ [] ∧ ∀ c,(zR l)[0]? = some c → c ≠ 48:=by
 obtain ⟨k,h1⟩:=zfJ l
 cases hz:zR l with
 | nil =>
  rw [hz,List.nil_append] at h1
  cases k with
  | zero => exact absurd h1 h0
  | succ k => rw [List.replicate_succ] at h1; exact absurd rfl (h 48 (by rw [h1]; rfl))
 | cons c t =>
  refine ⟨by simp,fun d hd => h d ?_⟩
  rw [h1,hz]; simpa using hd
theorem zg6 (p:NumS):∀ c,(zbs p)[0]? = some c → c ≠ 48:=by
 obtain ⟨k,_,h⟩:=zev (p.int ++ p.fr)
 exact h
theorem zen (p:NumS):(zbs p).length ≤ p.int.length + p.fr.length:=by
 have:=zL_len (p.int ++ p.fr)
 rw [List.length_append] at this
 exact this
theorem zhJ (p:NumS):p.int.length + p.fr.length ≤ p.txt.length:=by
 unfold NumS.txt
 simp only [List.length_append]
 have:p.fr.length ≤ (frT p.fr).length:=by cases p.fr <;> simp [frT]
 omega
theorem zne (cut:Nat):∀ e,-(cut:Int) ≤ zdM cut e ∧ zdM cut e ≤ cut
 | none => ⟨by simp only [zdM]; omega,by simp only [zdM]; omega⟩
 | some (_,s,d) => by
  simp only [zdM]
  split <;> omega
theorem can_once {cut:Nat} (hc:400 ≤ cut) {p:NumS} (hp:p.Good) {y:List UInt8} (h:zfH cut p=(0,y)):∃ q:NumS,q.Good ∧ y=q.txt ∧ zfH cut q=(0,y):=by
 unfold zfH at h
 by_cases hm:zbs p=[]
 ·rw [if_pos hm] at h
  injection h with _ h
  subst h
  refine ⟨⟨false,[48],[],none⟩,⟨by simp,by decide,fun _ => rfl,rfl,fun _ _ _ e => by cases e⟩,rfl,rfl⟩
 rw [if_neg hm] at h
 split at h
 ·injection h with h _; cases h
 rename_i hx
 injection h with _ h
 have hall:(zbs p).all zaj=true:=zL_all (by rw [List.all_append,hp.i1,hp.f1]; rfl)
 obtain ⟨g1,g2⟩:=zR_head hm (zg6 p)
 have g3:=zR_all hall
 have g4:=zR_again (zbs p)
 generalize hX:zfy cut p=x at *
 generalize zR (zbs p)=m at *
 have gz:zL (m ++ [])=m:=by rw [List.append_nil]; exact zL_id g2
 have i2:m[0]? = some 48 → m=[48]:=fun e => absurd rfl (g2 48 e)
 by_cases h0:x=0
 ·subst h0
  refine ⟨⟨p.neg,m,[],none⟩,⟨g1,g3,i2,rfl,fun _ _ _ e => by cases e⟩,?_,?_⟩
  ·rw [← h]; unfold NumS.txt expS; simp [frT,exT]
  ·have hm':zbs ⟨p.neg,m,[],none⟩=m:=gz
   have hx':zfy cut ⟨p.neg,m,[],none⟩=0:=by unfold zfy; rw [hm',g4]; simp [zdM]
   unfold zfH
   rw [hm',g4,hx',if_neg g1,if_neg (by omega),← h]
 ·have hd:=znD x.natAbs x.natAbs (Nat.le_refl _)
  have hit:Lib.itoa x=(if x < 0 then [45] else []) ++ Lib.decDigits x.natAbs:=by
   by_cases hneg:x < 0
   ·rw [if_pos hneg]
    have:=Lib.itoa_neg x.natAbs (by omega)
    rw [show -((x.natAbs:Nat):Int)=x by omega] at this
    exact this
   ·rw [if_neg hneg]
    have:=Lib.itoa_nonneg x.natAbs
    rw [show ((x.natAbs:Nat):Int)=x by omega] at this
    exact this
  refine ⟨⟨p.neg,m,[],some (101,if x < 0 then [45] else [],Lib.decDigits x.natAbs)⟩,⟨g1,g3,i2,rfl,?_⟩,?_,?_⟩
  ·intro c s d e
   injection e with e; injection e with e1 e2; injection e2 with e2 e3
   subst e1 e2 e3
   refine ⟨.inl rfl,?_,hd.2,hd.1⟩
   by_cases hneg:x < 0
   ·rw [if_pos hneg]; exact .inr (.inr rfl)
   ·rw [if_neg hneg]; exact .inl rfl
  ·rw [← h]; unfold NumS.txt expS; rw [if_neg h0,hit]; simp [frT,exT]
  ·have hm':zbs ⟨p.neg,m,[],some (101,if x < 0 then [45] else [],Lib.decDigits x.natAbs)⟩=m:=gz
   have hx':zfy cut ⟨p.neg,m,[],some (101,if x < 0 then [45] else [],Lib.decDigits x.natAbs)⟩=x:=by
    unfold zfy; rw [hm',g4]
    unfold zdM
    simp only
    rw [decV_dec]
    by_cases hneg:x < 0
    ·rw [if_pos hneg,if_pos rfl]; simp only [List.length_nil]; omega
    ·rw [if_neg hneg,if_neg (by simp)]; simp only [List.length_nil]; omega
   unfold zfH
   rw [hm',g4,hx',if_neg g1,if_neg (by omega),← h]
end Go.Proofs.YtadhjoggdbhkgaaGreatDoor
namespace Go.Proofs.YtadhjoggdbhkgaaGreatDoor
open Go.RowKit
def zh8 (c:Nat):List UInt8 → Nat → Nat
 | [],n => n
 | x :: l,n => zh8 c l (min (n * 10 + (x.toNat - 48)) c)
theorem zh7 (c:Nat):∀ (l:List UInt8) (n:Nat),n ≤ c → zh8 c l n=min (zgz l n) c
 | [],n,h => by rw [zh8,zgz]; omega
 | x :: l,n,h => by
  rw [zh8,zgz,zh7 c l _ (by omega)]
  by_cases h1:n * 10 + (x.toNat - 48) ≤ c
  ·rw [Nat.min_eq_left h1]
  ·rw [Nat.min_eq_right (show c ≤ n * 10 + (x.toNat - 48) by omega)]
   have h2:=zgo l c
   have h3:=zgo l (n * 10 + (x.toNat - 48))
   omega
theorem minV_le (c:Nat):∀ (l:List UInt8) (n:Nat),n ≤ c → zh8 c l n ≤ c:=fun l n h => by rw [zh7 c l n h]; omega
def zdP (l:List UInt8):List UInt8:=if l[0]? = some 43 ∨ l[0]? = some 45 then l.drop 1 else l
def negE (l:List UInt8):Bool:=decide (l[0]? = some 45)
def expC (c:Nat) (l:List UInt8):Int:=if negE l=true then -(zh8 c (zdP l) 0:Int) else (zh8 c (zdP l) 0:Int)
theorem zii (c:Nat) {p:NumS} (hp:p.Good) {k:UInt8} {s d:List UInt8} (he:p.ex=some (k,s,d)):expC c (s ++ d)=zdM c p.ex ∧ zdP (s ++ d)=d:=by
 obtain ⟨_,h2,h3,h4⟩:=hp.e1 k s d he
 obtain ⟨c1,d1,e1,e2⟩:=zbC h3 h4
 have hs:zdP (s ++ d)=d:=by
  unfold zdP
  rcases h2 with rfl | rfl | rfl
  ·rw [List.nil_append,if_neg]
   rw [e1]
   simp only [List.getElem?_cons_zero,Option.some.injEq]
   rintro (h | h)
   ·exact zbd e2 (k:=43) rfl h
   ·exact zbd e2 (k:=45) rfl h
  ·rw [if_pos (.inl rfl)]; rfl
  ·rw [if_pos (.inr rfl)]; rfl
 refine ⟨?_,hs⟩
 have hn:negE (s ++ d)=decide (s=[45]):=by
  unfold negE
  rcases h2 with rfl | rfl | rfl
  ·rw [List.nil_append,e1]
   have:c1 ≠ 45:=zbd e2 rfl
   simp [this]
  ·simp
  ·simp
 unfold expC zdM
 rw [hs,hn,he,zh7 c d 0 (Nat.zero_le _)]
 by_cases h:s=[45]
 ·simp [h]
 ·simp [h]
end Go.Proofs.YtadhjoggdbhkgaaGreatDoor
namespace Go.Proofs.YtadhjoggdbhkgaaGreatDoor.Sx
open Go.RowKit
inductive AV where
 | s (l:List UInt8)
 | i (k:IntKind) (n:Int)
 | b (x:Bool)
 | agg (cs:List AV)
 | tup (cs:List AV)
 | p (b off:Nat)
 | row (n:Nat) (xs:List AV)
 | prow (xs:List AV) (j:Nat)
 | orow (b gen:Nat)
 | porow (b gen j:Nat)
 | bsl (b off n:Nat)
 | m (b:Nat)
 | zn (b:Bool)
 | nil
 | fn (f:Nat) (first caps:List AV)
 | o (v:Value)
 | u
inductive OB where
 | box (T:TypeId) (cs:List AV)
 | orow (E sz gen n:Nat) (xs:List AV)
 | mp (es:List (List UInt8 × AV))
 | dead
structure Gh where
 blk:Nat → Option Nat
 cur:Nat → Option (Nat × Value)
def Gh.own (G:Gh) (b:Nat):Option Nat :=
 match G.blk b with
 | some g => some g
 | none => match G.cur b with
  | some p => p.2.ownBlock
  | none => none
theorem zar {G:Gh} {b g:Nat} (h:G.blk b=some g):G.own b=some g:=by simp [Gh.own,h]
theorem za6 {G:Gh} {b n:Nat} {v:Value} (h:G.blk b=none) (h':G.cur b=some (n,v)):G.own b=v.ownBlock:=by simp [Gh.own,h,h']
abbrev Imm:=Nat → Nat → Value → Prop
mutual
def Den (G:Gh) (I:Imm):AV → Value → Prop
 | .s l,y => y=.string ⟨l.toArray⟩
 | .i k n,y => y=.int k n
 | .b x,y => y=.bool x
 | .agg cs,y => ∃ ys,y=.agg ys.toArray ∧ zae G I cs ys ∧ ∀ u ∈ ys,u.oneCell'=true
 | .tup cs,y => ∃ ys,y=.tuple ys.toArray ∧ zae G I cs ys
 | .p b off,y => ∃ g,G.blk b=some g ∧ y=.pointer (some ⟨g,off,none⟩)
 | .row n xs,y => ∃ a c ys,y=.slice a n c ∧ (n ≤ c ∧ ∀ ad:Addr,a=some ad → c ≠ 0 → ad.spot=none) ∧ zae G I xs ys ∧ (∀ u ∈ ys,u.oneCell'=true) ∧ ∀ j u,ys[j]? = some u → ∃ g off,a=some ⟨g,off,none⟩ ∧ I g (off + j) u
 | .prow xs j,y => ∃ g off ys,y=.pointer (some ⟨g,off + j,none⟩) ∧ zae G I xs ys ∧ (∀ u ∈ ys,u.oneCell'=true) ∧ ∀ j u,ys[j]? = some u → I g (off + j) u
 | .orow b gen,y => ∃ g' v,G.cur b=some (g',v) ∧ gen ≤ g' ∧ (gen=g' → y=v) ∧ y.oneCell'=true
 | .porow b gen j,y => ∃ g' v g,G.cur b=some (g',v) ∧ gen ≤ g' ∧ y=.pointer (some ⟨g,j,none⟩) ∧ (gen=g' → ∃ n c,v=.slice (some ⟨g,0,none⟩) n c)
 | .bsl b off n,y => ∃ g c,G.blk b=some g ∧ y=.slice (some ⟨g,off,none⟩) n c ∧ n ≤ c
 | .m b,y => ∃ g,G.blk b=some g ∧ y=.map (some g)
 | .zn b,y => ∃ a c,y=.slice a 0 c ∧ a.isNone=b ∧ ∀ ad:Addr,a=some ad → c ≠ 0 → ad.spot=none
 | .nil,y => y=.slice none 0 0
 | .fn f fs cs,y => ∃ us ys,y=.func (.func f) us.toArray ys.toArray ∧ zae G I fs us ∧ zae G I cs ys
 | .o v,y => y=v
 | .u,y => True
def zae (G:Gh) (I:Imm):List AV → List Value → Prop
 | [],ys => ys=[]
 | x :: xs,ys => ∃ y ys',ys=y :: ys' ∧ Den G I x y ∧ zae G I xs ys'
end
structure Gh.le (G G':Gh):Prop where
 blk:∀ b g,G.blk b=some g → G'.blk b=some g
 cur:∀ b n v,G.cur b=some (n,v) → ∃ n' v',G'.cur b=some (n',v') ∧ (n'=n ∧ v'=v ∨ n < n')
theorem Gh.le.refl (G:Gh):G.le G:=⟨fun _ _ h => h,fun _ n v h => ⟨n,v,h,.inl ⟨rfl,rfl⟩⟩⟩
theorem Gh.le.trans {a b c:Gh} (h:a.le b) (k:b.le c):a.le c:=by
 refine ⟨fun x g hx => k.blk x g (h.blk x g hx),fun x n v hx => ?_⟩
 obtain ⟨n1,v1,h1,h2⟩:=h.cur x n v hx
 obtain ⟨n2,v2,h3,h4⟩:=k.cur x n1 v1 h1
 refine ⟨n2,v2,h3,?_⟩
 rcases h2 with ⟨rfl,rfl⟩ | h2
 ·exact h4
 ·rcases h4 with ⟨rfl,_⟩ | h4
  ·exact .inr h2
  ·exact .inr (by omega)
def Imm.le (I I':Imm):Prop:=∀ g o v,I g o v → I' g o v
mutual
theorem Den.mono {G G':Gh} {I I':Imm} (hG:G.le G') (hI:Imm.le I I'):∀ (x:AV) (y:Value),Den G I x y → Den G' I' x y
 | .s l,y,h => by simpa [Den] using h
 | .i k n,y,h => by simpa [Den] using h
 | .b x,y,h => by simpa [Den] using h
 | .agg cs,y,h => by
  simp only [Den] at h ⊢
  obtain ⟨ys,h1,h2,h3⟩:=h
  exact ⟨ys,h1,zae.mono hG hI cs ys h2,h3⟩
 | .tup cs,y,h => by
  simp only [Den] at h ⊢
  obtain ⟨ys,h1,h2⟩:=h
  exact ⟨ys,h1,zae.mono hG hI cs ys h2⟩
 | .p b off,y,h => by
  simp only [Den] at h ⊢
  obtain ⟨g,h1,h2⟩:=h
  exact ⟨g,hG.blk _ _ h1,h2⟩
 | .row n xs,y,h => by
  simp only [Den] at h ⊢
  obtain ⟨a,c,ys,h1,h2,h3,h4,h5⟩:=h
  refine ⟨a,c,ys,h1,h2,zae.mono hG hI xs ys h3,h4,fun j u hj => ?_⟩
  obtain ⟨g,off,e,hi⟩:=h5 j u hj
  exact ⟨g,off,e,hI _ _ _ hi⟩
 | .prow xs j,y,h => by
  simp only [Den] at h ⊢
  obtain ⟨g,off,ys,h1,h3,h4,h5⟩:=h
  exact ⟨g,off,ys,h1,zae.mono hG hI xs ys h3,h4,fun j u hj => hI _ _ _ (h5 j u hj)⟩
 | .orow b gen,y,h => by
  simp only [Den] at h ⊢
  obtain ⟨g',v,h1,h2,h3,h0⟩:=h
  obtain ⟨n',v',e,h4⟩:=hG.cur _ _ _ h1
  refine ⟨n',v',e,?_,?_,h0⟩
  ·rcases h4 with ⟨rfl,_⟩ | h4 <;> omega
  ·rcases h4 with ⟨rfl,rfl⟩ | h4
   ·exact h3
   ·intro e; omega
 | .porow b gen j,y,h => by
  simp only [Den] at h ⊢
  obtain ⟨g',v,g,h1,h2,h0,h3⟩:=h
  obtain ⟨n',v',e,h4⟩:=hG.cur _ _ _ h1
  refine ⟨n',v',g,e,?_,h0,?_⟩
  ·rcases h4 with ⟨rfl,_⟩ | h4 <;> omega
  ·rcases h4 with ⟨rfl,rfl⟩ | h4
   ·exact h3
   ·intro e; omega
 | .bsl b off n,y,h => by
  simp only [Den] at h ⊢
  obtain ⟨g,c,h1,h2⟩:=h
  exact ⟨g,c,hG.blk _ _ h1,h2⟩
 | .m b,y,h => by
  simp only [Den] at h ⊢
  obtain ⟨g,h1,h2⟩:=h
  exact ⟨g,hG.blk _ _ h1,h2⟩
 | .zn b,y,h => by simpa [Den] using h
 | .nil,y,h => by simpa [Den] using h
 | .fn f fs cs,y,h => by
  simp only [Den] at h ⊢
  obtain ⟨us,ys,h1,h2,h3⟩:=h
  exact ⟨us,ys,h1,zae.mono hG hI fs us h2,zae.mono hG hI cs ys h3⟩
 | .o v,y,h => by simpa [Den] using h
 | .u,y,h => by simp [Den]
theorem zae.mono {G G':Gh} {I I':Imm} (hG:G.le G') (hI:Imm.le I I'):∀ (xs:List AV) (ys:List Value),zae G I xs ys → zae G' I' xs ys
 | [],ys,h => by simpa [zae] using h
 | x :: xs,ys,h => by
  simp only [zae] at h ⊢
  obtain ⟨y,ys',h1,h2,h3⟩:=h
  exact ⟨y,ys',h1,Den.mono hG hI x y h2,zae.mono hG hI xs ys' h3⟩
end
theorem zae.length {G:Gh} {I:Imm}:∀ {xs:List AV} {ys:List Value},zae G I xs ys → xs.length=ys.length
 | [],ys,h => by simp only [zae] at h; subst h; rfl
 | x :: xs,ys,h => by
  simp only [zae] at h
  obtain ⟨y,ys',rfl,_,h3⟩:=h
  simp [zae.length h3]
theorem zae.get {G:Gh} {I:Imm}:∀ {xs:List AV} {ys:List Value} (j:Nat) {x:AV},zae G I xs ys → xs[j]? = some x → ∃ y,ys[j]? = some y ∧ Den G I x y
 | [],ys,j,x,h,hx => by simp at hx
 | z :: xs,ys,j,x,h,hx => by
  simp only [zae] at h
  obtain ⟨y,ys',rfl,h2,h3⟩:=h
  cases j with
  | zero => simp at hx; subst hx; exact ⟨y,rfl,h2⟩
  | succ j => simpa using zae.get j h3 (by simpa using hx)
theorem zae.set {G:Gh} {I:Imm}:∀ {xs:List AV} {ys:List Value} (j:Nat) {x:AV} {y:Value},zae G I xs ys → Den G I x y → zae G I (xs.set j x) (ys.set j y)
 | [],ys,j,x,y,h,hx => by simp only [zae] at h; subst h; simp [zae]
 | z :: xs,ys,j,x,y,h,hx => by
  simp only [zae] at h
  obtain ⟨y',ys',rfl,h2,h3⟩:=h
  cases j with
  | zero => simp only [List.set_cons_zero,zae]; exact ⟨_,_,rfl,hx,h3⟩
  | succ j => simp only [List.set_cons_succ,zae]; exact ⟨_,_,rfl,h2,zae.set j h3 hx⟩
theorem zae.append {G:Gh} {I:Imm}:∀ {xs:List AV} {ys:List Value} {xs':List AV} {ys':List Value},zae G I xs ys → zae G I xs' ys' → zae G I (xs ++ xs') (ys ++ ys')
 | [],ys,xs',ys',h,h' => by simp only [zae] at h; subst h; simpa using h'
 | z :: xs,ys,xs',ys',h,h' => by
  simp only [zae] at h
  obtain ⟨y,ys1,rfl,h2,h3⟩:=h
  simp only [List.cons_append,zae]
  exact ⟨_,_,rfl,h2,zae.append h3 h'⟩
theorem zae.drop {G:Gh} {I:Imm}:∀ {xs:List AV} {ys:List Value} (k:Nat),zae G I xs ys → zae G I (xs.drop k) (ys.drop k)
 | xs,ys,0,h => by simpa using h
 | [],ys,k + 1,h => by simp only [zae] at h; subst h; simp [zae]
 | z :: xs,ys,k + 1,h => by
  simp only [zae] at h
  obtain ⟨y,ys1,rfl,h2,h3⟩:=h
  simpa using zae.drop k h3
theorem zae.take {G:Gh} {I:Imm}:∀ {xs:List AV} {ys:List Value} (k:Nat),zae G I xs ys → zae G I (xs.take k) (ys.take k)
 | xs,ys,0,h => by simp [zae]
 | [],ys,k + 1,h => by simp only [zae] at h; subst h; simp [zae]
 | z :: xs,ys,k + 1,h => by
  simp only [zae] at h
  obtain ⟨y,ys1,rfl,h2,h3⟩:=h
  simp only [List.take_succ_cons,zae]
  exact ⟨_,_,rfl,h2,zae.take k h3⟩
theorem zae.cons {G:Gh} {I:Imm} {x:AV} {xs:List AV} {y:Value} {ys:List Value} (h:Den G I x y) (h':zae G I xs ys):zae G I (x :: xs) (y :: ys):=by
 simp only [zae]; exact ⟨_,_,rfl,h,h'⟩
theorem zae.nil {G:Gh} {I:Imm}:zae G I [] []:=by simp [zae]
structure Cx where
 w:World
 own:Nat → Prop
 I:Imm
 gh:Gh
structure In (C:Cx) (G:Gh) (I:Imm) (w:World):Prop where
 os:w.os=C.w.os
 tape:w.tape=C.w.tape
 output:w.output=C.w.output
 size:C.w.heap.size ≤ w.heap.size
 block:∀ k,k < C.w.heap.size → ¬ C.own k → w.heap[k]? = C.w.heap[k]?
 imm:Imm.le C.I I
 news:∀ g o v,I g o v → C.I g o v ∨ C.own g ∨ C.w.heap.size ≤ g
 blk:∀ b g,G.own b=some g → C.own g ∨ C.w.heap.size ≤ g
 gh:C.gh.le G
def Ents (G:Gh) (I:Imm) (es:List (List UInt8 × AV)) (en:List MapEntry):Prop :=
 en.map (·.key)=es.map (fun e => Value.string ⟨e.1.toArray⟩) ∧ zae G I (es.map (·.2)) (en.map (·.val)) ∧ ∀ u ∈ en.map (·.val),u.oneCell'=true
theorem Ents.mono {G G':Gh} {I I':Imm} (hG:G.le G') (hI:Imm.le I I') {es:List (List UInt8 × AV)} {en:List MapEntry} (h:Ents G I es en):Ents G' I' es en :=
 ⟨h.1,zae.mono hG hI _ _ h.2.1,h.2.2⟩
structure MemOk (G:Gh) (I:Imm) (objs:List OB) (w:World):Prop where
 imm:∀ g o v,I g o v → w.cell? ⟨g,o,none⟩=some v
 box:∀ (b:Nat) T cs,objs[b]? = some (.box T cs) → ∃ g ys,G.blk b=some g ∧ w.heap[g]? = some (.cells ys.toArray T (0,0)) ∧ zae G I cs ys ∧ ∀ u ∈ ys,u.oneCell'=true
 row:∀ (b:Nat) E sz gen n xs,objs[b]? = some (.orow E sz gen n xs) → ∃ v ys,G.cur b=some (gen,v) ∧ w.ownsRow 0 E sz v n ys ∧ zae G I xs ys ∧ (∀ u ∈ ys,u.oneCell'=true) ∧ G.blk b=none
 map:∀ (b:Nat) es,objs[b]? = some (.mp es) → ∃ g en ck,G.blk b=some g ∧ w.heap[g]? = some (.map en ck) ∧ Ents G I es en.toList
 inj:∀ b b' g,G.own b=some g → G.own b'=some g → b=b'
 lt:∀ b g,G.own b=some g → g < w.heap.size
 apart:∀ b g o v,G.own b=some g → ¬ I g o v
 fresh:∀ b,objs.length ≤ b → G.blk b=none ∧ G.cur b=none
def Rel (C:Cx) (objs:List OB) (tm:List AV) (a:Act) (w:World):Prop :=
 ∃ G I,In C G I w ∧ MemOk G I objs w ∧ zae G I tm a.tmps.toList ∧ a.defers=[]
abbrev zaG:=Exit → List OB → List AV → Prop
def zeR (C:Cx) (K:zaG) (e:Exit) (a:Act) (w:World):Prop:=∃ objs tm,K e objs tm ∧ Rel C objs tm a w
def WP (P:Program) (C:Cx) (c:Code) (K:zaG) (objs:List OB) (tm:List AV):Prop :=
 ∀ a w,Rel C objs tm a w → c.wp P (zeR C K) a w
theorem zkU {P:Program} {Q:Exit → Act → World → Prop} {c:Code} (I:Nat → Act → World → Prop)
  (round:∀ n a w,I n a w → c.wp P (Exit.then (fun a' w' => ∃ m,m < n ∧ I m a' w') Q) a w):∀ n a w,I n a w → (Code.loop c).wp P Q a w:=by
 intro n a w h₀ b k cs
 have key:∀ n a w,I n a w → ∃ e a' w',Q e a' w' ∧ Arrives P (lone (b.at a (.code c :: .inLoop c :: k)) cs w) b k cs e a' w':=by
  intro n
  induction n using Nat.strongRecOn with
  | _ n ih =>
   intro a w hI
   obtain ⟨e,a₁,w₁,hq,harr⟩:=round n a w hI b (.inLoop c :: k) cs
   cases e with
   | normal =>
    obtain ⟨m,hlt,hI₁⟩:=hq
    obtain ⟨e₂,a₂,w₂,hq₂,harr₂⟩:=ih m hlt a₁ w₁ hI₁
    exact ⟨e₂,a₂,w₂,hq₂,.of_steps (Steps.trans harr (.one step_inLoop)) harr₂⟩
   | exit id => exact ⟨_,a₁,w₁,hq,.pass (x:=.inLoop c) rfl (fun _ _ => .inl (by simp)) harr⟩
   | goto l => exact ⟨_,a₁,w₁,hq,.pass (x:=.inLoop c) rfl (fun _ _ => .inl (by simp)) harr⟩
   | ret => exact ⟨_,a₁,w₁,hq,.pass (x:=.inLoop c) rfl (fun _ _ => .inl (by simp)) harr⟩
   | panic ch => exact ⟨_,a₁,w₁,hq,.pass (x:=.inLoop c) rfl (fun _ _ => .inl (by simp)) harr⟩
   | outgrown => exact ⟨_,a₁,w₁,hq,.pass (x:=.inLoop c) rfl (fun _ _ => .inl (by simp)) harr⟩
 obtain ⟨e,a',w',hq,harr⟩:=key n a w h₀
 exact ⟨e,a',w',hq,.of_steps (.one step_loop) harr⟩
section
variable {P:Program} {C:Cx} {K:zaG} {objs:List OB} {tm:List AV}
theorem WP.mono {c:Code} {K K':zaG} (h:∀ e objs tm,K e objs tm → K' e objs tm) (hh:WP P C c K objs tm):WP P C c K' objs tm :=
 fun a w hr => wp_mono (hh a w hr) fun e a w ⟨o,t,hk,hr⟩ => ⟨o,t,h _ _ _ hk,hr⟩
theorem WP.skip (h:K .normal objs tm):WP P C .skip K objs tm:=fun a w hr => wp_skip ⟨_,_,h,hr⟩
theorem WP.ret (h:K .ret objs tm):WP P C .ret K objs tm:=fun a w hr => wp_ret ⟨_,_,h,hr⟩
theorem WP.exit {id:Nat} (h:K (.exit id) objs tm):WP P C (.exit id) K objs tm:=fun a w hr => wp_exit ⟨_,_,h,hr⟩
def zed (N:List OB → List AV → Prop) (K:zaG):zaG
 | .normal,objs,tm => N objs tm
 | e,objs,tm => K e objs tm
theorem WP.seq {x y:Code} (h:WP P C x (zed (WP P C y K) K) objs tm):WP P C (.seq x y) K objs tm:=by
 intro a w hr
 refine wp_seq (wp_mono (h a w hr) ?_)
 rintro e a w ⟨o,t,hk,hr⟩
 cases e with
 | normal => exact hk a w hr
 | _ => exact ⟨o,t,hk,hr⟩
def blkK (id:Nat) (K:zaG):zaG
 | .exit id',objs,tm => if id'=id then K .normal objs tm else K (.exit id') objs tm
 | e,objs,tm => K e objs tm
theorem WP.block {id:Nat} {c:Code} (h:WP P C c (blkK id K) objs tm):WP P C (.block id c) K objs tm:=by
 intro a w hr
 refine wp_block (wp_mono (h a w hr) ?_)
 rintro e a w ⟨o,t,hk,hr⟩
 cases e with
 | exit id' =>
  simp only [Exit.inBlock,blkK] at hk ⊢
  split at hk
  ·rename_i hid; rw [if_pos hid]; exact ⟨o,t,hk,hr⟩
  ·rename_i hid; rw [if_neg hid]; exact ⟨o,t,hk,hr⟩
 | _ => exact ⟨o,t,hk,hr⟩
theorem WP.loop {c:Code} (J:Nat → List OB → List AV → Prop) (n:Nat) (h0:J n objs tm)
  (round:∀ n objs tm,J n objs tm → WP P C c (zed (fun o t => ∃ m,m < n ∧ J m o t) K) objs tm):WP P C (.loop c) K objs tm:=by
 intro a w hr
 refine zkU (fun n a w => ∃ o t,J n o t ∧ Rel C o t a w) ?_ n a w ⟨objs,tm,h0,hr⟩
 rintro n a w ⟨o,t,hj,hr⟩
 refine wp_mono (round n o t hj a w hr) ?_
 rintro e a w ⟨o,t,hk,hr⟩
 cases e with
 | normal =>
  obtain ⟨m,hm,hj⟩:=hk
  exact ⟨m,hm,o,t,hj,hr⟩
 | _ => exact ⟨o,t,hk,hr⟩
def znR:Value → AV
 | .string s => .s s.data.toList
 | .int k n => .i k n
 | .bool x => .b x
 | .slice none 0 0 => .nil
 | v => .o v
def zj0:Value → AV
 | .agg vs => if vs.toList.all (·.oneCell')=true then .agg (vs.toList.map znR) else .o (.agg vs)
 | v => znR v
theorem zho (G:Gh) (I:Imm) (v:Value):Den G I (znR v) v:=by
 unfold znR
 split
 ·simp [Den]
 ·simp [Den]
 ·simp [Den]
 ·simp [Den]
 ·simp [Den]
theorem zfB (G:Gh) (I:Imm):∀ l:List Value,zae G I (l.map znR) l
 | [] => by simp [zae]
 | v :: l => by
  rw [List.map_cons]
  simp only [zae]
  exact ⟨v,l,rfl,zho G I v,zfB G I l⟩
theorem zes (G:Gh) (I:Imm) (v:Value):Den G I (zj0 v) v:=by
 unfold zj0
 split
 ·rename_i vs
  split
  ·rename_i h
   simp only [Den]
   exact ⟨vs.toList,by simp,zfB G I _,fun u hu => List.all_eq_true.1 h u hu⟩
  ·simp [Den]
 ·exact zho G I _
inductive SV where
 | t (n:Nat)
 | c (v:AV)
def zak:Operand → SV
 | .tmp t => .t t
 | .const v => .c (zj0 v)
 | .global g => .c (.o (.pointer (some ⟨g,0,none⟩)))
 | .func f => .c (.fn f [] [])
def SV.ev (tm:List AV):SV → AV
 | .t n => (tm[n]?).getD .u
 | .c v => v
theorem zaf {G:Gh} {I:Imm} {a:Act} (h:zae G I tm a.tmps.toList) (x:Operand):Den G I ((zak x).ev tm) (a.eval x):=by
 cases x with
 | tmp t =>
  simp only [zak,SV.ev,Act.eval]
  cases ht:tm[t]? with
  | none => simp [Den]
  | some v =>
   obtain ⟨y,h1,h2⟩:=zae.get t h ht
   simp only [Option.getD_some,Array.getD_eq_getD_getElem?]
   rw [Array.getElem?_toList] at h1
   rw [h1]; exact h2
 | const v => exact zes _ _ _
 | global g => simp [zak,SV.ev,Act.eval,Den]
 | func f => simp only [zak,SV.ev,Act.eval,Den]; exact ⟨[],[],rfl,by simp [zae],by simp [zae]⟩
theorem WP.cond {c:Operand} {x y:Code} {t:Bool} (hc:(zak c).ev tm=.b t) (ht:t=true → WP P C x K objs tm) (hf:t=false → WP P C y K objs tm):WP P C (.cond c x y) K objs tm:=by
 intro a w hr
 have hr':=hr
 obtain ⟨G,I,_,_,hd,_⟩:=hr'
 have h1:=zaf hd c
 rw [hc] at h1
 simp only [Den] at h1
 exact wp_cond_split h1 (fun h => ht h a w hr) (fun h => hf h a w hr)
end
def AV.one:AV → Bool
 | .agg _ | .tup _ | .u => false
 | .o v => v.oneCell'
 | _ => true
def AV.cells:AV → List AV
 | .agg cs => cs
 | v => [v]
def AV.flat:AV → Bool
 | .agg _ => true
 | v => v.one
theorem znC {G:Gh} {I:Imm} {x:AV} {y:Value} (h:Den G I x y) (h1:x.one=true):y.oneCell'=true:=by
 cases x with
 | s l => simp only [Den] at h; subst h; rfl
 | i k n => simp only [Den] at h; subst h; rfl
 | b x => simp only [Den] at h; subst h; rfl
 | agg cs => simp [AV.one] at h1
 | tup cs => simp [AV.one] at h1
 | p b off => simp only [Den] at h; obtain ⟨_,_,rfl⟩:=h; rfl
 | row n xs => simp only [Den] at h; obtain ⟨_,_,_,rfl,_⟩:=h; rfl
 | prow xs j => simp only [Den] at h; obtain ⟨_,_,_,rfl,_⟩:=h; rfl
 | orow b gen => simp only [Den] at h; obtain ⟨_,_,_,_,_,h⟩:=h; exact h
 | porow b gen j => simp only [Den] at h; obtain ⟨_,_,_,_,_,rfl,_⟩:=h; rfl
 | bsl b off n => simp only [Den] at h; obtain ⟨_,_,_,rfl,_⟩:=h; rfl
 | m b => simp only [Den] at h; obtain ⟨_,_,rfl⟩:=h; rfl
 | zn b => simp only [Den] at h; obtain ⟨_,_,rfl,_⟩:=h; rfl
 | nil => simp only [Den] at h; subst h; rfl
 | fn f fs cs => simp only [Den] at h; obtain ⟨_,_,rfl,_⟩:=h; rfl
 | o v => simp only [Den] at h; subst h; exact h1
 | u => simp [AV.one] at h1
theorem zdG {G:Gh} {I:Imm} {x:AV} {y:Value} (h:Den G I x y) (h1:x.flat=true):zae G I x.cells y.cells.toList ∧ ∀ u ∈ y.cells.toList,u.oneCell'=true:=by
 cases x with
 | agg cs =>
  simp only [Den] at h
  obtain ⟨ys,rfl,h2,h3⟩:=h
  exact ⟨h2,h3⟩
 | _ =>
  have ho:=znC h h1
  have hc:y.cells=#[y]:=by cases y <;> first | rfl | (simp [Value.oneCell'] at ho)
  rw [hc]
  exact ⟨zae.cons h zae.nil,by simpa using ho⟩
def zaW (P:Program) (C:Cx) (o:Op) (type:TypeId) (objs:List OB) (tm:List AV) (K:List OB → AV → Prop):Prop :=
 ∀ G I a w,In C G I w → MemOk G I objs w → zae G I tm a.tmps.toList → ∀ (op:Oper) (next:Act → World → Prop) (Q:Exit → Act → World → Prop),op.op=o → op.type=type →
  (∀ objs' v y G' I' w',K objs' v → G.le G' → Imm.le I I' → In C G' I' w' → MemOk G' I' objs' w' → Den G' I' v y → next (a.put op.dst y) w') → op.wp P a w next Q
theorem Imm.le.refl (I:Imm):Imm.le I I:=fun _ _ _ h => h
theorem zaX {P:Program} {op:Oper} {a:Act} {w w':World} {next:Act → World → Prop} {Q:Exit → Act → World → Prop} {y:Value}
  (h:(execOp a.eval op).run P w=.ok (.value y) w') (hn:next (a.put op.dst y) w'):op.wp P a w next Q:=by
 unfold Oper.wp; rw [h]; exact hn
theorem zfL {P:Program} {op:Oper} {a:Act} {w w':World} {next:Act → World → Prop} {Q:Exit → Act → World → Prop}
  (h:(execOp a.eval op).run P w=.ok .skip w') (hn:next (a.put op.dst undef) w'):op.wp P a w next Q:=by
 unfold Oper.wp; rw [h]; exact hn
theorem zag {P:Program} {C:Cx} {o:Op} {type:TypeId} {objs:List OB} {tm:List AV} {K:List OB → AV → Prop} (v:AV) (hk:K objs v)
  (h:∀ (G:Gh) (I:Imm) (a:Act) (w:World),MemOk G I objs w → zae G I tm a.tmps.toList → ∀ op:Oper,op.op=o → op.type=type → ∃ y,(execOp a.eval op).run P w=.ok (.value y) w ∧ Den G I v y):zaW P C o type objs tm K:=by
 intro G I a w hin hm hd op next Q ho ht hn
 obtain ⟨y,hr,hy⟩:=h G I a w hm hd op ho ht
 exact zaX hr (hn objs v y G I w hk (Gh.le.refl G) (Imm.le.refl I) hin hm hy)
def Gh.box (G:Gh) (b g:Nat):Gh:=⟨fun x => if x=b then some g else G.blk x,G.cur⟩
def Gh.row (G:Gh) (b n:Nat) (v:Value):Gh:=⟨G.blk,fun x => if x=b then some (n,v) else G.cur x⟩
theorem Gh.box_own (G:Gh) (b g x:Nat):(G.box b g).own x=if x=b then some g else G.own x:=by
 by_cases h:x=b
 ·simp [Gh.own,Gh.box,h]
 ·simp only [Gh.own,Gh.box,h,if_false]
theorem Gh.row_own (G:Gh) (b n:Nat) (v:Value) (hb:G.blk b=none) (x:Nat):(G.row b n v).own x=if x=b then v.ownBlock else G.own x:=by
 by_cases h:x=b
 ·subst h; simp [Gh.own,Gh.row,hb]
 ·simp only [Gh.own,Gh.row,h,if_false]
theorem In.alloc {C:Cx} {G:Gh} {I:Imm} {w:World} (h:In C G I w) (o:Obj):In C G I (w.alloc o) :=
 ⟨h.os,h.tape,h.output,by simp; have:=h.size; omega,fun k hk hn => (Below.heap_alloc w o k (Nat.lt_of_lt_of_le hk h.size)).trans (h.block k hk hn),h.imm,h.news,h.blk,h.gh⟩
theorem MemOk.alloc {G:Gh} {I:Imm} {objs:List OB} {w:World} (h:MemOk G I objs w) (o:Obj):MemOk G I objs (w.alloc o):=by
 refine ⟨fun g o' v hi => ?_,fun b T cs hb => ?_,fun b E sz gen n xs hb => ?_,fun b es hb => ?_,h.inj,fun b g hb => by simp; have:=h.lt b g hb; omega,h.apart,h.fresh⟩
 ·have h1:=h.imm g o' v hi
  rw [World.cell?_alloc_lt (h:=World.block_lt_of_cell? (h:=h1))]; exact h1
 ·obtain ⟨g,ys,h1,h2,h3,h4⟩:=h.box b T cs hb
  exact ⟨g,ys,h1,(Below.heap_alloc w o g (h.lt b g (zar h1))).trans h2,h3,h4⟩
 ·obtain ⟨v,ys,h1,h2,h3⟩:=h.row b E sz gen n xs hb
  exact ⟨v,ys,h1,World.ownsRow.alloc h2 o,h3⟩
 ·obtain ⟨g,en,ck,h1,h2,h3⟩:=h.map b es hb
  exact ⟨g,en,ck,h1,(Below.heap_alloc w o g (h.lt b g (zar h1))).trans h2,h3⟩
theorem In.ghost {C:Cx} {G G':Gh} {I:Imm} {w:World} (h:In C G I w) (hle:G.le G') (hb:∀ b g,G'.own b=some g → C.own g ∨ C.w.heap.size ≤ g):In C G' I w :=
 ⟨h.os,h.tape,h.output,h.size,h.block,h.imm,h.news,hb,h.gh.trans hle⟩
theorem Gh.box_le {G:Gh} {b g:Nat} (h:G.blk b=none):G.le (G.box b g):=by
 refine ⟨fun x y hx => ?_,fun x n v hx => ⟨n,v,hx,.inl ⟨rfl,rfl⟩⟩⟩
 show (if x=b then _ else _)=_
 rw [if_neg (by rintro rfl; rw [h] at hx; cases hx)]; exact hx
theorem Gh.row_le {G:Gh} {b n:Nat} {v:Value} (h:∀ m u,G.cur b=some (m,u) → m < n):G.le (G.row b n v):=by
 refine ⟨fun x y hx => hx,fun x m u hx => ?_⟩
 by_cases e:x=b
 ·subst e
  exact ⟨n,v,by simp [Gh.row],.inr (h m u hx)⟩
 ·exact ⟨m,u,by show (if x=b then _ else _)=_; rw [if_neg e]; exact hx,.inl ⟨rfl,rfl⟩⟩
theorem newbox {C:Cx} {G:Gh} {I:Imm} {objs:List OB} {w:World} (hin:In C G I w) (h:MemOk G I objs w) (T:TypeId) (cs:List AV) (ys:Array Value) (hd:zae G I cs ys.toList) (h1:∀ u ∈ ys.toList,u.oneCell'=true) :
  ∃ G',G.le G' ∧ In C G' I (w.alloc (.cells ys T)) ∧ MemOk G' I (objs ++ [.box T cs]) (w.alloc (.cells ys T)) ∧ Den G' I (.p objs.length 0) (.pointer (some ⟨w.heap.size,0,none⟩)):=by
 have hf:=h.fresh objs.length (Nat.le_refl _)
 have hle:G.le (G.box objs.length w.heap.size):=Gh.box_le hf.1
 have ha:=h.alloc (.cells ys T)
 have hbl:∀ x y,(G.box objs.length w.heap.size).own x=some y → (x=objs.length ∧ y=w.heap.size) ∨ (x ≠ objs.length ∧ G.own x=some y):=by
  intro x y hx
  rw [Gh.box_own] at hx
  split at hx
  ·rename_i e; injection hx with hx; exact .inl ⟨e,hx.symm⟩
  ·rename_i e; exact .inr ⟨e,hx⟩
 refine ⟨_,hle,(hin.alloc _).ghost hle ?_,⟨ha.imm,?_,?_,?_,?_,?_,?_,?_⟩,?_⟩
 ·intro b g hb
  rcases hbl b g hb with ⟨rfl,rfl⟩ | ⟨_,hb⟩
  ·exact .inr hin.size
  ·exact hin.blk b g hb
 ·intro b T' cs' hb
  rcases Nat.lt_or_ge b objs.length with hlt | hge
  ·rw [List.getElem?_append_left hlt] at hb
   obtain ⟨g,zs,k1,k2,k3,k4⟩:=ha.box b T' cs' hb
   exact ⟨g,zs,hle.blk b g k1,k2,zae.mono hle (Imm.le.refl I) _ _ k3,k4⟩
  ·rw [List.getElem?_append_right hge] at hb
   have hb0:b=objs.length:=by
    rcases Nat.eq_zero_or_pos (b - objs.length) with h0 | h0
    ·omega
    ·rw [List.getElem?_eq_none (by simp; omega)] at hb; cases hb
   subst hb0
   simp at hb
   obtain ⟨rfl,rfl⟩:=hb
   exact ⟨w.heap.size,ys.toList,by simp [Gh.box],by simpa using heap_alloc_new w (.cells ys T),zae.mono hle (Imm.le.refl I) _ _ hd,h1⟩
 ·intro b E sz gen n xs hb
  rcases Nat.lt_or_ge b objs.length with hlt | hge
  ·rw [List.getElem?_append_left hlt] at hb
   obtain ⟨v,zs,k1,k2,k3,k4,k5⟩:=ha.row b E sz gen n xs hb
   refine ⟨v,zs,k1,k2,zae.mono hle (Imm.le.refl I) _ _ k3,k4,?_⟩
   show (if b=objs.length then _ else _)=_; rw [if_neg (by omega)]; exact k5
  ·rw [List.getElem?_append_right hge] at hb
   rcases Nat.eq_zero_or_pos (b - objs.length) with h0 | h0
   ·rw [h0] at hb; simp at hb
   ·rw [List.getElem?_eq_none (by simp; omega)] at hb; cases hb
 ·intro b es hb
  rcases Nat.lt_or_ge b objs.length with hlt | hge
  ·rw [List.getElem?_append_left hlt] at hb
   obtain ⟨g,en,ck,k1,k2,k3⟩:=ha.map b es hb
   exact ⟨g,en,ck,hle.blk b g k1,k2,k3.mono hle (Imm.le.refl I)⟩
  ·rw [List.getElem?_append_right hge] at hb
   rcases Nat.eq_zero_or_pos (b - objs.length) with h0 | h0
   ·rw [h0] at hb; simp at hb
   ·rw [List.getElem?_eq_none (by simp; omega)] at hb; cases hb
 ·intro b b' g hb hb'
  rcases hbl b g hb with ⟨rfl,rfl⟩ | ⟨_,hb⟩ <;> rcases hbl b' _ hb' with ⟨rfl,e⟩ | ⟨_,hb'⟩
  ·rfl
  ·have:=h.lt b' _ hb'; omega
  ·have:=h.lt b _ hb; omega
  ·exact h.inj b b' g hb hb'
 ·intro b g hb
  rcases hbl b g hb with ⟨rfl,rfl⟩ | ⟨_,hb⟩
  ·simp
  ·exact ha.lt b g hb
 ·intro b g o v hb hi
  rcases hbl b g hb with ⟨rfl,rfl⟩ | ⟨_,hb⟩
  ·have:=World.block_lt_of_cell? (h:=h.imm _ _ _ hi)
   simp at this
  ·exact h.apart b g o v hb hi
 ·intro b hb
  simp at hb
  have:=h.fresh b (by omega)
  refine ⟨?_,this.2⟩
  show (if b=objs.length then _ else _)=_
  rw [if_neg (by omega)]; exact this.1
 ·simp only [Den]; exact ⟨w.heap.size,by simp [Gh.box],rfl⟩
theorem newimm {C:Cx} {G:Gh} {I:Imm} {objs:List OB} {w:World} (hin:In C G I w) (h:MemOk G I objs w) (E:TypeId) (xs:List AV) (ys:Array Value) (n:Nat) (hd:zae G I xs ys.toList) (h1:∀ u ∈ ys.toList,u.oneCell'=true) :
  ∃ I',Imm.le I I' ∧ In C G I' (w.alloc (.cells ys E)) ∧ MemOk G I' objs (w.alloc (.cells ys E)) ∧ Den G I' (.row n xs) (.slice (some ⟨w.heap.size,0,none⟩) n n):=by
 have ha:=h.alloc (.cells ys E)
 have hia:=hin.alloc (.cells ys E)
 let I':Imm:=fun g o v => I g o v ∨ (g=w.heap.size ∧ ys.toList[o]? = some v)
 have hle:Imm.le I I':=fun _ _ _ hi => .inl hi
 refine ⟨I',hle,⟨hia.os,hia.tape,hia.output,hia.size,hia.block,fun g o v hi => .inl (hin.imm g o v hi),?_,hia.blk,hia.gh⟩,⟨?_,?_,?_,?_,ha.inj,ha.lt,?_,ha.fresh⟩,?_⟩
 ·rintro g o v (hi | ⟨rfl,_⟩)
  ·exact hin.news g o v hi
  ·exact .inr (.inr hin.size)
 ·rintro g o v (hi | ⟨rfl,hy⟩)
  ·exact ha.imm g o v hi
  ·rw [World.cell?_alloc_new]; simpa using hy
 ·intro b T cs hb
  obtain ⟨g,zs,k1,k2,k3,k4⟩:=ha.box b T cs hb
  exact ⟨g,zs,k1,k2,zae.mono (Gh.le.refl G) hle _ _ k3,k4⟩
 ·intro b E' sz gen m us hb
  obtain ⟨v,zs,k1,k2,k3,k4,k5⟩:=ha.row b E' sz gen m us hb
  exact ⟨v,zs,k1,k2,zae.mono (Gh.le.refl G) hle _ _ k3,k4,k5⟩
 ·intro b es hb
  obtain ⟨g,en,ck,k1,k2,k3⟩:=ha.map b es hb
  exact ⟨g,en,ck,k1,k2,k3.mono (Gh.le.refl G) hle⟩
 ·rintro b g o v hb (hi | ⟨rfl,_⟩)
  ·exact h.apart b g o v hb hi
  ·have:=h.lt b _ hb; omega
 ·simp only [Den]
  refine ⟨some ⟨w.heap.size,0,none⟩,n,ys.toList,rfl,⟨Nat.le_refl _,by rintro _ ⟨⟩ _; rfl⟩,zae.mono (Gh.le.refl G) hle _ _ hd,h1,fun j u hj => ⟨w.heap.size,0,rfl,.inr ⟨rfl,by simpa using hj⟩⟩⟩
theorem zbP (b:Nat) (T:TypeId):∀ (vs:List Value) (o:Nat) (w:World) (cur:List Value),w.heap[b]? = some (.cells cur.toArray T (0,0)) → o + vs.length ≤ cur.length →
  (w.setCells b o vs).heap[b]? = some (.cells (cur.take o ++ vs ++ cur.drop (o + vs.length)).toArray T (0,0)) ∧ (∀ k,k ≠ b → (w.setCells b o vs).heap[k]? = w.heap[k]?) ∧ (w.setCells b o vs).heap.size=w.heap.size ∧ (w.setCells b o vs).os=w.os ∧ (w.setCells b o vs).tape=w.tape ∧ (w.setCells b o vs).output=w.output
 | [],o,w,cur,h,hl => by simpa [World.setCells] using h
 | v :: r,o,w,cur,h,hl => by
  have hs:(w.setCell ⟨b,o,none⟩ v).heap[b]? = some (.cells (cur.set o v).toArray T (0,0)):=by
   simp [World.setCell,Array.getElem?_modify,h]
  simp only [List.length_cons] at hl
  obtain ⟨h1,h2,h3,h4,h5,h6⟩:=zbP b T r (o + 1) (w.setCell ⟨b,o,none⟩ v) (cur.set o v) hs (by simp; omega)
  rw [World.setCells]
  refine ⟨?_,fun k hk => ?_,?_,h4,h5,h6⟩
  ·rw [h1]
   congr 3
   have e1:(cur.set o v).take (o + 1)=cur.take o ++ [v]:=by
    rw [List.take_succ_eq_append_getElem (by simp; omega),List.getElem_set_self,List.take_set_of_le (Nat.le_refl _)]
   have e2:(cur.set o v).drop (o + 1 + r.length)=cur.drop (o + (v :: r).length):=by
    rw [List.drop_set_of_lt (by omega),List.length_cons,show o + 1 + r.length=o + (r.length + 1) by omega]
   rw [e1,e2]; simp
  ·rw [h2 k hk]; exact Below.heap_setCell w _ v k hk
  ·rw [h3]; simp [World.setCell]
def zaM {α:Type} (cs:List α) (o:Nat) (vs:List α):List α:=cs.take o ++ vs ++ cs.drop (o + vs.length)
theorem setbox {C:Cx} {G:Gh} {I:Imm} {objs:List OB} {w:World} (hin:In C G I w) (h:MemOk G I objs w) (b g o:Nat) (T:TypeId) (cs vs:List AV) (us:List Value) (hb:objs[b]? = some (.box T cs)) (hg:G.blk b=some g)
  (hd:zae G I vs us) (h1:∀ u ∈ us,u.oneCell'=true) (hl:o + vs.length ≤ cs.length) :
  In C G I (w.setCells g o us) ∧ MemOk G I (objs.set b (.box T (zaM cs o vs))) (w.setCells g o us):=by
 obtain ⟨g',ys,k1,k2,k3,k4⟩:=h.box b T cs hb
 obtain rfl:g=g':=Option.some.inj (hg.symm.trans k1)
 have hl1:=k3.length
 have hl2:=hd.length
 obtain ⟨s1,s2,s3,s4,s5,s6⟩:=zbP g T us o w ys k2 (by omega)
 have hblt:b < objs.length:=by
  rcases Nat.lt_or_ge b objs.length with h0 | h0
  ·exact h0
  ·rw [List.getElem?_eq_none h0] at hb; cases hb
 refine ⟨⟨s4.trans hin.os,s5.trans hin.tape,s6.trans hin.output,by rw [s3]; exact hin.size,fun k hk hn => ?_,hin.imm,hin.news,hin.blk,hin.gh⟩,⟨?_,?_,?_,?_,h.inj,fun b' g' hb' => by rw [s3]; exact h.lt b' g' hb',h.apart,?_⟩⟩
 ·rcases hin.blk b g (zar hg) with ho | ho
  ·rw [s2 k (by rintro rfl; exact hn ho)]; exact hin.block k hk hn
  ·rw [s2 k (by omega)]; exact hin.block k hk hn
 ·intro g' o' v hi
  rw [← h.imm g' o' v hi]
  simp only [World.cell?]
  rw [s2 g' (by rintro rfl; exact h.apart b _ o' v (zar hg) hi)]
 ·intro b' T' cs' hb'
  by_cases e:b'=b
  ·subst e
   rw [List.getElem?_set_self hblt] at hb'
   obtain ⟨rfl,rfl⟩:T=T' ∧ zaM cs o vs=cs':=by simpa using hb'
   refine ⟨g,_,k1,s1,?_,?_⟩
   ·unfold zaM
    rw [hl2]
    exact zae.append (zae.append (zae.take o k3) hd) (zae.drop _ k3)
   ·intro u hu
    rcases List.mem_append.1 hu with hu | hu
    ·rcases List.mem_append.1 hu with hu | hu
     ·exact k4 u (List.mem_of_mem_take hu)
     ·exact h1 u hu
    ·exact k4 u (List.mem_of_mem_drop hu)
  ·rw [List.getElem?_set_ne (fun e' => e e'.symm)] at hb'
   obtain ⟨g2,zs,m1,m2,m3,m4⟩:=h.box b' T' cs' hb'
   exact ⟨g2,zs,m1,(s2 g2 (by rintro rfl; exact e (h.inj _ _ _ (zar m1) (zar hg)))).trans m2,m3,m4⟩
 ·intro b' E sz gen n xs hb'
  by_cases e:b'=b
  ·subst e
   rw [List.getElem?_set_self hblt] at hb'
   simp at hb'
  ·rw [List.getElem?_set_ne (fun e' => e e'.symm)] at hb'
   obtain ⟨v,zs,m1,m2,m3,m4,m5⟩:=h.row b' E sz gen n xs hb'
   refine ⟨v,zs,m1,?_,m3,m4,m5⟩
   obtain ⟨q1,q2⟩:=m2
   refine ⟨q1,?_⟩
   rcases q2 with q2 | ⟨g3,cap,cur,rfl,q3,q4,q5⟩
   ·exact .inl q2
   ·refine .inr ⟨g3,cap,cur,rfl,q3,(s2 g3 ?_).trans q4,q5⟩
    rintro rfl
    refine e (h.inj _ _ _ ?_ (zar hg))
    rw [za6 m5 m1]; rfl
 ·intro b' es hb'
  by_cases e:b'=b
  ·subst e
   rw [List.getElem?_set_self hblt] at hb'
   simp at hb'
  ·rw [List.getElem?_set_ne (fun e' => e e'.symm)] at hb'
   obtain ⟨g2,en,ck,m1,m2,m3⟩:=h.map b' es hb'
   exact ⟨g2,en,ck,m1,(s2 g2 (by rintro rfl; exact e (h.inj _ _ _ (zar m1) (zar hg)))).trans m2,m3⟩
 ·intro b' hb'
  rw [List.length_set] at hb'
  exact h.fresh b' hb'
theorem setrow {C:Cx} {G:Gh} {I:Imm} {objs:List OB} {w:World} (hin:In C G I w) (h:MemOk G I objs w) (b g o:Nat) (E sz gen n cap:Nat) (xs vs:List AV) (us:List Value) (hb:objs[b]? = some (.orow E sz gen n xs)) (hg:G.cur b=some (gen,.slice (some ⟨g,0,none⟩) n cap))
  (hd:zae G I vs us) (h1:∀ u ∈ us,u.oneCell'=true) (hl:o + vs.length ≤ xs.length) :
  In C G I (w.setCells g o us) ∧ MemOk G I (objs.set b (.orow E sz gen n (zaM xs o vs))) (w.setCells g o us):=by
 obtain ⟨v,ys,k1,k2,k3,k4,k5⟩:=h.row b E sz gen n xs hb
 obtain rfl:v=.slice (some ⟨g,0,none⟩) n cap:=by rw [hg] at k1; injection k1 with k1; injection k1 with _ k1; exact k1.symm
 have hown:G.own b=some g:=by rw [za6 k5 hg]; rfl
 have hl1:=k3.length
 have hl2:=hd.length
 obtain ⟨q1,q2⟩:=k2
 rcases q2 with ⟨q2,_⟩ | ⟨g',cap',cur,q2,q3,q4,q5,q6,q7,q8⟩
 ·cases q2
 injection q2 with q2 _ q9; injection q2 with q2; injection q2 with q2; subst q2 q9
 have hcl:n * sz ≤ cur.size:=by rw [q7]; exact Nat.mul_le_mul_right _ q5
 have q4':w.heap[g]? = some (.cells cur.toList.toArray E (0,0)):=by simpa using q4
 have hcl':cur.toList.length=cur.size:=by simp
 obtain ⟨s1,s2,s3,s4,s5,s6⟩:=zbP g E us o w cur.toList q4' (by omega)
 have hblt:b < objs.length:=by
  rcases Nat.lt_or_ge b objs.length with h0 | h0
  ·exact h0
  ·rw [List.getElem?_eq_none h0] at hb; cases hb
 refine ⟨⟨s4.trans hin.os,s5.trans hin.tape,s6.trans hin.output,by rw [s3]; exact hin.size,fun k hk hn => ?_,hin.imm,hin.news,hin.blk,hin.gh⟩,⟨?_,?_,?_,?_,h.inj,fun b' g' hb' => by rw [s3]; exact h.lt b' g' hb',h.apart,?_⟩⟩
 ·rcases hin.blk b g hown with ho | ho
  ·rw [s2 k (by rintro rfl; exact hn ho)]; exact hin.block k hk hn
  ·rw [s2 k (by omega)]; exact hin.block k hk hn
 ·intro g' o' v hi
  rw [← h.imm g' o' v hi]
  simp only [World.cell?]
  rw [s2 g' (by rintro rfl; exact h.apart b _ o' v hown hi)]
 ·intro b' T' cs' hb'
  have e:b' ≠ b:=by
   rintro rfl
   rw [List.getElem?_set_self hblt] at hb'
   simp at hb'
  rw [List.getElem?_set_ne (fun e' => e e'.symm)] at hb'
  obtain ⟨g2,zs,m1,m2,m3,m4⟩:=h.box b' T' cs' hb'
  exact ⟨g2,zs,m1,(s2 g2 (by rintro rfl; exact e (h.inj _ _ _ (zar m1) hown))).trans m2,m3,m4⟩
 ·intro b' E' sz' gen' n' xs' hb'
  by_cases e:b'=b
  ·subst e
   rw [List.getElem?_set_self hblt] at hb'
   simp only [Option.some.injEq,OB.orow.injEq] at hb'
   obtain ⟨rfl,rfl,rfl,rfl,rfl⟩:=hb'
   have hsp:(zaM ys o us).length=ys.length:=by
    unfold zaM
    simp only [List.length_append,List.length_take,List.length_drop]
    omega
   refine ⟨_,zaM ys o us,hg,⟨by rw [hsp]; exact q1,.inr ⟨g,cap,_,rfl,q3,s1,q5,q6,?_,?_⟩⟩,?_,?_,k5⟩
   ·rw [← q7]
    simp only [List.size_toArray,List.length_append,List.length_take,List.length_drop]
    omega
   ·rw [List.toList_toArray]
    unfold zaM
    have e1:cur.toList.take o=ys.take o:=by rw [← q8,List.take_take,Nat.min_eq_left (by omega)]
    have e2:ys.drop (o + us.length)=(cur.toList.drop (o + us.length)).take (n * sz - (o + us.length)):=by rw [← q8,List.drop_take]
    rw [List.take_append,List.length_append,List.length_take,e2,e1]
    rw [List.take_of_length_le (by simp only [List.length_append,List.length_take]; omega)]
    rw [show n * sz - (min o cur.toList.length + us.length)=n * sz - (o + us.length) by omega]
   ·unfold zaM
    rw [hl2]
    exact zae.append (zae.append (zae.take o k3) hd) (zae.drop _ k3)
   ·intro u hu
    unfold zaM at hu
    rcases List.mem_append.1 hu with hu | hu
    ·rcases List.mem_append.1 hu with hu | hu
     ·exact k4 u (List.mem_of_mem_take hu)
     ·exact h1 u hu
    ·exact k4 u (List.mem_of_mem_drop hu)
  ·rw [List.getElem?_set_ne (fun e' => e e'.symm)] at hb'
   obtain ⟨v,zs,m1,m2,m3,m4,m5⟩:=h.row b' E' sz' gen' n' xs' hb'
   refine ⟨v,zs,m1,?_,m3,m4,m5⟩
   obtain ⟨q1',q2'⟩:=m2
   refine ⟨q1',?_⟩
   rcases q2' with q2' | ⟨g3,cap',cur',rfl,q3',q4'',q5'⟩
   ·exact .inl q2'
   ·refine .inr ⟨g3,cap',cur',rfl,q3',(s2 g3 ?_).trans q4'',q5'⟩
    rintro rfl
    refine e (h.inj _ _ _ ?_ hown)
    rw [za6 m5 m1]; rfl
 ·intro b' es hb'
  have e:b' ≠ b:=by
   rintro rfl
   rw [List.getElem?_set_self hblt] at hb'
   simp at hb'
  rw [List.getElem?_set_ne (fun e' => e e'.symm)] at hb'
  obtain ⟨g2,en,ck,m1,m2,m3⟩:=h.map b' es hb'
  exact ⟨g2,en,ck,m1,(s2 g2 (by rintro rfl; exact e (h.inj _ _ _ (zar m1) hown))).trans m2,m3⟩
 ·intro b' hb'
  rw [List.length_set] at hb'
  exact h.fresh b' hb'
theorem newmap {C:Cx} {G:Gh} {I:Imm} {objs:List OB} {w:World} (hin:In C G I w) (h:MemOk G I objs w) :
  ∃ G',G.le G' ∧ In C G' I (w.alloc (.map #[] 0)) ∧ MemOk G' I (objs ++ [.mp []]) (w.alloc (.map #[] 0)) ∧ Den G' I (.m objs.length) (.map (some w.heap.size)):=by
 have hf:=h.fresh objs.length (Nat.le_refl _)
 have hle:G.le (G.box objs.length w.heap.size):=Gh.box_le hf.1
 have ha:=h.alloc (.map #[] 0)
 have hbl:∀ x y,(G.box objs.length w.heap.size).own x=some y → (x=objs.length ∧ y=w.heap.size) ∨ (x ≠ objs.length ∧ G.own x=some y):=by
  intro x y hx
  rw [Gh.box_own] at hx
  split at hx
  ·rename_i e; injection hx with hx; exact .inl ⟨e,hx.symm⟩
  ·rename_i e; exact .inr ⟨e,hx⟩
 have hold:∀ (b:Nat) (ob:OB),(objs ++ [OB.mp []])[b]? = some ob → (b < objs.length ∧ objs[b]? = some ob) ∨ (b=objs.length ∧ ob=.mp []):=by
  intro b ob hb
  rcases Nat.lt_or_ge b objs.length with hlt | hge
  ·rw [List.getElem?_append_left hlt] at hb; exact .inl ⟨hlt,hb⟩
  ·rw [List.getElem?_append_right hge] at hb
   rcases Nat.eq_zero_or_pos (b - objs.length) with h0 | h0
   ·rw [h0] at hb; simp at hb; exact .inr ⟨by omega,hb.symm⟩
   ·rw [List.getElem?_eq_none (by simp; omega)] at hb; cases hb
 refine ⟨_,hle,(hin.alloc _).ghost hle ?_,⟨ha.imm,?_,?_,?_,?_,?_,?_,?_⟩,?_⟩
 ·intro b g hb
  rcases hbl b g hb with ⟨rfl,rfl⟩ | ⟨_,hb⟩
  ·exact .inr hin.size
  ·exact hin.blk b g hb
 ·intro b T' cs' hb
  rcases hold b _ hb with ⟨hlt,hb⟩ | ⟨_,hb⟩
  ·obtain ⟨g,zs,k1,k2,k3,k4⟩:=ha.box b T' cs' hb
   exact ⟨g,zs,hle.blk b g k1,k2,zae.mono hle (Imm.le.refl I) _ _ k3,k4⟩
  ·cases hb
 ·intro b E sz gen n xs hb
  rcases hold b _ hb with ⟨hlt,hb⟩ | ⟨_,hb⟩
  ·obtain ⟨v,zs,k1,k2,k3,k4,k5⟩:=ha.row b E sz gen n xs hb
   refine ⟨v,zs,k1,k2,zae.mono hle (Imm.le.refl I) _ _ k3,k4,?_⟩
   show (if b=objs.length then _ else _)=_; rw [if_neg (by omega)]; exact k5
  ·cases hb
 ·intro b es hb
  rcases hold b _ hb with ⟨hlt,hb⟩ | ⟨rfl,hb⟩
  ·obtain ⟨g,en,ck,k1,k2,k3⟩:=ha.map b es hb
   exact ⟨g,en,ck,hle.blk b g k1,k2,k3.mono hle (Imm.le.refl I)⟩
  ·have hb:es=[]:=by simpa using hb
   subst hb
   exact ⟨w.heap.size,#[],0,by simp [Gh.box],by simpa using heap_alloc_new w (.map #[] 0),by simp [Ents,zae]⟩
 ·intro b b' g hb hb'
  rcases hbl b g hb with ⟨rfl,rfl⟩ | ⟨_,hb⟩ <;> rcases hbl b' _ hb' with ⟨rfl,e⟩ | ⟨_,hb'⟩
  ·rfl
  ·have:=h.lt b' _ hb'; omega
  ·have:=h.lt b _ hb; omega
  ·exact h.inj b b' g hb hb'
 ·intro b g hb
  rcases hbl b g hb with ⟨rfl,rfl⟩ | ⟨_,hb⟩
  ·simp
  ·exact ha.lt b g hb
 ·intro b g o v hb hi
  rcases hbl b g hb with ⟨rfl,rfl⟩ | ⟨_,hb⟩
  ·have:=World.block_lt_of_cell? (h:=h.imm _ _ _ hi)
   simp at this
  ·exact h.apart b g o v hb hi
 ·intro b hb
  simp at hb
  have:=h.fresh b (by omega)
  refine ⟨?_,this.2⟩
  show (if b=objs.length then _ else _)=_
  rw [if_neg (by omega)]; exact this.1
 ·simp only [Den]; exact ⟨w.heap.size,by simp [Gh.box],rfl⟩
section
variable {P:Program} {C:Cx} {type:TypeId} {objs:List OB} {tm:List AV} {K:List OB → AV → Prop}
theorem ok_move (x:Operand) (h:K objs ((zak x).ev tm)):zaW P C (.move x) type objs tm K :=
 zag _ h fun G I a w hm hd op ho ht => ⟨a.eval x,by unfold execOp; rw [ho]; rfl,zaf hd x⟩
theorem zmn (x:Operand) (h:K objs ((zak x).ev tm)):zaW P C (.assign x) type objs tm K :=
 zag _ h fun G I a w hm hd op ho ht => ⟨a.eval x,by unfold execOp; rw [ho]; rfl,zaf hd x⟩
theorem ok_pick (c x y:Operand) (t:Bool) (hc:(zak c).ev tm=.b t) (h1:t=true → K objs ((zak x).ev tm)) (h2:t=false → K objs ((zak y).ev tm)):zaW P C (.pick c x y) type objs tm K:=by
 cases t with
 | true =>
  refine zag _ (h1 rfl) fun G I a w hm hd op ho ht => ?_
  have:=zaf hd c
  rw [hc] at this; simp only [Den] at this
  exact ⟨a.eval x,by unfold execOp; rw [ho]; simp [this,asBool],zaf hd x⟩
 | false =>
  refine zag _ (h2 rfl) fun G I a w hm hd op ho ht => ?_
  have:=zaf hd c
  rw [hc] at this; simp only [Den] at this
  exact ⟨a.eval y,by unfold execOp; rw [ho]; simp [this,asBool],zaf hd y⟩
theorem zcV (G:Gh) (I:Imm):∀ ys:List Value,zae G I (ys.map zj0) ys
 | [] => zae.nil
 | y :: ys => zae.cons (zes G I y) (zcV G I ys)
theorem ok_alloc (T:TypeId) (i:TypeInfo) (z:Value) (hi:P.info? T=some i) (hz:i.zero=some z) (h1:(z.cells.toList.all (·.oneCell'))=true)
  (h:K (objs ++ [.box T (z.cells.toList.map zj0)]) (.p objs.length 0)):zaW P C (.alloc T) type objs tm K:=by
 intro G I a w hin hm hd op next Q ho ht hn
 obtain ⟨G',k1,k2,k3,k4⟩:=newbox hin hm T (z.cells.toList.map zj0) z.cells (zcV G I _) (fun u hu => (List.all_eq_true.1 h1) u hu)
 refine zaX (w':=w.alloc (.cells z.cells T)) (y:=.pointer (some ⟨w.heap.size,0,none⟩)) ?_ (hn _ _ _ _ _ _ h k1 (Imm.le.refl I) k2 k3 k4)
 unfold execOp; rw [ho]
 simp [Instr.alloc,zeroValue,typeInfo,hi,hz,newVar,newRow]
theorem ok_box (T:TypeId) (x:Operand) (h1:((zak x).ev tm).flat=true) (h:K (objs ++ [.box T ((zak x).ev tm).cells]) (.p objs.length 0)):zaW P C (.box T x) type objs tm K:=by
 intro G I a w hin hm hd op next Q ho ht hn
 obtain ⟨d1,d2⟩:=zdG (zaf hd x) h1
 obtain ⟨G',k1,k2,k3,k4⟩:=newbox hin hm T _ (a.eval x).cells d1 d2
 refine zaX (w':=w.alloc (.cells (a.eval x).cells T)) (y:=.pointer (some ⟨w.heap.size,0,none⟩)) ?_ (hn _ _ _ _ _ _ h k1 (Imm.le.refl I) k2 k3 k4)
 unfold execOp; rw [ho]
 simp [Instr.box,newVar,newRow]
theorem zaz (g j:Nat) (o:Nat):(⟨g,o,none⟩:Addr).add j=⟨g,o + j,none⟩:=Addr.add_mid g o j
theorem ok_load1 (T:TypeId) (x:Operand) (d:TypeDesc) (hu:P.underlying T=some d) (hr:d.isRow=false) (b off:Nat) (B:TypeId) (cs:List AV) (v:AV) (hx:(zak x).ev tm=.p b off) (hb:objs[b]? = some (.box B cs)) (hc:cs[off]? = some v)
  (h:K objs v):zaW P C (.load T x) type objs tm K :=
 zag _ h fun G I a w hm hd op ho ht => by
  have h1:=zaf hd x; rw [hx] at h1; simp only [Den] at h1
  obtain ⟨g,hg,he⟩:=h1
  obtain ⟨g',ys,k1,k2,k3,k4⟩:=hm.box b B cs hb
  obtain rfl:g=g':=Option.some.inj (hg.symm.trans k1)
  obtain ⟨y,hy,hyd⟩:=zae.get off k3 hc
  refine ⟨y,?_,hyd⟩
  have hcell:w.cell? ⟨g,off,none⟩=some y:=by rw [cell_of_row w g off _ B (0,0) k2]; simpa using hy
  unfold execOp; rw [ho]
  have hagg:(isAgg T).run P w=.ok false w:=by
   unfold isAgg
   rw [Sem.run_bind,run_underlying hu w]
   cases d <;> simp_all
  simp [Instr.loadAt,Instr.sureAddr,he,loadVar,hagg,load,Sem.run,hcell]
theorem ok_loadn (T:TypeId) (x:Operand) (d:TypeDesc) (hu:P.underlying T=some d) (hr:d.isRow=true) (sz:Nat) (hs:(P.info? T).map (·.size)=some sz) (b off:Nat) (B:TypeId) (cs:List AV) (hx:(zak x).ev tm=.p b off) (hb:objs[b]? = some (.box B cs)) (hc:off + sz ≤ cs.length)
  (h:K objs (.agg ((cs.drop off).take sz))):zaW P C (.load T x) type objs tm K :=
 zag _ h fun G I a w hm hd op ho ht => by
  have h1:=zaf hd x; rw [hx] at h1; simp only [Den] at h1
  obtain ⟨g,hg,he⟩:=h1
  obtain ⟨g',ys,k1,k2,k3,k4⟩:=hm.box b B cs hb
  obtain rfl:g=g':=Option.some.inj (hg.symm.trans k1)
  have hl:=k3.length
  refine ⟨.agg ((ys.drop off).take sz).toArray,?_,?_⟩
  ·unfold execOp; rw [ho]
   have:=run_loadAt_mid (P:=P) w g off T ((ys.drop off).take sz) d ?_ hu hr (by rw [hs]; simp; omega)
   ·simp [he,this]
   ·intro j v hj
    rw [cell_of_row w g (off + j) _ B (0,0) k2]
    rw [List.getElem?_take] at hj
    split at hj
    ·simpa [List.getElem?_drop] using hj
    ·cases hj
  ·simp only [Den]
   exact ⟨_,rfl,zae.take sz (zae.drop off k3),fun u hu => k4 u (List.mem_of_mem_drop (List.mem_of_mem_take hu))⟩
theorem zmj (T:TypeId) (x:Operand) (d:TypeDesc) (hu:P.underlying T=some d) (hr:d.isRow=false) (xs:List AV) (j:Nat) (v:AV) (hx:(zak x).ev tm=.prow xs j) (hc:xs[j]? = some v)
  (h:K objs v):zaW P C (.load T x) type objs tm K :=
 zag _ h fun G I a w hm hd op ho ht => by
  have h1:=zaf hd x; rw [hx] at h1; simp only [Den] at h1
  obtain ⟨g,off,ys,he,k3,k4,k5⟩:=h1
  obtain ⟨y,hy,hyd⟩:=zae.get j k3 hc
  refine ⟨y,?_,hyd⟩
  have hcell:=hm.imm _ _ _ (k5 j y hy)
  unfold execOp; rw [ho]
  have hagg:(isAgg T).run P w=.ok false w:=by
   unfold isAgg
   rw [Sem.run_bind,run_underlying hu w]
   cases d <;> simp_all
  simp [Instr.loadAt,Instr.sureAddr,he,loadVar,hagg,load,Sem.run,hcell]
theorem zmh (T:TypeId) (x:Operand) (d:TypeDesc) (hu:P.underlying T=some d) (hr:d.isRow=true) (sz:Nat) (hs:(P.info? T).map (·.size)=some sz) (xs:List AV) (j:Nat) (hx:(zak x).ev tm=.prow xs j) (hc:j + sz ≤ xs.length)
  (h:K objs (.agg ((xs.drop j).take sz))):zaW P C (.load T x) type objs tm K :=
 zag _ h fun G I a w hm hd op ho ht => by
  have h1:=zaf hd x; rw [hx] at h1; simp only [Den] at h1
  obtain ⟨g,off,ys,he,k3,k4,k5⟩:=h1
  have hl:=k3.length
  refine ⟨.agg ((ys.drop j).take sz).toArray,?_,?_⟩
  ·unfold execOp; rw [ho]
   have:=run_loadAt_mid (P:=P) w g (off + j) T ((ys.drop j).take sz) d ?_ hu hr (by rw [hs]; simp; omega)
   ·simp [he,this]
   ·intro i v hi
    rw [List.getElem?_take] at hi
    split at hi
    ·rw [List.getElem?_drop] at hi
     rw [Nat.add_assoc]
     exact hm.imm _ _ _ (k5 (j + i) v hi)
    ·cases hi
  ·simp only [Den]
   exact ⟨_,rfl,zae.take sz (zae.drop j k3),fun u hu => k4 u (List.mem_of_mem_drop (List.mem_of_mem_take hu))⟩
theorem ok_store (T:TypeId) (x y:Operand) (sz:Nat) (hs:(P.info? T).map (·.size)=some sz) (b off:Nat) (B:TypeId) (cs:List AV) (hx:(zak x).ev tm=.p b off) (hb:objs[b]? = some (.box B cs)) (hf:((zak y).ev tm).flat=true) (hv:((zak y).ev tm).cells.length=sz) (hc:off + sz ≤ cs.length)
  (h:K (objs.set b (.box B (zaM cs off ((zak y).ev tm).cells))) .u):zaW P C (.store T x y) type objs tm K:=by
 intro G I a w hin hm hd op next Q ho ht hn
 obtain ⟨d1,d2⟩:=zdG (zaf hd y) hf
 have h1:=zaf hd x; rw [hx] at h1; simp only [Den] at h1
 obtain ⟨g,hg,he⟩:=h1
 obtain ⟨k1,k2⟩:=setbox hin hm b g off B cs _ _ hb hg d1 d2 (by rw [hv]; exact hc)
 obtain ⟨g',ys,m1,m2,m3,m4⟩:=hm.box b B cs hb
 obtain rfl:g=g':=Option.some.inj (hg.symm.trans m1)
 have hl:=d1.length
 have hl2:=m3.length
 have hst:=run_storeCells_cells (P:=P) g off (a.eval y).cells.toList 0 w (fun j hj => by
   rw [cell_of_row w g (off + 0 + j) _ B (0,0) m2]; simp; omega) (fun j hj => by simp [World.frozen?,m2]) d2
 refine zfL (w':=w.setCells g off (a.eval y).cells.toList) ?_ (hn _ .u undef G I _ h (Gh.le.refl G) (Imm.le.refl I) k1 k2 (by simp [Den]))
 unfold execOp; rw [ho]
 cases hi:P.info? T with
 | none => rw [hi] at hs; cases hs
 | some i =>
  rw [hi] at hs
  have hsz:i.size=sz:=by simpa using hs
  have hz:(a.eval y).cells.size=i.size:=by rw [hsz,← hv,hl]; simp
  simp [Instr.storeAt,Instr.sureAddr,he,storeVar,sizeOf,typeInfo,hi,hz]
  simp at hst
  simp [hst]
theorem zf2 {G:Gh} {I:Imm} {objs:List OB} {w:World} (hm:MemOk G I objs w) {b gen j E sz n:Nat} {xs:List AV} {y:Value} (hb:objs[b]? = some (.orow E sz gen n xs)) (h:Den G I (.porow b gen j) y) :
  ∃ g cap ys,y=.pointer (some ⟨g,j,none⟩) ∧ G.cur b=some (gen,.slice (some ⟨g,0,none⟩) n cap) ∧ zae G I xs ys ∧ (∀ u ∈ ys,u.oneCell'=true) ∧ (∀ i u,ys[i]? = some u → w.cell? ⟨g,i,none⟩=some u) ∧ ∃ cur,w.heap[g]? = some (.cells cur E (0,0)) ∧ n * sz ≤ cur.size ∧ ys.length=n * sz:=by
 simp only [Den] at h
 obtain ⟨g',v,g,k1,k2,rfl,k3⟩:=h
 obtain ⟨v',ys,m1,m2,m3,m4,m5⟩:=hm.row b E sz gen n xs hb
 rw [k1] at m1; injection m1 with m1; injection m1 with m1 m6
 subst m1 m6
 obtain ⟨n',c,rfl⟩:=k3 rfl
 have m2':=m2
 obtain ⟨q1,q2⟩:=m2
 rcases q2 with ⟨q2,_⟩ | ⟨g',cap',cur,q2,q3,q4,q5,q6,q7,q8⟩
 ·cases q2
 injection q2 with q2 q10 q9; injection q2 with q2; injection q2 with q2; subst q2 q9 q10
 refine ⟨g,c,ys,rfl,k1,m3,m4,fun i u hi => ?_,cur,q4,by rw [q7]; exact Nat.mul_le_mul_right _ q5,q1⟩
 have:=m2'.cells (g:=g) rfl i u hi
 rwa [zaz,Nat.zero_add] at this
theorem zmk (T:TypeId) (x:Operand) (d:TypeDesc) (hu:P.underlying T=some d) (hr:d.isRow=false) (b gen j E sz n:Nat) (xs:List AV) (v:AV) (hx:(zak x).ev tm=.porow b gen j) (hb:objs[b]? = some (.orow E sz gen n xs)) (hc:xs[j]? = some v)
  (h:K objs v):zaW P C (.load T x) type objs tm K :=
 zag _ h fun G I a w hm hd op ho ht => by
  have h1:=zaf hd x; rw [hx] at h1
  obtain ⟨g,cap,ys,he,k2,k3,k4,k5,_⟩:=zf2 hm hb h1
  obtain ⟨y,hy,hyd⟩:=zae.get j k3 hc
  refine ⟨y,?_,hyd⟩
  have hcell:=k5 j y hy
  unfold execOp; rw [ho]
  have hagg:(isAgg T).run P w=.ok false w:=by
   unfold isAgg
   rw [Sem.run_bind,run_underlying hu w]
   cases d <;> simp_all
  simp [Instr.loadAt,Instr.sureAddr,he,loadVar,hagg,load,Sem.run,hcell]
theorem zmi (T:TypeId) (x:Operand) (d:TypeDesc) (hu:P.underlying T=some d) (hr:d.isRow=true) (s:Nat) (hs:(P.info? T).map (·.size)=some s) (b gen j E sz n:Nat) (xs:List AV) (hx:(zak x).ev tm=.porow b gen j) (hb:objs[b]? = some (.orow E sz gen n xs)) (hc:j + s ≤ xs.length)
  (h:K objs (.agg ((xs.drop j).take s))):zaW P C (.load T x) type objs tm K :=
 zag _ h fun G I a w hm hd op ho ht => by
  have h1:=zaf hd x; rw [hx] at h1
  obtain ⟨g,cap,ys,he,k2,k3,k4,k5,_⟩:=zf2 hm hb h1
  have hl:=k3.length
  refine ⟨.agg ((ys.drop j).take s).toArray,?_,?_⟩
  ·unfold execOp; rw [ho]
   have:=run_loadAt_mid (P:=P) w g j T ((ys.drop j).take s) d ?_ hu hr (by rw [hs]; simp; omega)
   ·simp [he,this]
   ·intro i v hi
    rw [List.getElem?_take] at hi
    split at hi
    ·rw [List.getElem?_drop] at hi
     exact k5 (j + i) v hi
    ·cases hi
  ·simp only [Den]
   exact ⟨_,rfl,zae.take s (zae.drop j k3),fun u hu => k4 u (List.mem_of_mem_drop (List.mem_of_mem_take hu))⟩
theorem zmg (T:TypeId) (x y:Operand) (s:Nat) (hs:(P.info? T).map (·.size)=some s) (b gen j E sz n:Nat) (xs:List AV) (hx:(zak x).ev tm=.porow b gen j) (hb:objs[b]? = some (.orow E sz gen n xs)) (hf:((zak y).ev tm).flat=true) (hv:((zak y).ev tm).cells.length=s) (hc:j + s ≤ xs.length)
  (h:K (objs.set b (.orow E sz gen n (zaM xs j ((zak y).ev tm).cells))) .u):zaW P C (.store T x y) type objs tm K:=by
 intro G I a w hin hm hd op next Q ho ht hn
 obtain ⟨d1,d2⟩:=zdG (zaf hd y) hf
 have h1:=zaf hd x; rw [hx] at h1
 obtain ⟨g,cap,ys,he,hg,k3,k4,k5,cur,hcur,hcs,hys⟩:=zf2 hm hb h1
 obtain ⟨k1,k2⟩:=setrow hin hm b g j E sz gen n cap xs _ _ hb hg d1 d2 (by rw [hv]; exact hc)
 have hl:=d1.length
 have hl2:=k3.length
 have hst:=run_storeCells_cells (P:=P) g j (a.eval y).cells.toList 0 w (fun i hi => by
   have hi':j + i < cur.size:=by omega
   rw [show j + 0 + i=j + i by omega,cell_of_row w g (j + i) cur E (0,0) hcur]; simp [hi']) (fun i hi => by simp [World.frozen?,hcur]) d2
 refine zfL (w':=w.setCells g j (a.eval y).cells.toList) ?_ (hn _ .u undef G I _ h (Gh.le.refl G) (Imm.le.refl I) k1 k2 (by simp [Den]))
 unfold execOp; rw [ho]
 cases hi:P.info? T with
 | none => rw [hi] at hs; cases hs
 | some i =>
  rw [hi] at hs
  have hsz:i.size=s:=by simpa using hs
  have hz:(a.eval y).cells.size=i.size:=by rw [hsz,← hv,hl]; simp
  simp [Instr.storeAt,Instr.sureAddr,he,storeVar,sizeOf,typeInfo,hi,hz]
  simp at hst
  simp [hst]
theorem zi6 (x:Operand) (h:K objs ((zak x).ev tm)) (hx:(∃ b o,(zak x).ev tm=.p b o) ∨ (∃ xs j,(zak x).ev tm=.prow xs j) ∨ (∃ f fs cs,(zak x).ev tm=.fn f fs cs) ∨ (∃ b gen j,(zak x).ev tm=.porow b gen j)):zaW P C (.nilCheck x) type objs tm K :=
 zag _ h fun G I a w hm hd op ho ht => by
  have h1:=zaf hd x
  refine ⟨a.eval x,?_,h1⟩
  rcases hx with ⟨b,o,e⟩ | ⟨xs,j,e⟩ | ⟨f,fs,cs,e⟩ | ⟨b,gen,j,e⟩
  ·rw [e] at h1; simp only [Den] at h1
   obtain ⟨g,_,he⟩:=h1
   unfold execOp; rw [ho]; simp [he]
  ·rw [e] at h1; simp only [Den] at h1
   obtain ⟨g,off,ys,he,_⟩:=h1
   unfold execOp; rw [ho]; simp [he]
  ·rw [e] at h1; simp only [Den] at h1
   obtain ⟨us,ys,he,_⟩:=h1
   unfold execOp; rw [ho]; simp [he]
  ·rw [e] at h1; simp only [Den] at h1
   obtain ⟨_,_,g,_,_,he,_⟩:=h1
   unfold execOp; rw [ho]; simp [he]
theorem zh4 (f:FuncId) (fs cs:Array Operand) (h:K objs (.fn f (fs.toList.map fun x => (zak x).ev tm) (cs.toList.map fun x => (zak x).ev tm))):zaW P C (.makeFunc (.func f) fs cs) type objs tm K :=
 zag _ h fun G I a w hm hd op ho ht => by
  refine ⟨.func (.func f) (fs.map a.eval) (cs.map a.eval),by unfold execOp; rw [ho]; simp [Instr.makeFunc],?_⟩
  have key:∀ l:List Operand,zae G I (l.map fun x => (zak x).ev tm) (l.map a.eval):=by
   intro l
   induction l with
   | nil => exact zae.nil
   | cons x l ih => exact zae.cons (zaf hd x) ih
  simp only [Den]
  exact ⟨(fs.map a.eval).toList,(cs.map a.eval).toList,by rw [Array.toArray_toList,Array.toArray_toList],by simpa using key fs.toList,by simpa using key cs.toList⟩
theorem zks (x:Operand) (k:Nat) (cs:List AV) (v:AV) (hx:(zak x).ev tm=.tup cs) (hk:cs[k]? = some v) (h:K objs v):zaW P C (.extract x k) type objs tm K :=
 zag _ h fun G I a w hm hd op ho ht => by
  have h1:=zaf hd x; rw [hx] at h1; simp only [Den] at h1
  obtain ⟨ys,he,k3⟩:=h1
  obtain ⟨y,hy,hyd⟩:=zae.get k k3 hk
  exact ⟨y,by unfold execOp; rw [ho]; simp [he,Instr.extract,hy],hyd⟩
theorem ok_not (T:TypeId) (x:Operand) (t:Bool) (hx:(zak x).ev tm=.b t) (h:K objs (.b (!t))):zaW P C (.unOp .not T x) type objs tm K :=
 zag _ h fun G I a w hm hd op ho ht => by
  have h1:=zaf hd x; rw [hx] at h1; simp only [Den] at h1
  exact ⟨.bool (!t),by unfold execOp; rw [ho]; simp [h1,Op.unary],by simp [Den]⟩
theorem ok_neg (T:TypeId) (x:Operand) (k:IntKind) (n:Int) (hx:(zak x).ev tm=.i k n) (h:K objs (.i k (k.wrap (0 - n)))):zaW P C (.unOp .neg T x) type objs tm K :=
 zag _ h fun G I a w hm hd op ho ht => by
  have h1:=zaf hd x; rw [hx] at h1; simp only [Den] at h1
  exact ⟨.int k (k.wrap (0 - n)),by unfold execOp; rw [ho]; simp [h1,Op.unary,Op.intArith],by simp [Den]⟩
theorem ok_cvi (src dst:TypeId) (x:Operand) (k j:IntKind) (n:Int) (hs:(P.underlying src).isSome=true) (hu:P.underlying dst=some (.int k)) (hx:(zak x).ev tm=.i j n) (h:K objs (.i k (k.wrap n))):zaW P C (.convert src dst x) type objs tm K :=
 zag _ h fun G I a w hm hd op ho ht => by
  have h1:=zaf hd x; rw [hx] at h1; simp only [Den] at h1
  exact ⟨.int k (k.wrap n),by
   have hk:P.intKind dst=k:=by simp [Program.intKind,hu]
   have hr:=run_convert_int (P:=P) w src dst j n hs (by rw [hk]; exact hu)
   rw [hk] at hr
   unfold execOp; rw [ho]; simp only [h1]; simp [hr],by simp [Den]⟩
theorem ok_cvs (src dst:TypeId) (x:Operand) (l:List UInt8) (hs:P.underlying src=some .string) (hu:P.underlying dst=some .string) (hx:(zak x).ev tm=.s l) (h:K objs (.s l)):zaW P C (.convert src dst x) type objs tm K :=
 zag _ h fun G I a w hm hd op ho ht => by
  have h1:=zaf hd x; rw [hx] at h1; simp only [Den] at h1
  exact ⟨.string ⟨l.toArray⟩,by unfold execOp; rw [ho]; simp [h1,convert,run_underlying hs,run_underlying hu],by simp [Den]⟩
end
def cmpZ:BinOp → Int → Int → Option Bool
 | .eql,x,y => some (decide (x=y))
 | .neq,x,y => some (decide (¬ x=y))
 | .lss,x,y => some (decide (x < y))
 | .leq,x,y => some (decide (x ≤ y))
 | .gtr,x,y => some (decide (y < x))
 | .geq,x,y => some (decide (y ≤ x))
 | _,_,_ => none
def arZ:BinOp → Int → Int → Option Int
 | .add,x,y => some (x + y)
 | .sub,x,y => some (x - y)
 | .mul,x,y => some (x * y)
 | _,_,_ => none
theorem beqd {α:Type} [DecidableEq α] (x y:α):(x == y)=decide (x=y):=by by_cases h:x=y <;> simp [h]
def svb (tm:List AV) (d:Int):Option Operand → Option Int
 | none => some d
 | some x => match (zak x).ev tm with
  | .i _ n => some n
  | _ => none
theorem zn7 (l:List UInt8) (i j:Nat):(⟨l.toArray⟩:ByteArray).extract i j=⟨((l.take j).drop i).toArray⟩:=by
 have:((⟨l.toArray⟩:ByteArray).extract i j).data=((l.take j).drop i).toArray:=by
  rw [ByteArray.data_extract]
  apply Array.ext'
  simp only [Array.toList_extract,List.extract_eq_take_drop]
  rw [List.drop_take]
 exact congrArg ByteArray.mk this
theorem zgv (l:List UInt8):(⟨l.toArray⟩:ByteArray).size=l.length:=by simp [ByteArray.size]
section
variable {P:Program} {C:Cx} {type:TypeId} {objs:List OB} {tm:List AV} {K:List OB → AV → Prop}
theorem zfs (op:BinOp) (T T':TypeId) (x y:Operand) (k:IntKind) (m n:Int) (r:Bool) (hx:(zak x).ev tm=.i k m) (hy:(zak y).ev tm=.i k n) (hr:cmpZ op m n=some r) (h:K objs (.b r)):zaW P C (.binOp op T x y T') type objs tm K :=
 zag _ h fun G I a w hm hd o ho ht => by
  have h1:=zaf hd x; rw [hx] at h1; simp only [Den] at h1
  have h2:=zaf hd y; rw [hy] at h2; simp only [Den] at h2
  refine ⟨.bool r,?_,by simp [Den]⟩
  unfold execOp; rw [ho]
  cases op <;> simp only [cmpZ,Option.some.injEq,reduceCtorEq] at hr <;> subst hr <;> simp [h1,h2,eqGuard,binOp,Op.intCmp,bne,beqd]
theorem zmo (op:BinOp) (T T':TypeId) (x y:Operand) (k:IntKind) (m n r:Int) (hx:(zak x).ev tm=.i k m) (hy:(zak y).ev tm=.i k n) (hr:arZ op m n=some r) (h:K objs (.i k (k.wrap r))):zaW P C (.binOp op T x y T') type objs tm K :=
 zag _ h fun G I a w hm hd o ho ht => by
  have h1:=zaf hd x; rw [hx] at h1; simp only [Den] at h1
  have h2:=zaf hd y; rw [hy] at h2; simp only [Den] at h2
  refine ⟨.int k (k.wrap r),?_,by simp [Den]⟩
  unfold execOp; rw [ho]
  cases op <;> simp only [arZ,Option.some.injEq,reduceCtorEq] at hr <;> subst hr <;> simp [h1,h2,eqGuard,binOp,Op.intArith]
theorem ok_quo (T T':TypeId) (x y:Operand) (k:IntKind) (m n:Int) (hx:(zak x).ev tm=.i k m) (hy:(zak y).ev tm=.i k n) (hn:n ≠ 0) (h:K objs (.i k (k.wrap (m.tdiv n)))):zaW P C (.binOp .quo T x y T') type objs tm K :=
 zag _ h fun G I a w hm hd o ho ht => by
  have h1:=zaf hd x; rw [hx] at h1; simp only [Den] at h1
  have h2:=zaf hd y; rw [hy] at h2; simp only [Den] at h2
  refine ⟨.int k (k.wrap (m.tdiv n)),?_,by simp [Den]⟩
  unfold execOp; rw [ho]; simp [h1,h2,eqGuard,binOp,Op.intDiv,hn]
theorem ok_rem (T T':TypeId) (x y:Operand) (k:IntKind) (m n:Int) (hx:(zak x).ev tm=.i k m) (hy:(zak y).ev tm=.i k n) (hn:n ≠ 0) (h:K objs (.i k (m.tmod n))):zaW P C (.binOp .rem T x y T') type objs tm K :=
 zag _ h fun G I a w hm hd o ho ht => by
  have h1:=zaf hd x; rw [hx] at h1; simp only [Den] at h1
  have h2:=zaf hd y; rw [hy] at h2; simp only [Den] at h2
  refine ⟨.int k (m.tmod n),?_,by simp [Den]⟩
  unfold execOp; rw [ho]; simp [h1,h2,eqGuard,binOp,Op.intDiv,hn]
theorem ok_cat (T T':TypeId) (x y:Operand) (l m:List UInt8) (hx:(zak x).ev tm=.s l) (hy:(zak y).ev tm=.s m) (hl:l.length + m.length ≤ 9223372036854775807) (h:K objs (.s (l ++ m))):zaW P C (.binOp .add T x y T') type objs tm K :=
 zag _ h fun G I a w hm hd o ho ht => by
  have h1:=zaf hd x; rw [hx] at h1; simp only [Den] at h1
  have h2:=zaf hd y; rw [hy] at h2; simp only [Den] at h2
  refine ⟨.string ⟨(l ++ m).toArray⟩,?_,by simp [Den]⟩
  unfold execOp; rw [ho]
  have hs:=run_string_add_sum (P:=P) w ⟨l.toArray⟩ ⟨m.toArray⟩ (by rw [zgv,zgv]; exact hl)
  have e:(⟨l.toArray⟩ ++ ⟨m.toArray⟩:ByteArray)=⟨(l ++ m).toArray⟩:=by
   apply ByteArray.ext; simp [ByteArray.data_append]
  rw [e] at hs
  simp [h1,h2,eqGuard,binOp,hs]
theorem ok_seq (op:BinOp) (T T':TypeId) (x y:Operand) (l m:List UInt8) (r:Bool) (hx:(zak x).ev tm=.s l) (hy:(zak y).ev tm=.s m) (hr:(op=.eql ∧ r=decide (l=m)) ∨ (op=.neq ∧ r=decide (¬ l=m))) (h:K objs (.b r)):zaW P C (.binOp op T x y T') type objs tm K :=
 zag _ h fun G I a w hm hd o ho ht => by
  have h1:=zaf hd x; rw [hx] at h1; simp only [Den] at h1
  have h2:=zaf hd y; rw [hy] at h2; simp only [Den] at h2
  refine ⟨.bool r,?_,by simp [Den]⟩
  unfold execOp; rw [ho]
  have e1:(⟨l.toArray⟩:ByteArray).toList=l:=by rw [ByteArray.toList_eq]
  have e2:(⟨m.toArray⟩:ByteArray).toList=m:=by rw [ByteArray.toList_eq]
  rcases hr with ⟨rfl,rfl⟩ | ⟨rfl,rfl⟩ <;> (simp [h1,h2,eqGuard,binOp,Op.stringOp,e1,e2,beqd]; try (by_cases hh:l=m <;> simp [hh]))
theorem ok_beq (op:BinOp) (T T':TypeId) (x y:Operand) (l m r:Bool) (hu:P.underlying T=some .bool) (hx:(zak x).ev tm=.b l) (hy:(zak y).ev tm=.b m) (hr:(op=.eql ∧ r=(l == m)) ∨ (op=.neq ∧ r=!(l == m))) (h:K objs (.b r)):zaW P C (.binOp op T x y T') type objs tm K :=
 zag _ h fun G I a w hm hd o ho ht => by
  have h1:=zaf hd x; rw [hx] at h1; simp only [Den] at h1
  have h2:=zaf hd y; rw [hy] at h2; simp only [Den] at h2
  refine ⟨.bool r,?_,by simp [Den]⟩
  unfold execOp; rw [ho]
  have hs:=run_equal_bool (P:=P) w T l m hu
  rcases hr with ⟨rfl,rfl⟩ | ⟨rfl,rfl⟩ <;> simp [h1,h2,eqGuard,binOp,hs]
theorem ok_idx (T:TypeId) (x y:Operand) (l:List UInt8) (k:IntKind) (n:Int) (hu:P.underlying T=some .string) (hx:(zak x).ev tm=.s l) (hy:(zak y).ev tm=.i k n) (h0:0 ≤ n) (h1:n < l.length) (h:K objs (.i .u8 ((l.getD n.toNat 0).toNat:Int))):zaW P C (.index T x y) type objs tm K :=
 zag _ h fun G I a w hm hd o ho ht => by
  have e1:=zaf hd x; rw [hx] at e1; simp only [Den] at e1
  have e2:=zaf hd y; rw [hy] at e2; simp only [Den] at e2
  refine ⟨.int .u8 ((l.getD n.toNat 0).toNat:Int),?_,by simp [Den]⟩
  unfold execOp; rw [ho]
  have hlt:n.toNat < l.length:=by omega
  have hg:(⟨l.toArray⟩:ByteArray)[n.toNat]? = some (l.getD n.toNat 0):=by
   rw [getElem?_pos _ _ (by rw [zgv]; exact hlt)]
   rw [List.getD_eq_getElem?_getD,List.getElem?_eq_getElem hlt]; rfl
  simp [e1,e2,Instr.index,asIntOf,run_underlying hu,h0,hg]
theorem ok_slcs (T:TypeId) (x:Operand) (lo hi:Option Operand) (l:List UInt8) (i j:Int) (hu:P.underlying T=some .string) (hx:(zak x).ev tm=.s l) (hlo:svb tm 0 lo=some i) (hhi:svb tm l.length hi=some j) (h0:0 ≤ i) (h1:i ≤ j) (h2:j ≤ l.length)
  (h:K objs (.s ((l.take j.toNat).drop i.toNat))):zaW P C (.slice T x lo hi none) type objs tm K :=
 zag _ h fun G I a w hm hd o ho ht => by
  have e1:=zaf hd x; rw [hx] at e1; simp only [Den] at e1
  refine ⟨.string ⟨((l.take j.toNat).drop i.toNat).toArray⟩,?_,by simp [Den]⟩
  unfold execOp; rw [ho]
  have hsl:=zgv l
  have hb:∀ (d:Int) (z:Option Operand) (q:Int),svb tm d z=some q → z=none ∧ q=d ∨ ∃ u k,z=some u ∧ a.eval u=.int k q:=by
   intro d z q hz
   cases z with
   | none => simp [svb] at hz; exact .inl ⟨rfl,hz.symm⟩
   | some u =>
    simp only [svb] at hz
    split at hz
    ·rename_i k n hn
     have e:=zaf hd u; rw [hn] at e; simp only [Den] at e
     injection hz with hz; subst hz
     exact .inr ⟨u,k,rfl,e⟩
    ·cases hz
  rw [← zn7]
  rcases hb _ _ _ hlo with ⟨rfl,rfl⟩ | ⟨u,k,rfl,e2⟩ <;> rcases hb _ _ _ hhi with ⟨rfl,rfl⟩ | ⟨v,k',rfl,e3⟩
  ·simp [e1,run_sliceAt_string w T _ _ _ _ hu,run_slice_string_all w T _ hu,hsl]
  ·have:=run_slice_string_h (P:=P) w T ⟨l.toArray⟩ hu k' j (by omega) (by rw [hsl]; exact h2)
   simp [e1,e3,run_sliceAt_string w T _ _ _ _ hu,this]
  ·have:=run_slice_string_l (P:=P) w T ⟨l.toArray⟩ hu k i (by omega) (by rw [hsl]; omega)
   simp [e1,e2,run_sliceAt_string w T _ _ _ _ hu,this,hsl]
  ·have:=run_slice_string (P:=P) w T ⟨l.toArray⟩ k k' i j hu h0 h1 (by rw [hsl]; exact h2)
   simp [e1,e2,e3,run_sliceAt_string w T _ _ _ _ hu,this]
theorem ok_lens (T:TypeId) (ty:TypeId) (x:Operand) (l:List UInt8) (hu:P.underlying T=some .string) (hx:(zak x).ev tm=.s l) (h:K objs (.i .i64 l.length)):zaW P C (.call { callee:=.builtin .len,args:=#[x],argTypes:=#[T] }) ty objs tm K :=
 zag _ h fun G I a w hm hd o ho ht => by
  have e1:=zaf hd x; rw [hx] at e1; simp only [Den] at e1
  refine ⟨.int .i64 l.length,?_,by simp [Den]⟩
  unfold execOp; rw [ho]
  simp [resolve,invoke,builtin,Builtin.len_,e1,run_underlying hu,goInt,zgv]
theorem zf5 (T:TypeId) (ty:TypeId) (x:Operand) (e:TypeId) (n:Nat) (hu:P.underlying T=some (.slice e))
  (hx:(∃ xs,(zak x).ev tm=.row n xs) ∨ ((zak x).ev tm=.nil ∧ n=0) ∨ (∃ z,(zak x).ev tm=.zn z ∧ n=0) ∨ (∃ b gen E sz xs,(zak x).ev tm=.orow b gen ∧ objs[b]? = some (.orow E sz gen n xs))) (h:K objs (.i .i64 n)):zaW P C (.call { callee:=.builtin .len,args:=#[x],argTypes:=#[T] }) ty objs tm K :=
 zag _ h fun G I a w hm hd o ho ht => by
  have e1:=zaf hd x
  refine ⟨.int .i64 n,?_,by simp [Den]⟩
  have hv:∃ q c,a.eval x=.slice q n c:=by
   rcases hx with ⟨xs,hx⟩ | ⟨hx,rfl⟩ | ⟨z,hx,rfl⟩ | ⟨b,gen,E,sz,xs,hx,hb⟩
   ·rw [hx] at e1; simp only [Den] at e1
    obtain ⟨q,c,ys,e,_⟩:=e1; exact ⟨q,c,e⟩
   ·rw [hx] at e1; simp only [Den] at e1; exact ⟨none,0,e1⟩
   ·rw [hx] at e1; simp only [Den] at e1; obtain ⟨q,c,e,_⟩:=e1; exact ⟨q,c,e⟩
   ·rw [hx] at e1; simp only [Den] at e1
    obtain ⟨g',v,k1,k2,k3,_⟩:=e1
    obtain ⟨v',ys,m1,m2,_⟩:=hm.row b E sz gen n xs hb
    rw [k1] at m1; injection m1 with m1; injection m1 with m1 m3
    have:=k3 m1.symm
    subst m3
    rcases m2.2 with ⟨rfl,rfl⟩ | ⟨g,cap,cur,rfl,_⟩
    ·exact ⟨none,0,this⟩
    ·exact ⟨_,cap,this⟩
  obtain ⟨q,c,hv⟩:=hv
  unfold execOp; rw [ho]
  simp [resolve,invoke,builtin,Builtin.len_,hv,run_underlying hu,goInt]
theorem zml (T:TypeId) (x:Operand) (k:Nat) (fs:Array Field) (f:Field) (fz:Nat) (v:AV) (hu:P.underlying T=some (.struct fs)) (hf:fs[k]? = some f) (hz:(P.info? f.type).map (·.size)=some fz) (h0:fz ≠ 0)
  (hv:(∃ b off,(zak x).ev tm=.p b off ∧ v=.p b (off + f.offset)) ∨ (∃ xs j,(zak x).ev tm=.prow xs j ∧ v=.prow xs (j + f.offset)) ∨ (∃ b gen j,(zak x).ev tm=.porow b gen j ∧ v=.porow b gen (j + f.offset))) (h:K objs v):zaW P C (.fieldAddr T x k) type objs tm K :=
 zag _ h fun G I a w hm hd o ho ht => by
  have e1:=zaf hd x
  have hp:∀ g o':Nat,(fieldPlace ⟨g,o',none⟩ f).run P w=.ok ⟨g,o' + f.offset,none⟩ w:=by
   intro g o'
   cases hi:P.info? f.type with
   | none => rw [hi] at hz; cases hz
   | some i =>
    rw [hi] at hz
    have:i.size ≠ 0:=by simp at hz; omega
    simp [fieldPlace,sizeOf,typeInfo,hi,this,zaz]
  rcases hv with ⟨b,off,hx,rfl⟩ | ⟨xs,j,hx,rfl⟩ | ⟨b,gen,j,hx,rfl⟩
  ·rw [hx] at e1; simp only [Den] at e1
   obtain ⟨g,hg,he⟩:=e1
   refine ⟨.pointer (some ⟨g,off + f.offset,none⟩),?_,by simp only [Den]; exact ⟨g,hg,rfl⟩⟩
   unfold execOp; rw [ho]
   simp [Instr.fieldAt,run_underlying hu,hf,he,Instr.sureAddr,hp]
  ·rw [hx] at e1; simp only [Den] at e1
   obtain ⟨g,off,ys,he,k3,k4,k5⟩:=e1
   refine ⟨.pointer (some ⟨g,off + (j + f.offset),none⟩),?_,by simp only [Den]; exact ⟨g,off,ys,rfl,k3,k4,k5⟩⟩
   unfold execOp; rw [ho]
   simp [Instr.fieldAt,run_underlying hu,hf,he,Instr.sureAddr,hp,Nat.add_assoc]
  ·rw [hx] at e1; simp only [Den] at e1
   obtain ⟨g',v,g,hg,hle,he,hn⟩:=e1
   refine ⟨.pointer (some ⟨g,j + f.offset,none⟩),?_,by simp only [Den]; exact ⟨g',v,g,hg,hle,rfl,hn⟩⟩
   unfold execOp; rw [ho]
   simp [Instr.fieldAt,run_underlying hu,hf,he,Instr.sureAddr,hp]
theorem zcS {T:TypeId} {d:TypeDesc} (hu:P.underlying T=some d) (w:World):(isAgg T).run P w=.ok d.isRow w:=by
 unfold isAgg
 rw [Sem.run_bind,run_underlying hu w]
 cases d <;> simp_all
theorem ok_fld1 (T:TypeId) (x:Operand) (k:Nat) (fs:Array Field) (f:Field) (d:TypeDesc) (cs:List AV) (v:AV) (hu:P.underlying T=some (.struct fs)) (hf:fs[k]? = some f) (hd':P.underlying f.type=some d) (hr:d.isRow=false) (hx:(zak x).ev tm=.agg cs) (hc:cs[f.offset]? = some v) (h:K objs v) :
  zaW P C (.field T x k) type objs tm K :=
 zag _ h fun G I a w hm hd o ho ht => by
  have e1:=zaf hd x; rw [hx] at e1; simp only [Den] at e1
  obtain ⟨ys,he,k3,k4⟩:=e1
  obtain ⟨y,hy,hyd⟩:=zae.get f.offset k3 hc
  refine ⟨y,?_,hyd⟩
  unfold execOp; rw [ho]
  simp [Instr.field,run_underlying hu,hf,he,asAgg,part,zcS hd',hr,hy]
theorem ok_fldn (T:TypeId) (x:Operand) (k:Nat) (fs:Array Field) (f:Field) (d:TypeDesc) (sz:Nat) (cs:List AV) (hu:P.underlying T=some (.struct fs)) (hf:fs[k]? = some f) (hd':P.underlying f.type=some d) (hr:d.isRow=true) (hs:(P.info? f.type).map (·.size)=some sz) (hx:(zak x).ev tm=.agg cs) (h:K objs (.agg ((cs.drop f.offset).take sz))) :
  zaW P C (.field T x k) type objs tm K :=
 zag _ h fun G I a w hm hd o ho ht => by
  have e1:=zaf hd x; rw [hx] at e1; simp only [Den] at e1
  obtain ⟨ys,he,k3,k4⟩:=e1
  refine ⟨.agg ((ys.drop f.offset).take sz).toArray,?_,?_⟩
  ·unfold execOp; rw [ho]
   cases hi:P.info? f.type with
   | none => rw [hi] at hs; cases hs
   | some i =>
    rw [hi] at hs
    have hsz:i.size=sz:=by simpa using hs
    have e:(ys.toArray.extract f.offset (f.offset + sz))=((ys.drop f.offset).take sz).toArray:=by
     apply Array.ext'
     simp [List.extract_eq_take_drop]
    simp [Instr.field,run_underlying hu,hf,he,asAgg,part,zcS hd',hr,sizeOf,typeInfo,hi,hsz]
  ·simp only [Den]
   exact ⟨_,rfl,zae.take sz (zae.drop _ k3),fun u hu => k4 u (List.mem_of_mem_drop (List.mem_of_mem_take hu))⟩
theorem ok_iada (T:TypeId) (x y:Operand) (e:TypeId) (sz len b off:Nat) (k:IntKind) (i:Int) (hu:P.underlying T=some (.array len e)) (hs:(P.info? e).map (·.size)=some sz) (hx:(zak x).ev tm=.p b off) (hy:(zak y).ev tm=.i k i) (h0:0 ≤ i) (h1:i < len) (hz:0 < sz)
  (h:K objs (.p b (off + i.toNat * sz))):zaW P C (.indexAddr T x y) type objs tm K :=
 zag _ h fun G I a w hm hd o ho ht => by
  have e1:=zaf hd x; rw [hx] at e1; simp only [Den] at e1
  have e2:=zaf hd y; rw [hy] at e2; simp only [Den] at e2
  obtain ⟨g,hg,he⟩:=e1
  refine ⟨.pointer (some ⟨g,off + i.toNat * sz,none⟩),?_,?_⟩
  ·unfold execOp; rw [ho]
   cases hi:P.info? e with
   | none => rw [hi] at hs; cases hs
   | some inf =>
    rw [hi] at hs
    have hsz:inf.size=sz:=by simpa using hs
    simp [e2,he,Instr.indexAt,asIntOf,run_underlying hu,h0,h1,sizeOf,typeInfo,hi,hsz,zaz,Instr.sureAddr]
  ·simp only [Den]
   exact ⟨g,hg,rfl⟩
theorem ok_iad (T:TypeId) (x y:Operand) (e:TypeId) (sz n:Nat) (xs:List AV) (k:IntKind) (i:Int) (hu:P.underlying T=some (.slice e)) (hs:(P.info? e).map (·.size)=some sz) (hx:(zak x).ev tm=.row n xs) (hy:(zak y).ev tm=.i k i) (h0:0 ≤ i) (h1:i < n) (hl:n * sz ≤ xs.length) (hz:0 < sz)
  (h:K objs (.prow xs (i.toNat * sz))):zaW P C (.indexAddr T x y) type objs tm K :=
 zag _ h fun G I a w hm hd o ho ht => by
  have e1:=zaf hd x; rw [hx] at e1; simp only [Den] at e1
  have e2:=zaf hd y; rw [hy] at e2; simp only [Den] at e2
  obtain ⟨q,c,ys,he,hnc,k3,k4,k5⟩:=e1
  have hlen:=k3.length
  have hpos:0 < n * sz:=Nat.mul_pos (by omega) hz
  have hy0:ys[0]? = some (ys[0]'(by omega)):=List.getElem?_eq_getElem (by omega)
  obtain ⟨g,off,rfl,_⟩:=k5 0 _ hy0
  refine ⟨.pointer (some ⟨g,off + i.toNat * sz,none⟩),?_,?_⟩
  ·unfold execOp; rw [ho]
   cases hi:P.info? e with
   | none => rw [hi] at hs; cases hs
   | some inf =>
    rw [hi] at hs
    have hsz:inf.size=sz:=by simpa using hs
    simp [e2,he,Instr.indexAt,asIntOf,run_underlying hu,h0,h1,sizeOf,typeInfo,hi,hsz,zaz]
  ·simp only [Den]
   refine ⟨g,off,ys,rfl,k3,k4,fun j u hj => ?_⟩
   obtain ⟨g',off',e,hi⟩:=k5 j u hj
   injection e with e; injection e with e4 e5; subst e4 e5
   exact hi
theorem ok_iado (T:TypeId) (x y:Operand) (e:TypeId) (sz n b gen E:Nat) (xs:List AV) (k:IntKind) (i:Int) (hu:P.underlying T=some (.slice e)) (hs:(P.info? e).map (·.size)=some sz) (hx:(zak x).ev tm=.orow b gen) (hb:objs[b]? = some (.orow E sz gen n xs)) (hy:(zak y).ev tm=.i k i) (h0:0 ≤ i) (h1:i < n)
  (h:K objs (.porow b gen (i.toNat * sz))):zaW P C (.indexAddr T x y) type objs tm K :=
 zag _ h fun G I a w hm hd o ho ht => by
  have e1:=zaf hd x; rw [hx] at e1; simp only [Den] at e1
  have e2:=zaf hd y; rw [hy] at e2; simp only [Den] at e2
  obtain ⟨g',v,k1,k2,k3,_⟩:=e1
  obtain ⟨v',ys,m1,m2,m3,m4,m5⟩:=hm.row b E sz gen n xs hb
  rw [k1] at m1; injection m1 with m1; injection m1 with m1 m6
  have hv:=k3 m1.symm
  subst m1 m6
  rcases m2.2 with ⟨rfl,h0'⟩ | ⟨g,cap,cur,rfl,q3,q4,q5,q6,q7,q8⟩
  ·omega
  refine ⟨.pointer (some ⟨g,i.toNat * sz,none⟩),?_,?_⟩
  ·unfold execOp; rw [ho]
   cases hi:P.info? e with
   | none => rw [hi] at hs; cases hs
   | some inf =>
    rw [hi] at hs
    have hsz:inf.size=sz:=by simpa using hs
    simp [e2,hv,Instr.indexAt,asIntOf,run_underlying hu,h0,h1,sizeOf,typeInfo,hi,hsz,zaz]
  ·simp only [Den]
   exact ⟨_,_,g,k1,Nat.le_refl _,rfl,fun _ => ⟨n,cap,rfl⟩⟩
end
end Go.Proofs.YtadhjoggdbhkgaaGreatDoor.Sx
