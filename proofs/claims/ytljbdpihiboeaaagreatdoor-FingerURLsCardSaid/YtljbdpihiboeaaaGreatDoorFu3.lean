/- The texts that the proofs of these statements reach, in their order, as few files. -/
import Derived.Laws.BytesArg
import Derived.Laws.IdiomStrings
import Derived.Lib.ConvBytes
import Derived.Lib.AppendStr
import Derived.Lib.LaidTab
import Derived.Lib.ItoaNum
import Derived.ChangeAgain
import Derived.Laws.Rows
import Derived.Lib.ItoaMem
import Derived.Lib.ItoaLen
import Derived.Lib.Walk
import Derived.Lib.ItoaWalk
import Derived.Lib.AppendIntMem
import Derived.BigCall
import Derived.BigGuard
import Derived.Test.YtljbdpihiboeaaaGreatDoorProg
import Derived.Test.YtljbdpihiboeaaaGreatDoorFu2
set_option linter.unusedVariables false
set_option linter.unusedSimpArgs false
set_option maxRecDepth 100000
namespace Go.Proofs.YtljbdpihiboeaaaGreatDoor
open Go.RowKit
def ziG (c:UInt8):Bool:=decide (65 ≤ c.toNat ∧ c.toNat ≤ 90)
def za0 (c:UInt8):Bool:=decide (97 ≤ c.toNat ∧ c.toNat ≤ 122 ∨ 65 ≤ c.toNat ∧ c.toNat ≤ 90)
def zak (c:UInt8):Bool:=decide (48 ≤ c.toNat ∧ c.toNat ≤ 57)
def zbj (c:UInt8):Bool:=decide (48 ≤ c.toNat ∧ c.toNat ≤ 57 ∨ 97 ≤ c.toNat ∧ c.toNat ≤ 102 ∨ 65 ≤ c.toNat ∧ c.toNat ≤ 70)
def zbb (c:UInt8) (l:List UInt8):Bool:=l.contains c
theorem zmd (c:UInt8):zbb c []=false:=rfl
theorem beq_u8 (c d:UInt8):(c == d)=(d.toNat == c.toNat):=by
 by_cases h:c=d
 ·subst h; rw [beq_self_eq_true,beq_self_eq_true]
 ·rw [beq_eq_false_iff_ne.2 h,beq_eq_false_iff_ne.2 (fun e => h (UInt8.toNat_inj.1 e).symm)]
theorem zjY (l:List UInt8) (c d:UInt8):zbb c (l ++ [d])=(zbb c l || (d.toNat == c.toNat)):=by
 unfold zbb
 rw [← beq_u8]
 simp only [List.contains_append,List.contains_cons,List.contains_nil,Bool.or_false]
def isLD (c:UInt8):Bool:=za0 c || zak c
def zau (c:UInt8):Bool:=isLD c || zbb c [45,46,95,126]
theorem ziF (c:UInt8) (w:World) :
  Calls Tryz.prog 198 #[.int .u8 c.toNat] w fun e w' => e=.returned (.bool (ziG c)) ∧ w=w':=by
 go_enter Tryz.func198,Tryz.ntmps198
 go_wp2
 all_goals go_ret
 all_goals exact ⟨zaj (by unfold ziG; first | exact dt (by omega) | exact df (by omega) | (rw [Bool.eq_iff_iff]; simp only [Bool.or_eq_true,Bool.and_eq_true,decide_eq_true_eq]; omega)),rfl⟩
theorem zba (c:UInt8) (w:World) :
  Calls Tryz.prog 176 #[.int .u8 c.toNat] w fun e w' => e=.returned (.bool (za0 c)) ∧ w=w':=by
 go_enter Tryz.func176,Tryz.ntmps176
 go_wp2
 all_goals go_ret
 all_goals exact ⟨zaj (by unfold za0; first | exact dt (by omega) | exact df (by omega) | (rw [Bool.eq_iff_iff]; simp only [Bool.or_eq_true,Bool.and_eq_true,decide_eq_true_eq]; omega)),rfl⟩
theorem zaT (c:UInt8) (w:World) :
  Calls Tryz.prog 177 #[.int .u8 c.toNat] w fun e w' => e=.returned (.bool (zak c)) ∧ w=w':=by
 go_enter Tryz.func177,Tryz.ntmps177
 go_wp2
 all_goals go_ret
 all_goals exact ⟨zaj (by unfold zak; first | exact dt (by omega) | exact df (by omega) | (rw [Bool.eq_iff_iff]; simp only [Bool.or_eq_true,Bool.and_eq_true,decide_eq_true_eq]; omega)),rfl⟩
theorem zqI (c:UInt8) (w:World) :
  Calls Tryz.prog 257 #[.int .u8 c.toNat] w fun e w' => e=.returned (.bool (zbj c)) ∧ w=w':=by
 go_enter Tryz.func257,Tryz.ntmps257
 go_wp2
 all_goals go_ret
 all_goals exact ⟨zaj (by unfold zbj; first | exact dt (by omega) | exact df (by omega) | (rw [Bool.eq_iff_iff]; simp only [Bool.or_eq_true,Bool.and_eq_true,decide_eq_true_eq]; omega)),rfl⟩
theorem zkN (c:UInt8) (s:ByteArray) (w:World) :
  Calls Tryz.prog 152 #[.int .u8 c.toNat,.string s] w fun e w' => e=.returned (.bool (zbb c s.data.toList)) ∧ w=w':=by
 go_enter Tryz.func152,Tryz.ntmps152
 go_wp2_with (go_at_call 121; refine (Tryz.strings_IndexByte _ _ _).mono ?_; rintro e w' ⟨rfl,rfl⟩)
 go_ret
 exact ⟨zaj (by unfold zbb; rw [Lib.contains_iff_indexByte]),rfl⟩
theorem isLD_any (c:UInt8) (w:World) :
  Calls Tryz.prog 151 #[.int .u8 c.toNat] w fun e w' => e=.returned (.bool (isLD c)) ∧ w=w':=by
 go_enter Tryz.func151,Tryz.ntmps151
 go_wp2_with (first | (go_at_call 176; refine (zba _ _).mono ?_; rintro e w' ⟨rfl,rfl⟩) | (go_at_call 177; refine (zaT _ _).mono ?_; rintro e w' ⟨rfl,rfl⟩))
 all_goals go_ret
 all_goals exact ⟨zaj (by simp_all [isLD]),rfl⟩
theorem zcf (c:UInt8) (w:World) :
  Calls Tryz.prog 120 #[.int .u8 c.toNat] w fun e w' => e=.returned (.bool (zau c)) ∧ w=w':=by
 go_enter Tryz.func120,Tryz.ntmps120
 go_wp2_with (first | (go_at_call 151; refine (isLD_any _ _).mono ?_; rintro e w' ⟨rfl,rfl⟩) | (go_at_call 152; refine (zkN _ _ _).mono ?_; rintro e w' ⟨rfl,rfl⟩))
 all_goals go_ret
 all_goals exact ⟨zaj (by simp_all [zau]),rfl⟩
def zc9 (c:UInt8):UInt8:=if ziG c then c + 32 else c
theorem zjG (c:UInt8) (w:World) :
  Calls Tryz.prog 165 #[.int .u8 c.toNat] w fun e w' => e=.returned (.int .u8 (zc9 c).toNat) ∧ w=w':=by
 go_enter Tryz.func165,Tryz.ntmps165
 go_wp2_with (go_at_call 198; refine (ziF _ _).mono ?_; rintro e w' ⟨rfl,rfl⟩)
 all_goals go_ret
 ·have h:ziG c=true:=by assumption
  exact ⟨zdf (by simp [zc9,h,UInt8.toNat_add]),rfl⟩
 ·have h:ziG c=false:=by assumption
  exact ⟨zdf (by simp [zc9,h]),rfl⟩
theorem za4 (c:UInt8) (w:World) :
  Calls Tryz.prog 123 #[.int .u8 c.toNat] w fun e w' => e=.returned (.bool (za0 c)) ∧ w=w':=by
 go_enter Tryz.func123,Tryz.ntmps123
 go_wp2
 all_goals go_ret
 all_goals exact ⟨zaj (by unfold za0; first | exact dt (by omega) | exact df (by omega) | (rw [Bool.eq_iff_iff]; simp only [Bool.or_eq_true,Bool.and_eq_true,decide_eq_true_eq]; omega)),rfl⟩
theorem za3 (c:UInt8) (w:World) :
  Calls Tryz.prog 124 #[.int .u8 c.toNat] w fun e w' => e=.returned (.bool (zak c)) ∧ w=w':=by
 go_enter Tryz.func124,Tryz.ntmps124
 go_wp2
 all_goals go_ret
 all_goals exact ⟨zaj (by unfold zak; first | exact dt (by omega) | exact df (by omega) | (rw [Bool.eq_iff_iff]; simp only [Bool.or_eq_true,Bool.and_eq_true,decide_eq_true_eq]; omega)),rfl⟩
theorem zfK (c:UInt8) (w:World) :
  Calls Tryz.prog 167 #[.int .u8 c.toNat] w fun e w' => e=.returned (.bool (zbj c)) ∧ w=w':=by
 go_enter Tryz.func167,Tryz.ntmps167
 go_wp2
 all_goals go_ret
 all_goals exact ⟨zaj (by unfold zbj; first | exact dt (by omega) | exact df (by omega) | (rw [Bool.eq_iff_iff]; simp only [Bool.or_eq_true,Bool.and_eq_true,decide_eq_true_eq]; omega)),rfl⟩
theorem zb3 (c:UInt8) (s:ByteArray) (w:World) (hs:s.size ≤ maxLen) :
  Calls Tryz.prog 92 #[.int .u8 c.toNat,.string s] w fun e w' => e=.returned (.bool (zbb c s.data.toList)) ∧ w=w':=by
 unfold maxLen at hs
 go_enter Tryz.func92,Tryz.ntmps92
 go_wp2
 go_loop [5] (fun i => ∃ k:Nat,k ≤ s.size ∧ i=.int .i64 k ∧ zbb c (s.data.toList.take k)=false) (fun i => s.size - (intOf i).toNat)
 case atStart => exact ⟨0,Nat.zero_le _,rfl,zmd c⟩
 case round =>
  obtain ⟨k,hk,rfl,hno⟩:=hrel
  have HN:=Lib.hid hno
  clear hno
  by_cases hlt:k < s.size
  ·have HT:=Lib.hid (zcp s k hlt)
   go_wp2
   ·have he:(↑s[k].toNat == (↑c.toNat:Int))=true:=by assumption
    go_ret
    have h:zbb c s.data.toList=true:=by
     have h1:zbb c (s.data.toList.take (k + 1))=true:=by
      rw [HT.out,zjY]
      have:s[k].toNat=c.toNat:=by have:=eq_of_beq he; omega
      simp [this]
     unfold zbb at h1 ⊢
     rw [List.contains_iff_mem] at h1 ⊢
     exact List.mem_of_mem_take h1
    exact ⟨zaj h.symm,rfl⟩
   ·have he:(↑s[k].toNat == (↑c.toNat:Int))=false:=by assumption
    go_round
    case rel =>
     refine ⟨k + 1,by omega,by go_num,?_⟩
     rw [HT.out,zjY,HN.out]
     have:¬ s[k].toNat=c.toNat:=by intro h; simp [h] at he
     simp [this]
    case measure => simp [intOf]; omega
  ·go_wp2
   go_ret
   exact ⟨zaj (by have h:=HN.out; rw [List.take_of_length_le (by rw [zaa]; omega)] at h; rw [h]),rfl⟩
theorem zaV (c:UInt8) (w:World) :
  Calls Tryz.prog 91 #[.int .u8 c.toNat] w fun e w' => e=.returned (.bool (zau c)) ∧ w=w':=by
 go_enter Tryz.func91,Tryz.ntmps91
 go_wp2_with (first | (go_at_call 123; refine (za4 _ _).mono ?_; rintro e w' ⟨rfl,rfl⟩) | (go_at_call 124; refine (za3 _ _).mono ?_; rintro e w' ⟨rfl,rfl⟩) | (go_at_call 92; refine (zb3 _ _ _ (by decide)).mono ?_; rintro e w' ⟨rfl,rfl⟩))
 all_goals go_ret
 all_goals exact ⟨zaj (by simp_all [zau,isLD]),rfl⟩
end Go.Proofs.YtljbdpihiboeaaaGreatDoor
namespace Go.Proofs.YtljbdpihiboeaaaGreatDoor
open Go.RowKit
theorem zjT:(Tryz.prog.info? 5).map (fun i => (i.zero,i.size,i.bytes))=some (some (.int .u8 0),1,1):=by kernel_rfl
def bv (l:List UInt8):List Value:=l.map fun c => .int .u8 c.toNat
theorem zes (l:List UInt8):(bv l).length=l.length:=by simp [bv]
theorem zfs (a b:List UInt8):bv (a ++ b)=bv a ++ bv b:=by simp [bv]
theorem bv_set (l:List UInt8) (i:Nat) (c:UInt8):(bv l).set i (.int .u8 c.toNat)=bv (l.set i c):=by simp [bv,List.map_set]
theorem bv_get (l:List UInt8) (i:Nat) (h:i < l.length):(bv l)[i]? = some (.int .u8 l[i].toNat):=by simp [bv,h]
def zcg (w:World) (base:Nat) (v:Value) (l:List UInt8):Prop:=w.ownsRow base 5 1 v l.length (bv l)
theorem zcg.nil (w:World) (base:Nat):zcg w base (.slice none 0 0) []:=World.ownsRow_nil w base _ _
theorem zcg.drew {w:World} {base:Nat} {v:Value} {l:List UInt8} (h:zcg w base v l):zcg w.drew base v l:=h
theorem zcg.drewN {w:World} {base:Nat} {v:Value} {l:List UInt8} (h:zcg w base v l) (n:Nat):zcg (w.drewN n) base v l:=h
theorem zcg.alloc {w:World} {base:Nat} {v:Value} {l:List UInt8} (h:zcg w base v l) (o:Obj):zcg (w.alloc o) base v l:=World.ownsRow.alloc h o
theorem zcg.below {w w':World} {base:Nat} {v:Value} {l:List UInt8} (h:zcg w base v l) (hb:Qb w w'):zcg w' base v l:=by
 refine World.ownsRow.kept (row:=none) h ⟨hb.os,hb.tape,hb.output,Below.size hb,fun k hk _ => Below.block hb k hk⟩ ?_
 rcases h.2 with ⟨rfl,_⟩ | ⟨g,cap,cur,rfl,_⟩
 ·exact .inl rfl
 ·exact .inr (by simp [Value.ownBlock])
theorem zmi:∀ (l:List UInt8) (s:ByteArray),(l.map fun c => (c.toNat:Int)).foldl (fun r n => r.push (UInt8.ofNat n.toNat)) s=⟨s.data ++ l.toArray⟩
 | [],s => by simp
 | n :: ns,s => by
  rw [List.map_cons,List.foldl_cons,zmi ns]
  simp [ByteArray.push]
theorem zeV {w:World} {base:Nat} {v:Value} {l:List UInt8} (h:zcg w base v l) :
  (convert 24 9 v).run Tryz.prog w=.ok (.string ⟨l.toArray⟩) w:=by
 rcases h.2 with ⟨rfl,hn⟩ | ⟨g,cap,cur,rfl,hb,hg,hnc,hcm,hcs,htake⟩
 ·have:l=[]:=List.eq_nil_of_length_eq_zero hn
  subst this
  exact run_convert_bytes_nil w 24 5 Tryz.underlying24 Tryz.underlying5 0 0 _ Tryz.underlying9
 ·have hl:(loadCells ⟨g,0,none⟩ l.length).run Tryz.prog w=.ok ((l.map fun c => (c.toNat:Int)).map (Value.int .u8)).toArray w:=by
   have:=run_loadCells_list (P:=Tryz.prog) w ⟨g,0,none⟩ (bv l) (fun j v hj => World.ownsRow.cells h (g:=g) rfl j v hj)
   rw [zes] at this
   rw [this]
   simp [bv,Function.comp_def]
  rw [run_convert_bytes_string w _ _ 5 _ _ _ Tryz.underlying24 Tryz.underlying5 Tryz.underlying9,run_bytesToString w _ _ cap _ hl,zmi]
  simp [ByteArray.empty,ByteArray.emptyWithCapacity]
  rfl
def mkB (c:Nat):Array Value:=madeCells (Value.int .u8 0).cells (c * 1)
theorem mkB_size (c:Nat):(mkB c).size=c:=by unfold mkB; rw [size_madeCells]; omega
theorem mkB_list (c:Nat):(mkB c).toList=bv (List.replicate c 0):=by
 show (madeCells #[.int .u8 0] (c * 1)).toList=_
 rw [toList_madeCells_one]; simp [bv]
theorem zlP (n c:Nat) (hn:n ≤ c) (hc:c ≤ 281474976710656) (w:World) :
  (Instr.makeSlice 24 (.int .i64 (n:Int)) (.int .i64 (c:Int))).run Tryz.prog w=.ok (.slice (some ⟨w.heap.size,0,none⟩) n c) (w.alloc (.cells (mkB c) 5)):=by
 obtain ⟨i0,hi,hz0,hz1,hz2⟩:=info_parts zjT
 have hb:(i0.bytes:Int) * (c:Int) ≤ 281474976710656:=by rw [hz2]; omega
 have hr:=run_make (P:=Tryz.prog) w 24 5 i0 (.int .u8 0) Tryz.underlying24 hi hz0 .i64 .i64 n c (by omega) (by omega) hb (by omega)
 simp only [Int.toNat_natCast,hz1] at hr
 exact hr
theorem zfn (c:Nat) (hc:c ≤ 281474976710656) (w:World) :
  (Instr.makeSlice 24 (.int .i64 0) (.int .i64 (c:Int))).run Tryz.prog w=.ok (.slice (some ⟨w.heap.size,0,none⟩) 0 c) (w.alloc (.cells (mkB c) 5)) :=
 zlP 0 c (Nat.zero_le _) hc w
theorem zet (w:World) (B n c:Nat) (hB:B ≤ w.heap.size) (hn:n ≤ c) (hc:c ≤ 281474976710656) :
  zcg (w.alloc (.cells (mkB c) 5)) B (.slice (some ⟨w.heap.size,0,none⟩) n c) (List.replicate n 0):=by
 refine ⟨by simp [zes],.inr ⟨w.heap.size,c,mkB c,by simp,hB,heap_alloc_new w _,by simpa using hn,by simp only [maxLen]; omega,by rw [mkB_size]; omega,?_⟩⟩
 rw [mkB_list,List.length_replicate]
 simp [bv,List.take_replicate,Nat.min_eq_left hn]
theorem zcg.cell {w:World} {B g n cap:Nat} {l:List UInt8} (h:zcg w B (.slice (some ⟨g,0,none⟩) n cap) l) (j:Nat) (hj:j < l.length):w.cell? ⟨g,j,none⟩=some (.int .u8 l[j].toNat):=by
 have h':=h
 rcases h'.2 with ⟨e,_⟩ | ⟨g',cap',cur,e,_⟩
 ·simp at e
 ·simp only [Value.slice.injEq] at e
  obtain ⟨_,rfl,_⟩:=e
  rw [World.ownsRow.cellAt (h:World.ownsRow _ _ _ _ _ _ _) j (by omega),bv_get l j hj]
theorem zcg.frozen {w:World} {B g n cap:Nat} {l:List UInt8} (h:zcg w B (.slice (some ⟨g,0,none⟩) n cap) l) (j:Nat):w.frozen? ⟨g,j,none⟩=false:=by
 have h':=h
 rcases h'.2 with ⟨e,_⟩ | ⟨g',cap',cur,e,_⟩
 ·simp at e
 ·simp only [Value.slice.injEq] at e
  obtain ⟨_,rfl,_⟩:=e
  exact World.ownsRow.frozenAt (h:World.ownsRow _ _ _ _ _ _ _) j
theorem zcg.stored {w:World} {B g n cap:Nat} {l:List UInt8} (h:zcg w B (.slice (some ⟨g,0,none⟩) n cap) l) (j:Nat) (c:UInt8) :
  zcg (w.setCell ⟨g,j,none⟩ (.int .u8 c.toNat)) B (.slice (some ⟨g,0,none⟩) n cap) (l.set j c):=by
 have h':=h
 rcases h'.2 with ⟨e,_⟩ | ⟨g',cap',cur,e,_⟩
 ·simp at e
 ·simp only [Value.slice.injEq] at e
  obtain ⟨_,rfl,_⟩:=e
  have:=(World.ownsRow.stored (h:World.ownsRow _ _ _ _ _ _ _) j (.int .u8 c.toNat)).1
  unfold zcg
  rw [← bv_set,List.length_set]
  exact this
def Crow (w:World) (g:Nat) (l:List UInt8):Prop:=∀ j (h:j < l.length),w.cell? ⟨g,j,none⟩=some (.int .u8 l[j].toNat) ∧ w.frozen? ⟨g,j,none⟩=false
theorem zaR (g j:Nat):(⟨g,0,none⟩:Addr).add j=⟨g,j,none⟩:=by unfold Addr.add; split <;> simp_all
theorem Crow.str {w:World} {g:Nat} {l:List UInt8} (h:Crow w g l) (n cap:Nat) (hn:n=l.length) :
  (convert 24 9 (.slice (some ⟨g,0,none⟩) n cap)).run Tryz.prog w=.ok (.string ⟨l.toArray⟩) w:=by
 subst hn
 exact run_convert_bytes_back w _ _ 5 _ cap l Tryz.underlying24 Tryz.underlying5 Tryz.underlying9 (fun j hj => by rw [zaR]; exact (h j hj).1)
theorem Crow.stored {w:World} {g:Nat} {l:List UInt8} (h:Crow w g l) (k:Nat) (hk:k < l.length) (c:UInt8) :
  Crow (w.setCell ⟨g,k,none⟩ (.int .u8 c.toNat)) g (l.set k c):=by
 intro j hj
 rw [List.length_set] at hj
 refine ⟨?_,(World.frozen?_setCell _ _ _ _).trans (h j hj).2⟩
 by_cases e:k=j
 ·subst e
  rw [World.cell?_setCell_same _ _ _ (h k hj).1]
  simp
 ·rw [World.cell?_setCell_other _ _ _ _ (fun e2 => e (by injection e2)),(h j hj).1]
  simp [e]
theorem zk5 (w:World) (s:ByteArray):Crow (Lib.bytesWorld w 5 s) w.heap.size s.data.toList:=by
 intro j hj
 rw [zaa] at hj
 refine ⟨?_,?_⟩
 ·rw [Lib.bytesWorld_cell w _ s j hj,zj1 s j hj]; rfl
 ·have hs:(Lib.bytesCells w 5 s).size ≠ j:=by
   have:s.size ≤ (Lib.bytesCells w 5 s).size:=by
    simp only [Lib.bytesCells,Array.size_append,Array.size_map]
    exact Nat.le_add_right _ _
   omega
  simp [World.frozen?,Lib.bytesWorld_at_new]
  omega
theorem ziu (w:World) (e:TypeId) (s:ByteArray):Qb w (Lib.bytesWorld w e s):=by
 refine ⟨rfl,rfl,rfl,by rw [Lib.bytesWorld_size]; omega,fun k hk => Lib.bytesWorld_at_old w e s k hk⟩
theorem znx (s:ByteArray) (w:World) :
  (convert 9 24 (.string s)).run Tryz.prog w=.ok (.slice (some ⟨w.heap.size,0,none⟩) s.size (grownCap w s.size 0 5)) (Lib.bytesWorld w 5 s) :=
 Lib.run_convert_string_bytes w _ _ _ s Tryz.underlying9 Tryz.underlying24 Tryz.underlying5
theorem zcg.appended {w':World} {B:Nat} {v':Value} {l m:List UInt8} {xs:List Value} {n:Nat} (h:w'.ownsRow B 5 1 v' n xs) (hx:xs=bv (l ++ m)) (hn:n=(l ++ m).length):zcg w' B v' (l ++ m):=by
 subst hx hn; exact h
theorem bv_one (vs:List UInt8):∀ u ∈ bv vs,u.oneCell'=true:=by
 intro u hu
 obtain ⟨c,_,rfl⟩:=List.mem_map.1 hu
 rfl
theorem zdz {w w':World} {B:Nat} {v:Value} {l:List UInt8} (h:zcg w B v l) (hB:B ≤ w.heap.size) (hg:w.grownBy w' v.ownBlock):Below B w w' :=
 (Below.refl B w).grown hg hB (fun k hk => (World.ownsRow.lt h k hk).1)
theorem zaN {w:World} {ops:Array Oper} {rest:List Oper} {o:Oper} {a:Act} {Q:Exit → Act → World → Prop} (hgd:o.guard=none) (s x:Operand)
  (ho:o.op=.call { callee:=.builtin .append,args:=#[s,x],argTypes:=#[24,24] })
  (B:Nat) (v:Value) (l m:List UInt8) (hs:a.eval s=v) (hrow:zcg w B v l) (ad:Addr) (n c:Nat) (hx:a.eval x=.slice (some ad) n c) (hn:n=m.length)
  (hnews:∀ j u,(bv m)[j]? = some u → w.cell? (ad.add j)=some u) (hlen:l.length + m.length ≤ 140737488355328) (hB:B ≤ w.heap.size)
  (h:∀ v' w',zcg w' B v' (l ++ m) → Below B w w' → wpList Tryz.prog ops Q rest (a.put o.dst v') w'):wpList Tryz.prog ops Q (o :: rest) a w:=by
 obtain ⟨i0,hi,hz0,hz1,hz2⟩:=info_parts zjT
 subst hn
 exact wpList_append_own w hgd s x _ ho B 5 i0 _ 1 1 Tryz.underlying24 hi hz0 hz1 hz2 rfl (by omega) v l.length (bv l) hs hrow ad m.length c (bv m) hx (by rw [zes]; omega) hnews (bv_one m)
  (by simp only [maxLen]; omega) (by omega) hB fun v' w' h1 h2 _ => h v' w' (zcg.appended h1 (zfs l m).symm (by simp)) (zdz hrow hB h2)
theorem zgx {w:World} {ops:Array Oper} {o:Oper} {a:Act} {K:Act → World → Prop} {Q:Exit → Act → World → Prop} {E:Prop} (hgd:o.guard=none) (s x:Operand)
  (ho:o.op=.call { callee:=.builtin .append,args:=#[s,x],argTypes:=#[24,24] })
  (B:Nat) (v:Value) (l m:List UInt8) (hs:a.eval s=v) (hrow:zcg w B v l) (ad:Addr) (n c:Nat) (hx:a.eval x=.slice (some ad) n c) (hn:n=m.length)
  (hnews:∀ j u,(bv m)[j]? = some u → w.cell? (ad.add j)=some u) (hlen:l.length + m.length ≤ 140737488355328) (hB:B ≤ w.heap.size)
  (h:∀ v' w',zcg w' B v' (l ++ m) → Below B w w' → K (a.put o.dst v') w'):if Region.wanted o (yielded ops a.tmps)=true then Oper.wp Tryz.prog o a w K Q else E:=by
 have hw:Region.wanted o (yielded ops a.tmps)=true:=by simp [Region.wanted,hgd]
 rw [if_pos hw]
 obtain ⟨i0,hi,hz0,hz1,hz2⟩:=info_parts zjT
 subst hn
 exact wp_append_own w s x _ ho B 5 i0 _ 1 1 Tryz.underlying24 hi hz0 hz1 hz2 rfl (by omega) v l.length (bv l) hs hrow ad m.length c (bv m) hx (by rw [zes]; omega) hnews (bv_one m)
  (by simp only [maxLen]; omega) (by omega) hB fun v' w' h1 h2 _ => h v' w' (zcg.appended h1 (zfs l m).symm (by simp)) (zdz hrow hB h2)
theorem zgv (s:ByteArray):Lib.strCells s=bv s.data.toList:=by simp [Lib.strCells,bv]
theorem zfz {w:World} {ops:Array Oper} {rest:List Oper} {o:Oper} {a:Act} {Q:Exit → Act → World → Prop} (hgd:o.guard=none) (sl x:Operand)
  (ho:o.op=.call { callee:=.builtin .append,args:=#[sl,x],argTypes:=#[24,9] })
  (B:Nat) (v:Value) (l:List UInt8) (hs:a.eval sl=v) (hrow:zcg w B v l) (s:ByteArray) (hx:a.eval x=.string s)
  (hlen:l.length + s.size ≤ 140737488355328) (hB:B ≤ w.heap.size)
  (h:∀ v' w',zcg w' B v' (l ++ s.data.toList) → Below B w w' → wpList Tryz.prog ops Q rest (a.put o.dst v') w'):wpList Tryz.prog ops Q (o :: rest) a w:=by
 obtain ⟨i0,hi,hz0,hz1,hz2⟩:=info_parts zjT
 exact Lib.wpList_append_own_string w hgd sl x _ _ ho B 5 i0 Tryz.underlying24 Tryz.underlying9 hi hz0 hz1 hz2 v l.length (bv l) hs hrow s hx
  (by simp only [maxLen]; omega) hlen hB fun v' w' h1 h2 _ => h v' w' (zcg.appended h1 (by rw [zgv,zfs]) (by rw [List.length_append,zaa])) (zdz hrow hB h2)
theorem conv_new (W:World) (xs:List Int) (n:Nat) (hn:n=xs.length) :
  (convert 24 9 (.slice (some ⟨W.heap.size,0,none⟩) n n)).run Tryz.prog (W.alloc (.cells (xs.map (Value.int .u8)).toArray 5))=.ok (.string (strOfNums xs)) (W.alloc (.cells (xs.map (Value.int .u8)).toArray 5)):=by
 refine run_convert_bytes_arg _ 24 5 Tryz.underlying24 Tryz.underlying5 W.heap.size 0 n n xs hn.symm ?_ _ Tryz.underlying9
 intro i hi
 rw [World.cell?_alloc_at _ _ _ _ rfl]
 have h:i < xs.length:=by omega
 simp [List.getD,List.getElem?_eq_getElem h]
end Go.Proofs.YtljbdpihiboeaaaGreatDoor
namespace Go.Proofs.YtljbdpihiboeaaaGreatDoor
open Go.RowKit
def zbi (l:List UInt8):List UInt8:=l.map zc9
theorem low_set (l:List UInt8) (k n:Nat) (hn:l.length=n) (hk:k < n) :
  (zbi (l.take k) ++ List.replicate (n - k) 0).set k (zc9 (l[k]'(by omega)))=zbi (l.take (k + 1)) ++ List.replicate (n - (k + 1)) 0:=by
 have h1:(zbi (l.take k)).length=k:=by simp [zbi]; omega
 rw [List.set_append_right _ _ (by omega),h1,Nat.sub_self,show n - k=(n - (k + 1)) + 1 from by omega,List.replicate_succ,List.set_cons_zero,List.take_succ_eq_append_getElem (by omega)]
 simp only [zbi,List.map_append,List.map_cons,List.map_nil,List.append_assoc,List.singleton_append]
theorem zhm (s:ByteArray) (w:World) (hs:s.size ≤ 140737488351232) :
  Calls Tryz.prog 130 #[.string s] w fun e w' => e=.returned (.string (S (zbi s.data.toList))) ∧ Qb w w':=by
 have hmk:=fun W => zlP s.size s.size (Nat.le_refl _) (by omega) W
 go_enter Tryz.func130,Tryz.ntmps130
 go_wp2_with fail
 clear hmk
 go_loopw [4,10] (fun _ i wr => ∃ k:Nat,k ≤ s.size ∧ i=.int .i64 k ∧ zcg wr w.heap.size (.slice (some ⟨w.heap.size,0,none⟩) s.size s.size) (zbi (s.data.toList.take k) ++ List.replicate (s.size - k) 0) ∧ Qb w wr) (fun _ i _ => s.size - (intOf i).toNat)
 case atStart => exact ⟨0,Nat.zero_le _,rfl,zet w _ _ _ (Nat.le_refl _) (Nat.le_refl _) (by omega),(Qb.refl w).alloc _⟩
 case round =>
  obtain ⟨k,hk,rfl,hrow,hq⟩:=hrel
  by_cases hlt:k < s.size
  ·have hlen:(zbi (s.data.toList.take k) ++ List.replicate (s.size - k) 0).length=s.size:=by simp [zbi,zaa]; omega
   obtain ⟨u,hc⟩:∃ u,wr.cell? ⟨w.heap.size,k,none⟩=some u:=⟨_,hrow.cell k (by omega)⟩
   have hf:wr.frozen? ⟨w.heap.size,k,none⟩=false:=hrow.frozen k
   have hrow':=hrow.stored k (zc9 s[k])
   have hset:=low_set s.data.toList k s.size (zaa s) hlt
   rw [zqx s k hlt] at hset
   rw [hset] at hrow'
   clear hset hrow hlen
   have HR:=Lib.hid hrow'
   clear hrow'
   go_wp2_with (go_at_call 165; refine (zjG _ _).mono ?_; rintro e w' ⟨rfl,rfl⟩)
   go_roundw
   case rel => exact ⟨k + 1,by omega,by go_num,HR.out,hq.set (Nat.le_refl _) _⟩
   case measure => simp [intOf]; omega
  ·obtain rfl:k=s.size:=by omega
   have hl:zbi (s.data.toList.take s.size) ++ List.replicate (s.size - s.size) 0=zbi s.data.toList:=by
    rw [List.take_of_length_le (by rw [zaa]; omega)]; simp
   rw [hl] at hrow
   have hst:=zeV hrow
   clear hl
   go_wp2
   go_ret
   exact ⟨rfl,hq⟩
def zcw (l:List UInt8):Bool:=l.all zak && !l.isEmpty
def eqL (a b:List UInt8):Bool:=zbi a == zbi b
theorem zcc (p:UInt8 → Bool) (s:ByteArray) (k:Nat) (h:k < s.size):(s.data.toList.take (k + 1)).all p=((s.data.toList.take k).all p && p s[k]):=by
 rw [zcp s k h,List.all_append]; simp
theorem zbg (p:UInt8 → Bool) (l:List UInt8) (k:Nat) (h:(l.take k).all p=false):l.all p=false:=by
 rw [← List.take_append_drop k l,List.all_append,h,Bool.false_and]
theorem zbL (s:ByteArray) (k:Nat) (h:¬ k < s.size):s.data.toList.take k=s.data.toList:=List.take_of_length_le (by rw [zaa]; omega)
theorem znD (s:ByteArray) (w:World) (hs:s.size ≤ maxLen) :
  Calls Tryz.prog 239 #[.string s] w fun e w' => e=.returned (.bool (zcw s.data.toList)) ∧ w=w':=by
 unfold maxLen at hs
 go_enter Tryz.func239,Tryz.ntmps239
 go_wp2_with fail
 go_loop [3,6] (fun _ i => ∃ k:Nat,k ≤ s.size ∧ i=.int .i64 k ∧ Hid ((s.data.toList.take k).all zak=true)) (fun _ i => s.size - (intOf i).toNat)
 case atStart => exact ⟨0,Nat.zero_le _,rfl,Lib.hid rfl⟩
 case round =>
  obtain ⟨k,hk,rfl,HA⟩:=hrel
  by_cases hlt:k < s.size
  ·have HT:=Lib.hid (zcc zak s k hlt)
   go_wp2_with (go_at_call 177; refine (zaT _ _).mono ?_; rintro e w' ⟨rfl,rfl⟩)
   ·have hd:(!zak s[k])=true:=by assumption
    go_ret
    exact ⟨zaj (by
     unfold zcw
     rw [zbg zak _ (k + 1) (by rw [HT.out]; simpa using fun _ => hd)]; rfl),rfl⟩
   ·have hd:(!zak s[k])=false:=by assumption
    go_round
    case rel => exact ⟨k + 1,by omega,by go_num,Lib.hid (by rw [HT.out,HA.out]; simpa using hd)⟩
    case measure => simp [intOf]; omega
  ·have HF:Hid ((s.data.toList).all zak=true):=Lib.hid (by rw [← zbL s k hlt]; exact HA.out)
   go_wp2_with fail
   go_ret
   exact ⟨zaj (by rw [ByteArray.toList_eq]; unfold zcw; rw [HF.out]; rfl),rfl⟩
theorem eqL_len {a b:List UInt8} (h:a.length ≠ b.length):eqL a b=false:=by
 unfold eqL zbi
 rw [beq_eq_false_iff_ne]
 intro e
 exact h (by have:=congrArg List.length e; simpa using this)
theorem zlQ (s:ByteArray) (k:Nat) (h:k < s.size):zbi (s.data.toList.take (k + 1))=zbi (s.data.toList.take k) ++ [zc9 s[k]]:=by
 rw [zcp s k h]; simp [zbi]
theorem eqL_ne {a b:List UInt8} {k:Nat} (h:zbi (a.take k) ≠ zbi (b.take k)):eqL a b=false:=by
 unfold eqL
 rw [beq_eq_false_iff_ne]
 intro e
 apply h
 simp only [zbi,List.map_take] at e ⊢
 rw [e]
theorem zbm (a b:ByteArray) (w:World) (ha:a.size ≤ maxLen) (hb:b.size ≤ maxLen) :
  Calls Tryz.prog 180 #[.string a,.string b] w fun e w' => e=.returned (.bool (eqL a.data.toList b.data.toList)) ∧ Qb w w':=by
 unfold maxLen at ha hb
 go_enter Tryz.func180,Tryz.ntmps180
 by_cases hl:a.size=b.size
 ·have HL:=Lib.hid hl
  have hl1:a.size ≤ b.size:=by omega
  have hb1:((a.size:Int) != (b.size:Int))=false:=by simp [hl]
  clear hl
  go_wp2_with fail
  go_loopw [5,13] (fun _ i wr => ∃ k:Nat,k ≤ a.size ∧ i=.int .i64 k ∧ Hid (zbi (a.data.toList.take k)=zbi (b.data.toList.take k)) ∧ Qb w wr) (fun _ i _ => a.size - (intOf i).toNat)
  case atStart => exact ⟨0,Nat.zero_le _,rfl,Lib.hid rfl,Qb.refl w⟩
  case round =>
   obtain ⟨k,hk,rfl,HA,hq⟩:=hrel
   by_cases hlt:k < a.size
   ·have hlt2:k < b.size:=by omega
    have HT:=Lib.hid (zlQ a k hlt)
    have HU:=Lib.hid (zlQ b k hlt2)
    go_wp2_with fail
    go_quiet ((go_at_call 165; exact zc8 (zjG _ _)))
    go_wp2_with fail
    ·have hd:((zc9 a[k]).toNat:Int) != ((zc9 b[k]).toNat:Int):=by assumption
     go_ret
     refine ⟨zaj (eqL_ne (k:=k + 1) ?_).symm,hq.drewN _⟩
     rw [HT.out,HU.out,HA.out]
     intro e
     have e1:=List.append_cancel_left e
     injection e1 with e1
     rw [e1] at hd
     simp at hd
    ·have hd:(((zc9 a[k]).toNat:Int) != ((zc9 b[k]).toNat:Int))=false:=by assumption
     go_roundw
     case rel =>
      refine ⟨k + 1,by omega,by go_num,Lib.hid ?_,hq.drewN _⟩
      rw [HT.out,HU.out,HA.out]
      have e1:(zc9 a[k]).toNat=(zc9 b[k]).toNat:=by simp only [bne_eq_false_iff_eq] at hd; omega
      rw [UInt8.toNat_inj.1 e1]
     case measure => simp [intOf]; omega
   ·go_wp2_with fail
    go_ret
    refine ⟨zaj ?_,hq⟩
    have h:=HA.out
    rw [zbL a k hlt,zbL b k (by have:=HL.out; omega)] at h
    unfold eqL
    rw [h,beq_self_eq_true]
 ·have hb1:((a.size:Int) != (b.size:Int))=true:=by simp; omega
  have HL:=Lib.hid hl
  clear hl
  go_wp2_with fail
  go_ret
  exact ⟨zaj (eqL_len (by rw [zaa,zaa]; exact HL.out)).symm,Qb.refl w⟩
theorem zlR (s:ByteArray) (k:Nat) (hk:k < s.size) :
  (zbi (s.data.toList.take k) ++ s.data.toList.drop k).set k (zc9 s[k])=zbi (s.data.toList.take (k + 1)) ++ s.data.toList.drop (k + 1):=by
 have h1:(zbi (s.data.toList.take k)).length=k:=by simp only [zbi,List.length_map,List.length_take,zaa]; omega
 rw [List.set_append_right _ _ (by omega),h1,Nat.sub_self,zaX s k hk,List.set_cons_zero,zcp s k hk]
 simp only [zbi,List.map_append,List.map_cons,List.map_nil,List.append_assoc,List.singleton_append]
theorem zlS (s:ByteArray) (k:Nat) (hk:k < s.size) (h:k < (zbi (s.data.toList.take k) ++ s.data.toList.drop k).length) :
  (zbi (s.data.toList.take k) ++ s.data.toList.drop k)[k]'h=s[k]:=by
 have h1:(zbi (s.data.toList.take k)).length=k:=by simp only [zbi,List.length_map,List.length_take,zaa]; omega
 rw [List.getElem_append_right (by omega)]
 simp only [h1,Nat.sub_self]
 simp only [zaX s k hk,List.getElem_cons_zero]
theorem lowB_cap {c:UInt8} (h1:65 ≤ (c.toNat:Int)) (h2:(c.toNat:Int) ≤ 90):((c.toNat:Int) + 32) % 256=((zc9 c).toNat:Int):=by
 have:ziG c=true:=by unfold ziG; exact decide_eq_true (by omega)
 simp [zc9,this,UInt8.toNat_add]
theorem zpa {c:UInt8} (h1:65 ≤ (c.toNat:Int)) (h2:(c.toNat:Int) ≤ 90):((c.toNat:Int) + 32)=((zc9 c).toNat:Int):=by
 rw [← lowB_cap h1 h2]; omega
theorem zlT {c:UInt8} (h:¬ (65 ≤ (c.toNat:Int) ∧ (c.toNat:Int) ≤ 90)):zc9 c=c:=by
 have:ziG c=false:=by unfold ziG; exact decide_eq_false (by omega)
 simp [zc9,this]
theorem zdK (s:ByteArray) (w:World) (hs:s.size ≤ 140737488351232) :
  Calls Tryz.prog 74 #[.string s] w fun e w' => e=.returned (.string (S (zbi s.data.toList))) ∧ Qb w w':=by
 have hcv:=znx s
 go_enter Tryz.func74,Tryz.ntmps74
 go_wp2_with fail
 clear hcv
 go_loopw [4,9] (fun _ i wr => ∃ k:Nat,k ≤ s.size ∧ i=.int .i64 k ∧ Crow wr w.heap.size (zbi (s.data.toList.take k) ++ s.data.toList.drop k) ∧ Qb w wr) (fun _ i _ => s.size - (intOf i).toNat)
 case atStart => exact ⟨0,Nat.zero_le _,rfl,zk5 w s,ziu w _ s⟩
 case round =>
  obtain ⟨k,hk,rfl,hrow,hq⟩:=hrel
  by_cases hlt:k < s.size
  ·have hlen:k < (zbi (s.data.toList.take k) ++ s.data.toList.drop k).length:=by simp only [zbi,List.length_append,List.length_map,List.length_take,List.length_drop,zaa]; omega
   obtain ⟨hc,hf⟩:=hrow k hlen
   rw [zlS s k hlt] at hc
   have hrow':=hrow.stored k hlen (zc9 s[k])
   rw [zlR s k hlt] at hrow'
   have hsame:zc9 s[k]=s[k] → Crow wr w.heap.size (zbi (s.data.toList.take (k + 1)) ++ s.data.toList.drop (k + 1)):=fun e => by
    rw [← zlR s k hlt,e,← zlS s k hlt hlen,List.set_getElem_self]
    exact hrow
   clear hrow hlen
   have HR:=Lib.hid (And.intro hrow' hsame)
   clear hsame
   clear hrow'
   go_wp2_with fail
   ·have h1:65 ≤ (s[k].toNat:Int):=by assumption
    have h2:(s[k].toNat:Int) ≤ 90:=by assumption
    go_roundw
    case rel =>
     refine ⟨k + 1,by omega,by go_num,?_,hq.set (Nat.le_refl _) _⟩
     rw [zpa h1 h2]
     exact HR.out.1
    case measure => simp [intOf]; omega
   ·have h2:90 < (s[k].toNat:Int):=by assumption
    go_roundw
    case rel => exact ⟨k + 1,by omega,by go_num,HR.out.2 (zlT (by omega)),hq⟩
    case measure => simp [intOf]; omega
   ·have h2:¬ 65 ≤ (s[k].toNat:Int):=by assumption
    go_roundw
    case rel => exact ⟨k + 1,by omega,by go_num,HR.out.2 (zlT (by omega)),hq⟩
    case measure => simp [intOf]; omega
  ·obtain rfl:k=s.size:=by omega
   have hl:zbi (s.data.toList.take s.size) ++ s.data.toList.drop s.size=zbi s.data.toList:=by
    rw [zbL s _ (by omega),List.drop_of_length_le (by rw [zaa]; omega),List.append_nil]
   rw [hl] at hrow
   have hst:=hrow.str s.size (grownCap w s.size 0 5) (by simp [zbi,zaa])
   clear hl hrow
   go_wp2
   go_ret
   exact ⟨rfl,hq⟩
theorem zkE (s:ByteArray) (w:World) (hs:s.size ≤ maxLen) :
  Calls Tryz.prog 170 #[.string s] w fun e w' => e=.returned (.bool (zcw s.data.toList)) ∧ w=w':=by
 unfold maxLen at hs
 go_enter Tryz.func170,Tryz.ntmps170
 go_wp2_with fail
 go_loop [3] (fun i => ∃ k:Nat,k ≤ s.size ∧ i=.int .i64 k ∧ Hid ((s.data.toList.take k).all zak=true)) (fun i => s.size - (intOf i).toNat)
 case atStart => exact ⟨0,Nat.zero_le _,rfl,Lib.hid rfl⟩
 case round =>
  obtain ⟨k,hk,rfl,HA⟩:=hrel
  by_cases hlt:k < s.size
  ·have HT:=Lib.hid (zcc zak s k hlt)
   go_wp2_with (go_at_call 124; refine (za3 _ _).mono ?_; rintro e w' ⟨rfl,rfl⟩)
   ·have hd:(!zak s[k])=true:=by assumption
    go_ret
    exact ⟨zaj (by
     unfold zcw
     rw [zbg zak _ (k + 1) (by rw [HT.out]; simpa using fun _ => hd)]; rfl),rfl⟩
   ·have hd:(!zak s[k])=false:=by assumption
    go_round
    case rel => exact ⟨k + 1,by omega,by go_num,Lib.hid (by rw [HT.out,HA.out]; simpa using hd)⟩
    case measure => simp [intOf]; omega
  ·have HF:Hid ((s.data.toList).all zak=true):=Lib.hid (by rw [← zbL s k hlt]; exact HA.out)
   go_wp2_with fail
   go_ret
   exact ⟨zaj (by rw [ByteArray.toList_eq]; unfold zcw; rw [HF.out]; rfl),rfl⟩
def zft (c:UInt8):Bool:=decide (c.toNat=32 ∨ c.toNat=9)
def rdw (l:List UInt8):List UInt8:=(l.reverse.dropWhile zft).reverse
def trimL (l:List UInt8):List UInt8:=rdw (l.dropWhile zft)
theorem rdw_snoc (l:List UInt8) (x:UInt8):rdw (l ++ [x])=if zft x=true then rdw l else l ++ [x]:=by
 unfold rdw
 rw [List.reverse_append,List.reverse_singleton,List.singleton_append,List.dropWhile_cons]
 split <;> simp
theorem S_eq {a:ByteArray} {l:List UInt8} (h:a.data.toList=l):a=S l:=by rw [← h]
def TP (n:Nat) (l:List UInt8) (f t:Nat):Prop :=
 ∃ A M B,l=A ++ M ++ B ∧ (∀ a ∈ A,zft a=true) ∧ (∀ b ∈ B,zft b=true) ∧ M.dropWhile zft=M ∧ rdw M=M ∧
  ((M=[] ∧ f=n ∧ t=0) ∨ (M ≠ [] ∧ f=A.length ∧ t=A.length + M.length))
theorem TP.other {n:Nat} {l:List UInt8} {f t:Nat} {c:UInt8} (h:TP n l f t) (hc:zft c=false) (hl:l.length < n):TP n (l ++ [c]) (min f l.length) (l.length + 1):=by
 obtain ⟨A,M,B,rfl,hA,hB,h1,h2,h3⟩:=h
 rcases h3 with ⟨rfl,rfl,rfl⟩ | ⟨h3,rfl,rfl⟩
 ·refine ⟨A ++ B,[c],[],by simp,?_,by simp,by simp [hc],by simp [rdw,hc],.inr ⟨by simp,?_,?_⟩⟩
  ·intro a ha
   rcases List.mem_append.1 ha with ha | ha
   ·exact hA a ha
   ·exact hB a ha
  ·simp at hl ⊢; omega
  ·simp
 ·refine ⟨A,M ++ B ++ [c],[],by simp,hA,by simp,?_,?_,.inr ⟨by simp,?_,?_⟩⟩
  ·cases M with
   | nil => exact absurd rfl h3
   | cons x M =>
    have hx:¬ zft x=true:=by
     intro hx
     rw [List.dropWhile_cons,if_pos hx] at h1
     have:=congrArg List.length h1
     have h4:=(List.dropWhile_sublist (p:=zft) (l:=M)).length_le
     simp at this
     omega
    simp only [List.cons_append]
    rw [List.dropWhile_cons,if_neg hx]
  ·rw [rdw_snoc,if_neg (by rw [hc]; exact Bool.false_ne_true)]
  ·simp
  ·simp; omega
theorem znb {B:List UInt8} (hB:∀ b ∈ B,zft b=true) (l:List UInt8):rdw (l ++ B)=rdw l:=by
 unfold rdw
 rw [List.reverse_append,List.dropWhile_append_of_pos]
 intro a ha
 exact hB a (List.mem_reverse.1 ha)
theorem TP.done {l:List UInt8} {f t:Nat} (h:TP l.length l f t):(t ≤ f ∧ trimL l=[]) ∨ (f < t ∧ t ≤ l.length ∧ trimL l=(l.drop f).take (t - f)):=by
 obtain ⟨A,M,B,rfl,hA,hB,h1,h2,h3⟩:=h
 have ht:trimL (A ++ M ++ B)=rdw ((M ++ B).dropWhile zft):=by
  unfold trimL
  rw [List.append_assoc,List.dropWhile_append_of_pos hA]
 rcases h3 with ⟨rfl,rfl,rfl⟩ | ⟨h3,rfl,rfl⟩
 ·refine .inl ⟨Nat.zero_le _,?_⟩
  rw [ht,List.nil_append,← List.append_nil B,List.dropWhile_append_of_pos hB]
  rfl
 ·have hp:0 < M.length:=List.length_pos_iff.2 h3
  refine .inr ⟨by omega,by simp,?_⟩
  have hm:(M ++ B).dropWhile zft=M ++ B:=by
   cases M with
   | nil => exact absurd rfl h3
   | cons x M =>
    have hx:¬ zft x=true:=by
     intro hx
     rw [List.dropWhile_cons,if_pos hx] at h1
     have:=congrArg List.length h1
     have h4:=(List.dropWhile_sublist (p:=zft) (l:=M)).length_le
     simp at this
     omega
    simp only [List.cons_append]
    rw [List.dropWhile_cons,if_neg hx]
  rw [ht,hm,znb hB,h2,List.append_assoc,List.drop_left,Nat.add_sub_cancel_left,List.take_left]
theorem zbt (a b:ByteArray) (w:World) (ha:a.size ≤ 140737488351232) (hb:b.size ≤ 140737488351232) :
  Calls Tryz.prog 109 #[.string a,.string b] w fun e w' => e=.returned (.bool (eqL a.data.toList b.data.toList)) ∧ Qb w w':=by
 go_enter Tryz.func109,Tryz.ntmps109
 go_wp2_with fail
 refine (zdK a _ ha).mono ?_
 rintro e w1 ⟨rfl,hq1⟩
 go_wp2_with fail
 refine (zdK b _ hb).mono ?_
 rintro e w2 ⟨rfl,hq2⟩
 go_wp2_with fail
 go_ret
 exact ⟨rfl,hq1.trans hq2⟩
end Go.Proofs.YtljbdpihiboeaaaGreatDoor
namespace Go.Proofs.YtljbdpihiboeaaaGreatDoor.Sx
open Go.RowKit
theorem sxA:type_of% (And.intro @rn_nil (And.intro @rn_seq (And.intro @zoh (And.intro @rn_reg (And.intro @rn_drw (And.intro @zlz (And.intro @zlu (And.intro @zhI (And.intro @zgJ (And.intro @rn_ret (And.intro @zor (And.intro @znJ (And.intro @zlc (And.intro @znI (And.intro @zlb (And.intro @znK (And.intro @xit_ap (And.intro @rn_ap (And.intro @apOk_n (And.intro @apOk_c (And.intro @zqB (And.intro @zf3 (And.intro @zhU (And.intro @zjH (And.intro @zpg (And.intro @zqv (And.intro @endK_n (And.intro @endK_r (And.intro @outO_s (And.intro @zoS (And.intro @endI_n (And.intro @endI_r (And.intro @outJ_s (And.intro @zoT (And.intro @rn_mv (And.intro @zpe (And.intro @zpf (And.intro @zoi (And.intro @zlA (@rn_box)))))))))))))))))))))))))))))))))))))))):=And.intro @rn_nil (And.intro @rn_seq (And.intro @zoh (And.intro @rn_reg (And.intro @rn_drw (And.intro @zlz (And.intro @zlu (And.intro @zhI (And.intro @zgJ (And.intro @rn_ret (And.intro @zor (And.intro @znJ (And.intro @zlc (And.intro @znI (And.intro @zlb (And.intro @znK (And.intro @xit_ap (And.intro @rn_ap (And.intro @apOk_n (And.intro @apOk_c (And.intro @zqB (And.intro @zf3 (And.intro @zhU (And.intro @zjH (And.intro @zpg (And.intro @zqv (And.intro @endK_n (And.intro @endK_r (And.intro @outO_s (And.intro @zoS (And.intro @endI_n (And.intro @endI_r (And.intro @outJ_s (And.intro @zoT (And.intro @rn_mv (And.intro @zpe (And.intro @zpf (And.intro @zoi (And.intro @zlA (@rn_box)))))))))))))))))))))))))))))))))))))))
theorem sxB:type_of% (And.intro @kLit_s (And.intro @zow (And.intro @zly (And.intro @zjl (And.intro @kLd1_p (And.intro @kLd1_r (And.intro @zlt (And.intro @kLdn_s (And.intro @kLdv_p (And.intro @kLdv_r (And.intro @zls (And.intro @kSt2_b (And.intro @kSt_p (And.intro @zlq (And.intro @kNck_0 (And.intro @kNck_1 (And.intro @kNck_2 (And.intro @rn_nck (And.intro @kNot_0 (And.intro @rn_not (And.intro @zpz (And.intro @kAr_i8 (And.intro @zpB (And.intro @zpA (And.intro @kAr_u8 (And.intro @zpy (And.intro @zpx (And.intro @zpw (And.intro @kNeg_0 (And.intro @rn_neg (And.intro @kCvi_0 (And.intro @rn_cvi (And.intro @kCvs_0 (And.intro @rn_cvs (And.intro @zpi (And.intro @zol (And.intro @zps (And.intro @zop (And.intro @kFad_0 (And.intro @kFad_1 (And.intro @rn_fad (@zpt)))))))))))))))))))))))))))))))))))))))))):=And.intro @kLit_s (And.intro @zow (And.intro @zly (And.intro @zjl (And.intro @kLd1_p (And.intro @kLd1_r (And.intro @zlt (And.intro @kLdn_s (And.intro @kLdv_p (And.intro @kLdv_r (And.intro @zls (And.intro @kSt2_b (And.intro @kSt_p (And.intro @zlq (And.intro @kNck_0 (And.intro @kNck_1 (And.intro @kNck_2 (And.intro @rn_nck (And.intro @kNot_0 (And.intro @rn_not (And.intro @zpz (And.intro @kAr_i8 (And.intro @zpB (And.intro @zpA (And.intro @kAr_u8 (And.intro @zpy (And.intro @zpx (And.intro @zpw (And.intro @kNeg_0 (And.intro @rn_neg (And.intro @kCvi_0 (And.intro @rn_cvi (And.intro @kCvs_0 (And.intro @rn_cvs (And.intro @zpi (And.intro @zol (And.intro @zps (And.intro @zop (And.intro @kFad_0 (And.intro @kFad_1 (And.intro @rn_fad (@zpt)))))))))))))))))))))))))))))))))))))))))
theorem sxC:type_of% (And.intro @zoq (And.intro @kExt_0 (And.intro @rn_ext (And.intro @kLr2_o (And.intro @zpm (And.intro @zpl (And.intro @zpk (And.intro @zom (And.intro @zjO (And.intro @zlV (And.intro @zhW (And.intro @zjN (And.intro @kEqs_a (And.intro @rn_beq (And.intro @rn_eqs (And.intro @kIad_0 (And.intro @rn_iad (And.intro @zpr (And.intro @zoo (And.intro @kIdx_0 (And.intro @rn_idx (And.intro @kMks_0 (And.intro @rn_mks (And.intro @rn_bin (And.intro @zl9 (And.intro @zlW (And.intro @zl2 (And.intro @zl0 (And.intro @zlZ (And.intro @zl7 (And.intro @zl1 (And.intro @zl3 (And.intro @zl4 (And.intro @zl5 (And.intro @zl6 (And.intro @zl8 (And.intro @zlY (And.intro @zlX (And.intro @svi_i (@zi9)))))))))))))))))))))))))))))))))))))))):=And.intro @zoq (And.intro @kExt_0 (And.intro @rn_ext (And.intro @kLr2_o (And.intro @zpm (And.intro @zpl (And.intro @zpk (And.intro @zom (And.intro @zjO (And.intro @zlV (And.intro @zhW (And.intro @zjN (And.intro @kEqs_a (And.intro @rn_beq (And.intro @rn_eqs (And.intro @kIad_0 (And.intro @rn_iad (And.intro @zpr (And.intro @zoo (And.intro @kIdx_0 (And.intro @rn_idx (And.intro @kMks_0 (And.intro @rn_mks (And.intro @rn_bin (And.intro @zl9 (And.intro @zlW (And.intro @zl2 (And.intro @zl0 (And.intro @zlZ (And.intro @zl7 (And.intro @zl1 (And.intro @zl3 (And.intro @zl4 (And.intro @zl5 (And.intro @zl6 (And.intro @zl8 (And.intro @zlY (And.intro @zlX (And.intro @svi_i (@zi9)))))))))))))))))))))))))))))))))))))))
theorem sxD:type_of% (And.intro @zi8 (And.intro @kSl2_s (And.intro @kSl_s (And.intro @zog (And.intro @kAp_s (And.intro @kAp2_o (And.intro @kAp2_n (And.intro @kAp3_o (And.intro @kAs_o (And.intro @kAs_n (And.intro @kAs2_o (And.intro @rn_app (And.intro @zox (And.intro @kCb_o (And.intro @kCb_n (And.intro @zot (And.intro @rn_mkf (And.intro @kG_tt (And.intro @kG_tf (And.intro @kG_ft (And.intro @kG_ff (And.intro @kG_u (And.intro @kG_v (And.intro @kGD_tt (And.intro @kGD_tf (And.intro @kGD_ft (And.intro @kGD_ff (And.intro @kGD_u (And.intro @kGD_v (And.intro @zlv (And.intro @zjk (And.intro @kC_t (And.intro @kC_f (And.intro @zou (And.intro @zov (And.intro @zlw (And.intro @zlx (And.intro @drn_mv (And.intro @zmt (@zkb)))))))))))))))))))))))))))))))))))))))):=And.intro @zi8 (And.intro @kSl2_s (And.intro @kSl_s (And.intro @zog (And.intro @kAp_s (And.intro @kAp2_o (And.intro @kAp2_n (And.intro @kAp3_o (And.intro @kAs_o (And.intro @kAs_n (And.intro @kAs2_o (And.intro @rn_app (And.intro @zox (And.intro @kCb_o (And.intro @kCb_n (And.intro @zot (And.intro @rn_mkf (And.intro @kG_tt (And.intro @kG_tf (And.intro @kG_ft (And.intro @kG_ff (And.intro @kG_u (And.intro @kG_v (And.intro @kGD_tt (And.intro @kGD_tf (And.intro @kGD_ft (And.intro @kGD_ff (And.intro @kGD_u (And.intro @kGD_v (And.intro @zlv (And.intro @zjk (And.intro @kC_t (And.intro @kC_f (And.intro @zou (And.intro @zov (And.intro @zlw (And.intro @zlx (And.intro @drn_mv (And.intro @zmt (@zkb)))))))))))))))))))))))))))))))))))))))
theorem sxE:type_of% (And.intro @zmD (And.intro @zh3 (And.intro @zka (And.intro @zj9 (And.intro @zp5 (And.intro @zqh (And.intro @zqi (And.intro @zqd (And.intro @zp3 (And.intro @zp4 (And.intro @zmz (And.intro @zqf (And.intro @zqe (And.intro @zmC (And.intro @zms (And.intro @zqb (And.intro @zmB (And.intro @zmA (And.intro @zqa (And.intro @zp9 (And.intro @zqc (And.intro @zmw (And.intro @zmx (And.intro @zp8 (And.intro @zkc (And.intro @zqg (And.intro @zj8 (And.intro @zqj (And.intro @zmE (@zp7)))))))))))))))))))))))))))))):=And.intro @zmD (And.intro @zh3 (And.intro @zka (And.intro @zj9 (And.intro @zp5 (And.intro @zqh (And.intro @zqi (And.intro @zqd (And.intro @zp3 (And.intro @zp4 (And.intro @zmz (And.intro @zqf (And.intro @zqe (And.intro @zmC (And.intro @zms (And.intro @zqb (And.intro @zmB (And.intro @zmA (And.intro @zqa (And.intro @zp9 (And.intro @zqc (And.intro @zmw (And.intro @zmx (And.intro @zp8 (And.intro @zkc (And.intro @zqg (And.intro @zj8 (And.intro @zqj (And.intro @zmE (@zp7)))))))))))))))))))))))))))))
theorem sxF:type_of% (And.intro @kO_if (And.intro @pq_and (And.intro @pq_or (And.intro @pq_xor (And.intro @pq_shl (And.intro @pq_shr (And.intro @pq_mn (And.intro @pq_mx (And.intro @pq_rsl (And.intro @zoK (And.intro @zoL (And.intro @zlI (And.intro @zoM (And.intro @pq_asl (And.intro @kCb_b (And.intro @pq_lss (And.intro @pq_leq (And.intro @pq_gtr (And.intro @pq_geq (And.intro @rn_pu (@drn_pu))))))))))))))))))))):=And.intro @kO_if (And.intro @pq_and (And.intro @pq_or (And.intro @pq_xor (And.intro @pq_shl (And.intro @pq_shr (And.intro @pq_mn (And.intro @pq_mx (And.intro @pq_rsl (And.intro @zoK (And.intro @zoL (And.intro @zlI (And.intro @zoM (And.intro @pq_asl (And.intro @kCb_b (And.intro @pq_lss (And.intro @pq_leq (And.intro @pq_gtr (And.intro @pq_geq (And.intro @rn_pu (@drn_pu))))))))))))))))))))
theorem sxM:type_of% (And.intro @zos (And.intro @kLd1_o (And.intro @zpo (And.intro @kLdv_o (And.intro @zpn (And.intro @kSt_o (And.intro @kSt3_o (And.intro @kNck_3 (And.intro @kFad_2 (And.intro @kIad_1 (And.intro @zpq (And.intro @zpd (And.intro @kTrn_0 (And.intro @kTrn_1 (And.intro @kTrn_2 (And.intro @rn_trn (And.intro @zp2 (And.intro @zoN (And.intro @zoO (And.intro @pq_snn (And.intro @pq_snz (And.intro @pq_snr (And.intro @zpj (And.intro @zpp (And.intro @zon (And.intro @zmy (@zqA))))))))))))))))))))))))))):=And.intro @zos (And.intro @kLd1_o (And.intro @zpo (And.intro @kLdv_o (And.intro @zpn (And.intro @kSt_o (And.intro @kSt3_o (And.intro @kNck_3 (And.intro @kFad_2 (And.intro @kIad_1 (And.intro @zpq (And.intro @zpd (And.intro @kTrn_0 (And.intro @kTrn_1 (And.intro @kTrn_2 (And.intro @rn_trn (And.intro @zp2 (And.intro @zoN (And.intro @zoO (And.intro @pq_snn (And.intro @pq_snz (And.intro @pq_snr (And.intro @zpj (And.intro @zpp (And.intro @zon (And.intro @zmy (@zqA))))))))))))))))))))))))))
theorem sxN:type_of% (And.intro @zok (And.intro @zoj (And.intro @kMkm_i (And.intro @rn_lk (And.intro @kLk_0 (And.intro @kLk2_m (And.intro @rn_mup (And.intro @kMup_0 (And.intro @zph (And.intro @zmv (And.intro @zmu (And.intro @drn_lk (And.intro @zp6 (And.intro @lkA_tt (And.intro @lkA_tf (And.intro @lkA_nt (And.intro @lkA_nf (And.intro @apS_o (And.intro @apS_p (And.intro @zmR (And.intro @zmQ (And.intro @zmP (@zmO))))))))))))))))))))))):=And.intro @zok (And.intro @zoj (And.intro @kMkm_i (And.intro @rn_lk (And.intro @kLk_0 (And.intro @kLk2_m (And.intro @rn_mup (And.intro @kMup_0 (And.intro @zph (And.intro @zmv (And.intro @zmu (And.intro @drn_lk (And.intro @zp6 (And.intro @lkA_tt (And.intro @lkA_tf (And.intro @lkA_nt (And.intro @lkA_nf (And.intro @apS_o (And.intro @apS_p (And.intro @zmR (And.intro @zmQ (And.intro @zmP (@zmO))))))))))))))))))))))
theorem sxL:type_of% (And.intro @List.length_cons.{0} (And.intro @List.length_nil.{0} (And.intro @List.length_append.{0} (And.intro @List.length_replicate.{0} (And.intro @List.length_set.{0} (And.intro @List.cons_append.{0} (And.intro @List.nil_append.{0} (And.intro @List.append_nil.{0} (And.intro @List.getElem?_cons_zero.{0} (And.intro @List.getElem?_cons_succ.{0} (And.intro @List.getElem?_nil.{0} (And.intro @Option.getD_some.{0} (And.intro @Option.getD_none.{0} (And.intro @List.set_cons_zero.{0} (And.intro @List.set_cons_succ.{0} (And.intro @List.set_nil.{0} (And.intro @List.map_cons.{0,0} (And.intro @List.map_nil.{0,0} (And.intro @List.take_succ_cons.{0} (And.intro @List.take_zero.{0} (And.intro @List.drop_succ_cons.{0} (And.intro @List.drop_zero.{0} (And.intro @List.take_nil.{0} (And.intro @List.drop_nil.{0} (And.intro @List.take_length.{0} (And.intro @Int.toNat_natCast (And.intro @Int.toNat_natCast_add_one (And.intro @Bool.not_true (And.intro @Bool.not_false (And.intro @Bool.and_true (And.intro @Bool.true_and (And.intro @Bool.and_false (And.intro @Bool.false_and (And.intro @true_and (And.intro @and_true (And.intro @true_implies (And.intro @false_implies (And.intro @Option.bind_some.{0,0} (And.intro @Option.map_some.{0,0} (And.intro @Bool.false_eq_true (And.intro @Bool.true_eq_false (And.intro @decide_true (And.intro @decide_false (And.intro @not_true_eq_false (And.intro @not_false_eq_true (@beq_self_eq_true.{0})))))))))))))))))))))))))))))))))))))))))))))):=And.intro @List.length_cons.{0} (And.intro @List.length_nil.{0} (And.intro @List.length_append.{0} (And.intro @List.length_replicate.{0} (And.intro @List.length_set.{0} (And.intro @List.cons_append.{0} (And.intro @List.nil_append.{0} (And.intro @List.append_nil.{0} (And.intro @List.getElem?_cons_zero.{0} (And.intro @List.getElem?_cons_succ.{0} (And.intro @List.getElem?_nil.{0} (And.intro @Option.getD_some.{0} (And.intro @Option.getD_none.{0} (And.intro @List.set_cons_zero.{0} (And.intro @List.set_cons_succ.{0} (And.intro @List.set_nil.{0} (And.intro @List.map_cons.{0,0} (And.intro @List.map_nil.{0,0} (And.intro @List.take_succ_cons.{0} (And.intro @List.take_zero.{0} (And.intro @List.drop_succ_cons.{0} (And.intro @List.drop_zero.{0} (And.intro @List.take_nil.{0} (And.intro @List.drop_nil.{0} (And.intro @List.take_length.{0} (And.intro @Int.toNat_natCast (And.intro @Int.toNat_natCast_add_one (And.intro @Bool.not_true (And.intro @Bool.not_false (And.intro @Bool.and_true (And.intro @Bool.true_and (And.intro @Bool.and_false (And.intro @Bool.false_and (And.intro @true_and (And.intro @and_true (And.intro @true_implies (And.intro @false_implies (And.intro @Option.bind_some.{0,0} (And.intro @Option.map_some.{0,0} (And.intro @Bool.false_eq_true (And.intro @Bool.true_eq_false (And.intro @decide_true (And.intro @decide_false (And.intro @not_true_eq_false (And.intro @not_false_eq_true (@beq_self_eq_true.{0})))))))))))))))))))))))))))))))))))))))))))))
theorem sxZ:type_of% (And.intro @zlr (And.intro sxA (And.intro sxB (And.intro sxC (And.intro sxD (And.intro sxE (And.intro sxF (And.intro sxM (And.intro sxN (And.intro sxL (And.intro @forall_const.{1} (And.intro @implies_true.{1} (And.intro @implies_true.{0} (And.intro @if_true.{1} (And.intro @if_false.{1} (And.intro @ite_true.{1} (And.intro @ite_false.{1} (And.intro @exists_eq_left'.{1} (And.intro @exists_eq'.{1} (And.intro @ne_eq.{1} (And.intro @evs.eq_1 (And.intro @evs.eq_2 (And.intro @evp.eq_1 (And.intro @evp.eq_2 (And.intro @zaD.eq_1 (And.intro @zaD.eq_2 (And.intro @SV.ev.eq_1 (And.intro @SV.ev.eq_2 (And.intro @AV.flat.eq_1 (And.intro @AV.flat.eq_2 (And.intro @AV.one.eq_1 (And.intro @AV.one.eq_2 (And.intro @AV.one.eq_3 (And.intro @AV.one.eq_4 (And.intro @AV.one.eq_5 (And.intro @AV.cells.eq_1 (And.intro @AV.cells.eq_2 (And.intro @zeW.eq_1 (And.intro @zeW.eq_2 (And.intro @zoz.eq_1 (And.intro @zoz.eq_2 (And.intro @zoz.eq_3 (And.intro @zm0.eq_1 (And.intro @zm0.eq_2 (And.intro @pub.eq_1 (And.intro @pub.eq_2 (And.intro @pub.eq_3 (And.intro @pub.eq_4 (And.intro @pub.eq_5 (And.intro @zlG.eq_1 (And.intro @zlG.eq_2 (And.intro @AV.plain.eq_1 (And.intro @AV.plain.eq_2 (And.intro @AV.plain.eq_3 (And.intro @AV.plain.eq_4 (And.intro @AV.plain.eq_5 (And.intro @AV.plain.eq_6 (And.intro @AV.plain.eq_7 (And.intro @AV.plain.eq_8 (And.intro @AV.plain.eq_9 (And.intro @AV.plain.eq_10 (And.intro @AV.plain.eq_11 (And.intro @zbx.eq_1 (And.intro @zbx.eq_2 (And.intro @zeS.eq_1 (And.intro @zeS.eq_2 (And.intro @zeS.eq_3 (And.intro @zeS.eq_4 (And.intro @zbB.eq_1 (And.intro @zdO.eq_1 (And.intro @zdO.eq_2 (And.intro @eqA.eq_1 (And.intro @eqA.eq_2 (And.intro @eqA.eq_3 (And.intro @eqA.eq_4 (And.intro @eqA.eq_5 (And.intro @zmp.eq_1 (And.intro @zmp.eq_2 (And.intro @zmp.eq_3 (And.intro @List.replicate.eq_1.{0} (@List.replicate.eq_2.{0}))))))))))))))))))))))))))))))))))))))))))))))))))))))))))))))))))))))))))))))))):=And.intro @zlr (And.intro sxA (And.intro sxB (And.intro sxC (And.intro sxD (And.intro sxE (And.intro sxF (And.intro sxM (And.intro sxN (And.intro sxL (And.intro @forall_const.{1} (And.intro @implies_true.{1} (And.intro @implies_true.{0} (And.intro @if_true.{1} (And.intro @if_false.{1} (And.intro @ite_true.{1} (And.intro @ite_false.{1} (And.intro @exists_eq_left'.{1} (And.intro @exists_eq'.{1} (And.intro @ne_eq.{1} (And.intro @evs.eq_1 (And.intro @evs.eq_2 (And.intro @evp.eq_1 (And.intro @evp.eq_2 (And.intro @zaD.eq_1 (And.intro @zaD.eq_2 (And.intro @SV.ev.eq_1 (And.intro @SV.ev.eq_2 (And.intro @AV.flat.eq_1 (And.intro @AV.flat.eq_2 (And.intro @AV.one.eq_1 (And.intro @AV.one.eq_2 (And.intro @AV.one.eq_3 (And.intro @AV.one.eq_4 (And.intro @AV.one.eq_5 (And.intro @AV.cells.eq_1 (And.intro @AV.cells.eq_2 (And.intro @zeW.eq_1 (And.intro @zeW.eq_2 (And.intro @zoz.eq_1 (And.intro @zoz.eq_2 (And.intro @zoz.eq_3 (And.intro @zm0.eq_1 (And.intro @zm0.eq_2 (And.intro @pub.eq_1 (And.intro @pub.eq_2 (And.intro @pub.eq_3 (And.intro @pub.eq_4 (And.intro @pub.eq_5 (And.intro @zlG.eq_1 (And.intro @zlG.eq_2 (And.intro @AV.plain.eq_1 (And.intro @AV.plain.eq_2 (And.intro @AV.plain.eq_3 (And.intro @AV.plain.eq_4 (And.intro @AV.plain.eq_5 (And.intro @AV.plain.eq_6 (And.intro @AV.plain.eq_7 (And.intro @AV.plain.eq_8 (And.intro @AV.plain.eq_9 (And.intro @AV.plain.eq_10 (And.intro @AV.plain.eq_11 (And.intro @zbx.eq_1 (And.intro @zbx.eq_2 (And.intro @zeS.eq_1 (And.intro @zeS.eq_2 (And.intro @zeS.eq_3 (And.intro @zeS.eq_4 (And.intro @zbB.eq_1 (And.intro @zdO.eq_1 (And.intro @zdO.eq_2 (And.intro @eqA.eq_1 (And.intro @eqA.eq_2 (And.intro @eqA.eq_3 (And.intro @eqA.eq_4 (And.intro @eqA.eq_5 (And.intro @zmp.eq_1 (And.intro @zmp.eq_2 (And.intro @zmp.eq_3 (And.intro @List.replicate.eq_1.{0} (@List.replicate.eq_2.{0}))))))))))))))))))))))))))))))))))))))))))))))))))))))))))))))))))))))))))))))))
end Go.Proofs.YtljbdpihiboeaaaGreatDoor.Sx
namespace Go.Proofs.YtljbdpihiboeaaaGreatDoor
open Go.RowKit Sx
class Shp (P:Program) [Tabs P]:Prop where
 sh:∀ w:World,Tabs.T (P:=P) w → w.ShapedOpen P
class Pow (P:Program) [Tabs P]:Prop where
 pw : ∀ w : World, Tabs.T (P := P) w → Lib.TabIs P w "internal/strconv.uint64pow10" .u64 Lib.pow10Tab
theorem zgB {P:Program} {w w':World} (h:w.ShapedOpen P) (hk:∀ k,k < w.heap.size → w'.heap[k]? = w.heap[k]?):w'.ShapedOpen P:=by
 have lt:∀ {k:Nat} {o:Obj},w.heap[k]? = some o → k < w.heap.size:=fun {k o} e => by
  rcases Nat.lt_or_ge k w.heap.size with h1 | h1
  ·exact h1
  ·rw [Array.getElem?_eq_none h1] at e; cases e
 refine ⟨fun g zero t hg hz => ?_,fun k hk1 hk2 => ?_⟩
 ·obtain ⟨cs,h1,h2,h3⟩:=h.1 g zero t hg hz
  refine ⟨cs,(hk g (lt h1)).trans h1,h2,fun hb => Row.ok_of_shape (fun b x hx => ?_) (h3 hb)⟩
  rcases Nat.lt_or_ge b w.heap.size with h4 | h4
  ·simpa [World.shape?,hk b h4] using hx
  ·simp [World.shape?,Array.getElem?_eq_none h4] at hx
 ·obtain ⟨o,o₀,h1,h2,h3⟩:=h.2 k hk1 hk2
  exact ⟨o,o₀,(hk k (lt h1)).trans h1,h2,h3⟩
mutual
/-- a value without memory, as it is -/
def val:AV → Option Value
 | .s l => some (.string ⟨l.toArray⟩)
 | .i k n => some (.int k n)
 | .b x => some (.bool x)
 | .agg cs => match znE cs with
  | some vs => if vs.all (·.oneCell')=true then some (.agg vs.toArray) else none
  | none => none
 | .tup cs => (znE cs).map fun vs => .tuple vs.toArray
 | _ => none
def znE:List AV → Option (List Value)
 | [] => some []
 | x :: xs => match val x,znE xs with
  | some v,some vs => some (v :: vs)
  | _,_ => none
end
mutual
theorem zgt (G:Gh) (I:Imm):∀ (x:AV) (v:Value),val x=some v → ∀ y,Den G I x y ↔ y=v
 | .s l,v,h,y => by simp only [val,Option.some.injEq] at h; subst h; simp [Den]
 | .i k n,v,h,y => by simp only [val,Option.some.injEq] at h; subst h; simp [Den]
 | .b x,v,h,y => by simp only [val,Option.some.injEq] at h; subst h; simp [Den]
 | .agg cs,v,h,y => by
  simp only [val] at h
  split at h
  ·rename_i vs h1
   split at h
   ·rename_i h2
    injection h with h; subst h
    simp only [Den]
    constructor
    ·rintro ⟨ys,rfl,k1,_⟩
     rw [(zcn G I cs vs h1 ys).1 k1]
    ·rintro rfl
     exact ⟨vs,rfl,(zcn G I cs vs h1 vs).2 rfl,fun u hu => (List.all_eq_true.1 h2) u hu⟩
   ·cases h
  ·cases h
 | .tup cs,v,h,y => by
  simp only [val,Option.map_eq_some_iff] at h
  obtain ⟨vs,h1,rfl⟩:=h
  simp only [Den]
  constructor
  ·rintro ⟨ys,rfl,k1⟩
   rw [(zcn G I cs vs h1 ys).1 k1]
  ·rintro rfl
   exact ⟨vs,rfl,(zcn G I cs vs h1 vs).2 rfl⟩
 | .p _ _,v,h,y => by simp [val] at h
 | .row _ _,v,h,y => by simp [val] at h
 | .prow _ _,v,h,y => by simp [val] at h
 | .orow _ _,v,h,y => by simp [val] at h
 | .porow _ _ _,v,h,y => by simp [val] at h
 | .bsl _ _ _,v,h,y => by simp [val] at h
 | .m _,v,h,y => by simp [val] at h
 | .zn _,v,h,y => by simp [val] at h
 | .nil,v,h,y => by simp [val] at h
 | .fn _ _ _,v,h,y => by simp [val] at h
 | .o _,v,h,y => by simp [val] at h
 | .u,v,h,y => by simp [val] at h
theorem zcn (G:Gh) (I:Imm):∀ (xs:List AV) (vs:List Value),znE xs=some vs → ∀ ys,zao G I xs ys ↔ ys=vs
 | [],vs,h,ys => by simp only [znE,Option.some.injEq] at h; subst h; simp [zao]
 | x :: xs,vs,h,ys => by
  simp only [znE] at h
  split at h
  ·rename_i v vs' h1 h2
   injection h with h; subst h
   simp only [zao]
   constructor
   ·rintro ⟨y,ys',rfl,k1,k2⟩
    rw [(zgt G I x v h1 y).1 k1,(zcn G I xs vs' h2 ys').1 k2]
   ·rintro rfl
    exact ⟨v,vs',rfl,(zgt G I x v h1 v).2 rfl,(zcn G I xs vs' h2 vs').2 rfl⟩
  ·cases h
end
section
variable {P:Program} [Tabs P] {f:FuncId} {args:List AV} {vs:List Value} {r:AV} {v:Value} {objs:List OB} {K:List OB → AV → Prop}
theorem conv (ha:znE args=some vs) (hr:val r=some v) (h:∀ w,Calls P f vs.toArray w fun e w' => e=.returned v ∧ Qb w w') (hk:K objs r):zad P f args objs K :=
 zk7 r hk fun G I w ys hm hd => by
  rw [(zcn G I args vs ha ys).1 hd]
  exact ⟨v,h w,(zgt G I r v hr v).2 rfl⟩
theorem zqs (ha:znE args=some vs) (hr:val r=some v) (h:∀ w,Calls P f vs.toArray w fun e w' => e=.returned v ∧ w=w') (hk:K objs r):zad P f args objs K :=
 conv ha hr (fun w => (h w).mono (by rintro e w' ⟨rfl,rfl⟩; exact ⟨rfl,Qb.refl _⟩)) hk
theorem convT (ha:znE args=some vs) (hr:val r=some v) (h:∀ w,Tabs.T (P:=P) w → Calls P f vs.toArray w fun e w' => e=.returned v ∧ Qb w w') (hk:K objs r):zad P f args objs K :=
 zh7 r hk fun G I w ys hT hm hd => by
  rw [(zcn G I args vs ha ys).1 hd]
  exact ⟨v,h w hT,(zgt G I r v hr v).2 rfl⟩
end
end Go.Proofs.YtljbdpihiboeaaaGreatDoor
namespace Go.Proofs.YtljbdpihiboeaaaGreatDoor
open Sx
theorem gn1 (l:List OB) (x:OB):(l ++ [x])[l.length]? = some x:=by simp
theorem sn1 (l:List OB) (x y:OB):(l ++ [x]).set l.length y=l ++ [y]:=by simp
end Go.Proofs.YtljbdpihiboeaaaGreatDoor
namespace Go.Proofs.YtljbdpihiboeaaaGreatDoor
open Go.RowKit
theorem infoStr:(Tryz.prog.info? 9).map (fun i => (i.zero,i.size,i.bytes))=some (some (.string ByteArray.empty),1,16):=by kernel_rfl
def sv (ls:List (List UInt8)):List Value:=ls.map fun l => .string (S l)
theorem zja (ls:List (List UInt8)):(sv ls).length=ls.length:=by simp [sv]
theorem zn0 (a b:List (List UInt8)):sv (a ++ b)=sv a ++ sv b:=by simp [sv]
theorem sv_get (ls:List (List UInt8)) (i:Nat) (h:i < ls.length):(sv ls)[i]? = some (.string (S ls[i])):=by simp [sv,h]
theorem znZ (ls:List (List UInt8)):∀ u ∈ sv ls,u.oneCell'=true:=by
 intro u hu
 obtain ⟨c,_,rfl⟩:=List.mem_map.1 hu
 rfl
def zfy (w:World) (base:Nat) (v:Value) (ls:List (List UInt8)):Prop:=w.ownsRow base 9 1 v ls.length (sv ls)
theorem zfy.nil (w:World) (base:Nat):zfy w base (.slice none 0 0) []:=World.ownsRow_nil w base _ _
theorem zfy.drew {w:World} {base:Nat} {v:Value} {l:List (List UInt8)} (h:zfy w base v l):zfy w.drew base v l:=h
theorem zfy.drewN {w:World} {base:Nat} {v:Value} {l:List (List UInt8)} (h:zfy w base v l) (n:Nat):zfy (w.drewN n) base v l:=h
theorem zfy.alloc {w:World} {base:Nat} {v:Value} {l:List (List UInt8)} (h:zfy w base v l) (o:Obj):zfy (w.alloc o) base v l:=World.ownsRow.alloc h o
theorem zfy.below {w w':World} {base:Nat} {v:Value} {l:List (List UInt8)} (h:zfy w base v l) (hb:Qb w w'):zfy w' base v l:=by
 refine World.ownsRow.kept (row:=none) h ⟨hb.os,hb.tape,hb.output,Below.size hb,fun k hk _ => Below.block hb k hk⟩ ?_
 rcases h.2 with ⟨rfl,_⟩ | ⟨g,cap,cur,rfl,_⟩
 ·exact .inl rfl
 ·exact .inr (by simp [Value.ownBlock])
theorem zfy.form {w:World} {base:Nat} {v:Value} {l:List (List UInt8)} (h:zfy w base v l) (hl:0 < l.length):∃ g cap,v=.slice (some ⟨g,0,none⟩) l.length cap ∧ base ≤ g ∧ g < w.heap.size ∧ l.length ≤ cap:=by
 rcases h.2 with ⟨rfl,hn⟩ | ⟨g,cap,cur,rfl,hb,hg,hnc,_⟩
 ·omega
 ·refine ⟨g,cap,rfl,hb,?_,hnc⟩
  rcases Nat.lt_or_ge g w.heap.size with h1 | h1
  ·exact h1
  ·rw [Array.getElem?_eq_none h1] at hg; cases hg
theorem zfy.cell {w:World} {B g n cap:Nat} {l:List (List UInt8)} (h:zfy w B (.slice (some ⟨g,0,none⟩) n cap) l) (j:Nat) (hj:j < l.length):w.cell? ⟨g,j,none⟩=some (.string (S l[j])):=by
 have h':=h
 rcases h'.2 with ⟨e,_⟩ | ⟨g',cap',cur,e,_⟩
 ·simp at e
 ·simp only [Value.slice.injEq] at e
  obtain ⟨_,rfl,_⟩:=e
  rw [World.ownsRow.cellAt (h:World.ownsRow _ _ _ _ _ _ _) j (by omega),sv_get l j hj]
theorem ziV {w w':World} {B:Nat} {v:Value} {l:List (List UInt8)} (h:zfy w B v l) (hB:B ≤ w.heap.size) (hg:w.grownBy w' v.ownBlock):Below B w w' :=
 (Below.refl B w).grown hg hB (fun k hk => (World.ownsRow.lt h k hk).1)
theorem zfy.appended {w':World} {B:Nat} {v':Value} {l m:List (List UInt8)} {xs:List Value} {n:Nat} (h:w'.ownsRow B 9 1 v' n xs) (hx:xs=sv (l ++ m)) (hn:n=(l ++ m).length):zfy w' B v' (l ++ m):=by
 subst hx hn; exact h
theorem zdq {w:World} {ops:Array Oper} {rest:List Oper} {o:Oper} {a:Act} {Q:Exit → Act → World → Prop} (hgd:o.guard=none) (s x:Operand)
  (ho:o.op=.call { callee:=.builtin .append,args:=#[s,x],argTypes:=#[35,35] })
  (B:Nat) (v:Value) (l m:List (List UInt8)) (hs:a.eval s=v) (hrow:zfy w B v l) (ad:Addr) (n c:Nat) (hx:a.eval x=.slice (some ad) n c) (hn:n=m.length)
  (hnews:∀ j u,(sv m)[j]? = some u → w.cell? (ad.add j)=some u) (hlen:l.length + m.length ≤ 1000000000) (hB:B ≤ w.heap.size)
  (h:∀ v' w',zfy w' B v' (l ++ m) → Below B w w' → wpList Tryz.prog ops Q rest (a.put o.dst v') w'):wpList Tryz.prog ops Q (o :: rest) a w:=by
 obtain ⟨i0,hi,hz0,hz1,hz2⟩:=info_parts infoStr
 subst hn
 exact wpList_append_own w hgd s x _ ho B 9 i0 _ 1 16 Tryz.underlying35 hi hz0 hz1 hz2 rfl (by omega) v l.length (sv l) hs hrow ad m.length c (sv m) hx (by rw [zja]; omega) hnews (znZ m)
  (by simp only [maxLen]; omega) (by omega) hB fun v' w' h1 h2 _ => h v' w' (zfy.appended h1 (zn0 l m).symm (by simp)) (ziV hrow hB h2)
theorem news1S (W:World) (a:ByteArray):∀ j u,(sv [a.data.toList])[j]? = some u → (W.alloc (.cells #[.string a] 9)).cell? ((⟨W.heap.size,0,none⟩:Addr).add j)=some u:=by
 intro j u hj
 rw [zaR,World.cell?_alloc_at _ _ _ _ rfl]
 have:sv [a.data.toList]=[.string a]:=by simp [sv]
 rw [this] at hj
 simpa using hj
end Go.Proofs.YtljbdpihiboeaaaGreatDoor
namespace Go.Proofs.YtljbdpihiboeaaaGreatDoor
open Go.RowKit
def zaq (c:UInt8):List UInt8 → List UInt8 × List UInt8 × Bool
 | [] => ([],[],false)
 | x :: t => if x=c then ([],t,true) else (x :: (zaq c t).1,(zaq c t).2.1,(zaq c t).2.2)
theorem zbo (c:UInt8):∀ l:List UInt8,(Lib.indexByte l c=-1 ∧ zaq c l=(l,[],false) ∧ c ∉ l) ∨ ∃ k:Nat,Lib.indexByte l c=k ∧ k < l.length ∧ zaq c l=(l.take k,l.drop (k + 1),true) ∧ l[k]? = some c
 | [] => .inl ⟨rfl,rfl,by simp⟩
 | x :: t => by
  unfold Lib.indexByte zaq
  by_cases h:x=c
  ·subst h
   exact .inr ⟨0,by simp,by simp,by simp,by simp⟩
  ·rw [if_neg (by simpa using h),if_neg h]
   rcases zbo c t with ⟨h1,h2,h3⟩ | ⟨k,h1,h2,h3,h4⟩
   ·refine .inl ⟨by rw [h1]; rfl,by rw [h2],?_⟩
    simp only [List.mem_cons,not_or]
    exact ⟨fun e => h e.symm,h3⟩
   ·refine .inr ⟨k + 1,?_,by simpa using h2,?_,by simpa using h4⟩
    ·rw [h1,if_neg (by simp only [beq_iff_eq]; omega)]; omega
    ·rw [h3]; simp
theorem zca (c:UInt8) (l:List UInt8):(zaq c l).1.length ≤ l.length ∧ ((zaq c l).2.2=true → (zaq c l).1.length + (zaq c l).2.1.length + 1=l.length) ∧ ((zaq c l).2.2=false → (zaq c l).1=l ∧ (zaq c l).2.1=[]):=by
 rcases zbo c l with ⟨h1,h2,h3⟩ | ⟨k,h1,h2,h3,h4⟩
 ·rw [h2]; simp
 ·rw [h3]; simp; omega
theorem za2 (c:UInt8) (l:List UInt8):(zaq c l).1.length ≤ l.length ∧ (zaq c l).2.1.length ≤ l.length:=by
 rcases zbo c l with ⟨h1,h2,h3⟩ | ⟨k,h1,h2,h3,h4⟩
 ·rw [h2]; simp
 ·rw [h3]; simp; omega
def zag (c:UInt8):List UInt8 → List (List UInt8)
 | [] => [[]]
 | x :: t => if x=c then [] :: zag c t else match zag c t with
  | p :: ps => (x :: p) :: ps
  | [] => [[x]]
theorem zaG (c:UInt8):∀ l,∃ p ps,zag c l=p :: ps
 | [] => ⟨_,_,rfl⟩
 | x :: t => by
  unfold zag
  by_cases h:x=c
  ·rw [if_pos h]; exact ⟨_,_,rfl⟩
  ·rw [if_neg h]
   obtain ⟨p,ps,e⟩:=zaG c t
   rw [e]; exact ⟨_,_,rfl⟩
theorem zbs (c:UInt8) (l:List UInt8):0 < (zag c l).length:=by obtain ⟨p,ps,e⟩:=zaG c l; rw [e]; simp
theorem zc6 (c:UInt8):∀ l,(zag c l).length ≤ l.length + 1
 | [] => by simp [zag]
 | x :: t => by
  have:=zc6 c t
  unfold zag
  by_cases h:x=c
  ·rw [if_pos h]; simp; omega
  ·rw [if_neg h]
   obtain ⟨p,ps,e⟩:=zaG c t
   rw [e] at this ⊢
   simp at this ⊢; omega
theorem zaE (c x:UInt8) (t:List UInt8):zag c (x :: t)=if x=c then [] :: zag c t else match zag c t with
  | p :: ps => (x :: p) :: ps
  | [] => [[x]]:=rfl
theorem zcx (c x:UInt8) (t:List UInt8):zaq c (x :: t)=if x=c then ([],t,true) else (x :: (zaq c t).1,(zaq c t).2.1,(zaq c t).2.2):=rfl
theorem zaU (c:UInt8):∀ l,zag c l=if (zaq c l).2.2=true then (zaq c l).1 :: zag c (zaq c l).2.1 else [l]
 | [] => rfl
 | x :: t => by
  have ih:=zaU c t
  rw [zaE,zcx]
  by_cases h:x=c
  ·rw [if_pos h,if_pos h,if_pos rfl]
  ·rw [if_neg h,if_neg h,ih]
   by_cases h2:(zaq c t).2.2=true
   ·rw [if_pos h2,if_pos h2]
   ·rw [if_neg h2,if_neg h2]
def zdt (c:UInt8) (r:List (List UInt8) × List UInt8) (x:UInt8):List (List UInt8) × List UInt8:=if x=c then (r.1 ++ [r.2],[]) else (r.1,r.2 ++ [x])
def zgF (c:UInt8) (l:List UInt8):List (List UInt8) × List UInt8:=l.foldl (zdt c) ([],[])
theorem zm6 (c x:UInt8) (l:List UInt8):zgF c (l ++ [x])=zdt c (zgF c l) x:=by unfold zgF; rw [List.foldl_append]; rfl
theorem zfG (c:UInt8):∀ (l:List UInt8) (d:List (List UInt8)) (cur p:List UInt8) (ps:List (List UInt8)),zag c l=p :: ps → (l.foldl (zdt c) (d,cur)).1 ++ [(l.foldl (zdt c) (d,cur)).2]=d ++ (cur ++ p) :: ps
 | [],d,cur,p,ps,h => by
  rw [zag] at h; injection h with h1 h2; subst h1 h2; simp
 | x :: t,d,cur,p,ps,h => by
  rw [zaE] at h
  obtain ⟨q,qs,e⟩:=zaG c t
  rw [List.foldl_cons]
  by_cases hx:x=c
  ·rw [if_pos hx] at h
   injection h with h1 h2
   subst h1
   rw [show zdt c (d,cur) x=(d ++ [cur],[]) from if_pos hx,zfG c t _ _ q qs e,← h2,e]
   simp
  ·rw [if_neg hx,e] at h
   injection h with h1 h2
   subst h1 h2
   rw [show zdt c (d,cur) x=(d,cur ++ [x]) from if_neg hx,zfG c t _ _ q qs e]
   simp
theorem zkw (c:UInt8) (l:List UInt8):zag c l=(zgF c l).1 ++ [(zgF c l).2]:=by
 obtain ⟨p,ps,e⟩:=zaG c l
 unfold zgF
 rw [zfG c l [] [] p ps e,e]; rfl
def zeL (x:List UInt8 × List UInt8 × Bool):Value:=.tuple #[.string (S x.1),.string (S x.2.1),.bool x.2.2]
theorem lCut_any (s:ByteArray) (c:UInt8) (w:World) (hs:s.size ≤ maxLen) :
  Calls Tryz.prog 164 #[.string s,.string ⟨#[c]⟩] w fun e w' => e=.returned (zeL (zaq c s.data.toList)) ∧ Qb w w':=by
 unfold maxLen at hs
 rcases zbo c s.data.toList with ⟨h1,h2,_⟩ | ⟨k,h1,h2,h3,_⟩
 ·have HI:=Lib.hid h1
  have HC:=Lib.hid h2
  clear h1 h2
  go_enter Tryz.func164,Tryz.ntmps164
  go_wp2_with fail
  refine (Tryz.stringslite_Index_one _ _ _).mono ?_
  rintro e w' ⟨rfl,rfl⟩
  rw [HI.out]
  go_wp2_with fail
  go_ret3
  exact ⟨by rw [HC.out]; rfl,Qb.refl _⟩
 ·rw [zaa] at h2
  have HI:=Lib.hid h1
  have HC:=Lib.hid h3
  clear h1 h3
  have i0:(0:Int) ≤ (k:Int):=by omega
  have i1:(k:Int) < (s.size:Int):=by omega
  have q1:IntKind.i64.wrap ((k:Int) + 1)=(k:Int) + 1:=IntWalk.i64_in _ (by omega)
  have q2:(0:Int) ≤ (k:Int) + 1:=by omega
  have q3:((k:Int) + 1).toNat=k + 1:=by omega
  have q4:(k:Int) + 1 ≤ (s.size:Int):=by omega
  go_enter Tryz.func164,Tryz.ntmps164
  go_wp2_with fail
  refine (Tryz.stringslite_Index_one _ _ _).mono ?_
  rintro e w' ⟨rfl,rfl⟩
  rw [HI.out]
  go_wp2_with fail
  go_quiet (fail)
  go_wp2_with fail
  go_ret3
  refine ⟨?_,(Qb.refl _).drewN _⟩
  rw [HC.out]
  refine congrArg Ending.returned (congrArg Value.tuple ?_)
  rw [show S (s.data.toList.take k)=s.extract 0 k from by rw [← S_of (s.extract 0 k),Lib.extract_data]; simp,show S (s.data.toList.drop (k + 1))=s.extract (k + 1) s.size from by
   rw [← S_of (s.extract (k + 1) s.size),Lib.extract_data]; congr 2; rw [List.take_of_length_le]; rw [List.length_drop,zaa]; omega]
  try rfl
theorem zbe (s:ByteArray) (c:UInt8) (w:World) (hs:s.size ≤ maxLen) :
  Calls Tryz.prog 129 #[.string s,.string ⟨#[c]⟩] w fun e w' => e=.returned (zeL (zaq c s.data.toList)) ∧ Qb w w':=by
 go_enter Tryz.func129,Tryz.ntmps129
 go_wp2_with fail
 refine (lCut_any _ _ _ hs).mono ?_
 rintro e w' ⟨rfl,hq⟩
 unfold zeL
 go_wp2_with fail
 go_ret3
 exact ⟨rfl,hq⟩
theorem za8 (s:ByteArray) (k:Nat):s.extract 0 k=S (s.data.toList.take k):=by rw [← S_of (s.extract 0 k),Lib.extract_data]; simp
theorem zg8 (s:ByteArray) (i j:Nat):s.extract i j=S ((s.data.toList.drop i).take (j - i)):=by rw [← S_of (s.extract i j),Lib.extract_data]
theorem zaB (s:ByteArray) (k:Nat):s.extract k s.size=S (s.data.toList.drop k):=by
 rw [zg8,List.take_of_length_le (by rw [List.length_drop,zaa]; omega)]
def zqF (l:List UInt8) (c:UInt8) (w:World) (e:Ending) (w':World):Prop:=∃ v,e=.returned v ∧ zfy w' w.heap.size v (zag c l) ∧ Qb w w'
theorem zex (s:ByteArray) (c:UInt8) (w:World) (hs:s.size ≤ 1000000) :
  Calls Tryz.prog 138 #[.string s,.int .u8 c.toNat] w (zqF s.data.toList c w):=by
 go_enter Tryz.func138,Tryz.ntmps138
 go_wp2_with fail
 go_loopw [5,6,7] (fun v f i wr => ∃ (k j:Nat) (ls:List (List UInt8)),k ≤ s.size ∧ j ≤ k ∧ ls.length ≤ k ∧ i=.int .i64 k ∧ f=.int .i64 j ∧ zfy wr w.heap.size v ls ∧ Hid (zgF c (s.data.toList.take k)=(ls,(s.data.toList.drop j).take (k - j))) ∧ Qb w wr) (fun _ _ i _ => s.size - (intOf i).toNat)
 case atStart => exact ⟨0,0,[],Nat.zero_le _,Nat.le_refl _,Nat.le_refl _,rfl,rfl,zfy.nil _ _,Lib.hid (by simp [zgF]),Qb.refl w⟩
 case round =>
  obtain ⟨k,j,ls,hk,hj,hls,rfl,rfl,hrow,HL,hq⟩:=hrel
  have hB:w.heap.size ≤ wr.heap.size:=hq.size
  have HX:=Lib.hid (zg8 s j k)
  by_cases hlt:k < s.size
  ·have HS:=Lib.hid ((congrArg (zgF c) (zcp s k hlt)).trans (zm6 c s[k] (s.data.toList.take k)))
   by_cases hc:s[k]=c
   ·have hb:((s[k].toNat:Int) == (c.toNat:Int))=true:=by rw [hc]; exact beq_self_eq_true _
    have HN:Hid (zgF c (s.data.toList.take (k + 1))=(ls ++ [(s.extract j k).data.toList],(s.data.toList.drop (k + 1)).take (k + 1 - (k + 1)))):=Lib.hid (by
     rw [HS.out,HL.out]; unfold zdt; rw [if_pos hc,HX.out]; simp)
    clear hc HS HL
    go_wp2_with (at_builtin; refine zdq rfl (.tmp 19) (.tmp 24) rfl w.heap.size _ ls [(s.extract j k).data.toList] rfl (hrow.alloc _) _ _ _ rfl rfl (news1S _ _) (by simp; omega) (by simp; omega) ?_; intro v1 w1 hr1 hb1)
    go_roundw
    case rel => exact ⟨k + 1,k + 1,_,by omega,by omega,by simp; omega,by go_num,by go_num,hr1,HN,Below.trans (hq.alloc _) hb1⟩
    case measure => simp [intOf]; omega
   ·have hb:((s[k].toNat:Int) == (c.toNat:Int))=false:=by
     rw [beq_eq_false_iff_ne]; intro e; exact hc (UInt8.toNat_inj.1 (by omega))
    have HN:Hid (zgF c (s.data.toList.take (k + 1))=(ls,(s.data.toList.drop j).take (k + 1 - j))):=Lib.hid (by
     rw [HS.out,HL.out]; unfold zdt; rw [if_neg hc]
     have e1:(s.data.toList.drop j).take (k + 1 - j)=(s.data.toList.drop j).take (k - j) ++ [s[k]]:=by
      rw [show k + 1 - j=(k - j) + 1 from by omega,List.take_succ_eq_append_getElem (by rw [List.length_drop,zaa]; omega),List.getElem_drop]
      congr 2
      rw [← zqx s k hlt]
      congr 1; omega
     rw [e1])
    clear hc HS HL
    go_wp2_with fail
    go_roundw
    case rel => exact ⟨k + 1,j,ls,by omega,by omega,by omega,by go_num,rfl,hrow,HN,hq⟩
    case measure => simp [intOf]; omega
  ·obtain rfl:k=s.size:=by omega
   have HN:Hid (zag c s.data.toList=ls ++ [(s.extract j s.size).data.toList]):=Lib.hid (by
    rw [zkw,← zbL s s.size hlt,HL.out,HX.out])
   clear HL
   go_wp2_with (at_builtin; refine zdq rfl (.tmp 28) (.tmp 32) rfl w.heap.size _ ls [(s.extract j s.size).data.toList] rfl (hrow.alloc _) _ _ _ rfl rfl (news1S _ _) (by simp; omega) (by simp; omega) ?_; intro v1 w1 hr1 hb1)
   go_ret
   exact ⟨v1,rfl,by rw [HN.out]; exact hr1,Below.trans (hq.alloc _) hb1⟩
end Go.Proofs.YtljbdpihiboeaaaGreatDoor
namespace Go.Proofs.YtljbdpihiboeaaaGreatDoor
structure UriP where
 scheme:List UInt8
 auth:List UInt8
 path:List UInt8
 query:List UInt8
 frag:List UInt8
 hs:Bool
 ha:Bool
 hq:Bool
 hf:Bool
def zfA:UriP:=⟨[],[],[],[],[],false,false,false,false⟩
def zbn (u:UriP):Array Value:=#[.string (S u.scheme),.string (S u.auth),.string (S u.path),.string (S u.query),.string (S u.frag),.bool u.hs,.bool u.ha,.bool u.hq,.bool u.hf]
def uriA (u:UriP):Value:=.agg (zbn u)
def zlh (r:Int × UriP):Value:=.tuple #[uriA r.2,.int .i64 r.1]
def zat (l:List UInt8):List UInt8:=(zaq 47 l).1
def scB (c:UInt8):Bool:=za0 c || zak c || zbb c [43,45,46]
def zbQ:List UInt8 → Bool
 | [] => false
 | c :: t => za0 c && t.all scB
def zbK (l:List UInt8):Bool:=Lib.hasPrefix l [47,47]
theorem zhz {l:List UInt8} (h:zbK l=true):Lib.trimPrefix l [47,47]=l.drop 2:=by unfold Lib.trimPrefix; rw [if_pos (show Lib.hasPrefix l [47,47]=true from h)]; rfl
theorem zbv {l:List UInt8} (h:zbK l=true):2 ≤ l.length:=by
 have:=(List.isPrefixOf_iff_prefix.1 h).length_le
 simpa using this
def zcA (l:List UInt8):List UInt8:=(zaq 63 (zaq 35 l).1).1
def zbw (l:List UInt8):List UInt8 × List UInt8 × Bool:=zaq 58 (zat (zcA l))
def zd1 (l:List UInt8):List UInt8:=if (zbw l).2.2=true then (zcA l).drop ((zbw l).1.length + 1) else zcA l
def zbd (r:List UInt8):List UInt8:=if zbK r=true then zat (r.drop 2) else []
def zby (r:List UInt8):List UInt8:=if zbK r=true then (r.drop 2).drop (zbd r).length else r
def zav (l:List UInt8):Int × UriP :=
 if 16384 < l.length then (5,zfA)
 else if ((zbw l).2.2 && !zbQ (zbw l).1)=true then (6,zfA)
 else (0,{ scheme:=if (zbw l).2.2=true then (zbw l).1 else [],auth:=zbd (zd1 l),path:=zby (zd1 l),query:=(zaq 63 (zaq 35 l).1).2.1,frag:=(zaq 35 l).2.1,hs:=(zbw l).2.2,ha:=zbK (zd1 l),hq:=(zaq 63 (zaq 35 l).1).2.2,hf:=(zaq 35 l).2.2 })
theorem zaI (l:List UInt8):zat l=l.take (zat l).length ∧ (zat l).length ≤ l.length:=by
 unfold zat
 rcases zbo 47 l with ⟨h1,h2,h3⟩ | ⟨k,h1,h2,h3,h4⟩
 ·rw [h2]; simp
 ·rw [h3]; simp; omega
end Go.Proofs.YtljbdpihiboeaaaGreatDoor
namespace Go.Proofs.YtljbdpihiboeaaaGreatDoor
open Go.RowKit
def Obk (w:World) (g:Nat) (t:TypeId) (cs:Array Value):Prop:=w.heap[g]? = some (.cells cs t (0,0))
theorem Obk.lt {w:World} {g:Nat} {t:TypeId} {cs:Array Value} (h:Obk w g t cs):g < w.heap.size:=by
 rcases Nat.lt_or_ge g w.heap.size with h1 | h1
 ·exact h1
 ·unfold Obk at h; rw [Array.getElem?_eq_none h1] at h; cases h
theorem Obk.cell {w:World} {g:Nat} {t:TypeId} {cs:Array Value} (h:Obk w g t cs) (i:Nat):w.cell? ⟨g,i,none⟩=cs[i]?:=cell_of_row w g i cs t (0,0) h
theorem Obk.frozen {w:World} {g:Nat} {t:TypeId} {cs:Array Value} (h:Obk w g t cs) (i:Nat):w.frozen? ⟨g,i,none⟩=false:=by
 unfold Obk at h; simp [World.frozen?,h]
theorem Obk.new (w:World) (t:TypeId) (cs:Array Value):Obk (w.alloc (.cells cs t)) w.heap.size t cs:=heap_alloc_new w _
theorem Obk.qb {w w':World} {g:Nat} {t:TypeId} {cs:Array Value} (h:Obk w g t cs) (hq:Qb w w'):Obk w' g t cs:=(hq.block g h.lt).trans h
theorem Obk.alloc {w:World} {g:Nat} {t:TypeId} {cs:Array Value} (h:Obk w g t cs) (o:Obj):Obk (w.alloc o) g t cs:=(Below.heap_alloc w o g h.lt).trans h
theorem Obk.drew {w:World} {g:Nat} {t:TypeId} {cs:Array Value} (h:Obk w g t cs):Obk w.drew g t cs:=h
theorem Obk.drewN {w:World} {g:Nat} {t:TypeId} {cs:Array Value} (h:Obk w g t cs) (n:Nat):Obk (w.drewN n) g t cs:=h
theorem Obk.put {w:World} {g:Nat} {t:TypeId} {cs:Array Value} (h:Obk w g t cs) (i:Nat) (u:Value):Obk (w.setCell ⟨g,i,none⟩ u) g t (cs.setIfInBounds i u):=by
 unfold Obk at h ⊢
 simp [World.setCell,Array.getElem?_modify,h]
theorem Obk.far {w:World} {g:Nat} {t:TypeId} {cs:Array Value} (h:Obk w g t cs) {p:Addr} (hp:g ≠ p.block) (u:Value):Obk (w.setCell p u) g t cs:=(Below.heap_setCell w p u g hp).trans h
theorem Obk.at_ (w:World) (t:TypeId) (cs:Array Value) (g:Nat) (h:w.heap.size=g):Obk (w.alloc (.cells cs t)) g t cs:=by subst h; exact Obk.new w t cs
theorem Obk.st {w:World} {g:Nat} {t:TypeId} {cs:Array Value} (h:Obk w g t cs) (b o:Nat) (u:Value) (hne:g ≠ b):Obk (w.setCell ⟨b,o,none⟩ u) g t cs:=h.far (p:=⟨b,o,none⟩) hne u
theorem Qb.st {a c:World} (h:Qb a c) (b o:Nat) (u:Value) (hb:a.heap.size ≤ b):Qb a (c.setCell ⟨b,o,none⟩ u):=h.set (p:=⟨b,o,none⟩) hb u
theorem Obk.other {w w':World} {g b:Nat} {t:TypeId} {cs:Array Value} (h:Obk w g t cs) (hg:w.grownBy w' (some b)) (hne:g ≠ b):Obk w' g t cs:=(hg.block g h.lt (fun e => hne (Option.some.inj e))).trans h
theorem zpR (w:World) (g i:Nat) (u:Value):w.grownBy (w.setCell ⟨g,i,none⟩ u) (some g) :=
 ⟨rfl,rfl,rfl,by simp [World.setCell],fun k hk hne => Below.heap_setCell w _ u k (by intro e; exact hne (by rw [e]))⟩
theorem Qb.turned {a b c:World} {g:Nat} (h:Qb a b) (hg:b.grownBy c (some g)) (hr:a.heap.size ≤ g):Qb a c:=h.grown hg (fun k hk => by rw [← Option.some.inj hk]; exact hr)
end Go.Proofs.YtljbdpihiboeaaaGreatDoor
namespace Go.Proofs.YtljbdpihiboeaaaGreatDoor
open Go.RowKit
theorem zc2 (s:ByteArray) (w:World) (hs:s.size ≤ maxLen) :
  Calls Tryz.prog 213 #[.string s] w fun e w' => e=.returned (.string (S (zat s.data.toList))) ∧ Qb w w':=by
 obtain ⟨p,q,b,hcut⟩:∃ p q b,zaq 47 s.data.toList=(p,q,b):=⟨_,_,_,rfl⟩
 have HC:=Lib.hid hcut
 clear hcut
 go_enter Tryz.func213,Tryz.ntmps213
 go_wp2_with fail
 refine (zbe s 47 _ hs).mono ?_
 rintro e w1 ⟨rfl,hq1⟩
 rw [HC.out]
 unfold zeL
 go_wp2_with fail
 go_ret
 exact ⟨zfi (by unfold zat; rw [HC.out]),hq1⟩
theorem zil (s:ByteArray) (w:World) (hs:s.size ≤ maxLen) :
  Calls Tryz.prog 211 #[.string s] w fun e w' => e=.returned (.int .i64 (Lib.indexByte (zat s.data.toList) 58)) ∧ Qb w w':=by
 go_enter Tryz.func211,Tryz.ntmps211
 go_wp2_with fail
 refine (zc2 s _ hs).mono ?_
 rintro e w1 ⟨rfl,hq1⟩
 go_wp2_with fail
 refine (Tryz.strings_IndexByte _ _ _).mono ?_
 rintro e w2 ⟨rfl,rfl⟩
 go_wp2_with fail
 go_ret
 exact ⟨rfl,hq1⟩
def zhr (l:List UInt8):Bool:=match l with | [] => true | c :: t => za0 c && t.all scB
theorem zjf (l:List UInt8) (x:UInt8):zhr (l ++ [x])=(zhr l && (if l=[] then za0 x else scB x)):=by
 rcases l with _ | ⟨c,t⟩
 ·simp [zhr]
 ·simp [zhr,Bool.and_assoc]
theorem zll {l:List UInt8} {k:Nat} (h:zhr (l.take k)=false):zhr l=false:=by
 rcases l with _ | ⟨c,t⟩
 ·simp [zhr] at h
 ·rcases k with _ | k
  ·simp [zhr] at h
  ·rw [List.take_succ_cons] at h
   have h':(za0 c && (t.take k).all scB)=false:=h
   show (za0 c && t.all scB)=false
   rcases hc:za0 c with _ | _
   ·rfl
   ·rw [hc,Bool.true_and] at h'
    rw [zbg scB t k h']; rfl
theorem zfe {l:List UInt8} (h:l ≠ []):zbQ l=zhr l:=by
 rcases l with _ | ⟨c,t⟩
 ·exact absurd rfl h
 ·rfl
theorem zkO {l:List UInt8} {c:UInt8}:Lib.indexByte l c < 0 ↔ zbb c l=false:=by
 unfold zbb
 rcases zbo c l with ⟨h1,h2,h3⟩ | ⟨k,h1,h2,h3,h4⟩
 ·rw [h1]; simp [h3]
 ·rw [h1]
  have:=List.mem_of_getElem? h4
  simp [this]
theorem zf4 (s:ByteArray) (w:World) (hs:s.size ≤ maxLen) :
  Calls Tryz.prog 212 #[.string s] w fun e w' => e=.returned (.bool (zbQ s.data.toList)) ∧ w=w':=by
 unfold maxLen at hs
 go_enter Tryz.func212,Tryz.ntmps212
 go_wp2_with fail
 go_loop [6] (fun i => ∃ k:Nat,k ≤ s.size ∧ i=.int .i64 k ∧ Hid (zhr (s.data.toList.take k)=true)) (fun i => s.size - (intOf i).toNat)
 case atStart => exact ⟨0,Nat.zero_le _,rfl,Lib.hid rfl⟩
 case round =>
  obtain ⟨k,hk,rfl,HT⟩:=hrel
  by_cases hlt:k < s.size
  ·have hne:Hid (s.data.toList ≠ []):=Lib.hid (fun e => by have:=zaa s; rw [e] at this; simp at this; omega)
   have hstep:zhr (s.data.toList.take (k + 1))=(if s.data.toList.take k=[] then za0 s[k] else scB s[k]):=by
    rw [zcp s k hlt,zjf,HT.out,Bool.true_and]
   have hbad:zhr (s.data.toList.take (k + 1))=false → Hid (zbQ s.data.toList=false):=fun h => Lib.hid (by rw [zfe hne.out,zll h])
   rcases ha:za0 s[k] with _ | _
   ·by_cases hk0:k=0
    ·subst hk0
     have HB:=hbad (by rw [hstep,List.take_zero,if_pos rfl,ha])
     have H1:=Lib.hid ha
     clear ha hstep hbad
     go_wp2_with fail
     refine (zba _ _).mono ?_
     rintro e w' ⟨rfl,rfl⟩
     rw [H1.out]
     go_wp2_with fail
     go_ret
     exact ⟨zaj (by rw [HB.out]),rfl⟩
    ·have hkb:((k:Int) == 0)=false:=by rw [beq_eq_false_iff_ne]; omega
     have htk:s.data.toList.take k ≠ []:=fun e => by have:=congrArg List.length e; rw [List.length_take,zaa,List.length_nil] at this; omega
     rw [if_neg htk] at hstep
     rcases hd:zak s[k] with _ | _
     ·rcases hi:zbb s[k] [43,45,46] with _ | _
      ·have HB:=hbad (by rw [hstep]; unfold scB; rw [ha,hd,hi]; rfl)
       have hidx:Lib.indexByte [43,45,46] s[k] < 0:=zkO.2 hi
       have H1:=Lib.hid ha
       have H2:=Lib.hid hd
       clear ha hd hi hstep hbad hk0 htk
       go_wp2_with fail
       refine (zba _ _).mono ?_
       rintro e w' ⟨rfl,rfl⟩
       rw [H1.out]
       go_wp2_with fail
       refine (zaT _ _).mono ?_
       rintro e w' ⟨rfl,rfl⟩
       rw [H2.out]
       go_wp2_with fail
       refine (Tryz.strings_IndexByte _ _ _).mono ?_
       rintro e w2 ⟨rfl,rfl⟩
       rw [zab,zdr]
       go_wp2_with fail
       go_ret
       exact ⟨zaj (by rw [HB.out]),rfl⟩
      ·have HB:Hid (zhr (s.data.toList.take (k + 1))=true):=Lib.hid (by rw [hstep]; unfold scB; rw [ha,hd,hi]; rfl)
       have hidx:0 ≤ Lib.indexByte [43,45,46] s[k]:=by
        by_cases h:Lib.indexByte [43,45,46] s[k] < 0
        ·rw [zkO.1 h] at hi; cases hi
        ·omega
       have H1:=Lib.hid ha
       have H2:=Lib.hid hd
       clear ha hd hi hstep hbad hk0 htk
       go_wp2_with fail
       refine (zba _ _).mono ?_
       rintro e w' ⟨rfl,rfl⟩
       rw [H1.out]
       go_wp2_with fail
       refine (zaT _ _).mono ?_
       rintro e w' ⟨rfl,rfl⟩
       rw [H2.out]
       go_wp2_with fail
       refine (Tryz.strings_IndexByte _ _ _).mono ?_
       rintro e w2 ⟨rfl,rfl⟩
       rw [zab,zdr]
       go_wp2_with fail
       go_round
       case rel => exact ⟨k + 1,by omega,by go_num,HB⟩
       case measure => simp [intOf]; omega
     ·have HB:Hid (zhr (s.data.toList.take (k + 1))=true):=Lib.hid (by rw [hstep]; unfold scB; rw [ha,hd]; rfl)
      have H1:=Lib.hid ha
      have H2:=Lib.hid hd
      clear ha hd hstep hbad hk0 htk
      go_wp2_with fail
      refine (zba _ _).mono ?_
      rintro e w' ⟨rfl,rfl⟩
      rw [H1.out]
      go_wp2_with fail
      refine (zaT _ _).mono ?_
      rintro e w' ⟨rfl,rfl⟩
      rw [H2.out]
      go_wp2_with fail
      go_round
      case rel => exact ⟨k + 1,by omega,by go_num,HB⟩
      case measure => simp [intOf]; omega
   ·have HB:Hid (zhr (s.data.toList.take (k + 1))=true):=Lib.hid (by rw [hstep]; unfold scB; rw [ha]; split <;> rfl)
    have H1:=Lib.hid ha
    clear ha hstep hbad
    go_wp2_with fail
    refine (zba _ _).mono ?_
    rintro e w' ⟨rfl,rfl⟩
    rw [H1.out]
    go_wp2_with fail
    go_round
    case rel => exact ⟨k + 1,by omega,by go_num,HB⟩
    case measure => simp [intOf]; omega
  ·have HE:=Lib.hid (zbL s k hlt)
   by_cases h0:s.size=0
   ·obtain rfl:s=S []:=zc5 h0
    clear h0 hs hk hlt HE HT
    go_wp2_with fail
    go_ret
    exact ⟨rfl,rfl⟩
   ·have hne:s.data.toList ≠ []:=fun e => by have:=zaa s; rw [e] at this; simp at this; omega
    have he1:s.toList.isEmpty=false:=by rw [ByteArray.toList_eq]; simpa using hne
    have HB:Hid (zbQ s.data.toList=true):=Lib.hid (by rw [zfe hne,← HE.out,HT.out])
    clear hne h0
    go_wp2_with fail
    go_ret
    exact ⟨zaj (by rw [HB.out]),rfl⟩
def CutPost (c:UInt8) (l:List UInt8) (g:Nat) (w:World) (e:Ending) (w':World):Prop :=
 e=.returned (.tuple #[.string (S (zaq c l).2.1),.bool (zaq c l).2.2]) ∧ Obk w' g 9 #[.string (S (zaq c l).1)] ∧ w.grownBy w' (some g)
theorem zf8 (l:List UInt8) (c:UInt8) (g:Nat) (w:World) (hl:l.length ≤ 9223372036854775806) (hk:Obk w g 9 #[.string (S l)]) :
  Calls Tryz.prog 210 #[.int .u8 c.toNat,.pointer (some ⟨g,0,none⟩)] w (CutPost c l g w):=by
 have hc0:w.cell? ⟨g,0,none⟩=some (.string (S l)):=hk.cell 0
 have hf0:=hk.frozen 0
 have hp:=hk.put 0
 have hz:=zac l
 rcases zbo c l with ⟨h1,h2,_⟩ | ⟨k,h1,h2,h3,_⟩
 ·have HI:=Lib.hid h1
  have HC:=Lib.hid h2
  have HK:=Lib.hid hk
  clear h1 h2 hk hp hz
  go_enter Tryz.func210,Tryz.ntmps210
  go_wp2_with fail
  refine (Tryz.strings_IndexByte _ _ _).mono ?_
  rintro e w2 ⟨rfl,rfl⟩
  rw [zab,zdr,HI.out]
  go_wp2_with fail
  go_ret2
  exact ⟨by rw [HC.out]; rfl,by rw [HC.out]; exact HK.out,World.grownBy.refl _ _⟩
 ·have HI:=Lib.hid h1
  have HC:=Lib.hid h3
  have HP:=Lib.hid hp
  have i1:(k:Int) < (l.length:Int):=by omega
  clear h1 h3 hk hp hz
  go_enter Tryz.func210,Tryz.ntmps210
  go_wp2_with fail
  refine (Tryz.strings_IndexByte _ _ _).mono ?_
  rintro e w2 ⟨rfl,rfl⟩
  rw [zab,zdr,HI.out]
  go_wp2_with fail
  go_ret2
  have e1:(S l).extract (k + 1) l.length=S (l.drop (k + 1)):=by
   have:=zaB (S l) (k + 1)
   rw [zac,zab] at this; exact this
  have e2:(S l).extract 0 k=S (l.take k):=za8 (S l) k
  refine ⟨?_,?_,?_⟩
  ·rw [HC.out]
   show Ending.returned (.tuple #[.string ((S l).extract (k + 1) l.length),.bool true])=_
   rw [e1]
  ·rw [HC.out]
   show Obk _ _ _ #[.string (S (l.take k))]
   rw [← e2]
   exact HP.out _
  ·exact zpR _ _ _ _
end Go.Proofs.YtljbdpihiboeaaaGreatDoor
namespace Go.Proofs.YtljbdpihiboeaaaGreatDoor
open Go.RowKit
def zaz (l set:List UInt8):Nat:=l.findIdx fun c => zbb c set
theorem ziH (l set:List UInt8):zaz l set ≤ l.length:=List.findIdx_le_length
theorem idxS_at {l set:List UInt8} {k:Nat} (h:k < l.length) (h1:∀ j (hj:j < k),zbb (l[j]'(by omega)) set=false) (h2:zbb l[k] set=true):zaz l set=k:=by
 unfold zaz
 rw [List.findIdx_eq h]
 exact ⟨h2,fun j hj => by rw [h1 j hj]⟩
theorem zpH {l set:List UInt8} (h1:∀ j (hj:j < l.length),zbb l[j] set=false):zaz l set=l.length:=by
 unfold zaz
 rw [List.findIdx_eq_length]
 intro x hx
 obtain ⟨j,hj,rfl⟩:=List.getElem_of_mem hx
 rw [h1 j hj]
theorem zbz (c:UInt8):∀ l,zaz l [c]=(zaq c l).1.length
 | [] => rfl
 | x :: t => by
  have ih:=zbz c t
  unfold zaz at ih ⊢
  rw [List.findIdx_cons,zcx,ih]
  by_cases h:x=c
  ·subst h; simp [zbb]
  ·rw [if_neg h]
   have:zbb x [c]=false:=by simp [zbb,h]
   rw [this]; rfl
theorem zbh (s set:ByteArray) (w:World) (hs:s.size ≤ maxLen) (ha:set.size ≤ maxLen) :
  Calls Tryz.prog 73 #[.string s,.string set] w fun e w' => e=.returned (.int .i64 (zaz s.data.toList set.data.toList)) ∧ w=w':=by
 have hm:=hs
 unfold maxLen at hm
 go_enter Tryz.func73,Tryz.ntmps73
 go_wp2_with fail
 go_loop [5] (fun i => ∃ k:Nat,k ≤ s.size ∧ i=.int .i64 k ∧ Hid (∀ j (hj:j < s.size),j < k → zbb s[j] set.data.toList=false)) (fun i => s.size - (intOf i).toNat)
 case atStart => exact ⟨0,Nat.zero_le _,rfl,Lib.hid (fun j hj h => absurd h (Nat.not_lt_zero _))⟩
 case round =>
  obtain ⟨k,hk,rfl,HT⟩:=hrel
  by_cases hlt:k < s.size
  ·rcases hb:zbb s[k] set.data.toList with _ | _
   ·have HB:=Lib.hid hb
    have HN:Hid (∀ j (hj:j < s.size),j < k + 1 → zbb s[j] set.data.toList=false):=Lib.hid fun j hj h => by
     by_cases e:j=k
     ·subst e; exact HB.out
     ·exact HT.out j hj (by omega)
    clear hb
    go_wp2_with fail
    refine (zb3 _ _ _ ha).mono ?_
    rintro e w' ⟨rfl,rfl⟩
    rw [HB.out]
    go_wp2_with fail
    go_round
    case rel => exact ⟨k + 1,by omega,by go_num,HN⟩
    case measure => simp [intOf]; omega
   ·have HB:=Lib.hid hb
    have HN:Hid (zaz s.data.toList set.data.toList=k):=Lib.hid (idxS_at (by rw [zaa]; exact hlt) (fun j hj => HT.out j (by omega) hj) hb)
    clear hb
    go_wp2_with fail
    refine (zb3 _ _ _ ha).mono ?_
    rintro e w' ⟨rfl,rfl⟩
    rw [HB.out]
    go_wp2_with fail
    go_ret
    exact ⟨zdf (by rw [HN.out]),rfl⟩
  ·have HN:Hid (zaz s.data.toList set.data.toList=s.size):=Lib.hid (by
    rw [zpH (fun j hj => HT.out j (by rw [zaa] at hj; exact hj) (by rw [zaa] at hj; omega)),zaa])
   go_wp2_with fail
   go_ret
   exact ⟨zdf (by rw [HN.out]),rfl⟩
theorem zlH (s p:List UInt8):Lib.hasPrefix s p=(s.take p.length == p):=by
 unfold Lib.hasPrefix
 rw [Bool.eq_iff_iff,List.isPrefixOf_iff_prefix,beq_iff_eq]
 constructor
 ·rintro ⟨t,rfl⟩; simp
 ·intro h; exact ⟨s.drop p.length,by have:=List.take_append_drop p.length s; rw [h] at this; exact this⟩
theorem zas (s p:ByteArray) (w:World) (hs:s.size ≤ maxLen) :
  Calls Tryz.prog 144 #[.string s,.string p] w fun e w' => e=.returned (.bool (Lib.hasPrefix s.data.toList p.data.toList)) ∧ w=w':=by
 unfold maxLen at hs
 by_cases h:p.size ≤ s.size
 ·have HP:Hid (Lib.hasPrefix s.data.toList p.data.toList=((s.extract 0 p.size).toList == p.toList)):=Lib.hid (by
   rw [zlH,ByteArray.toList_eq,ByteArray.toList_eq,za8,zab,zaa])
  go_enter Tryz.func144,Tryz.ntmps144
  go_wp2_with fail
  go_ret
  exact ⟨zaj (by rw [HP.out]),rfl⟩
 ·have HP:Hid (Lib.hasPrefix s.data.toList p.data.toList=false):=Lib.hid (by
   rw [zlH,beq_eq_false_iff_ne]
   intro e
   have:=congrArg List.length e
   rw [List.length_take,zaa,zaa] at this
   omega)
  have h2:s.size < p.size:=by omega
  clear h
  go_enter Tryz.func144,Tryz.ntmps144
  go_wp2_with fail
  go_ret
  exact ⟨zaj (by rw [HP.out]),rfl⟩
theorem zkB (s:ByteArray) (w:World) (hs:s.size ≤ maxLen) :
  Calls Tryz.prog 172 #[.string s] w fun e w' => e=.returned (.bool (zbQ s.data.toList)) ∧ w=w':=by
 unfold maxLen at hs
 go_enter Tryz.func172,Tryz.ntmps172
 go_wp2_with fail
 go_loop [3] (fun i => ∃ k:Nat,k ≤ s.size ∧ i=.int .i64 k ∧ Hid (zhr (s.data.toList.take k)=true)) (fun i => s.size - (intOf i).toNat)
 case atStart => exact ⟨0,Nat.zero_le _,rfl,Lib.hid rfl⟩
 case round =>
  obtain ⟨k,hk,rfl,HT⟩:=hrel
  by_cases hlt:k < s.size
  ·have hne:Hid (s.data.toList ≠ []):=Lib.hid (fun e => by have:=zaa s; rw [e] at this; simp at this; omega)
   have hstep:zhr (s.data.toList.take (k + 1))=(if s.data.toList.take k=[] then za0 s[k] else scB s[k]):=by
    rw [zcp s k hlt,zjf,HT.out,Bool.true_and]
   have hbad:zhr (s.data.toList.take (k + 1))=false → Hid (zbQ s.data.toList=false):=fun h => Lib.hid (by rw [zfe hne.out,zll h])
   rcases ha:za0 s[k] with _ | _
   ·by_cases hk0:k=0
    ·subst hk0
     have HB:=hbad (by rw [hstep,List.take_zero,if_pos rfl,ha])
     have H1:=Lib.hid ha
     clear ha hstep hbad
     go_wp2_with fail
     refine (za4 _ _).mono ?_
     rintro e w' ⟨rfl,rfl⟩
     rw [H1.out]
     go_wp2_with fail
     go_ret
     exact ⟨zaj (by rw [HB.out]),rfl⟩
    ·have hkb:((k:Int) == 0)=false:=by rw [beq_eq_false_iff_ne]; omega
     have htk:s.data.toList.take k ≠ []:=fun e => by have:=congrArg List.length e; rw [List.length_take,zaa,List.length_nil] at this; omega
     rw [if_neg htk] at hstep
     rcases hd:zak s[k] with _ | _
     ·rcases hi:zbb s[k] [43,45,46] with _ | _
      ·have HB:=hbad (by rw [hstep]; unfold scB; rw [ha,hd,hi]; rfl)
       have H1:=Lib.hid ha
       have H2:=Lib.hid hd
       have H3:=Lib.hid hi
       clear ha hd hi hstep hbad hk0 htk
       go_wp2_with fail
       refine (za4 _ _).mono ?_
       rintro e w' ⟨rfl,rfl⟩
       rw [H1.out]
       go_wp2_with fail
       refine (za3 _ _).mono ?_
       rintro e w' ⟨rfl,rfl⟩
       rw [H2.out]
       go_wp2_with fail
       refine (zb3 _ _ _ (by decide)).mono ?_
       rintro e w2 ⟨rfl,rfl⟩
       rw [zab,H3.out]
       go_wp2_with fail
       go_ret
       exact ⟨zaj (by rw [HB.out]),rfl⟩
      ·have HB:Hid (zhr (s.data.toList.take (k + 1))=true):=Lib.hid (by rw [hstep]; unfold scB; rw [ha,hd,hi]; rfl)
       have H1:=Lib.hid ha
       have H2:=Lib.hid hd
       have H3:=Lib.hid hi
       clear ha hd hi hstep hbad hk0 htk
       go_wp2_with fail
       refine (za4 _ _).mono ?_
       rintro e w' ⟨rfl,rfl⟩
       rw [H1.out]
       go_wp2_with fail
       refine (za3 _ _).mono ?_
       rintro e w' ⟨rfl,rfl⟩
       rw [H2.out]
       go_wp2_with fail
       refine (zb3 _ _ _ (by decide)).mono ?_
       rintro e w2 ⟨rfl,rfl⟩
       rw [zab,H3.out]
       go_wp2_with fail
       go_round
       case rel => exact ⟨k + 1,by omega,by go_num,HB⟩
       case measure => simp [intOf]; omega
     ·have HB:Hid (zhr (s.data.toList.take (k + 1))=true):=Lib.hid (by rw [hstep]; unfold scB; rw [ha,hd]; rfl)
      have H1:=Lib.hid ha
      have H2:=Lib.hid hd
      clear ha hd hstep hbad hk0 htk
      go_wp2_with fail
      refine (za4 _ _).mono ?_
      rintro e w' ⟨rfl,rfl⟩
      rw [H1.out]
      go_wp2_with fail
      refine (za3 _ _).mono ?_
      rintro e w' ⟨rfl,rfl⟩
      rw [H2.out]
      go_wp2_with fail
      go_round
      case rel => exact ⟨k + 1,by omega,by go_num,HB⟩
      case measure => simp [intOf]; omega
   ·have HB:Hid (zhr (s.data.toList.take (k + 1))=true):=Lib.hid (by rw [hstep]; unfold scB; rw [ha]; split <;> rfl)
    have H1:=Lib.hid ha
    clear ha hstep hbad
    go_wp2_with fail
    refine (za4 _ _).mono ?_
    rintro e w' ⟨rfl,rfl⟩
    rw [H1.out]
    go_wp2_with fail
    go_round
    case rel => exact ⟨k + 1,by omega,by go_num,HB⟩
    case measure => simp [intOf]; omega
  ·have HE:=Lib.hid (zbL s k hlt)
   by_cases h0:s.size=0
   ·obtain rfl:s=S []:=zc5 h0
    clear h0 hs hk hlt HE HT
    go_wp2_with fail
    go_ret
    exact ⟨rfl,rfl⟩
   ·have hne:s.data.toList ≠ []:=fun e => by have:=zaa s; rw [e] at this; simp at this; omega
    have he1:s.toList.isEmpty=false:=by rw [ByteArray.toList_eq]; simpa using hne
    have HB:Hid (zbQ s.data.toList=true):=Lib.hid (by rw [zfe hne,← HE.out,HT.out])
    clear hne h0
    go_wp2_with fail
    go_ret
    exact ⟨zaj (by rw [HB.out]),rfl⟩
end Go.Proofs.YtljbdpihiboeaaaGreatDoor
namespace Go.Proofs.YtljbdpihiboeaaaGreatDoor
def dvN (c:UInt8):Nat:=if c.toNat ≤ 57 then c.toNat - 48 else if c.toNat ≤ 70 then c.toNat - 55 else c.toNat - 87
def zdU (base most:Nat):List UInt8 → Nat → Option Nat
 | [],n => some n
 | c :: l,n => if n * base + dvN c ≤ most then zdU base most l (n * base + dvN c) else none
def optE:Option Nat → Int × Nat
 | some n => (0,n)
 | none => (4,0)
def zhp (base most:Nat) (l:List UInt8):Int × Nat:=optE (zdU base most l 0)
def zdk (p:UInt8 → Bool) (l:List UInt8):Int:=if l=[] then 3 else if l.all p=true then 0 else 1
def zgb (p:UInt8 → Bool) (base most:Nat) (l:List UInt8):Int × Nat:=if zdk p l=0 then zhp base most l else (zdk p l,0)
def zda:List UInt8 → Bool
 | 48 :: _ :: _ => true
 | _ => false
def zaF (most:Nat) (l:List UInt8):Int × Nat:=if zdk zak l=0 then (if zda l=true then (6,0) else zhp 10 most l) else (zdk zak l,0)
def zhn (r:Int × Nat):Value:=.tuple #[.int .u64 r.2,.int .i64 r.1]
theorem hexC {c:UInt8} (h:zbj c=true):48 ≤ c.toNat ∧ c.toNat ≤ 57 ∨ 97 ≤ c.toNat ∧ c.toNat ≤ 102 ∨ 65 ≤ c.toNat ∧ c.toNat ≤ 70:=of_decide_eq_true h
theorem dvN_lt {c:UInt8} (h:zbj c=true):dvN c < 16:=by have:=hexC h; unfold dvN; (repeat' split) <;> omega
theorem zj7 {c:UInt8} (h:zak c=true):dvN c=c.toNat - 48 ∧ 48 ≤ c.toNat ∧ c.toNat ≤ 57:=by
 have h2:48 ≤ c.toNat ∧ c.toNat ≤ 57:=of_decide_eq_true h
 exact ⟨by unfold dvN; rw [if_pos h2.2],h2⟩
theorem zqm {c:UInt8} (h:zak c=true):zbj c=true:=by
 have h2:48 ≤ c.toNat ∧ c.toNat ≤ 57:=of_decide_eq_true h
 exact decide_eq_true (.inl h2)
theorem zfw {l:List UInt8} (h:l.all zak=true):l.all zbj=true:=by
 rw [List.all_eq_true] at h ⊢
 exact fun c hc => zqm (h c hc)
theorem zhe {p:UInt8 → Bool} {l:List UInt8} (h0:l ≠ []) (h:l.all p=true):zdk p l=0:=by unfold zdk; rw [if_neg h0,if_pos h]
theorem zh6 {p:UInt8 → Bool} {l:List UInt8} (h0:l ≠ []) (h:l.all p=false):zdk p l=1:=by unfold zdk; rw [if_neg h0,if_neg (by rw [h]; exact Bool.false_ne_true)]
theorem zeH {p:UInt8 → Bool} {l:List UInt8} (h:zdk p l=0):l ≠ [] ∧ l.all p=true:=by
 unfold zdk at h
 by_cases h0:l=[]
 ·rw [if_pos h0] at h; cases h
 ·rw [if_neg h0] at h
  by_cases h1:l.all p=true
  ·exact ⟨h0,h1⟩
  ·rw [if_neg h1] at h; cases h
theorem zf9 (p:UInt8 → Bool) (l:List UInt8):zdk p l=0 ∨ zdk p l=1 ∨ zdk p l=3:=by
 unfold zdk; repeat' split
 all_goals simp
theorem znT (base most:Nat):∀ (l:List UInt8) (n m:Nat),n ≤ most → zdU base most l n=some m → m ≤ most
 | [],n,m,hn,h => by rw [zdU] at h; injection h with h; omega
 | c :: l,n,m,hn,h => by
  rw [zdU] at h
  split at h
  ·rename_i h1; exact znT base most l _ m h1 h
  ·cases h
theorem valE_le (base most:Nat) (l:List UInt8):(zhp base most l).2 ≤ most:=by
 unfold zhp
 rcases h:zdU base most l 0 with _ | n
 ·exact Nat.zero_le _
 ·exact znT base most l 0 n (Nat.zero_le _) h
theorem zeR (most:Nat) (l:List UInt8):(zaF most l).2 ≤ most:=by
 unfold zaF; split
 ·split
  ·exact Nat.zero_le _
  ·exact valE_le _ _ _
 ·exact Nat.zero_le _
theorem zdT (s:ByteArray):zda s.data.toList=true ↔ ∃ h:1 < s.size,s[0]=48:=by
 by_cases h0:0 < s.size
 ·have e:=zaX s 0 h0
  rw [List.drop_zero] at e
  rw [e]
  by_cases h1:1 < s.size
  ·rw [zaX s 1 h1]
   constructor
   ·intro h
    refine ⟨h1,?_⟩
    unfold zda at h
    split at h
    ·rename_i h2; injection h2
    ·cases h
   ·rintro ⟨_,h⟩
    rw [h]; rfl
  ·constructor
   ·intro h
    rw [List.drop_of_length_le (by rw [zaa]; omega)] at h
    unfold zda at h
    split at h
    ·rename_i h2; injection h2 with h2 h3; cases h3
    ·cases h
   ·rintro ⟨h,_⟩; exact absurd h h1
 ·have:s.data.toList=[]:=List.eq_nil_of_length_eq_zero (by rw [zaa]; omega)
  rw [this]
  constructor
  ·intro h; cases h
  ·rintro ⟨h,_⟩; omega
end Go.Proofs.YtljbdpihiboeaaaGreatDoor
namespace Go.Proofs.YtljbdpihiboeaaaGreatDoor
open Go.RowKit
theorem nand_223:∀ n:Fin 256,bits .and .u8 ((n.val:Nat):Int) 223=((n.val &&& 223:Nat):Int):=by decide +kernel
theorem nor_32:∀ n:Fin 256,(97 ≤ n.val ∧ n.val ≤ 102 ∨ 65 ≤ n.val ∧ n.val ≤ 70) → bits .or .u8 ((n.val:Nat):Int) 32=(((if n.val ≤ 70 then n.val + 32 else n.val):Nat):Int):=by decide +kernel
theorem nhex_223:∀ n:Fin 256,(97 ≤ n.val ∧ n.val ≤ 102 ∨ 65 ≤ n.val ∧ n.val ≤ 70) → (n.val &&& 223)=(if n.val ≤ 70 then n.val else n.val - 32):=by decide +kernel
theorem zfM (c:UInt8) (h:zbj c=true) (w:World) :
  Calls Tryz.prog 259 #[.int .u8 c.toNat] w fun e w' => e=.returned (.int .u64 (dvN c:Int)) ∧ w=w':=by
 rcases hd:zak c with _ | _
 ·have h3:=hexC h
  have h2:¬ (48 ≤ c.toNat ∧ c.toNat ≤ 57):=of_decide_eq_false hd
  have h4:97 ≤ c.toNat ∧ c.toNat ≤ 102 ∨ 65 ≤ c.toNat ∧ c.toNat ≤ 70:=by omega
  obtain ⟨x,hx,hx0,hx1,hx2⟩:∃ x:Int,bits .and .u8 (c.toNat:Int) 223=x ∧ 65 ≤ x ∧ x ≤ 70 ∧ x - 65 + 10=dvN c:=by
   refine ⟨_,(nand_223 ⟨c.toNat,c.toNat_lt⟩).trans (congrArg Nat.cast (nhex_223 ⟨c.toNat,c.toNat_lt⟩ h4)),?_,?_,?_⟩
   all_goals simp only [dvN]
   all_goals (repeat' split)
   all_goals omega
  have HX:=Lib.hid hx2
  have HD:=Lib.hid hd
  clear h h3 h2 h4 hd hx2
  go_enter Tryz.func259,Tryz.ntmps259
  go_wp2_with fail
  refine (zaT _ _).mono ?_
  rintro e w' ⟨rfl,rfl⟩
  rw [HD.out]
  go_wp2_with fail
  go_ret
  exact ⟨zdf (by rw [← HX.out]),rfl⟩
 ·have h2:=zj7 hd
  have HX:=Lib.hid h2.1
  have hx0:=h2.2.1
  have hx1:=h2.2.2
  have HD:=Lib.hid hd
  clear h hd h2
  go_enter Tryz.func259,Tryz.ntmps259
  go_wp2_with fail
  refine (zaT _ _).mono ?_
  rintro e w' ⟨rfl,rfl⟩
  rw [HD.out]
  go_wp2_with fail
  go_ret
  exact ⟨zdf (by rw [HX.out]; omega),rfl⟩
theorem zbP (s:ByteArray) (w:World) (hs:s.size ≤ maxLen) :
  Calls Tryz.prog 245 #[.string s,.func (.func 177) #[] #[]] w fun e w' => e=.returned (.int .i64 (zdk zak s.data.toList)) ∧ w=w':=by
 unfold maxLen at hs
 by_cases h0:s.size=0
 ·obtain rfl:s=S []:=zc5 h0
  clear h0 hs
  go_enter Tryz.func245,Tryz.ntmps245
  go_wp2_with fail
  go_ret
  exact ⟨rfl,rfl⟩
 ·have hne:s.data.toList ≠ []:=fun e => h0 (by rw [← zaa,e]; rfl)
  have HE:=Lib.hid hne
  have he1:s.toList.isEmpty=false:=by rw [ByteArray.toList_eq]; simpa using hne
  have hpos:0 < s.size:=by omega
  clear h0 hne
  go_enter Tryz.func245,Tryz.ntmps245
  go_wp2_with fail
  go_loop [10] (fun i => ∃ k:Nat,k ≤ s.size ∧ i=.int .i64 k ∧ Hid ((s.data.toList.take k).all zak=true)) (fun i => s.size - (intOf i).toNat)
  case atStart => exact ⟨0,Nat.zero_le _,rfl,Lib.hid rfl⟩
  case round =>
   obtain ⟨k,hk,rfl,HA⟩:=hrel
   by_cases hlt:k < s.size
   ·rcases hp:zak s[k] with _ | _
    ·have HB:Hid (s.data.toList.all zak=false):=Lib.hid (zbg _ _ (k + 1) (by rw [zcc _ _ _ hlt,hp,Bool.and_false]))
     have HP:=Lib.hid hp
     clear hp
     go_wp2_with fail
     refine (zaT _ _).mono ?_
     rintro e w' ⟨rfl,rfl⟩
     rw [HP.out]
     go_wp2_with fail
     go_ret
     exact ⟨zdf (by rw [zh6 HE.out HB.out]),rfl⟩
    ·have HB:Hid ((s.data.toList.take (k + 1)).all zak=true):=Lib.hid (by rw [zcc _ _ _ hlt,hp,HA.out]; rfl)
     have HP:=Lib.hid hp
     clear hp
     go_wp2_with fail
     refine (zaT _ _).mono ?_
     rintro e w' ⟨rfl,rfl⟩
     rw [HP.out]
     go_wp2_with fail
     go_round
     case rel => exact ⟨k + 1,by omega,by go_num,HB⟩
     case measure => simp [intOf]; omega
   ·have HB:Hid (s.data.toList.all zak=true):=Lib.hid (by rw [← zbL s k hlt]; exact HA.out)
    go_wp2_with fail
    go_ret
    exact ⟨zdf (by rw [zhe HE.out HB.out]),rfl⟩
theorem all_at {p:UInt8 → Bool} {s:ByteArray} (h:s.data.toList.all p=true) (k:Nat) (hk:k < s.size):p s[k]=true:=by
 rw [List.all_eq_true] at h
 exact h _ (by rw [← zj1 s k hk,List.getD_eq_getElem?_getD,List.getElem?_eq_getElem (by rw [zaa]; exact hk)]; exact List.getElem_mem _)
theorem zeQ (s:ByteArray) (most:Int) (w:World) (hs:s.size ≤ maxLen) (h0:0 ≤ most) (h1:most ≤ 18446744073709551615) (hh:s.data.toList.all zbj=true) :
  Calls Tryz.prog 246 #[.string s,.int .u64 10,.int .u64 most] w fun e w' => e=.returned (zhn (zhp 10 most.toNat s.data.toList)) ∧ w=w':=by
 unfold maxLen at hs
 obtain ⟨M,rfl⟩:=Int.eq_ofNat_of_zero_le h0
 rw [Int.toNat_natCast]
 have HH:=Lib.hid hh
 clear hh h0
 go_enter Tryz.func246,Tryz.ntmps246
 go_wp2_with fail
 go_loop [8,13] (fun n i => ∃ k m:Nat,k ≤ s.size ∧ m ≤ M ∧ i=.int .i64 k ∧ n=.int .u64 m ∧ Hid (zdU 10 M s.data.toList 0=zdU 10 M (s.data.toList.drop k) m)) (fun _ i => s.size - (intOf i).toNat)
 case atStart => exact ⟨0,0,Nat.zero_le _,Nat.zero_le _,rfl,rfl,Lib.hid rfl⟩
 case round =>
  obtain ⟨k,m,hk,hm,rfl,rfl,HV⟩:=hrel
  by_cases hlt:k < s.size
  ·have hx:=all_at HH.out k hlt
   have hd16:=dvN_lt hx
   have HX:=Lib.hid hx
   have HC:Hid (zdU 10 M (s.data.toList.drop k) m=if m * 10 + dvN s[k] ≤ M then zdU 10 M (s.data.toList.drop (k + 1)) (m * 10 + dvN s[k]) else none):=Lib.hid (by rw [zaX s k hlt]; rfl)
   clear hx
   generalize hdv:dvN s[k]=d at *
   have HD:=Lib.hid hdv
   clear hdv
   by_cases hdm:d ≤ M
   ·by_cases hok:m * 10 + d ≤ M
    ·have hq1:(m:Int) ≤ ((M:Int) - d) / 10:=by omega
     have HN:Hid (zdU 10 M s.data.toList 0=zdU 10 M (s.data.toList.drop (k + 1)) (m * 10 + d)):=Lib.hid (by rw [HV.out,HC.out,if_pos hok])
     go_wp2_with fail
     refine (zfM _ HX.out _).mono ?_
     rintro e w' ⟨rfl,rfl⟩
     rw [HD.out]
     go_wp2_with fail
     go_round
     case rel => exact ⟨k + 1,m * 10 + d,by omega,hok,by go_num,by go_num,HN⟩
     case measure => simp [intOf]; omega
    ·have hq1:((M:Int) - d) / 10 < m:=by omega
     have HN:Hid (zdU 10 M s.data.toList 0=none):=Lib.hid (by rw [HV.out,HC.out,if_neg hok])
     clear hok
     go_wp2_with fail
     refine (zfM _ HX.out _).mono ?_
     rintro e w' ⟨rfl,rfl⟩
     rw [HD.out]
     go_wp2_with fail
     go_ret2
     exact ⟨by unfold zhp; rw [HN.out]; rfl,rfl⟩
   ·have hdm1:(M:Int) < d:=by omega
    have HN:Hid (zdU 10 M s.data.toList 0=none):=Lib.hid (by rw [HV.out,HC.out,if_neg (by omega)])
    clear hdm
    go_wp2_with fail
    refine (zfM _ HX.out _).mono ?_
    rintro e w' ⟨rfl,rfl⟩
    rw [HD.out]
    go_wp2_with fail
    go_ret2
    exact ⟨by unfold zhp; rw [HN.out]; rfl,rfl⟩
  ·have HN:Hid (zdU 10 M s.data.toList 0=some m):=Lib.hid (by rw [HV.out,List.drop_of_length_le (by rw [zaa]; omega)]; rfl)
   go_wp2_with fail
   go_ret2
   exact ⟨by unfold zhp; rw [HN.out]; rfl,rfl⟩
theorem zce (s:ByteArray) (most:Int) (w:World) (hs:s.size ≤ maxLen) (h0:0 ≤ most) (h1:most ≤ 18446744073709551615) :
  Calls Tryz.prog 209 #[.string s,.int .u64 most] w fun e w' => e=.returned (zhn (zaF most.toNat s.data.toList)) ∧ w=w':=by
 rcases zf9 zak s.data.toList with hc | hc | hc
 ·have HA:Hid (s.data.toList.all zbj=true):=Lib.hid (zfw (zeH hc).2)
  have hpos:0 < s.size:=by
   have:=(zeH hc).1
   have h2:s.data.toList.length ≠ 0:=fun e => this (List.eq_nil_of_length_eq_zero e)
   rw [zaa] at h2; omega
  rcases hz:zda s.data.toList with _ | _
  ·have HN:Hid (zaF most.toNat s.data.toList=zhp 10 most.toNat s.data.toList):=Lib.hid (by unfold zaF; rw [if_pos hc,if_neg (by rw [hz]; exact Bool.false_ne_true)])
   have HC:=Lib.hid hc
   rw [HN.out]
   have hor:s.size ≤ 1 ∨ ((s[0].toNat:Int) == 48)=false:=by
    by_cases h:s.size ≤ 1
    ·exact .inl h
    ·refine .inr (beq_eq_false_iff_ne.2 fun e => ?_)
     have:s[0]=48:=UInt8.toNat_inj.1 (by show s[0].toNat=48; omega)
     have:=(zdT s).2 ⟨by omega,this⟩
     rw [hz] at this; cases this
   clear hc hz
   unfold maxLen at hs
   rcases hor with hor | hor
   ·go_enter Tryz.func209,Tryz.ntmps209
    go_wp2_with fail
    refine (zbP s _ hs).mono ?_
    rintro e w' ⟨rfl,rfl⟩
    rw [HC.out]
    go_wp2_with fail
    refine (zeQ s most _ hs h0 h1 HA.out).mono ?_
    rintro e w' ⟨rfl,rfl⟩
    unfold zhn
    go_wp2_with fail
    go_ret2
    exact ⟨rfl,rfl⟩
   ·by_cases h1s:s.size ≤ 1
    ·clear hor
     go_enter Tryz.func209,Tryz.ntmps209
     go_wp2_with fail
     refine (zbP s _ hs).mono ?_
     rintro e w' ⟨rfl,rfl⟩
     rw [HC.out]
     go_wp2_with fail
     refine (zeQ s most _ hs h0 h1 HA.out).mono ?_
     rintro e w' ⟨rfl,rfl⟩
     unfold zhn
     go_wp2_with fail
     go_ret2
     exact ⟨rfl,rfl⟩
    ·have h2s:1 < s.size:=by omega
     clear h1s
     go_enter Tryz.func209,Tryz.ntmps209
     go_wp2_with fail
     refine (zbP s _ hs).mono ?_
     rintro e w' ⟨rfl,rfl⟩
     rw [HC.out]
     go_wp2_with fail
     refine (zeQ s most _ hs h0 h1 HA.out).mono ?_
     rintro e w' ⟨rfl,rfl⟩
     unfold zhn
     go_wp2_with fail
     go_ret2
     exact ⟨rfl,rfl⟩
  ·obtain ⟨h2s,h48⟩:=(zdT s).1 hz
   have HN:Hid (zaF most.toNat s.data.toList=(6,0)):=Lib.hid (by unfold zaF; rw [if_pos hc,if_pos hz])
   have hb:((s[0].toNat:Int) == 48)=true:=by rw [h48]; rfl
   have HC:=Lib.hid hc
   rw [HN.out]
   clear hc hz h48
   go_enter Tryz.func209,Tryz.ntmps209
   go_wp2_with fail
   refine (zbP s _ hs).mono ?_
   rintro e w' ⟨rfl,rfl⟩
   rw [HC.out]
   go_wp2_with fail
   go_ret2
   exact ⟨rfl,rfl⟩
 ·have HN:Hid (zaF most.toNat s.data.toList=(1,0)):=Lib.hid (by unfold zaF; rw [hc,if_neg (by decide)])
  have HC:=Lib.hid hc
  clear hc
  rw [HN.out]
  go_enter Tryz.func209,Tryz.ntmps209
  go_wp2_with fail
  refine (zbP s _ hs).mono ?_
  rintro e w' ⟨rfl,rfl⟩
  rw [HC.out]
  go_wp2_with fail
  go_ret2
  exact ⟨rfl,rfl⟩
 ·have HN:Hid (zaF most.toNat s.data.toList=(3,0)):=Lib.hid (by unfold zaF; rw [hc,if_neg (by decide)])
  have HC:=Lib.hid hc
  clear hc
  rw [HN.out]
  go_enter Tryz.func209,Tryz.ntmps209
  go_wp2_with fail
  refine (zbP s _ hs).mono ?_
  rintro e w' ⟨rfl,rfl⟩
  rw [HC.out]
  go_wp2_with fail
  go_ret2
  exact ⟨rfl,rfl⟩
end Go.Proofs.YtljbdpihiboeaaaGreatDoor
namespace Go.Proofs.YtljbdpihiboeaaaGreatDoor
open Go.RowKit
theorem zne {c:UInt8} (h:zbj c=true):(48 ≤ c.toNat ∧ c.toNat ≤ 57 ∧ dvN c=c.toNat - 48) ∨ (57 < c.toNat ∧ ∃ x:Int,bits .or .u8 (c.toNat:Int) 32=x ∧ 97 ≤ x ∧ x ≤ 102 ∧ x - 97 + 10=dvN c):=by
 have h3:=hexC h
 by_cases hd:c.toNat ≤ 57
 ·refine .inl ⟨by omega,hd,?_⟩
  unfold dvN; rw [if_pos hd]
 ·have h4:97 ≤ c.toNat ∧ c.toNat ≤ 102 ∨ 65 ≤ c.toNat ∧ c.toNat ≤ 70:=by omega
  refine .inr ⟨by omega,_,nor_32 ⟨c.toNat,c.toNat_lt⟩ h4,?_,?_,?_⟩
  all_goals simp only [dvN]
  all_goals (repeat' split)
  all_goals omega
theorem zlj {M d:Nat} (hM:(M:Int) ≤ 18446744073709551615) (hd:d < 16) (h:M < d):∃ y:Int,IntKind.u64.wrap ((M:Int) - (d:Int))=y ∧ 1000 < y:=by
 refine ⟨_,rfl,?_⟩
 rw [IntKind.wrap_u64]
 omega
set_option maxHeartbeats 4000000 in
theorem zeg (s:ByteArray) (most:Int) (w:World) (hs:s.size ≤ maxLen) (h0:0 ≤ most) (h1:most ≤ 18446744073709551615) :
  Calls Tryz.prog 171 #[.string s,.int .u64 10,.int .u64 most] w fun e w' => e=.returned (zhn (zgb zak 10 most.toNat s.data.toList)) ∧ w=w':=by
 unfold maxLen at hs
 obtain ⟨M,rfl⟩:=Int.eq_ofNat_of_zero_le h0
 rw [Int.toNat_natCast]
 clear h0
 by_cases h0:s.size=0
 ·obtain rfl:s=S []:=zc5 h0
  clear h0 hs
  go_enter Tryz.func171,Tryz.ntmps171
  go_wp2_with fail
  go_ret2
  exact ⟨rfl,rfl⟩
 ·have hne:s.data.toList ≠ []:=fun e => h0 (by rw [← zaa,e]; rfl)
  have HE:=Lib.hid hne
  have he1:s.toList.isEmpty=false:=by rw [ByteArray.toList_eq]; simpa using hne
  have hpos:0 < s.size:=by omega
  clear h0 hne
  go_enter Tryz.func171,Tryz.ntmps171
  go_wp2_with fail
  go_loop [8] (fun i => ∃ k:Nat,k ≤ s.size ∧ i=.int .i64 k ∧ Hid ((s.data.toList.take k).all zak=true)) (fun i => s.size - (intOf i).toNat)
  case atStart => exact ⟨0,Nat.zero_le _,rfl,Lib.hid rfl⟩
  case round =>
   obtain ⟨k,hk,rfl,HA⟩:=hrel
   by_cases hlt:k < s.size
   ·rcases hp:zak s[k] with _ | _
    ·have HB:Hid (s.data.toList.all zak=false):=Lib.hid (zbg _ _ (k + 1) (by rw [zcc _ _ _ hlt,hp,Bool.and_false]))
     have HP:=Lib.hid hp
     clear hp
     go_wp2_with fail
     refine (za3 _ _).mono ?_
     rintro e w' ⟨rfl,rfl⟩
     rw [HP.out]
     go_wp2_with fail
     go_ret2
     exact ⟨by unfold zgb; rw [zh6 HE.out HB.out,if_neg (by decide)]; rfl,rfl⟩
    ·have HB:Hid ((s.data.toList.take (k + 1)).all zak=true):=Lib.hid (by rw [zcc _ _ _ hlt,hp,HA.out]; rfl)
     have HP:=Lib.hid hp
     clear hp
     go_wp2_with fail
     refine (za3 _ _).mono ?_
     rintro e w' ⟨rfl,rfl⟩
     rw [HP.out]
     go_wp2_with fail
     go_round
     case rel => exact ⟨k + 1,by omega,by go_num,HB⟩
     case measure => simp [intOf]; omega
   ·have HB:Hid (s.data.toList.all zak=true):=Lib.hid (by rw [← zbL s k hlt]; exact HA.out)
    have HQ:Hid (zgb zak 10 M s.data.toList=zhp 10 M s.data.toList):=Lib.hid (by unfold zgb; rw [zhe HE.out HB.out,if_pos rfl])
    have HH:Hid (s.data.toList.all zbj=true):=Lib.hid (zfw HB.out)
    clear HA HB
    go_wp2_with fail
    go_loop [9,10,11] (fun n i _ => ∃ k m:Nat,k ≤ s.size ∧ m ≤ M ∧ i=.int .i64 k ∧ n=.int .u64 m ∧ Hid (zdU 10 M s.data.toList 0=zdU 10 M (s.data.toList.drop k) m)) (fun _ i _ => s.size - (intOf i).toNat)
    case atStart => exact ⟨0,0,Nat.zero_le _,Nat.zero_le _,rfl,rfl,Lib.hid rfl⟩
    case round =>
     obtain ⟨k,m,hk,hm,rfl,rfl,HV⟩:=hrel
     by_cases hlt:k < s.size
     ·have hx:=all_at HH.out k hlt
      have hd16:=dvN_lt hx
      have hcs:=zne hx
      have HC:Hid (zdU 10 M (s.data.toList.drop k) m=if m * 10 + dvN s[k] ≤ M then zdU 10 M (s.data.toList.drop (k + 1)) (m * 10 + dvN s[k]) else none):=Lib.hid (by rw [zaX s k hlt]; rfl)
      clear hx
      generalize hdv:dvN s[k]=d at *
      clear hdv
      rcases hcs with ⟨c1,c2,hc3⟩ | ⟨c1,x,hx,hx1,hx2,hx3⟩
      ·have HD:=Lib.hid hc3
       clear hc3
       by_cases hdm:d ≤ M
       ·by_cases hok:m * 10 + d ≤ M
        ·have HN:Hid (zdU 10 M s.data.toList 0=zdU 10 M (s.data.toList.drop (k + 1)) (m * 10 + d)):=Lib.hid (by rw [HV.out,HC.out,if_pos hok])
         have e1:(m:Int) ≤ (M:Int) / 10:=by omega
         have hde:=HD.out
         have hdi:(s[k].toNat:Int) - 48=(d:Int):=by omega
         have e2:(m:Int) * 10 ≤ (M:Int) - ((s[k].toNat:Int) - 48):=by omega
         have e3:(s[k].toNat:Int) - 48 ≤ (M:Int):=by omega
         have HI:=Lib.hid hdi
         clear hde hdi
         go_wp2_with fail
         go_round
         case rel => exact ⟨k + 1,m * 10 + d,by omega,hok,by go_num,congrArg (Value.int .u64) (by have:=HI.out; omega),HN⟩
         case measure => simp [intOf]; omega
        ·have HN:Hid (zdU 10 M s.data.toList 0=none):=Lib.hid (by rw [HV.out,HC.out,if_neg hok])
         by_cases e1:(m:Int) ≤ (M:Int) / 10
         ·have hde:=HD.out
          have e2:(M:Int) - ((s[k].toNat:Int) - 48) < (m:Int) * 10:=by omega
          have e3:(s[k].toNat:Int) - 48 ≤ (M:Int):=by omega
          have e4:(m:Int) * 10 ≤ 18446744073709551615:=by omega
          clear hde hok
          go_wp2_with fail
          go_ret2
          exact ⟨by rw [HQ.out]; unfold zhp; rw [HN.out]; rfl,rfl⟩
         ·have e2:(M:Int) / 10 < (m:Int):=by omega
          clear e1 hok
          go_wp2_with fail
          go_ret2
          exact ⟨by rw [HQ.out]; unfold zhp; rw [HN.out]; rfl,rfl⟩
       ·have HN:Hid (zdU 10 M s.data.toList 0=none):=Lib.hid (by rw [HV.out,HC.out,if_neg (by omega)])
        by_cases e1:(m:Int) ≤ (M:Int) / 10
        ·have hde:=HD.out
         obtain ⟨y,hy,hy1⟩:=zlj h1 hd16 (by omega:M < d)
         have hdi:(d:Int)=(s[k].toNat:Int) - 48:=by omega
         rw [hdi] at hy
         have e3:(M:Int) < (s[k].toNat:Int) - 48:=by omega
         have e4:(m:Int) * 10 ≤ 1000:=by omega
         clear hde hdi hdm
         go_wp2_with fail
         go_ret2
         exact ⟨by rw [HQ.out]; unfold zhp; rw [HN.out]; rfl,rfl⟩
        ·have e2:(M:Int) / 10 < (m:Int):=by omega
         clear e1 hdm
         go_wp2_with fail
         go_ret2
         exact ⟨by rw [HQ.out]; unfold zhp; rw [HN.out]; rfl,rfl⟩
      ·have HD:=Lib.hid hx3
       have c3:(10:Int) ≤ d:=by omega
       clear hx3
       by_cases hdm:d ≤ M
       ·by_cases hok:m * 10 + d ≤ M
        ·have HN:Hid (zdU 10 M s.data.toList 0=zdU 10 M (s.data.toList.drop (k + 1)) (m * 10 + d)):=Lib.hid (by rw [HV.out,HC.out,if_pos hok])
         have e1:(m:Int) ≤ (M:Int) / 10:=by omega
         have hde:=HD.out
         have hdi:x - 97 + 10=(d:Int):=by omega
         have e2:(m:Int) * 10 ≤ (M:Int) - (x - 97 + 10):=by omega
         have e3:x - 97 + 10 ≤ (M:Int):=by omega
         have HI:=Lib.hid hdi
         clear hde hdi
         go_wp2_with fail
         go_round
         case rel => exact ⟨k + 1,m * 10 + d,by omega,hok,by go_num,congrArg (Value.int .u64) (by have:=HI.out; omega),HN⟩
         case measure => simp [intOf]; omega
        ·have HN:Hid (zdU 10 M s.data.toList 0=none):=Lib.hid (by rw [HV.out,HC.out,if_neg hok])
         by_cases e1:(m:Int) ≤ (M:Int) / 10
         ·have hde:=HD.out
          have e2:(M:Int) - (x - 97 + 10) < (m:Int) * 10:=by omega
          have e3:x - 97 + 10 ≤ (M:Int):=by omega
          have e4:(m:Int) * 10 ≤ 18446744073709551615:=by omega
          clear hde hok
          go_wp2_with fail
          go_ret2
          exact ⟨by rw [HQ.out]; unfold zhp; rw [HN.out]; rfl,rfl⟩
         ·have e2:(M:Int) / 10 < (m:Int):=by omega
          clear e1 hok
          go_wp2_with fail
          go_ret2
          exact ⟨by rw [HQ.out]; unfold zhp; rw [HN.out]; rfl,rfl⟩
       ·have HN:Hid (zdU 10 M s.data.toList 0=none):=Lib.hid (by rw [HV.out,HC.out,if_neg (by omega)])
        by_cases e1:(m:Int) ≤ (M:Int) / 10
        ·have hde:=HD.out
         obtain ⟨y,hy,hy1⟩:=zlj h1 hd16 (by omega:M < d)
         have hdi:(d:Int)=x - 97 + 10:=by omega
         rw [hdi] at hy
         have e3:(M:Int) < x - 97 + 10:=by omega
         have e4:(m:Int) * 10 ≤ 1000:=by omega
         clear hde hdi hdm
         go_wp2_with fail
         go_ret2
         exact ⟨by rw [HQ.out]; unfold zhp; rw [HN.out]; rfl,rfl⟩
        ·have e2:(M:Int) / 10 < (m:Int):=by omega
         clear e1 hdm
         go_wp2_with fail
         go_ret2
         exact ⟨by rw [HQ.out]; unfold zhp; rw [HN.out]; rfl,rfl⟩
     ·have HN:Hid (zdU 10 M s.data.toList 0=some m):=Lib.hid (by rw [HV.out,List.drop_of_length_le (by rw [zaa]; omega)]; rfl)
      go_wp2_with fail
      go_ret2
      exact ⟨by rw [HQ.out]; unfold zhp; rw [HN.out]; rfl,rfl⟩
theorem zig (most:Nat) (l:List UInt8):((zgb zak 10 most l).1=0 ∨ (zgb zak 10 most l).1=4) ∧ (zda l=true → zaF most l=(6,0)) ∧ (zda l=false → zaF most l=zgb zak 10 most l) ∨
  ((zgb zak 10 most l).1=1 ∨ (zgb zak 10 most l).1=3) ∧ zaF most l=zgb zak 10 most l:=by
 unfold zgb zaF
 rcases zf9 zak l with hc | hc | hc
 ·rw [hc,if_pos rfl,if_pos rfl]
  refine .inl ⟨?_,fun hz => by rw [if_pos hz],fun hz => by rw [if_neg (by rw [hz]; exact Bool.false_ne_true)]⟩
  unfold zhp
  rcases zdU 10 most l 0 with _ | n
  ·exact .inr rfl
  ·exact .inl rfl
 ·rw [hc,if_neg (by decide),if_neg (by decide)]; exact .inr ⟨.inl rfl,rfl⟩
 ·rw [hc,if_neg (by decide),if_neg (by decide)]; exact .inr ⟨.inr rfl,rfl⟩
theorem zdh (s:ByteArray) (most:Int) (w:World) (hs:s.size ≤ maxLen) (h0:0 ≤ most) (h1:most ≤ 18446744073709551615) :
  Calls Tryz.prog 140 #[.string s,.int .u64 most] w fun e w' => e=.returned (zhn (zaF most.toNat s.data.toList)) ∧ w=w':=by
 unfold maxLen at hs
 have hcs:=zig most.toNat s.data.toList
 rcases hn:zgb zak 10 most.toNat s.data.toList with ⟨er,v⟩
 rw [hn] at hcs
 have HN:=Lib.hid hn
 clear hn
 rcases hcs with ⟨he,hz1,hz0⟩ | ⟨he,hz⟩
 ·rcases hz:zda s.data.toList with _ | _
  ·have HS:=Lib.hid (hz0 hz)
   have hor:s.size ≤ 1 ∨ (1 < s.size ∧ ∃ h:0 < s.size,((s[0].toNat:Int) == 48)=false):=by
    by_cases h:s.size ≤ 1
    ·exact .inl h
    ·refine .inr ⟨by omega,by omega,beq_eq_false_iff_ne.2 fun e => ?_⟩
     have:s[0]=48:=UInt8.toNat_inj.1 (by show s[0].toNat=48; omega)
     have:=(zdT s).2 ⟨by omega,this⟩
     rw [hz] at this; cases this
   rw [HS.out]
   clear hz0 hz1 hz HS
   rcases he with rfl | rfl
   all_goals rcases hor with hor | ⟨hor,hpos,hor2⟩
   all_goals go_enter Tryz.func140,Tryz.ntmps140
   all_goals go_wp2_with fail
   all_goals refine (zeg s most _ hs h0 h1).mono ?_
   all_goals rintro e w' ⟨rfl,rfl⟩
   all_goals rw [HN.out]
   all_goals unfold zhn
   all_goals go_wp2_with fail
   all_goals go_ret2
   all_goals exact ⟨rfl,rfl⟩
  ·obtain ⟨h2s,h48⟩:=(zdT s).1 hz
   have hb:((s[0].toNat:Int) == 48)=true:=by rw [h48]; rfl
   have HS:=Lib.hid (hz1 hz)
   rw [HS.out]
   clear hz0 hz1 hz HS h48
   rcases he with rfl | rfl
   all_goals go_enter Tryz.func140,Tryz.ntmps140
   all_goals go_wp2_with fail
   all_goals refine (zeg s most _ hs h0 h1).mono ?_
   all_goals rintro e w' ⟨rfl,rfl⟩
   all_goals rw [HN.out]
   all_goals unfold zhn
   all_goals go_wp2_with fail
   all_goals go_ret2
   all_goals exact ⟨rfl,rfl⟩
 ·rw [hz]
  clear hz
  rcases he with rfl | rfl
  all_goals go_enter Tryz.func140,Tryz.ntmps140
  all_goals go_wp2_with fail
  all_goals refine (zeg s most _ hs h0 h1).mono ?_
  all_goals rintro e w' ⟨rfl,rfl⟩
  all_goals rw [HN.out]
  all_goals unfold zhn
  all_goals go_wp2_with fail
  all_goals go_ret2
  all_goals exact ⟨rfl,rfl⟩
end Go.Proofs.YtljbdpihiboeaaaGreatDoor
namespace Go.Proofs.YtljbdpihiboeaaaGreatDoor
theorem ze3 {m:Nat} (h:m < 10):Lib.decDigits m=[UInt8.ofNat (48 + m)]:=Lib.decDigits_one h
theorem zgn {m:Nat} (h:¬ m < 10):Lib.decDigits m=Lib.decDigits (m / 10) ++ [UInt8.ofNat (48 + m % 10)]:=by
 rw [Lib.decDigits,dif_neg h]
theorem zgu (b M:Nat):∀ (l1 l2:List UInt8) (a:Nat),zdU b M (l1 ++ l2) a=match zdU b M l1 a with | some m => zdU b M l2 m | none => none
 | [],l2,a => rfl
 | c :: l,l2,a => by
  rw [List.cons_append,zdU,zdU]
  split
  ·exact zgu b M l l2 _
  ·rfl
theorem zqn {d:Nat} (h:d < 10):(UInt8.ofNat (48 + d)).toNat=48 + d:=by rw [UInt8.toNat_ofNat']; omega
theorem zmG {d:Nat} (h:d < 10):dvN (UInt8.ofNat (48 + d))=d ∧ zak (UInt8.ofNat (48 + d))=true:=by
 have e:=zqn h
 have h2:zak (UInt8.ofNat (48 + d))=true:=decide_eq_true (by rw [e]; omega)
 exact ⟨by rw [(zj7 h2).1,e]; omega,h2⟩
theorem valU_dec (M:Nat):∀ (k n:Nat),n ≤ k → n ≤ M → zdU 10 M (Lib.decDigits n) 0=some n:=by
 intro k
 induction k with
 | zero =>
  intro n hn hM
  obtain rfl:n=0:=by omega
  rw [ze3 (by decide)]
  rfl
 | succ k ih =>
  intro n hn hM
  by_cases h10:n < 10
  ·rw [ze3 h10,zdU,(zmG h10).1,if_pos (by omega),zdU]
   congr 1; omega
  ·rw [zgn h10,zgu,ih (n / 10) (by omega) (by omega)]
   simp only
   rw [zdU,(zmG (show n % 10 < 10 by omega)).1,if_pos (by omega),zdU]
   congr 1; omega
theorem zk3:∀ (k n:Nat),n ≤ k → (Lib.decDigits n).all zak=true ∧ Lib.decDigits n ≠ []:=by
 intro k
 induction k with
 | zero =>
  intro n hn
  obtain rfl:n=0:=by omega
  rw [ze3 (by decide)]
  exact ⟨by decide,by simp⟩
 | succ k ih =>
  intro n hn
  by_cases h10:n < 10
  ·rw [ze3 h10]
   exact ⟨by rw [List.all_cons,(zmG h10).2]; rfl,by simp⟩
  ·rw [zgn h10]
   exact ⟨by rw [List.all_append,(ih (n / 10) (by omega)).1,List.all_cons,(zmG (show n % 10 < 10 by omega)).2]; rfl,by simp⟩
theorem dec_head:∀ (k n:Nat),n ≤ k → 1 ≤ n → ∃ c t,Lib.decDigits n=c :: t ∧ c ≠ 48:=by
 intro k
 induction k with
 | zero => intro n hn h; omega
 | succ k ih =>
  intro n hn h
  by_cases h10:n < 10
  ·refine ⟨_,_,ze3 h10,fun e => ?_⟩
   have:=congrArg UInt8.toNat e
   rw [zqn h10] at this
   have h48:(48:UInt8).toNat=48:=rfl
   omega
  ·obtain ⟨c,t,h1,h2⟩:=ih (n / 10) (by omega) (by omega)
   exact ⟨c,t ++ [UInt8.ofNat (48 + n % 10)],by rw [zgn h10,h1]; rfl,h2⟩
theorem zmY {c:UInt8} {t:List UInt8} (h:c ≠ 48):zda (c :: t)=false:=by
 unfold zda
 split
 ·rename_i h2; injection h2 with h2; exact absurd h2 h
 ·rfl
theorem zk2 (n:Nat):zda (Lib.decDigits n)=false:=by
 by_cases h:n=0
 ·subst h; rw [ze3 (by decide)]; rfl
 ·obtain ⟨c,t,h1,h2⟩:=dec_head n n (Nat.le_refl _) (by omega)
  rw [h1]; exact zmY h2
theorem zm3 (n M:Nat) (h:n ≤ M):zaF M (Lib.decDigits n)=(0,n):=by
 have ha:=zk3 n n (Nat.le_refl _)
 unfold zaF
 rw [zhe ha.2 ha.1,if_pos rfl,if_neg (by rw [zk2]; exact Bool.false_ne_true)]
 unfold zhp
 rw [valU_dec M n n (Nat.le_refl _) h]
 rfl
end Go.Proofs.YtljbdpihiboeaaaGreatDoor
namespace Go.Proofs.YtljbdpihiboeaaaGreatDoor
open Go.RowKit Go.Sort
def Pw (w : World) : Prop := Lib.TabIs Tryz.prog w "internal/strconv.uint64pow10" .u64 Lib.pow10Tab
theorem Pw.keep {w w':World} (h:Pw w) (hq:Qb w w'):Pw w':=Lib.tabBelow_of_tabIs h w' hq
theorem Pw.drew {w:World} (h:Pw w):Pw w.drew:=h
theorem Pw.alloc {w:World} (h:Pw w) (o:Obj):Pw (w.alloc o):=Lib.tabIs_alloc h o
theorem qb_grow (w:World) (k:Nat) (os:Array Obj):Qb w (grow (w.drewN k) os):=Lib.below_grow w.heap.size w (Nat.le_refl _) k os
end Go.Proofs.YtljbdpihiboeaaaGreatDoor
namespace Go.Proofs.YtljbdpihiboeaaaGreatDoor
open Go.RowKit
theorem str_cons (x:Nat) (t:List UInt8):(strOfNums [48 + (x:Int)] ++ S t:ByteArray)=S (UInt8.ofNat (48 + x) :: t):=by
 rw [← S_of (strOfNums [48 + (x:Int)] ++ S t),ByteArray.data_append,Array.toList_append,strOfNums_data]
 have:(48 + (x:Int)).toNat=48 + x:=by omega
 simp [this]
set_option maxHeartbeats 1000000 in
theorem zjm (u:Nat) (hu64:u < 18446744073709551616) (w:World) :
  Calls Tryz.prog 135 #[.int .u64 u] w fun e w' => e=.returned (.string (S (Lib.decDigits u))) ∧ Qb w w':=by
 go_enter Tryz.func135,Tryz.ntmps135
 go_wp2_with fail
 go_loopw [0,3] (fun n s wr => ∃ (m:Nat) (t:List UInt8),m ≤ u ∧ n=.int .u64 m ∧ s=.string (S t) ∧ Hid (Lib.decDigits u=Lib.decDigits m ++ t) ∧ Qb w wr) (fun n _ _ => (intOf n).toNat)
 case atStart => exact ⟨u,[],Nat.le_refl _,rfl,rfl,Lib.hid (by simp),Qb.refl w⟩
 case round =>
  obtain ⟨m,t,hm,rfl,rfl,HD,hq⟩:=hrel
  have hst:=conv_new wr [48 + (m:Int) % 10] 1 rfl
  simp only [List.map_cons,List.map_nil] at hst
  have HC:Hid ((strOfNums [48 + (m:Int) % 10] ++ S t:ByteArray)=S (UInt8.ofNat (48 + m % 10) :: t)):=Lib.hid (str_cons (m % 10) t)
  have hsz:(S t).size ≤ 30:=by
   have h1:=congrArg List.length HD.out
   rw [List.length_append,Lib.decDigits_length] at h1
   have h2:=Lib.nDigits_le20 u hu64
   rw [zac]; omega
  have hsx:(strOfNums [48 + (m:Int) % 10]).size ≤ 1:=by rw [← zaa,strOfNums_data]; simp
  by_cases h10:m < 10
  ·have HN:Hid (Lib.decDigits u=UInt8.ofNat (48 + m % 10) :: t):=Lib.hid (by rw [HD.out,ze3 h10,Nat.mod_eq_of_lt h10]; rfl)
   have hz:((m:Int) / 10 == 0)=true:=by rw [beq_iff_eq]; omega
   clear HD
   go_wp2_with fail
   go_ret
   exact ⟨zeh (by rw [HN.out,HC.out]),hq.alloc _⟩
  ·have HN:Hid (Lib.decDigits u=Lib.decDigits (m / 10) ++ (UInt8.ofNat (48 + m % 10) :: t)):=Lib.hid (by rw [HD.out,zgn h10,List.append_assoc]; rfl)
   have hz:((m:Int) / 10 == 0)=false:=by rw [beq_eq_false_iff_ne]; omega
   clear HD
   go_wp2_with fail
   go_roundw
   case rel => exact ⟨m / 10,_,by omega,by go_num,congrArg Value.string HC.out,HN,hq.alloc _⟩
   case measure => simp [intOf]; omega
end Go.Proofs.YtljbdpihiboeaaaGreatDoor
namespace Go.Proofs.YtljbdpihiboeaaaGreatDoor.Sx
open Go.RowKit
set_option maxRecDepth 100000
def c_law27_FingerURLs:SCode :=
 .seq (.reg [⟨some 2,.box 23 (.t 0),none⟩,
 ⟨some 4,.mv (.c (.b false)),none⟩])
 (.seq (.seq (.reg [⟨some 19,.call 10 [],none⟩,
 ⟨some 20,.not (.t 19),none⟩])
 (.cond (.t 20)
 (.seq (.reg [⟨some 4,.mv (.c (.b false)),none⟩])
 (.ret))
 (.skip)))
 (.seq (.seq (.reg [⟨some 21,.loadn 4 (.t 2),none⟩,
 ⟨some 22,.call 11 [.t 21],none⟩,
 ⟨some 23,.not (.t 22),none⟩])
 (.cond (.t 23)
 (.seq (.reg [⟨some 4,.mv (.c (.b true)),none⟩])
 (.ret))
 (.skip)))
 (.seq (.seq (.drw [⟨some 24,.loadn 4 (.t 2),none⟩,
 ⟨some 25,.mv (.t 1),none⟩,
 ⟨some 26,.call 12 [.t 25],none⟩,
 ⟨some 27,.bslice 2 [.i .i64 0,.s [],.s [],.i .i64 0,.i .i64 0,.s [],.s [],.i .i64 0] [(0,(4,.t 24)),(4,(4,.t 26))],none⟩,
 ⟨some 28,.lenr (.t 27),none⟩,
 ⟨some 29,.mv (.c (.i .i64 0)),none⟩] 6 [])
 (.blk 0
 (.loop
 (.seq (.reg [⟨some 30,.bin .lss (.t 29) (.t 28),none⟩])
 (.seq (.cond (.t 30)
 (.skip)
 (.exit 0))
 (.seq (.blk 1
 (.seq (.reg [⟨some 31,.iad 4 (.t 27) (.t 29),none⟩,
 ⟨some 32,.loadn 4 (.t 31),none⟩,
 ⟨some 6,.alloc 23 [.i .i64 0,.s [],.s [],.i .i64 0],none⟩,
 ⟨none,.store 4 (.t 6) (.t 32),none⟩])
 (.seq (.reg [⟨some 34,.loadn 4 (.t 6),none⟩,
 ⟨some 35,.call 13 [.t 34],none⟩,
 ⟨some 33,.mv (.t 35),none⟩,
 ⟨some 36,.ext (.t 33) 0,none⟩,
 ⟨some 37,.ext (.t 33) 1,none⟩,
 ⟨some 7,.alloc 30 [.s [],.i .i64 0,.s [],.s [],.s [],.b false,.b false],none⟩,
 ⟨none,.store 7 (.t 7) (.t 36),none⟩,
 ⟨some 8,.mv (.t 37),none⟩])
 (.seq (.reg [⟨some 39,.loadn 4 (.t 6),none⟩,
 ⟨some 40,.call 14 [.t 39],none⟩,
 ⟨some 38,.mv (.t 40),none⟩,
 ⟨some 41,.ext (.t 38) 0,none⟩,
 ⟨some 42,.ext (.t 38) 1,none⟩,
 ⟨some 9,.alloc 30 [.s [],.i .i64 0,.s [],.s [],.s [],.b false,.b false],none⟩,
 ⟨none,.store 7 (.t 9) (.t 41),none⟩,
 ⟨some 10,.mv (.t 42),none⟩])
 (.seq (.reg [⟨some 44,.loadn 4 (.t 6),none⟩,
 ⟨some 45,.call 15 [.t 44],none⟩,
 ⟨some 43,.mv (.t 45),none⟩,
 ⟨some 46,.ext (.t 43) 0,none⟩,
 ⟨some 47,.ext (.t 43) 1,none⟩,
 ⟨some 11,.alloc 30 [.s [],.i .i64 0,.s [],.s [],.s [],.b false,.b false],none⟩,
 ⟨none,.store 7 (.t 11) (.t 46),none⟩,
 ⟨some 12,.mv (.t 47),none⟩])
 (.seq (.reg [⟨some 49,.loadn 4 (.t 6),none⟩,
 ⟨some 50,.call 16 [.t 49],none⟩,
 ⟨some 48,.mv (.t 50),none⟩,
 ⟨some 51,.ext (.t 48) 0,none⟩,
 ⟨some 52,.ext (.t 48) 1,none⟩,
 ⟨some 13,.alloc 30 [.s [],.i .i64 0,.s [],.s [],.s [],.b false,.b false],none⟩,
 ⟨none,.store 7 (.t 13) (.t 51),none⟩,
 ⟨some 14,.mv (.t 52),none⟩])
 (.seq (.reg [⟨some 54,.loadn 4 (.t 6),none⟩,
 ⟨some 55,.call 17 [.t 54],none⟩,
 ⟨some 53,.mv (.t 55),none⟩,
 ⟨some 56,.ext (.t 53) 0,none⟩,
 ⟨some 57,.ext (.t 53) 1,none⟩,
 ⟨some 15,.alloc 30 [.s [],.i .i64 0,.s [],.s [],.s [],.b false,.b false],none⟩,
 ⟨none,.store 7 (.t 15) (.t 56),none⟩,
 ⟨some 16,.mv (.t 57),none⟩])
 (.seq (.reg [⟨some 59,.loadn 4 (.t 6),none⟩,
 ⟨some 60,.call 18 [.t 59],none⟩,
 ⟨some 58,.mv (.t 60),none⟩,
 ⟨some 61,.ext (.t 58) 0,none⟩,
 ⟨some 62,.ext (.t 58) 1,none⟩,
 ⟨some 17,.alloc 30 [.s [],.i .i64 0,.s [],.s [],.s [],.b false,.b false],none⟩,
 ⟨none,.store 7 (.t 17) (.t 61),none⟩,
 ⟨some 18,.mv (.t 62),none⟩])
 (.seq (.reg [⟨some 63,.loadn 7 (.t 7),none⟩,
 ⟨some 64,.loadn 7 (.t 9),none⟩,
 ⟨some 65,.eqs true (.str [(0,(none,.ts)),(1,(none,.ti)),(2,(none,.ts)),(3,(none,.ts)),(4,(none,.ts)),(5,(none,.tb)),(6,(none,.tb))]) (.t 63) (.t 64),none⟩,
 ⟨some 66,.mv (.t 65),none⟩,
 ⟨some 67,.mv (.t 8),some (66,false)⟩,
 ⟨some 68,.mv (.t 10),some (66,false)⟩,
 ⟨some 69,.bin .neq (.t 67) (.t 68),some (66,false)⟩,
 ⟨some 70,.pick (.t 66) (.c (.b true)) (.t 69),none⟩,
 ⟨some 71,.mv (.t 70),none⟩,
 ⟨some 72,.loadn 7 (.t 11),some (71,false)⟩,
 ⟨some 73,.loadn 7 (.t 13),some (71,false)⟩,
 ⟨some 74,.eqs true (.str [(0,(none,.ts)),(1,(none,.ti)),(2,(none,.ts)),(3,(none,.ts)),(4,(none,.ts)),(5,(none,.tb)),(6,(none,.tb))]) (.t 72) (.t 73),some (71,false)⟩,
 ⟨some 75,.pick (.t 71) (.c (.b true)) (.t 74),none⟩,
 ⟨some 76,.mv (.t 75),none⟩,
 ⟨some 77,.mv (.t 12),some (76,false)⟩,
 ⟨some 78,.mv (.t 14),some (76,false)⟩,
 ⟨some 79,.bin .neq (.t 77) (.t 78),some (76,false)⟩,
 ⟨some 80,.pick (.t 76) (.c (.b true)) (.t 79),none⟩,
 ⟨some 81,.mv (.t 80),none⟩,
 ⟨some 82,.loadn 7 (.t 15),some (81,false)⟩,
 ⟨some 83,.loadn 7 (.t 17),some (81,false)⟩,
 ⟨some 84,.eqs true (.str [(0,(none,.ts)),(1,(none,.ti)),(2,(none,.ts)),(3,(none,.ts)),(4,(none,.ts)),(5,(none,.tb)),(6,(none,.tb))]) (.t 82) (.t 83),some (81,false)⟩,
 ⟨some 85,.pick (.t 81) (.c (.b true)) (.t 84),none⟩,
 ⟨some 86,.mv (.t 85),none⟩,
 ⟨some 87,.mv (.t 16),some (86,false)⟩,
 ⟨some 88,.mv (.t 18),some (86,false)⟩,
 ⟨some 89,.bin .neq (.t 87) (.t 88),some (86,false)⟩,
 ⟨some 90,.pick (.t 86) (.c (.b true)) (.t 89),none⟩])
 (.cond (.t 90)
 (.seq (.reg [⟨some 4,.mv (.c (.b false)),none⟩])
 (.ret))
 (.skip)))))))))))
 (.reg [⟨some 91,.bin .add (.t 29) (.c (.i .i64 1)),none⟩,
 ⟨some 29,.mv (.t 91),none⟩])))))))
 (.seq (.reg [⟨some 4,.mv (.c (.b true)),none⟩])
 (.ret)))))
theorem is_law27_FingerURLs:FnIs Tryz.prog 3 92 [.tmp 4] c_law27_FingerURLs:=⟨⟨_,_,Tryz.func3,rfl,rfl,by kernel_rfl,by kernel_rfl⟩⟩
def c_law27_sane:SCode :=
 .seq (.reg [⟨some 0,.mv (.c (.b false)),none⟩])
 (.seq (.reg [⟨some 6,.call 40 [],none⟩,
 ⟨some 7,.call 13 [.t 6],none⟩,
 ⟨some 5,.mv (.t 7),none⟩,
 ⟨some 8,.ext (.t 5) 0,none⟩,
 ⟨some 9,.ext (.t 5) 1,none⟩,
 ⟨some 1,.alloc 30 [.s [],.i .i64 0,.s [],.s [],.s [],.b false,.b false],none⟩,
 ⟨none,.store 7 (.t 1) (.t 8),none⟩,
 ⟨some 2,.mv (.t 9),none⟩])
 (.seq (.reg [⟨some 11,.build [.i .i64 0,.s [],.s [],.i .i64 0] [],none⟩,
 ⟨some 12,.call 13 [.t 11],none⟩,
 ⟨some 10,.mv (.t 12),none⟩,
 ⟨some 13,.ext (.t 10) 0,none⟩,
 ⟨some 14,.ext (.t 10) 1,none⟩,
 ⟨some 3,.alloc 30 [.s [],.i .i64 0,.s [],.s [],.s [],.b false,.b false],none⟩,
 ⟨none,.store 7 (.t 3) (.t 13),none⟩,
 ⟨some 4,.mv (.t 14),none⟩])
 (.seq (.reg [⟨some 15,.mv (.t 2),none⟩,
 ⟨some 16,.bin .eql (.t 15) (.c (.i .i64 0)),none⟩,
 ⟨some 17,.mv (.t 16),none⟩,
 ⟨some 18,.loadn 7 (.t 1),some (17,true)⟩,
 ⟨some 19,.call 41 [.t 18],some (17,true)⟩,
 ⟨some 20,.bin .eql (.t 19) (.c (.s [104,116,116,112,115,58,47,47,101,120,97,109,112,108,101,46,99,111,109,47,46,119,101,108,108,45,107,110,111,119,110,47,119,101,98,102,105,110,103,101,114,63,114,101,115,111,117,114,99,101,61,97,99,99,116,37,51,65,98,111,98,37,52,48,101,120,97,109,112,108,101,46,99,111,109])),some (17,true)⟩,
 ⟨some 21,.pick (.t 17) (.t 20) (.c (.b false)),none⟩,
 ⟨some 22,.mv (.t 21),none⟩,
 ⟨some 23,.mv (.t 4),some (22,true)⟩,
 ⟨some 24,.bin .eql (.t 23) (.c (.i .i64 8)),some (22,true)⟩,
 ⟨some 25,.pick (.t 22) (.t 24) (.c (.b false)),none⟩,
 ⟨some 0,.mv (.t 25),none⟩])
 (.ret))))
theorem is_law27_sane:FnIs Tryz.prog 10 26 [.tmp 0] c_law27_sane:=⟨⟨_,_,Tryz.func10,rfl,rfl,by kernel_rfl,by kernel_rfl⟩⟩
def c_keep_ID:SCode :=
 .seq (.reg [⟨some 1,.box 23 (.t 0),none⟩,
 ⟨some 2,.mv (.c (.b false)),none⟩])
 (.seq (.reg [⟨some 3,.fad 1 (.t 1),none⟩,
 ⟨some 4,.load1 (.t 3),none⟩,
 ⟨some 5,.lens (.t 4),none⟩,
 ⟨some 6,.fad 2 (.t 1),none⟩,
 ⟨some 7,.load1 (.t 6),none⟩,
 ⟨some 8,.lens (.t 7),none⟩,
 ⟨some 9,.bin .add (.t 5) (.t 8),none⟩,
 ⟨some 10,.bin .leq (.t 9) (.c (.i .i64 1000)),none⟩,
 ⟨some 2,.mv (.t 10),none⟩])
 (.ret))
theorem is_keep_ID:FnIs Tryz.prog 11 11 [.tmp 2] c_keep_ID:=⟨⟨_,_,Tryz.func11,rfl,rfl,by kernel_rfl,by kernel_rfl⟩⟩
def c_law27_identifier:SCode :=
 .seq (.reg [⟨some 2,.alloc 23 [.i .i64 0,.s [],.s [],.i .i64 0],none⟩])
 (.seq (.reg [⟨some 6,.mv (.t 0),none⟩,
 ⟨some 7,.call 44 [.t 6],none⟩,
 ⟨some 8,.call 43 [.t 7],none⟩,
 ⟨some 9,.call 42 [.t 8],none⟩,
 ⟨some 5,.mv (.t 9),none⟩,
 ⟨some 10,.ext (.t 5) 0,none⟩,
 ⟨some 11,.ext (.t 5) 1,none⟩,
 ⟨some 3,.alloc 23 [.i .i64 0,.s [],.s [],.i .i64 0],none⟩,
 ⟨none,.store 4 (.t 3) (.t 10),none⟩,
 ⟨some 4,.mv (.t 11),none⟩])
 (.seq (.reg [⟨some 12,.loadn 4 (.t 3),none⟩,
 ⟨none,.store 4 (.t 2) (.t 12),none⟩])
 (.ret)))
theorem is_law27_identifier:FnIs Tryz.prog 12 13 [.celln 2 4] c_law27_identifier:=⟨⟨_,_,Tryz.func12,rfl,rfl,by kernel_rfl,by kernel_rfl⟩⟩
def c_finger_Query:SCode :=
 .seq (.reg [⟨some 1,.box 23 (.t 0),none⟩,
 ⟨some 2,.alloc 30 [.s [],.i .i64 0,.s [],.s [],.s [],.b false,.b false],none⟩,
 ⟨some 3,.mv (.c (.i .i64 0)),none⟩])
 (.seq (.reg [⟨some 7,.loadn 4 (.t 1),none⟩,
 ⟨some 8,.call 45 [.t 7,.c (.s [47,46,119,101,108,108,45,107,110,111,119,110,47,119,101,98,102,105,110,103,101,114])],none⟩,
 ⟨some 6,.mv (.t 8),none⟩,
 ⟨some 9,.ext (.t 6) 0,none⟩,
 ⟨some 10,.ext (.t 6) 1,none⟩,
 ⟨some 4,.alloc 30 [.s [],.i .i64 0,.s [],.s [],.s [],.b false,.b false],none⟩,
 ⟨none,.store 7 (.t 4) (.t 9),none⟩,
 ⟨some 5,.mv (.t 10),none⟩])
 (.seq (.seq (.reg [⟨some 11,.mv (.t 5),none⟩,
 ⟨some 12,.bin .neq (.t 11) (.c (.i .i64 0)),none⟩])
 (.cond (.t 12)
 (.seq (.reg [⟨some 13,.build [.s [],.i .i64 0,.s [],.s [],.s [],.b false,.b false] [],none⟩,
 ⟨some 14,.mv (.t 5),none⟩,
 ⟨none,.store 7 (.t 2) (.t 13),none⟩,
 ⟨some 3,.mv (.t 14),none⟩])
 (.ret))
 (.skip)))
 (.seq (.reg [⟨some 15,.fad 1 (.t 1),none⟩,
 ⟨some 16,.load1 (.t 15),none⟩,
 ⟨some 17,.call 46 [.t 16,.c (.s [])],none⟩,
 ⟨some 18,.bin .add (.c (.s [114,101,115,111,117,114,99,101,61])) (.t 17),none⟩,
 ⟨some 19,.fad 3 (.t 4),none⟩,
 ⟨none,.store 1 (.t 19) (.t 18),none⟩,
 ⟨some 20,.fad 5 (.t 4),none⟩,
 ⟨none,.store 1 (.t 20) (.c (.b true)),none⟩])
 (.seq (.seq (.reg [⟨some 21,.loadn 7 (.t 4),none⟩,
 ⟨some 22,.call 47 [.t 21],none⟩,
 ⟨some 23,.lens (.t 22),none⟩,
 ⟨some 24,.bin .gtr (.t 23) (.c (.i .i64 4096)),none⟩])
 (.cond (.t 24)
 (.seq (.reg [⟨some 25,.build [.s [],.i .i64 0,.s [],.s [],.s [],.b false,.b false] [],none⟩,
 ⟨none,.store 7 (.t 2) (.t 25),none⟩,
 ⟨some 3,.mv (.c (.i .i64 5)),none⟩])
 (.ret))
 (.skip)))
 (.seq (.reg [⟨some 26,.loadn 7 (.t 4),none⟩,
 ⟨none,.store 7 (.t 2) (.t 26),none⟩,
 ⟨some 3,.mv (.c (.i .i64 0)),none⟩])
 (.ret))))))
theorem is_finger_Query:FnIs Tryz.prog 13 27 [.celln 2 7,.tmp 3] c_finger_Query:=⟨⟨_,_,Tryz.func13,rfl,rfl,by kernel_rfl,by kernel_rfl⟩⟩
def c_ref27_Query:SCode :=
 .seq (.reg [⟨some 1,.box 23 (.t 0),none⟩,
 ⟨some 2,.alloc 30 [.s [],.i .i64 0,.s [],.s [],.s [],.b false,.b false],none⟩,
 ⟨some 3,.mv (.c (.i .i64 0)),none⟩])
 (.seq (.reg [⟨some 7,.loadn 4 (.t 1),none⟩,
 ⟨some 8,.call 48 [.t 7,.c (.s [47,46,119,101,108,108,45,107,110,111,119,110,47,119,101,98,102,105,110,103,101,114])],none⟩,
 ⟨some 6,.mv (.t 8),none⟩,
 ⟨some 9,.ext (.t 6) 0,none⟩,
 ⟨some 10,.ext (.t 6) 1,none⟩,
 ⟨some 4,.alloc 30 [.s [],.i .i64 0,.s [],.s [],.s [],.b false,.b false],none⟩,
 ⟨none,.store 7 (.t 4) (.t 9),none⟩,
 ⟨some 5,.mv (.t 10),none⟩])
 (.seq (.seq (.reg [⟨some 11,.mv (.t 5),none⟩,
 ⟨some 12,.bin .neq (.t 11) (.c (.i .i64 0)),none⟩])
 (.cond (.t 12)
 (.seq (.reg [⟨some 13,.build [.s [],.i .i64 0,.s [],.s [],.s [],.b false,.b false] [],none⟩,
 ⟨some 14,.mv (.t 5),none⟩,
 ⟨none,.store 7 (.t 2) (.t 13),none⟩,
 ⟨some 3,.mv (.t 14),none⟩])
 (.ret))
 (.skip)))
 (.seq (.reg [⟨some 15,.fad 1 (.t 1),none⟩,
 ⟨some 16,.load1 (.t 15),none⟩,
 ⟨some 17,.call 49 [.t 16,.c (.s [])],none⟩,
 ⟨some 18,.bin .add (.c (.s [114,101,115,111,117,114,99,101,61])) (.t 17),none⟩,
 ⟨some 19,.fad 3 (.t 4),none⟩,
 ⟨none,.store 1 (.t 19) (.t 18),none⟩,
 ⟨some 20,.fad 5 (.t 4),none⟩,
 ⟨none,.store 1 (.t 20) (.c (.b true)),none⟩])
 (.seq (.seq (.reg [⟨some 21,.loadn 7 (.t 4),none⟩,
 ⟨some 22,.call 41 [.t 21],none⟩,
 ⟨some 23,.lens (.t 22),none⟩,
 ⟨some 24,.bin .gtr (.t 23) (.c (.i .i64 4096)),none⟩])
 (.cond (.t 24)
 (.seq (.reg [⟨some 25,.build [.s [],.i .i64 0,.s [],.s [],.s [],.b false,.b false] [],none⟩,
 ⟨none,.store 7 (.t 2) (.t 25),none⟩,
 ⟨some 3,.mv (.c (.i .i64 5)),none⟩])
 (.ret))
 (.skip)))
 (.seq (.reg [⟨some 26,.loadn 7 (.t 4),none⟩,
 ⟨none,.store 7 (.t 2) (.t 26),none⟩,
 ⟨some 3,.mv (.c (.i .i64 0)),none⟩])
 (.ret))))))
theorem is_ref27_Query:FnIs Tryz.prog 14 27 [.celln 2 7,.tmp 3] c_ref27_Query:=⟨⟨_,_,Tryz.func14,rfl,rfl,by kernel_rfl,by kernel_rfl⟩⟩
def c_finger_HostMeta:SCode :=
 .seq (.reg [⟨some 1,.box 23 (.t 0),none⟩,
 ⟨some 2,.alloc 30 [.s [],.i .i64 0,.s [],.s [],.s [],.b false,.b false],none⟩,
 ⟨some 3,.mv (.c (.i .i64 0)),none⟩])
 (.seq (.reg [⟨some 4,.loadn 4 (.t 1),none⟩,
 ⟨some 5,.call 45 [.t 4,.c (.s [47,46,119,101,108,108,45,107,110,111,119,110,47,104,111,115,116,45,109,101,116,97,46,106,115,111,110])],none⟩,
 ⟨some 6,.ext (.t 5) 0,none⟩,
 ⟨some 7,.ext (.t 5) 1,none⟩,
 ⟨none,.store 7 (.t 2) (.t 6),none⟩,
 ⟨some 3,.mv (.t 7),none⟩])
 (.ret))
theorem is_finger_HostMeta:FnIs Tryz.prog 15 8 [.celln 2 7,.tmp 3] c_finger_HostMeta:=⟨⟨_,_,Tryz.func15,rfl,rfl,by kernel_rfl,by kernel_rfl⟩⟩
def c_ref27_HostMeta:SCode :=
 .seq (.reg [⟨some 1,.box 23 (.t 0),none⟩,
 ⟨some 2,.alloc 30 [.s [],.i .i64 0,.s [],.s [],.s [],.b false,.b false],none⟩,
 ⟨some 3,.mv (.c (.i .i64 0)),none⟩])
 (.seq (.reg [⟨some 4,.loadn 4 (.t 1),none⟩,
 ⟨some 5,.call 48 [.t 4,.c (.s [47,46,119,101,108,108,45,107,110,111,119,110,47,104,111,115,116,45,109,101,116,97,46,106,115,111,110])],none⟩,
 ⟨some 6,.ext (.t 5) 0,none⟩,
 ⟨some 7,.ext (.t 5) 1,none⟩,
 ⟨none,.store 7 (.t 2) (.t 6),none⟩,
 ⟨some 3,.mv (.t 7),none⟩])
 (.ret))
theorem is_ref27_HostMeta:FnIs Tryz.prog 16 8 [.celln 2 7,.tmp 3] c_ref27_HostMeta:=⟨⟨_,_,Tryz.func16,rfl,rfl,by kernel_rfl,by kernel_rfl⟩⟩
def c_finger_Home:SCode :=
 .seq (.reg [⟨some 1,.box 23 (.t 0),none⟩,
 ⟨some 2,.alloc 30 [.s [],.i .i64 0,.s [],.s [],.s [],.b false,.b false],none⟩,
 ⟨some 3,.mv (.c (.i .i64 0)),none⟩])
 (.seq (.reg [⟨some 4,.loadn 4 (.t 1),none⟩,
 ⟨some 5,.call 45 [.t 4,.c (.s [47])],none⟩,
 ⟨some 6,.ext (.t 5) 0,none⟩,
 ⟨some 7,.ext (.t 5) 1,none⟩,
 ⟨none,.store 7 (.t 2) (.t 6),none⟩,
 ⟨some 3,.mv (.t 7),none⟩])
 (.ret))
theorem is_finger_Home:FnIs Tryz.prog 17 8 [.celln 2 7,.tmp 3] c_finger_Home:=⟨⟨_,_,Tryz.func17,rfl,rfl,by kernel_rfl,by kernel_rfl⟩⟩
def c_ref27_Home:SCode :=
 .seq (.reg [⟨some 1,.box 23 (.t 0),none⟩,
 ⟨some 2,.alloc 30 [.s [],.i .i64 0,.s [],.s [],.s [],.b false,.b false],none⟩,
 ⟨some 3,.mv (.c (.i .i64 0)),none⟩])
 (.seq (.reg [⟨some 4,.loadn 4 (.t 1),none⟩,
 ⟨some 5,.call 48 [.t 4,.c (.s [47])],none⟩,
 ⟨some 6,.ext (.t 5) 0,none⟩,
 ⟨some 7,.ext (.t 5) 1,none⟩,
 ⟨none,.store 7 (.t 2) (.t 6),none⟩,
 ⟨some 3,.mv (.t 7),none⟩])
 (.ret))
theorem is_ref27_Home:FnIs Tryz.prog 18 8 [.celln 2 7,.tmp 3] c_ref27_Home:=⟨⟨_,_,Tryz.func18,rfl,rfl,by kernel_rfl,by kernel_rfl⟩⟩
def c_law27_bob:SCode :=
 .seq (.reg [⟨some 0,.alloc 23 [.i .i64 0,.s [],.s [],.i .i64 0],none⟩])
 (.seq (.reg [⟨some 1,.build [.i .i64 0,.s [],.s [],.i .i64 0] [(0,(1,.c (.i .i64 1))),(1,(1,.c (.s [97,99,99,116,58,98,111,98,64,101,120,97,109,112,108,101,46,99,111,109]))),(2,(1,.c (.s [101,120,97,109,112,108,101,46,99,111,109])))],none⟩,
 ⟨none,.store 4 (.t 0) (.t 1),none⟩])
 (.ret))
theorem is_law27_bob:FnIs Tryz.prog 40 2 [.celln 0 4] c_law27_bob:=⟨⟨_,_,Tryz.func40,rfl,rfl,by kernel_rfl,by kernel_rfl⟩⟩
def c_ref07_Format:SCode :=
 .seq (.reg [⟨some 1,.box 30 (.t 0),none⟩,
 ⟨some 2,.mv (.c (.s [])),none⟩])
 (.seq (.drw [⟨some 4,.loadn 7 (.t 1),none⟩,
 ⟨some 5,.call 71 [.t 4],none⟩,
 ⟨some 6,.call 70 [.t 5],none⟩,
 ⟨some 7,.bin .add (.c (.s [104,116,116,112,115,58,47,47])) (.t 6),none⟩,
 ⟨some 8,.loadn 7 (.t 1),none⟩,
 ⟨some 9,.call 72 [.t 8],none⟩,
 ⟨some 10,.bin .add (.t 7) (.t 9),none⟩,
 ⟨some 3,.mv (.t 10),none⟩] 8 [])
 (.seq (.seq (.reg [⟨some 11,.fad 6 (.t 1),none⟩,
 ⟨some 12,.load1 (.t 11),none⟩])
 (.cond (.t 12)
 (.reg [⟨some 13,.mv (.t 3),none⟩,
 ⟨some 14,.fad 4 (.t 1),none⟩,
 ⟨some 15,.load1 (.t 14),none⟩,
 ⟨some 16,.bin .add (.c (.s [35])) (.t 15),none⟩,
 ⟨some 17,.bin .add (.t 13) (.t 16),none⟩,
 ⟨some 3,.mv (.t 17),none⟩])
 (.skip)))
 (.seq (.reg [⟨some 18,.mv (.t 3),none⟩,
 ⟨some 2,.mv (.t 18),none⟩])
 (.ret))))
theorem is_ref07_Format:FnIs Tryz.prog 41 19 [.tmp 2] c_ref07_Format:=⟨⟨_,_,Tryz.func41,rfl,rfl,by kernel_rfl,by kernel_rfl⟩⟩
def c_ref12_Parse:SCode :=
 .seq (.reg [⟨some 2,.alloc 23 [.i .i64 0,.s [],.s [],.i .i64 0],none⟩,
 ⟨some 3,.mv (.c (.i .i64 0)),none⟩])
 (.seq (.seq (.reg [⟨some 9,.mv (.t 0),none⟩,
 ⟨some 10,.lens (.t 9),none⟩,
 ⟨some 11,.bin .gtr (.t 10) (.c (.i .i64 4096)),none⟩])
 (.cond (.t 11)
 (.seq (.reg [⟨some 12,.build [.i .i64 0,.s [],.s [],.i .i64 0] [],none⟩,
 ⟨none,.store 4 (.t 2) (.t 12),none⟩,
 ⟨some 3,.mv (.c (.i .i64 5)),none⟩])
 (.ret))
 (.skip)))
 (.seq (.reg [⟨some 13,.mv (.t 0),none⟩,
 ⟨some 14,.call 73 [.t 13,.c (.s [58])],none⟩,
 ⟨some 4,.mv (.t 14),none⟩])
 (.seq (.seq (.reg [⟨some 15,.mv (.t 4),none⟩,
 ⟨some 16,.mv (.t 0),none⟩,
 ⟨some 17,.lens (.t 16),none⟩,
 ⟨some 18,.bin .eql (.t 15) (.t 17),none⟩])
 (.cond (.t 18)
 (.seq (.reg [⟨some 19,.build [.i .i64 0,.s [],.s [],.i .i64 0] [],none⟩,
 ⟨none,.store 4 (.t 2) (.t 19),none⟩,
 ⟨some 3,.mv (.c (.i .i64 60)),none⟩])
 (.ret))
 (.skip)))
 (.seq (.seq (.reg [⟨some 20,.mv (.t 0),none⟩,
 ⟨some 21,.mv (.t 4),none⟩,
 ⟨some 22,.slcs (.t 20) none (some (.t 21)),none⟩,
 ⟨some 23,.call 74 [.t 22],none⟩])
 (.blk 0
 (.seq (.reg [⟨some 25,.bin .eql (.t 23) (.c (.s [97,99,99,116])),none⟩,
 ⟨some 24,.mv (.t 25),none⟩])
 (.cond (.t 24)
 (.seq (.reg [⟨some 27,.mv (.t 0),none⟩,
 ⟨some 28,.call 75 [.t 27],none⟩,
 ⟨some 26,.mv (.t 28),none⟩,
 ⟨some 29,.ext (.t 26) 0,none⟩,
 ⟨some 30,.ext (.t 26) 1,none⟩,
 ⟨some 5,.alloc 109 [.s [],.s []],none⟩,
 ⟨none,.store 2 (.t 5) (.t 29),none⟩,
 ⟨some 6,.mv (.t 30),none⟩])
 (.seq (.seq (.reg [⟨some 31,.mv (.t 6),none⟩,
 ⟨some 32,.bin .neq (.t 31) (.c (.i .i64 0)),none⟩])
 (.cond (.t 32)
 (.seq (.reg [⟨some 33,.build [.i .i64 0,.s [],.s [],.i .i64 0] [],none⟩,
 ⟨some 34,.mv (.t 6),none⟩,
 ⟨none,.store 4 (.t 2) (.t 33),none⟩,
 ⟨some 3,.mv (.t 34),none⟩])
 (.ret))
 (.skip)))
 (.seq (.drw [⟨some 35,.loadn 2 (.t 5),none⟩,
 ⟨some 36,.call 76 [.t 35],none⟩,
 ⟨some 37,.fad 1 (.t 5),none⟩,
 ⟨some 38,.load1 (.t 37),none⟩,
 ⟨some 39,.build [.i .i64 0,.s [],.s [],.i .i64 0] [(0,(1,.c (.i .i64 1))),(1,(1,.t 36)),(2,(1,.t 38))],none⟩,
 ⟨none,.store 4 (.t 2) (.t 39),none⟩,
 ⟨some 3,.mv (.c (.i .i64 0)),none⟩] 5 [])
 (.ret))))
 (.seq (.reg [⟨some 41,.bin .eql (.t 23) (.c (.s [109,97,105,108,116,111])),none⟩,
 ⟨some 40,.mv (.t 41),none⟩])
 (.cond (.t 40)
 (.seq (.reg [⟨some 43,.mv (.t 0),none⟩,
 ⟨some 44,.call 77 [.t 43],none⟩,
 ⟨some 42,.mv (.t 44),none⟩,
 ⟨some 45,.ext (.t 42) 0,none⟩,
 ⟨some 46,.ext (.t 42) 1,none⟩,
 ⟨some 7,.alloc 114 [.s [],.s []],none⟩,
 ⟨none,.store 2 (.t 7) (.t 45),none⟩,
 ⟨some 8,.mv (.t 46),none⟩])
 (.seq (.seq (.reg [⟨some 47,.mv (.t 8),none⟩,
 ⟨some 48,.bin .neq (.t 47) (.c (.i .i64 0)),none⟩])
 (.cond (.t 48)
 (.seq (.reg [⟨some 49,.build [.i .i64 0,.s [],.s [],.i .i64 0] [],none⟩,
 ⟨some 50,.mv (.t 8),none⟩,
 ⟨none,.store 4 (.t 2) (.t 49),none⟩,
 ⟨some 3,.mv (.t 50),none⟩])
 (.ret))
 (.skip)))
 (.seq (.drw [⟨some 51,.loadn 2 (.t 7),none⟩,
 ⟨some 52,.call 78 [.t 51],none⟩,
 ⟨some 53,.fad 1 (.t 7),none⟩,
 ⟨some 54,.load1 (.t 53),none⟩,
 ⟨some 55,.build [.i .i64 0,.s [],.s [],.i .i64 0] [(0,(1,.c (.i .i64 2))),(1,(1,.t 52)),(2,(1,.t 54))],none⟩,
 ⟨none,.store 4 (.t 2) (.t 55),none⟩,
 ⟨some 3,.mv (.c (.i .i64 0)),none⟩] 5 [])
 (.ret))))
 (.seq (.reg [⟨some 57,.bin .eql (.t 23) (.c (.s [104,116,116,112,115])),none⟩,
 ⟨some 56,.mv (.t 57),none⟩])
 (.cond (.t 56)
 (.seq (.reg [⟨some 58,.mv (.t 0),none⟩,
 ⟨some 59,.call 79 [.t 58],none⟩,
 ⟨some 60,.ext (.t 59) 0,none⟩,
 ⟨some 61,.ext (.t 59) 1,none⟩,
 ⟨none,.store 4 (.t 2) (.t 60),none⟩,
 ⟨some 3,.mv (.t 61),none⟩])
 (.ret))
 (.seq (.reg [⟨some 63,.bin .eql (.t 23) (.c (.s [100,105,100])),none⟩,
 ⟨some 62,.mv (.t 63),none⟩])
 (.cond (.t 62)
 (.seq (.reg [⟨some 64,.mv (.t 0),none⟩,
 ⟨some 65,.call 80 [.t 64],none⟩,
 ⟨some 66,.ext (.t 65) 0,none⟩,
 ⟨some 67,.ext (.t 65) 1,none⟩,
 ⟨none,.store 4 (.t 2) (.t 66),none⟩,
 ⟨some 3,.mv (.t 67),none⟩])
 (.ret))
 (.skip)))))))))))
 (.seq (.reg [⟨some 68,.build [.i .i64 0,.s [],.s [],.i .i64 0] [],none⟩,
 ⟨none,.store 4 (.t 2) (.t 68),none⟩,
 ⟨some 3,.mv (.c (.i .i64 60)),none⟩])
 (.ret))))))
theorem is_ref12_Parse:FnIs Tryz.prog 42 69 [.celln 2 4,.tmp 3] c_ref12_Parse:=⟨⟨_,_,Tryz.func42,rfl,rfl,by kernel_rfl,by kernel_rfl⟩⟩
def c_made_Text:SCode :=
 .seq (.reg [⟨some 2,.mv (.c (.s [])),none⟩])
 (.seq (.reg [⟨some 4,.mv (.t 0),none⟩,
 ⟨some 5,.call 81 [.t 4],none⟩,
 ⟨some 3,.mv (.t 5),none⟩])
 (.seq (.seq (.reg [⟨some 6,.mv (.t 0),none⟩,
 ⟨some 7,.call 54 [.t 6,.c (.i .i64 6)],none⟩])
 (.blk 0
 (.seq (.seq (.reg [⟨some 9,.bin .eql (.t 7) (.c (.i .i64 0)),none⟩,
 ⟨some 8,.mv (.t 9),none⟩])
 (.cond (.t 8)
 (.skip)
 (.reg [⟨some 10,.bin .eql (.t 7) (.c (.i .i64 1)),none⟩,
 ⟨some 8,.mv (.t 10),none⟩])))
 (.cond (.t 8)
 (.seq (.reg [⟨some 11,.mv (.t 0),none⟩,
 ⟨some 12,.bslice 2 [.s [],.s []] [(0,(1,.c (.s [97,99,99,116,58]))),(1,(1,.c (.s [65,67,67,84,58])))],none⟩,
 ⟨some 13,.call 82 [.t 11,.t 12],none⟩,
 ⟨some 14,.mv (.t 0),none⟩,
 ⟨some 15,.bslice 4 [.s [],.s [],.s [],.s []] [(0,(1,.c (.s [98,111,98]))),(1,(1,.c (.s [97,109,121]))),(2,(1,.c (.s [120,37,50,102,121]))),(3,(1,.c (.s [99,43,100])))],none⟩,
 ⟨some 16,.call 82 [.t 14,.t 15],none⟩,
 ⟨some 17,.bin .add (.t 13) (.t 16),none⟩,
 ⟨some 18,.bin .add (.t 17) (.c (.s [64])),none⟩,
 ⟨some 19,.mv (.t 0),none⟩,
 ⟨some 20,.bslice 3 [.s [],.s [],.s []] [(0,(1,.c (.s [97,46,101,120,97,109,112,108,101]))),(1,(1,.c (.s [66,46,101,120,97,109,112,108,101]))),(2,(1,.c (.s [99,46,101,120,97,109,112,108,101])))],none⟩,
 ⟨some 21,.call 82 [.t 19,.t 20],none⟩,
 ⟨some 22,.bin .add (.t 18) (.t 21),none⟩,
 ⟨some 2,.mv (.t 22),none⟩])
 (.ret))
 (.seq (.reg [⟨some 24,.bin .eql (.t 7) (.c (.i .i64 2)),none⟩,
 ⟨some 23,.mv (.t 24),none⟩])
 (.cond (.t 23)
 (.seq (.reg [⟨some 25,.mv (.t 0),none⟩,
 ⟨some 26,.bslice 3 [.s [],.s [],.s []] [(0,(1,.c (.s [98,111,98]))),(1,(1,.c (.s [37,54,49,109,121]))),(2,(1,.c (.s [99,43,100])))],none⟩,
 ⟨some 27,.call 82 [.t 25,.t 26],none⟩,
 ⟨some 28,.bin .add (.c (.s [109,97,105,108,116,111,58])) (.t 27),none⟩,
 ⟨some 29,.bin .add (.t 28) (.c (.s [64])),none⟩,
 ⟨some 30,.mv (.t 0),none⟩,
 ⟨some 31,.bslice 2 [.s [],.s []] [(0,(1,.c (.s [97,46,101,120,97,109,112,108,101]))),(1,(1,.c (.s [98,46,69,120,97,109,112,108,101])))],none⟩,
 ⟨some 32,.call 82 [.t 30,.t 31],none⟩,
 ⟨some 33,.bin .add (.t 29) (.t 32),none⟩,
 ⟨some 2,.mv (.t 33),none⟩])
 (.ret))
 (.seq (.reg [⟨some 35,.bin .eql (.t 7) (.c (.i .i64 3)),none⟩,
 ⟨some 34,.mv (.t 35),none⟩])
 (.cond (.t 34)
 (.seq (.reg [⟨some 36,.mv (.t 3),none⟩,
 ⟨some 37,.bin .add (.c (.s [104,116,116,112,115,58,47,47])) (.t 36),none⟩,
 ⟨some 38,.mv (.t 0),none⟩,
 ⟨some 39,.bslice 5 [.s [],.s [],.s [],.s [],.s []] [(0,(1,.c (.s []))),(1,(1,.c (.s [47]))),(2,(1,.c (.s [47,117,47,98,111,98]))),(3,(1,.c (.s [47,46,47,120,63,121,61,49]))),(4,(1,.c (.s [47,126,97,35,109,101])))],none⟩,
 ⟨some 40,.call 82 [.t 38,.t 39],none⟩,
 ⟨some 41,.bin .add (.t 37) (.t 40),none⟩,
 ⟨some 2,.mv (.t 41),none⟩])
 (.ret))
 (.skip)))))))))
 (.seq (.seq (.reg [⟨some 42,.mv (.t 3),none⟩,
 ⟨some 43,.bin .eql (.t 42) (.c (.s [99,46,101,120,97,109,112,108,101,58,56,52,52,51])),none⟩])
 (.cond (.t 43)
 (.reg [⟨some 3,.mv (.c (.s [99,46,101,120,97,109,112,108,101,37,51,65,56,52,52,51])),none⟩])
 (.skip)))
 (.seq (.reg [⟨some 44,.mv (.t 3),none⟩,
 ⟨some 45,.bin .add (.c (.s [100,105,100,58,119,101,98,58])) (.t 44),none⟩,
 ⟨some 46,.mv (.t 0),none⟩,
 ⟨some 47,.bslice 4 [.s [],.s [],.s [],.s []] [(0,(1,.c (.s []))),(1,(1,.c (.s [58,117]))),(2,(1,.c (.s [58,117,58,98,111,98]))),(3,(1,.c (.s [58,97,37,55,101,98])))],none⟩,
 ⟨some 48,.call 82 [.t 46,.t 47],none⟩,
 ⟨some 49,.bin .add (.t 45) (.t 48),none⟩,
 ⟨some 2,.mv (.t 49),none⟩])
 (.ret)))))
theorem is_made_Text:FnIs Tryz.prog 43 50 [.tmp 2] c_made_Text:=⟨⟨_,_,Tryz.func43,rfl,rfl,by kernel_rfl,by kernel_rfl⟩⟩
def c_made_New:SCode :=
 .seq (.reg [⟨some 2,.mv (.c (.o (.pointer none))),none⟩])
 (.seq (.reg [⟨some 3,.mv (.t 0),none⟩,
 ⟨some 4,.mv (.t 0),none⟩,
 ⟨some 5,.lenr (.t 4),none⟩,
 ⟨some 6,.pu .mn [.t 5,.c (.i .i64 200)],none⟩,
 ⟨some 7,.trn 1 (.t 3) (.t 6),none⟩,
 ⟨some 8,.build [.nil] [(0,(1,.t 7))],none⟩,
 ⟨some 9,.box 120 (.t 8),none⟩,
 ⟨some 2,.mv (.t 9),none⟩])
 (.ret))
theorem is_made_New:FnIs Tryz.prog 44 10 [.tmp 2] c_made_New:=⟨⟨_,_,Tryz.func44,rfl,rfl,by kernel_rfl,by kernel_rfl⟩⟩
def c_finger_atAuthority:SCode :=
 .seq (.reg [⟨some 2,.box 23 (.t 0),none⟩,
 ⟨some 4,.alloc 30 [.s [],.i .i64 0,.s [],.s [],.s [],.b false,.b false],none⟩,
 ⟨some 5,.mv (.c (.i .i64 0)),none⟩])
 (.seq (.seq (.reg [⟨some 7,.loadn 4 (.t 2),none⟩,
 ⟨some 8,.call 83 [.t 7],none⟩,
 ⟨some 9,.not (.t 8),none⟩])
 (.cond (.t 9)
 (.seq (.reg [⟨some 10,.build [.s [],.i .i64 0,.s [],.s [],.s [],.b false,.b false] [],none⟩,
 ⟨none,.store 7 (.t 4) (.t 10),none⟩,
 ⟨some 5,.mv (.c (.i .i64 8)),none⟩])
 (.ret))
 (.skip)))
 (.seq (.reg [⟨some 11,.loadn 4 (.t 2),none⟩,
 ⟨some 12,.call 84 [.t 11],none⟩,
 ⟨some 6,.alloc 104 [.s [],.i .i64 0],none⟩,
 ⟨none,.store 2 (.t 6) (.t 12),none⟩])
 (.seq (.reg [⟨some 13,.fad 0 (.t 6),none⟩,
 ⟨some 14,.load1 (.t 13),none⟩,
 ⟨some 15,.fad 1 (.t 6),none⟩,
 ⟨some 16,.load1 (.t 15),none⟩,
 ⟨some 17,.mv (.t 1),none⟩,
 ⟨some 18,.build [.s [],.i .i64 0,.s [],.s [],.s [],.b false,.b false] [(0,(1,.t 14)),(1,(1,.t 16)),(2,(1,.t 17))],none⟩,
 ⟨none,.store 7 (.t 4) (.t 18),none⟩,
 ⟨some 5,.mv (.c (.i .i64 0)),none⟩])
 (.ret))))
theorem is_finger_atAuthority:FnIs Tryz.prog 45 19 [.celln 4 7,.tmp 5] c_finger_atAuthority:=⟨⟨_,_,Tryz.func45,rfl,rfl,by kernel_rfl,by kernel_rfl⟩⟩
def c_weburl_Format:SCode :=
 .seq (.reg [⟨some 1,.box 30 (.t 0),none⟩,
 ⟨some 2,.mv (.c (.s [])),none⟩])
 (.seq (.drw [⟨some 4,.loadn 7 (.t 1),none⟩,
 ⟨some 5,.call 88 [.t 4],none⟩,
 ⟨some 6,.call 87 [.t 5],none⟩,
 ⟨some 7,.bin .add (.c (.s [104,116,116,112,115,58,47,47])) (.t 6),none⟩,
 ⟨some 8,.loadn 7 (.t 1),none⟩,
 ⟨some 9,.call 89 [.t 8],none⟩,
 ⟨some 10,.bin .add (.t 7) (.t 9),none⟩,
 ⟨some 3,.mv (.t 10),none⟩] 8 [])
 (.seq (.seq (.reg [⟨some 11,.fad 6 (.t 1),none⟩,
 ⟨some 12,.load1 (.t 11),none⟩])
 (.cond (.t 12)
 (.reg [⟨some 13,.mv (.t 3),none⟩,
 ⟨some 14,.fad 4 (.t 1),none⟩,
 ⟨some 15,.load1 (.t 14),none⟩,
 ⟨some 16,.bin .add (.c (.s [35])) (.t 15),none⟩,
 ⟨some 17,.bin .add (.t 13) (.t 16),none⟩,
 ⟨some 3,.mv (.t 17),none⟩])
 (.skip)))
 (.seq (.reg [⟨some 18,.mv (.t 3),none⟩,
 ⟨some 2,.mv (.t 18),none⟩])
 (.ret))))
theorem is_weburl_Format:FnIs Tryz.prog 47 19 [.tmp 2] c_weburl_Format:=⟨⟨_,_,Tryz.func47,rfl,rfl,by kernel_rfl,by kernel_rfl⟩⟩
def c_ref27_at:SCode :=
 .seq (.reg [⟨some 2,.box 23 (.t 0),none⟩,
 ⟨some 4,.alloc 30 [.s [],.i .i64 0,.s [],.s [],.s [],.b false,.b false],none⟩,
 ⟨some 5,.mv (.c (.i .i64 0)),none⟩])
 (.seq (.seq (.reg [⟨some 6,.loadn 4 (.t 2),none⟩,
 ⟨some 7,.call 90 [.t 6],none⟩,
 ⟨some 8,.not (.t 7),none⟩])
 (.cond (.t 8)
 (.seq (.reg [⟨some 9,.build [.s [],.i .i64 0,.s [],.s [],.s [],.b false,.b false] [],none⟩,
 ⟨none,.store 7 (.t 4) (.t 9),none⟩,
 ⟨some 5,.mv (.c (.i .i64 8)),none⟩])
 (.ret))
 (.skip)))
 (.seq (.reg [⟨some 10,.fad 2 (.t 2),none⟩,
 ⟨some 11,.load1 (.t 10),none⟩,
 ⟨some 12,.fad 3 (.t 2),none⟩,
 ⟨some 13,.load1 (.t 12),none⟩,
 ⟨some 14,.mv (.t 1),none⟩,
 ⟨some 15,.build [.s [],.i .i64 0,.s [],.s [],.s [],.b false,.b false] [(0,(1,.t 11)),(1,(1,.t 13)),(2,(1,.t 14))],none⟩,
 ⟨none,.store 7 (.t 4) (.t 15),none⟩,
 ⟨some 5,.mv (.c (.i .i64 0)),none⟩])
 (.ret)))
theorem is_ref27_at:FnIs Tryz.prog 48 16 [.celln 4 7,.tmp 5] c_ref27_at:=⟨⟨_,_,Tryz.func48,rfl,rfl,by kernel_rfl,by kernel_rfl⟩⟩
def c_made_Dice_Next:SCode :=
 .seq (.reg [⟨some 4,.mv (.c (.i .i64 0)),none⟩])
 (.seq (.seq (.reg [⟨some 6,.mv (.t 0),none⟩,
 ⟨some 7,.nck (.t 6),none⟩,
 ⟨some 8,.fad 0 (.t 7),none⟩,
 ⟨some 9,.load1 (.t 8),none⟩,
 ⟨some 10,.lenr (.t 9),none⟩,
 ⟨some 11,.bin .eql (.t 10) (.c (.i .i64 0)),none⟩,
 ⟨some 12,.mv (.t 11),none⟩,
 ⟨some 13,.mv (.t 1),some (12,false)⟩,
 ⟨some 14,.bin .leq (.t 13) (.c (.i .i64 1)),some (12,false)⟩,
 ⟨some 15,.pick (.t 12) (.c (.b true)) (.t 14),none⟩])
 (.cond (.t 15)
 (.seq (.reg [⟨some 4,.mv (.c (.i .i64 0)),none⟩])
 (.ret))
 (.skip)))
 (.seq (.reg [⟨some 16,.mv (.t 0),none⟩,
 ⟨some 17,.nck (.t 16),none⟩,
 ⟨some 18,.fad 0 (.t 17),none⟩,
 ⟨some 19,.load1 (.t 18),none⟩,
 ⟨some 20,.iad 1 (.t 19) (.c (.i .i64 0)),none⟩,
 ⟨some 21,.load1 (.t 20),none⟩,
 ⟨some 22,.cvi .i64 (.t 21),none⟩,
 ⟨some 5,.mv (.t 22),none⟩])
 (.seq (.reg [⟨some 23,.mv (.t 0),none⟩,
 ⟨some 24,.mv (.t 0),none⟩,
 ⟨some 25,.nck (.t 24),none⟩,
 ⟨some 26,.fad 0 (.t 25),none⟩,
 ⟨some 27,.load1 (.t 26),none⟩,
 ⟨some 28,.pu (.rsl 1) [.t 27,.c (.i .i64 1)],none⟩,
 ⟨some 29,.nck (.t 23),none⟩,
 ⟨some 30,.fad 0 (.t 29),none⟩,
 ⟨none,.store 1 (.t 30) (.t 28),none⟩])
 (.seq (.reg [⟨some 31,.mv (.t 5),none⟩,
 ⟨some 32,.mv (.t 1),none⟩,
 ⟨some 33,.bin .rem (.t 31) (.t 32),none⟩,
 ⟨some 4,.mv (.t 33),none⟩])
 (.ret)))))
theorem is_made_Dice_Next:FnIs Tryz.prog 54 34 [.tmp 4] c_made_Dice_Next:=⟨⟨_,_,Tryz.func54,rfl,rfl,by kernel_rfl,by kernel_rfl⟩⟩
def c_ref05_Format:SCode :=
 .seq (.reg [⟨some 1,.box 104 (.t 0),none⟩,
 ⟨some 2,.mv (.c (.s [])),none⟩])
 (.seq (.seq (.reg [⟨some 3,.fad 1 (.t 1),none⟩,
 ⟨some 4,.load1 (.t 3),none⟩,
 ⟨some 5,.bin .eql (.t 4) (.c (.i .i64 0)),none⟩])
 (.cond (.t 5)
 (.seq (.reg [⟨some 6,.fad 0 (.t 1),none⟩,
 ⟨some 7,.load1 (.t 6),none⟩,
 ⟨some 2,.mv (.t 7),none⟩])
 (.ret))
 (.skip)))
 (.seq (.drw [⟨some 8,.fad 0 (.t 1),none⟩,
 ⟨some 9,.load1 (.t 8),none⟩,
 ⟨some 10,.bin .add (.t 9) (.c (.s [58])),none⟩,
 ⟨some 11,.fad 1 (.t 1),none⟩,
 ⟨some 12,.load1 (.t 11),none⟩,
 ⟨some 13,.call 108 [.t 12],none⟩,
 ⟨some 14,.bin .add (.t 10) (.t 13),none⟩,
 ⟨some 2,.mv (.t 14),none⟩] 8 [])
 (.ret)))
theorem is_ref05_Format:FnIs Tryz.prog 70 15 [.tmp 2] c_ref05_Format:=⟨⟨_,_,Tryz.func70,rfl,rfl,by kernel_rfl,by kernel_rfl⟩⟩
def c_ref07_Origin:SCode :=
 .seq (.reg [⟨some 1,.box 30 (.t 0),none⟩,
 ⟨some 2,.alloc 104 [.s [],.i .i64 0],none⟩])
 (.seq (.reg [⟨some 3,.fad 0 (.t 1),none⟩,
 ⟨some 4,.load1 (.t 3),none⟩,
 ⟨some 5,.fad 1 (.t 1),none⟩,
 ⟨some 6,.load1 (.t 5),none⟩,
 ⟨some 7,.build [.s [],.i .i64 0] [(0,(1,.t 4)),(1,(1,.t 6))],none⟩,
 ⟨none,.store 2 (.t 2) (.t 7),none⟩])
 (.ret))
theorem is_ref07_Origin:FnIs Tryz.prog 71 8 [.celln 2 2] c_ref07_Origin:=⟨⟨_,_,Tryz.func71,rfl,rfl,by kernel_rfl,by kernel_rfl⟩⟩
def c_ref07_Target:SCode :=
 .seq (.reg [⟨some 1,.box 30 (.t 0),none⟩,
 ⟨some 2,.mv (.c (.s [])),none⟩])
 (.seq (.seq (.reg [⟨some 3,.fad 5 (.t 1),none⟩,
 ⟨some 4,.load1 (.t 3),none⟩])
 (.cond (.t 4)
 (.seq (.reg [⟨some 5,.fad 2 (.t 1),none⟩,
 ⟨some 6,.load1 (.t 5),none⟩,
 ⟨some 7,.bin .add (.t 6) (.c (.s [63])),none⟩,
 ⟨some 8,.fad 3 (.t 1),none⟩,
 ⟨some 9,.load1 (.t 8),none⟩,
 ⟨some 10,.bin .add (.t 7) (.t 9),none⟩,
 ⟨some 2,.mv (.t 10),none⟩])
 (.ret))
 (.skip)))
 (.seq (.reg [⟨some 11,.fad 2 (.t 1),none⟩,
 ⟨some 12,.load1 (.t 11),none⟩,
 ⟨some 2,.mv (.t 12),none⟩])
 (.ret)))
theorem is_ref07_Target:FnIs Tryz.prog 72 13 [.tmp 2] c_ref07_Target:=⟨⟨_,_,Tryz.func72,rfl,rfl,by kernel_rfl,by kernel_rfl⟩⟩
def c_ref12_web:SCode :=
 .seq (.reg [⟨some 2,.alloc 23 [.i .i64 0,.s [],.s [],.i .i64 0],none⟩,
 ⟨some 3,.mv (.c (.i .i64 0)),none⟩])
 (.seq (.reg [⟨some 7,.mv (.t 0),none⟩,
 ⟨some 8,.call 115 [.t 7],none⟩,
 ⟨some 6,.mv (.t 8),none⟩,
 ⟨some 9,.ext (.t 6) 0,none⟩,
 ⟨some 10,.ext (.t 6) 1,none⟩,
 ⟨some 4,.alloc 30 [.s [],.i .i64 0,.s [],.s [],.s [],.b false,.b false],none⟩,
 ⟨none,.store 7 (.t 4) (.t 9),none⟩,
 ⟨some 5,.mv (.t 10),none⟩])
 (.seq (.seq (.reg [⟨some 11,.mv (.t 5),none⟩,
 ⟨some 12,.bin .neq (.t 11) (.c (.i .i64 0)),none⟩])
 (.cond (.t 12)
 (.seq (.reg [⟨some 13,.build [.i .i64 0,.s [],.s [],.i .i64 0] [],none⟩,
 ⟨some 14,.mv (.t 5),none⟩,
 ⟨none,.store 4 (.t 2) (.t 13),none⟩,
 ⟨some 3,.mv (.t 14),none⟩])
 (.ret))
 (.skip)))
 (.seq (.drw [⟨some 15,.loadn 7 (.t 4),none⟩,
 ⟨some 16,.call 41 [.t 15],none⟩,
 ⟨some 17,.fad 0 (.t 4),none⟩,
 ⟨some 18,.load1 (.t 17),none⟩,
 ⟨some 19,.fad 1 (.t 4),none⟩,
 ⟨some 20,.load1 (.t 19),none⟩,
 ⟨some 21,.build [.i .i64 0,.s [],.s [],.i .i64 0] [(0,(1,.c (.i .i64 3))),(1,(1,.t 16)),(2,(1,.t 18)),(3,(1,.t 20))],none⟩,
 ⟨none,.store 4 (.t 2) (.t 21),none⟩,
 ⟨some 3,.mv (.c (.i .i64 0)),none⟩] 7 [])
 (.ret))))
theorem is_ref12_web:FnIs Tryz.prog 79 22 [.celln 2 4,.tmp 3] c_ref12_web:=⟨⟨_,_,Tryz.func79,rfl,rfl,by kernel_rfl,by kernel_rfl⟩⟩
def c_ref12_decentral:SCode :=
 .seq (.reg [⟨some 2,.alloc 23 [.i .i64 0,.s [],.s [],.i .i64 0],none⟩,
 ⟨some 3,.mv (.c (.i .i64 0)),none⟩])
 (.seq (.reg [⟨some 10,.mv (.t 0),none⟩,
 ⟨some 11,.call 116 [.t 10],none⟩,
 ⟨some 9,.mv (.t 11),none⟩,
 ⟨some 12,.ext (.t 9) 0,none⟩,
 ⟨some 13,.ext (.t 9) 1,none⟩,
 ⟨some 4,.alloc 153 [.s [],.s []],none⟩,
 ⟨none,.store 2 (.t 4) (.t 12),none⟩,
 ⟨some 5,.mv (.t 13),none⟩])
 (.seq (.seq (.reg [⟨some 14,.mv (.t 5),none⟩,
 ⟨some 15,.bin .neq (.t 14) (.c (.i .i64 0)),none⟩])
 (.cond (.t 15)
 (.seq (.reg [⟨some 16,.build [.i .i64 0,.s [],.s [],.i .i64 0] [],none⟩,
 ⟨some 17,.mv (.t 5),none⟩,
 ⟨none,.store 4 (.t 2) (.t 16),none⟩,
 ⟨some 3,.mv (.t 17),none⟩])
 (.ret))
 (.skip)))
 (.seq (.reg [⟨some 19,.loadn 2 (.t 4),none⟩,
 ⟨some 20,.call 117 [.t 19],none⟩,
 ⟨some 18,.mv (.t 20),none⟩,
 ⟨some 21,.ext (.t 18) 0,none⟩,
 ⟨some 22,.ext (.t 18) 1,none⟩,
 ⟨some 6,.alloc 153 [.s [],.s []],none⟩,
 ⟨none,.store 2 (.t 6) (.t 21),none⟩,
 ⟨some 5,.mv (.t 22),none⟩])
 (.seq (.seq (.reg [⟨some 23,.mv (.t 5),none⟩,
 ⟨some 24,.bin .neq (.t 23) (.c (.i .i64 0)),none⟩])
 (.cond (.t 24)
 (.seq (.reg [⟨some 25,.build [.i .i64 0,.s [],.s [],.i .i64 0] [],none⟩,
 ⟨some 26,.mv (.t 5),none⟩,
 ⟨none,.store 4 (.t 2) (.t 25),none⟩,
 ⟨some 3,.mv (.t 26),none⟩])
 (.ret))
 (.skip)))
 (.seq (.reg [⟨some 28,.loadn 2 (.t 6),none⟩,
 ⟨some 29,.call 118 [.t 28],none⟩,
 ⟨some 27,.mv (.t 29),none⟩,
 ⟨some 30,.ext (.t 27) 0,none⟩,
 ⟨some 31,.ext (.t 27) 1,none⟩,
 ⟨some 7,.alloc 104 [.s [],.i .i64 0],none⟩,
 ⟨none,.store 2 (.t 7) (.t 30),none⟩,
 ⟨some 8,.mv (.t 31),none⟩])
 (.seq (.drw [⟨some 32,.loadn 2 (.t 6),none⟩,
 ⟨some 33,.call 119 [.t 32],none⟩,
 ⟨some 34,.fad 0 (.t 7),none⟩,
 ⟨some 35,.load1 (.t 34),none⟩,
 ⟨some 36,.fad 1 (.t 7),none⟩,
 ⟨some 37,.load1 (.t 36),none⟩,
 ⟨some 38,.build [.i .i64 0,.s [],.s [],.i .i64 0] [(0,(1,.c (.i .i64 4))),(1,(1,.t 33)),(2,(1,.t 35)),(3,(1,.t 37))],none⟩,
 ⟨none,.store 4 (.t 2) (.t 38),none⟩,
 ⟨some 3,.mv (.c (.i .i64 0)),none⟩] 7 [])
 (.ret)))))))
theorem is_ref12_decentral:FnIs Tryz.prog 80 39 [.celln 2 4,.tmp 3] c_ref12_decentral:=⟨⟨_,_,Tryz.func80,rfl,rfl,by kernel_rfl,by kernel_rfl⟩⟩
def c_made_host:SCode :=
 .seq (.reg [⟨some 2,.mv (.c (.s [])),none⟩])
 (.seq (.reg [⟨some 3,.mv (.t 0),none⟩,
 ⟨some 4,.bslice 4 [.s [],.s [],.s [],.s []] [(0,(1,.c (.s [97,46,101,120,97,109,112,108,101]))),(1,(1,.c (.s [98,46,101,120,97,109,112,108,101]))),(2,(1,.c (.s [99,46,101,120,97,109,112,108,101,58,56,52,52,51]))),(3,(1,.c (.s [100,46,101,120,97,109,112,108,101])))],none⟩,
 ⟨some 5,.call 82 [.t 3,.t 4],none⟩,
 ⟨some 2,.mv (.t 5),none⟩])
 (.ret))
theorem is_made_host:FnIs Tryz.prog 81 6 [.tmp 2] c_made_host:=⟨⟨_,_,Tryz.func81,rfl,rfl,by kernel_rfl,by kernel_rfl⟩⟩
def c_made_Dice_One:SCode :=
 .seq (.reg [⟨some 4,.mv (.c (.s [])),none⟩])
 (.seq (.reg [⟨some 5,.mv (.t 1),none⟩,
 ⟨some 6,.mv (.t 0),none⟩,
 ⟨some 7,.mv (.t 1),none⟩,
 ⟨some 8,.lenr (.t 7),none⟩,
 ⟨some 9,.call 54 [.t 6,.t 8],none⟩,
 ⟨some 10,.iad 1 (.t 5) (.t 9),none⟩,
 ⟨some 11,.load1 (.t 10),none⟩,
 ⟨some 4,.mv (.t 11),none⟩])
 (.ret))
theorem is_made_Dice_One:FnIs Tryz.prog 82 12 [.tmp 4] c_made_Dice_One:=⟨⟨_,_,Tryz.func82,rfl,rfl,by kernel_rfl,by kernel_rfl⟩⟩
def c_ident_Valid:SCode :=
 .seq (.reg [⟨some 1,.box 23 (.t 0),none⟩,
 ⟨some 2,.mv (.c (.b false)),none⟩])
 (.seq (.reg [⟨some 6,.fad 1 (.t 1),none⟩,
 ⟨some 7,.load1 (.t 6),none⟩,
 ⟨some 8,.call 95 [.t 7],none⟩,
 ⟨some 5,.mv (.t 8),none⟩,
 ⟨some 9,.ext (.t 5) 0,none⟩,
 ⟨some 10,.ext (.t 5) 1,none⟩,
 ⟨some 3,.alloc 23 [.i .i64 0,.s [],.s [],.i .i64 0],none⟩,
 ⟨none,.store 4 (.t 3) (.t 9),none⟩,
 ⟨some 4,.mv (.t 10),none⟩])
 (.seq (.reg [⟨some 11,.mv (.t 4),none⟩,
 ⟨some 12,.bin .eql (.t 11) (.c (.i .i64 0)),none⟩,
 ⟨some 13,.mv (.t 12),none⟩,
 ⟨some 14,.loadn 4 (.t 3),some (13,true)⟩,
 ⟨some 15,.loadn 4 (.t 1),some (13,true)⟩,
 ⟨some 16,.eqs false (.str [(0,(none,.ti)),(1,(none,.ts)),(2,(none,.ts)),(3,(none,.ti))]) (.t 14) (.t 15),some (13,true)⟩,
 ⟨some 17,.pick (.t 13) (.t 16) (.c (.b false)),none⟩,
 ⟨some 2,.mv (.t 17),none⟩])
 (.ret)))
theorem is_ident_Valid:FnIs Tryz.prog 83 18 [.tmp 2] c_ident_Valid:=⟨⟨_,_,Tryz.func83,rfl,rfl,by kernel_rfl,by kernel_rfl⟩⟩
def c_ident_Authority:SCode :=
 .seq (.reg [⟨some 1,.box 23 (.t 0),none⟩,
 ⟨some 2,.alloc 104 [.s [],.i .i64 0],none⟩])
 (.seq (.reg [⟨some 3,.fad 2 (.t 1),none⟩,
 ⟨some 4,.load1 (.t 3),none⟩,
 ⟨some 5,.fad 3 (.t 1),none⟩,
 ⟨some 6,.load1 (.t 5),none⟩,
 ⟨some 7,.build [.s [],.i .i64 0] [(0,(1,.t 4)),(1,(1,.t 6))],none⟩,
 ⟨none,.store 2 (.t 2) (.t 7),none⟩])
 (.ret))
theorem is_ident_Authority:FnIs Tryz.prog 84 8 [.celln 2 2] c_ident_Authority:=⟨⟨_,_,Tryz.func84,rfl,rfl,by kernel_rfl,by kernel_rfl⟩⟩
def c_host_Format:SCode :=
 .seq (.reg [⟨some 1,.box 104 (.t 0),none⟩,
 ⟨some 2,.mv (.c (.s [])),none⟩])
 (.seq (.seq (.reg [⟨some 3,.fad 1 (.t 1),none⟩,
 ⟨some 4,.load1 (.t 3),none⟩,
 ⟨some 5,.bin .eql (.t 4) (.c (.i .i64 0)),none⟩])
 (.cond (.t 5)
 (.seq (.reg [⟨some 6,.fad 0 (.t 1),none⟩,
 ⟨some 7,.load1 (.t 6),none⟩,
 ⟨some 2,.mv (.t 7),none⟩])
 (.ret))
 (.skip)))
 (.seq (.drw [⟨some 8,.fad 0 (.t 1),none⟩,
 ⟨some 9,.load1 (.t 8),none⟩,
 ⟨some 10,.bin .add (.t 9) (.c (.s [58])),none⟩,
 ⟨some 11,.fad 1 (.t 1),none⟩,
 ⟨some 12,.load1 (.t 11),none⟩,
 ⟨some 13,.call 122 [.t 12],none⟩,
 ⟨some 14,.bin .add (.t 10) (.t 13),none⟩,
 ⟨some 2,.mv (.t 14),none⟩] 8 [])
 (.ret)))
theorem is_host_Format:FnIs Tryz.prog 87 15 [.tmp 2] c_host_Format:=⟨⟨_,_,Tryz.func87,rfl,rfl,by kernel_rfl,by kernel_rfl⟩⟩
def c_weburl_Origin:SCode :=
 .seq (.reg [⟨some 1,.box 30 (.t 0),none⟩,
 ⟨some 2,.alloc 104 [.s [],.i .i64 0],none⟩])
 (.seq (.reg [⟨some 3,.fad 0 (.t 1),none⟩,
 ⟨some 4,.load1 (.t 3),none⟩,
 ⟨some 5,.fad 1 (.t 1),none⟩,
 ⟨some 6,.load1 (.t 5),none⟩,
 ⟨some 7,.build [.s [],.i .i64 0] [(0,(1,.t 4)),(1,(1,.t 6))],none⟩,
 ⟨none,.store 2 (.t 2) (.t 7),none⟩])
 (.ret))
theorem is_weburl_Origin:FnIs Tryz.prog 88 8 [.celln 2 2] c_weburl_Origin:=⟨⟨_,_,Tryz.func88,rfl,rfl,by kernel_rfl,by kernel_rfl⟩⟩
def c_weburl_Target:SCode :=
 .seq (.reg [⟨some 1,.box 30 (.t 0),none⟩,
 ⟨some 2,.mv (.c (.s [])),none⟩])
 (.seq (.seq (.reg [⟨some 3,.fad 5 (.t 1),none⟩,
 ⟨some 4,.load1 (.t 3),none⟩,
 ⟨some 5,.not (.t 4),none⟩])
 (.cond (.t 5)
 (.seq (.reg [⟨some 6,.fad 2 (.t 1),none⟩,
 ⟨some 7,.load1 (.t 6),none⟩,
 ⟨some 2,.mv (.t 7),none⟩])
 (.ret))
 (.skip)))
 (.seq (.reg [⟨some 8,.fad 2 (.t 1),none⟩,
 ⟨some 9,.load1 (.t 8),none⟩,
 ⟨some 10,.bin .add (.t 9) (.c (.s [63])),none⟩,
 ⟨some 11,.fad 3 (.t 1),none⟩,
 ⟨some 12,.load1 (.t 11),none⟩,
 ⟨some 13,.bin .add (.t 10) (.t 12),none⟩,
 ⟨some 2,.mv (.t 13),none⟩])
 (.ret)))
theorem is_weburl_Target:FnIs Tryz.prog 89 14 [.tmp 2] c_weburl_Target:=⟨⟨_,_,Tryz.func89,rfl,rfl,by kernel_rfl,by kernel_rfl⟩⟩
def c_ref12_Valid:SCode :=
 .seq (.reg [⟨some 1,.box 23 (.t 0),none⟩,
 ⟨some 2,.mv (.c (.b false)),none⟩])
 (.seq (.reg [⟨some 6,.fad 1 (.t 1),none⟩,
 ⟨some 7,.load1 (.t 6),none⟩,
 ⟨some 8,.call 42 [.t 7],none⟩,
 ⟨some 5,.mv (.t 8),none⟩,
 ⟨some 9,.ext (.t 5) 0,none⟩,
 ⟨some 10,.ext (.t 5) 1,none⟩,
 ⟨some 3,.alloc 23 [.i .i64 0,.s [],.s [],.i .i64 0],none⟩,
 ⟨none,.store 4 (.t 3) (.t 9),none⟩,
 ⟨some 4,.mv (.t 10),none⟩])
 (.seq (.reg [⟨some 11,.mv (.t 4),none⟩,
 ⟨some 12,.bin .eql (.t 11) (.c (.i .i64 0)),none⟩,
 ⟨some 13,.mv (.t 12),none⟩,
 ⟨some 14,.loadn 4 (.t 3),some (13,true)⟩,
 ⟨some 15,.loadn 4 (.t 1),some (13,true)⟩,
 ⟨some 16,.eqs false (.str [(0,(none,.ti)),(1,(none,.ts)),(2,(none,.ts)),(3,(none,.ti))]) (.t 14) (.t 15),some (13,true)⟩,
 ⟨some 17,.pick (.t 13) (.t 16) (.c (.b false)),none⟩,
 ⟨some 2,.mv (.t 17),none⟩])
 (.ret)))
theorem is_ref12_Valid:FnIs Tryz.prog 90 18 [.tmp 2] c_ref12_Valid:=⟨⟨_,_,Tryz.func90,rfl,rfl,by kernel_rfl,by kernel_rfl⟩⟩
def c_ref05_Decimal:SCode :=
 .seq (.reg [⟨some 2,.mv (.c (.s [])),none⟩])
 (.seq (.seq (.reg [⟨some 3,.mv (.t 0),none⟩,
 ⟨some 4,.bin .lss (.t 3) (.c (.i .i64 0)),none⟩])
 (.cond (.t 4)
 (.seq (.reg [⟨some 5,.mv (.t 0),none⟩,
 ⟨some 6,.bin .add (.t 5) (.c (.i .i64 1)),none⟩,
 ⟨some 7,.neg (.t 6),none⟩,
 ⟨some 8,.cvi .u64 (.t 7),none⟩,
 ⟨some 9,.bin .add (.t 8) (.c (.i .u64 1)),none⟩,
 ⟨some 10,.call 135 [.t 9],none⟩,
 ⟨some 11,.bin .add (.c (.s [45])) (.t 10),none⟩,
 ⟨some 2,.mv (.t 11),none⟩])
 (.ret))
 (.skip)))
 (.seq (.reg [⟨some 12,.mv (.t 0),none⟩,
 ⟨some 13,.cvi .u64 (.t 12),none⟩,
 ⟨some 14,.call 135 [.t 13],none⟩,
 ⟨some 2,.mv (.t 14),none⟩])
 (.ret)))
theorem is_ref05_Decimal:FnIs Tryz.prog 108 15 [.tmp 2] c_ref05_Decimal:=⟨⟨_,_,Tryz.func108,rfl,rfl,by kernel_rfl,by kernel_rfl⟩⟩
def c_ref07_Parse:SCode :=
 .seq (.reg [⟨some 2,.alloc 30 [.s [],.i .i64 0,.s [],.s [],.s [],.b false,.b false],none⟩,
 ⟨some 3,.mv (.c (.i .i64 0)),none⟩])
 (.seq (.seq (.reg [⟨some 11,.mv (.t 0),none⟩,
 ⟨some 12,.lens (.t 11),none⟩,
 ⟨some 13,.bin .gtr (.t 12) (.c (.i .i64 4096)),none⟩])
 (.cond (.t 13)
 (.seq (.reg [⟨some 14,.build [.s [],.i .i64 0,.s [],.s [],.s [],.b false,.b false] [],none⟩,
 ⟨none,.store 7 (.t 2) (.t 14),none⟩,
 ⟨some 3,.mv (.c (.i .i64 5)),none⟩])
 (.ret))
 (.skip)))
 (.seq (.reg [⟨some 16,.mv (.t 0),none⟩,
 ⟨some 17,.call 141 [.t 16],none⟩,
 ⟨some 15,.mv (.t 17),none⟩,
 ⟨some 18,.ext (.t 15) 0,none⟩,
 ⟨some 19,.ext (.t 15) 1,none⟩,
 ⟨some 4,.alloc 183 [.s [],.s [],.s [],.s [],.s [],.b false,.b false,.b false,.b false],none⟩,
 ⟨none,.store 9 (.t 4) (.t 18),none⟩,
 ⟨some 5,.mv (.t 19),none⟩])
 (.seq (.seq (.reg [⟨some 20,.mv (.t 5),none⟩,
 ⟨some 21,.bin .neq (.t 20) (.c (.i .i64 0)),none⟩])
 (.cond (.t 21)
 (.seq (.reg [⟨some 22,.build [.s [],.i .i64 0,.s [],.s [],.s [],.b false,.b false] [],none⟩,
 ⟨some 23,.mv (.t 5),none⟩,
 ⟨none,.store 7 (.t 2) (.t 22),none⟩,
 ⟨some 3,.mv (.t 23),none⟩])
 (.ret))
 (.skip)))
 (.seq (.blk 0
 (.seq (.reg [⟨some 25,.fad 5 (.t 4),none⟩,
 ⟨some 26,.load1 (.t 25),none⟩,
 ⟨some 27,.not (.t 26),none⟩,
 ⟨some 28,.mv (.t 27),none⟩,
 ⟨some 29,.fad 0 (.t 4),some (28,false)⟩,
 ⟨some 30,.load1 (.t 29),some (28,false)⟩,
 ⟨some 31,.call 109 [.t 30,.c (.s [104,116,116,112,115])],some (28,false)⟩,
 ⟨some 32,.not (.t 31),some (28,false)⟩,
 ⟨some 33,.pick (.t 28) (.c (.b true)) (.t 32),none⟩,
 ⟨some 24,.mv (.t 33),none⟩])
 (.cond (.t 24)
 (.seq (.reg [⟨some 34,.build [.s [],.i .i64 0,.s [],.s [],.s [],.b false,.b false] [],none⟩,
 ⟨none,.store 7 (.t 2) (.t 34),none⟩,
 ⟨some 3,.mv (.c (.i .i64 60)),none⟩])
 (.ret))
 (.seq (.reg [⟨some 36,.fad 6 (.t 4),none⟩,
 ⟨some 37,.load1 (.t 36),none⟩,
 ⟨some 38,.not (.t 37),none⟩,
 ⟨some 35,.mv (.t 38),none⟩])
 (.cond (.t 35)
 (.seq (.reg [⟨some 39,.build [.s [],.i .i64 0,.s [],.s [],.s [],.b false,.b false] [],none⟩,
 ⟨none,.store 7 (.t 2) (.t 39),none⟩,
 ⟨some 3,.mv (.c (.i .i64 71)),none⟩])
 (.ret))
 (.seq (.drw [⟨some 41,.fad 1 (.t 4),none⟩,
 ⟨some 42,.load1 (.t 41),none⟩,
 ⟨some 43,.call 73 [.t 42,.c (.s [64])],none⟩,
 ⟨some 44,.fad 1 (.t 4),none⟩,
 ⟨some 45,.load1 (.t 44),none⟩,
 ⟨some 46,.lens (.t 45),none⟩,
 ⟨some 47,.bin .lss (.t 43) (.t 46),none⟩,
 ⟨some 40,.mv (.t 47),none⟩] 8 [])
 (.cond (.t 40)
 (.seq (.reg [⟨some 48,.build [.s [],.i .i64 0,.s [],.s [],.s [],.b false,.b false] [],none⟩,
 ⟨none,.store 7 (.t 2) (.t 48),none⟩,
 ⟨some 3,.mv (.c (.i .i64 70)),none⟩])
 (.ret))
 (.skip))))))))
 (.seq (.reg [⟨some 50,.fad 1 (.t 4),none⟩,
 ⟨some 51,.load1 (.t 50),none⟩,
 ⟨some 52,.call 142 [.t 51],none⟩,
 ⟨some 49,.mv (.t 52),none⟩,
 ⟨some 53,.ext (.t 49) 0,none⟩,
 ⟨some 54,.ext (.t 49) 1,none⟩,
 ⟨some 6,.alloc 104 [.s [],.i .i64 0],none⟩,
 ⟨none,.store 2 (.t 6) (.t 53),none⟩,
 ⟨some 5,.mv (.t 54),none⟩])
 (.seq (.seq (.reg [⟨some 55,.mv (.t 5),none⟩,
 ⟨some 56,.bin .neq (.t 55) (.c (.i .i64 0)),none⟩])
 (.cond (.t 56)
 (.seq (.reg [⟨some 57,.build [.s [],.i .i64 0,.s [],.s [],.s [],.b false,.b false] [],none⟩,
 ⟨some 58,.mv (.t 5),none⟩,
 ⟨none,.store 7 (.t 2) (.t 57),none⟩,
 ⟨some 3,.mv (.t 58),none⟩])
 (.ret))
 (.skip)))
 (.seq (.reg [⟨some 60,.fad 2 (.t 4),none⟩,
 ⟨some 61,.load1 (.t 60),none⟩,
 ⟨some 62,.call 110 [.t 61,.c (.s [33,36,38,39,40,41,42,43,44,59,61,58,64,47])],none⟩,
 ⟨some 59,.mv (.t 62),none⟩,
 ⟨some 63,.ext (.t 59) 0,none⟩,
 ⟨some 64,.ext (.t 59) 1,none⟩,
 ⟨some 7,.mv (.t 63),none⟩,
 ⟨some 5,.mv (.t 64),none⟩])
 (.seq (.seq (.reg [⟨some 65,.mv (.t 5),none⟩,
 ⟨some 66,.bin .neq (.t 65) (.c (.i .i64 0)),none⟩])
 (.cond (.t 66)
 (.seq (.reg [⟨some 67,.build [.s [],.i .i64 0,.s [],.s [],.s [],.b false,.b false] [],none⟩,
 ⟨some 68,.mv (.t 5),none⟩,
 ⟨none,.store 7 (.t 2) (.t 67),none⟩,
 ⟨some 3,.mv (.t 68),none⟩])
 (.ret))
 (.skip)))
 (.seq (.reg [⟨some 70,.fad 3 (.t 4),none⟩,
 ⟨some 71,.load1 (.t 70),none⟩,
 ⟨some 72,.call 110 [.t 71,.c (.s [33,36,38,39,40,41,42,43,44,59,61,58,64,47,63])],none⟩,
 ⟨some 69,.mv (.t 72),none⟩,
 ⟨some 73,.ext (.t 69) 0,none⟩,
 ⟨some 74,.ext (.t 69) 1,none⟩,
 ⟨some 8,.mv (.t 73),none⟩,
 ⟨some 5,.mv (.t 74),none⟩])
 (.seq (.seq (.reg [⟨some 75,.mv (.t 5),none⟩,
 ⟨some 76,.bin .neq (.t 75) (.c (.i .i64 0)),none⟩])
 (.cond (.t 76)
 (.seq (.reg [⟨some 77,.build [.s [],.i .i64 0,.s [],.s [],.s [],.b false,.b false] [],none⟩,
 ⟨some 78,.mv (.t 5),none⟩,
 ⟨none,.store 7 (.t 2) (.t 77),none⟩,
 ⟨some 3,.mv (.t 78),none⟩])
 (.ret))
 (.skip)))
 (.seq (.reg [⟨some 80,.fad 4 (.t 4),none⟩,
 ⟨some 81,.load1 (.t 80),none⟩,
 ⟨some 82,.call 110 [.t 81,.c (.s [33,36,38,39,40,41,42,43,44,59,61,58,64,47,63])],none⟩,
 ⟨some 79,.mv (.t 82),none⟩,
 ⟨some 83,.ext (.t 79) 0,none⟩,
 ⟨some 84,.ext (.t 79) 1,none⟩,
 ⟨some 9,.mv (.t 83),none⟩,
 ⟨some 5,.mv (.t 84),none⟩])
 (.seq (.seq (.reg [⟨some 85,.mv (.t 5),none⟩,
 ⟨some 86,.bin .neq (.t 85) (.c (.i .i64 0)),none⟩])
 (.cond (.t 86)
 (.seq (.reg [⟨some 87,.build [.s [],.i .i64 0,.s [],.s [],.s [],.b false,.b false] [],none⟩,
 ⟨some 88,.mv (.t 5),none⟩,
 ⟨none,.store 7 (.t 2) (.t 87),none⟩,
 ⟨some 3,.mv (.t 88),none⟩])
 (.ret))
 (.skip)))
 (.seq (.seq (.reg [⟨some 89,.mv (.t 7),none⟩,
 ⟨some 90,.call 143 [.t 89],none⟩,
 ⟨some 7,.mv (.t 90),none⟩])
 (.seq (.reg [⟨some 91,.mv (.t 7),none⟩,
 ⟨some 92,.bin .eql (.t 91) (.c (.s [])),none⟩])
 (.cond (.t 92)
 (.reg [⟨some 7,.mv (.c (.s [47])),none⟩])
 (.skip))))
 (.seq (.reg [⟨some 93,.fad 0 (.t 6),none⟩,
 ⟨some 94,.load1 (.t 93),none⟩,
 ⟨some 95,.fad 1 (.t 6),none⟩,
 ⟨some 96,.load1 (.t 95),none⟩,
 ⟨some 97,.mv (.t 7),none⟩,
 ⟨some 98,.mv (.t 8),none⟩,
 ⟨some 99,.mv (.t 9),none⟩,
 ⟨some 100,.fad 7 (.t 4),none⟩,
 ⟨some 101,.load1 (.t 100),none⟩,
 ⟨some 102,.fad 8 (.t 4),none⟩,
 ⟨some 103,.load1 (.t 102),none⟩,
 ⟨some 104,.build [.s [],.i .i64 0,.s [],.s [],.s [],.b false,.b false] [(0,(1,.t 94)),(1,(1,.t 96)),(2,(1,.t 97)),(3,(1,.t 98)),(4,(1,.t 99)),(5,(1,.t 101)),(6,(1,.t 103))],none⟩,
 ⟨some 10,.alloc 30 [.s [],.i .i64 0,.s [],.s [],.s [],.b false,.b false],none⟩,
 ⟨none,.store 7 (.t 10) (.t 104),none⟩])
 (.seq (.seq (.reg [⟨some 105,.loadn 7 (.t 10),none⟩,
 ⟨some 106,.call 41 [.t 105],none⟩,
 ⟨some 107,.lens (.t 106),none⟩,
 ⟨some 108,.bin .gtr (.t 107) (.c (.i .i64 4096)),none⟩])
 (.cond (.t 108)
 (.seq (.reg [⟨some 109,.build [.s [],.i .i64 0,.s [],.s [],.s [],.b false,.b false] [],none⟩,
 ⟨none,.store 7 (.t 2) (.t 109),none⟩,
 ⟨some 3,.mv (.c (.i .i64 5)),none⟩])
 (.ret))
 (.skip)))
 (.seq (.reg [⟨some 110,.loadn 7 (.t 10),none⟩,
 ⟨none,.store 7 (.t 2) (.t 110),none⟩,
 ⟨some 3,.mv (.c (.i .i64 0)),none⟩])
 (.ret)))))))))))))))))
theorem is_ref07_Parse:FnIs Tryz.prog 115 111 [.celln 2 7,.tmp 3] c_ref07_Parse:=⟨⟨_,_,Tryz.func115,rfl,rfl,by kernel_rfl,by kernel_rfl⟩⟩
def c_ref10_ParseDID:SCode :=
 .seq (.reg [⟨some 2,.alloc 153 [.s [],.s []],none⟩,
 ⟨some 3,.mv (.c (.i .i64 0)),none⟩])
 (.seq (.blk 0
 (.seq (.reg [⟨some 17,.mv (.t 0),none⟩,
 ⟨some 18,.lens (.t 17),none⟩,
 ⟨some 19,.bin .gtr (.t 18) (.c (.i .i64 4096)),none⟩,
 ⟨some 16,.mv (.t 19),none⟩])
 (.cond (.t 16)
 (.seq (.reg [⟨some 20,.build [.s [],.s []] [],none⟩,
 ⟨none,.store 2 (.t 2) (.t 20),none⟩,
 ⟨some 3,.mv (.c (.i .i64 5)),none⟩])
 (.ret))
 (.seq (.reg [⟨some 22,.mv (.t 0),none⟩,
 ⟨some 23,.call 144 [.t 22,.c (.s [100,105,100,58])],none⟩,
 ⟨some 24,.not (.t 23),none⟩,
 ⟨some 21,.mv (.t 24),none⟩])
 (.cond (.t 21)
 (.seq (.reg [⟨some 25,.build [.s [],.s []] [],none⟩,
 ⟨none,.store 2 (.t 2) (.t 25),none⟩,
 ⟨some 3,.mv (.c (.i .i64 60)),none⟩])
 (.ret))
 (.skip))))))
 (.seq (.reg [⟨some 26,.mv (.t 0),none⟩,
 ⟨some 27,.slcs (.t 26) (some (.c (.i .i64 4))) none,none⟩,
 ⟨some 0,.mv (.t 27),none⟩])
 (.seq (.reg [⟨some 28,.mv (.t 0),none⟩,
 ⟨some 29,.call 73 [.t 28,.c (.s [58])],none⟩,
 ⟨some 4,.mv (.t 29),none⟩])
 (.seq (.seq (.reg [⟨some 30,.mv (.t 4),none⟩,
 ⟨some 31,.mv (.t 0),none⟩,
 ⟨some 32,.lens (.t 31),none⟩,
 ⟨some 33,.bin .eql (.t 30) (.t 32),none⟩])
 (.cond (.t 33)
 (.seq (.reg [⟨some 34,.build [.s [],.s []] [],none⟩,
 ⟨none,.store 2 (.t 2) (.t 34),none⟩,
 ⟨some 3,.mv (.c (.i .i64 6)),none⟩])
 (.ret))
 (.skip)))
 (.seq (.seq (.reg [⟨some 35,.mv (.t 0),none⟩,
 ⟨some 36,.mv (.t 4),none⟩,
 ⟨some 37,.slcs (.t 35) none (some (.t 36)),none⟩,
 ⟨some 38,.call 145 [.t 37],none⟩,
 ⟨some 39,.not (.t 38),none⟩])
 (.cond (.t 39)
 (.seq (.reg [⟨some 40,.build [.s [],.s []] [],none⟩,
 ⟨none,.store 2 (.t 2) (.t 40),none⟩,
 ⟨some 3,.mv (.c (.i .i64 100)),none⟩])
 (.ret))
 (.skip)))
 (.seq (.reg [⟨some 41,.mv (.t 0),none⟩,
 ⟨some 42,.mv (.t 4),none⟩,
 ⟨some 43,.bin .add (.t 42) (.c (.i .i64 1)),none⟩,
 ⟨some 44,.slcs (.t 41) (some (.t 43)) none,none⟩,
 ⟨some 45,.call 138 [.t 44,.c (.i .u8 58)],none⟩,
 ⟨some 5,.mv (.t 45),none⟩])
 (.seq (.seq (.reg [⟨some 46,.mv (.t 5),none⟩,
 ⟨some 47,.lenr (.t 46),none⟩,
 ⟨some 48,.mv (.c (.i .i64 0)),none⟩])
 (.blk 1
 (.loop
 (.seq (.reg [⟨some 49,.bin .lss (.t 48) (.t 47),none⟩])
 (.seq (.cond (.t 49)
 (.skip)
 (.exit 1))
 (.seq (.blk 2
 (.seq (.reg [⟨some 50,.iad 1 (.t 46) (.t 48),none⟩,
 ⟨some 51,.load1 (.t 50),none⟩,
 ⟨some 7,.mv (.t 51),none⟩])
 (.seq (.reg [⟨some 53,.mv (.t 7),none⟩,
 ⟨some 54,.call 112 [.t 53],none⟩,
 ⟨some 52,.mv (.t 54),none⟩,
 ⟨some 55,.ext (.t 52) 0,none⟩,
 ⟨some 56,.ext (.t 52) 1,none⟩,
 ⟨some 8,.mv (.t 55),none⟩,
 ⟨some 9,.mv (.t 56),none⟩])
 (.seq (.reg [⟨some 57,.mv (.t 9),none⟩,
 ⟨some 58,.bin .neq (.t 57) (.c (.i .i64 0)),none⟩])
 (.cond (.t 58)
 (.seq (.reg [⟨some 59,.build [.s [],.s []] [],none⟩,
 ⟨none,.store 2 (.t 2) (.t 59),none⟩,
 ⟨some 3,.mv (.c (.i .i64 2)),none⟩])
 (.ret))
 (.skip))))))
 (.reg [⟨some 60,.bin .add (.t 48) (.c (.i .i64 1)),none⟩,
 ⟨some 48,.mv (.t 60),none⟩])))))))
 (.seq (.reg [⟨some 10,.mv (.c (.s [])),none⟩])
 (.seq (.seq (.reg [⟨some 61,.mv (.t 5),none⟩,
 ⟨some 62,.lenr (.t 61),none⟩,
 ⟨some 63,.mv (.c (.i .i64 0)),none⟩])
 (.blk 3
 (.loop
 (.seq (.reg [⟨some 64,.bin .lss (.t 63) (.t 62),none⟩])
 (.seq (.cond (.t 64)
 (.skip)
 (.exit 3))
 (.seq (.blk 4
 (.seq (.reg [⟨some 65,.mv (.t 63),none⟩,
 ⟨some 66,.iad 1 (.t 61) (.t 63),none⟩,
 ⟨some 67,.load1 (.t 66),none⟩,
 ⟨some 11,.mv (.t 65),none⟩,
 ⟨some 12,.mv (.t 67),none⟩])
 (.seq (.seq (.reg [⟨some 13,.mv (.c (.i .i64 0)),none⟩])
 (.blk 5
 (.loop
 (.seq (.seq (.reg [⟨some 68,.mv (.t 13),none⟩,
 ⟨some 69,.mv (.t 12),none⟩,
 ⟨some 70,.lens (.t 69),none⟩,
 ⟨some 71,.bin .lss (.t 68) (.t 70),none⟩])
 (.cond (.t 71)
 (.skip)
 (.exit 5)))
 (.seq (.blk 6
 (.seq (.reg [⟨some 74,.mv (.t 12),none⟩,
 ⟨some 75,.mv (.t 13),none⟩,
 ⟨some 76,.idx (.t 74) (.t 75),none⟩,
 ⟨some 77,.call 146 [.t 76],none⟩,
 ⟨some 78,.not (.t 77),none⟩,
 ⟨some 79,.mv (.t 78),none⟩,
 ⟨some 80,.mv (.t 12),some (79,true)⟩,
 ⟨some 81,.mv (.t 13),some (79,true)⟩,
 ⟨some 82,.idx (.t 80) (.t 81),some (79,true)⟩,
 ⟨some 83,.bin .neq (.t 82) (.c (.i .u8 37)),some (79,true)⟩,
 ⟨some 84,.pick (.t 79) (.t 83) (.c (.b false)),none⟩])
 (.cond (.t 84)
 (.seq (.reg [⟨some 85,.build [.s [],.s []] [],none⟩,
 ⟨none,.store 2 (.t 2) (.t 85),none⟩,
 ⟨some 3,.mv (.c (.i .i64 1)),none⟩])
 (.ret))
 (.skip))))
 (.reg [⟨some 72,.mv (.t 13),none⟩,
 ⟨some 73,.bin .add (.t 72) (.c (.i .i64 1)),none⟩,
 ⟨some 13,.mv (.t 73),none⟩]))))))
 (.seq (.reg [⟨some 87,.mv (.t 12),none⟩,
 ⟨some 88,.call 112 [.t 87],none⟩,
 ⟨some 86,.mv (.t 88),none⟩,
 ⟨some 89,.ext (.t 86) 0,none⟩,
 ⟨some 90,.ext (.t 86) 1,none⟩,
 ⟨some 14,.mv (.t 89),none⟩,
 ⟨some 15,.mv (.t 90),none⟩])
 (.seq (.seq (.reg [⟨some 91,.mv (.t 11),none⟩,
 ⟨some 92,.bin .gtr (.t 91) (.c (.i .i64 0)),none⟩])
 (.cond (.t 92)
 (.reg [⟨some 93,.mv (.t 10),none⟩,
 ⟨some 94,.bin .add (.t 93) (.c (.s [58])),none⟩,
 ⟨some 10,.mv (.t 94),none⟩])
 (.skip)))
 (.reg [⟨some 95,.mv (.t 10),none⟩,
 ⟨some 96,.mv (.t 14),none⟩,
 ⟨some 97,.call 147 [.t 96],none⟩,
 ⟨some 98,.bin .add (.t 95) (.t 97),none⟩,
 ⟨some 10,.mv (.t 98),none⟩]))))))
 (.reg [⟨some 99,.bin .add (.t 63) (.c (.i .i64 1)),none⟩,
 ⟨some 63,.mv (.t 99),none⟩])))))))
 (.seq (.seq (.reg [⟨some 100,.mv (.t 5),none⟩,
 ⟨some 101,.mv (.t 5),none⟩,
 ⟨some 102,.lenr (.t 101),none⟩,
 ⟨some 103,.bin .sub (.t 102) (.c (.i .i64 1)),none⟩,
 ⟨some 104,.iad 1 (.t 100) (.t 103),none⟩,
 ⟨some 105,.load1 (.t 104),none⟩,
 ⟨some 106,.bin .eql (.t 105) (.c (.s [])),none⟩])
 (.cond (.t 106)
 (.seq (.reg [⟨some 107,.build [.s [],.s []] [],none⟩,
 ⟨none,.store 2 (.t 2) (.t 107),none⟩,
 ⟨some 3,.mv (.c (.i .i64 3)),none⟩])
 (.ret))
 (.skip)))
 (.seq (.reg [⟨some 108,.mv (.t 0),none⟩,
 ⟨some 109,.mv (.t 4),none⟩,
 ⟨some 110,.slcs (.t 108) none (some (.t 109)),none⟩,
 ⟨some 111,.mv (.t 10),none⟩,
 ⟨some 112,.build [.s [],.s []] [(0,(1,.t 110)),(1,(1,.t 111))],none⟩,
 ⟨none,.store 2 (.t 2) (.t 112),none⟩,
 ⟨some 3,.mv (.c (.i .i64 0)),none⟩])
 (.ret))))))))))))
theorem is_ref10_ParseDID:FnIs Tryz.prog 116 113 [.celln 2 2,.tmp 3] c_ref10_ParseDID:=⟨⟨_,_,Tryz.func116,rfl,rfl,by kernel_rfl,by kernel_rfl⟩⟩
def c_ref11_Canonical:SCode :=
 .seq (.reg [⟨some 1,.box 153 (.t 0),none⟩,
 ⟨some 2,.alloc 153 [.s [],.s []],none⟩,
 ⟨some 3,.mv (.c (.i .i64 0)),none⟩])
 (.seq (.reg [⟨some 7,.loadn 2 (.t 1),none⟩,
 ⟨some 8,.call 148 [.t 7],none⟩,
 ⟨some 6,.mv (.t 8),none⟩,
 ⟨some 9,.ext (.t 6) 0,none⟩,
 ⟨some 10,.ext (.t 6) 1,none⟩,
 ⟨some 4,.alloc 30 [.s [],.i .i64 0,.s [],.s [],.s [],.b false,.b false],none⟩,
 ⟨none,.store 7 (.t 4) (.t 9),none⟩,
 ⟨some 5,.mv (.t 10),none⟩])
 (.seq (.seq (.reg [⟨some 11,.mv (.t 5),none⟩,
 ⟨some 12,.bin .neq (.t 11) (.c (.i .i64 0)),none⟩])
 (.cond (.t 12)
 (.seq (.reg [⟨some 13,.build [.s [],.s []] [],none⟩,
 ⟨some 14,.mv (.t 5),none⟩,
 ⟨none,.store 2 (.t 2) (.t 13),none⟩,
 ⟨some 3,.mv (.t 14),none⟩])
 (.ret))
 (.skip)))
 (.seq (.reg [⟨some 15,.loadn 7 (.t 4),none⟩,
 ⟨some 16,.call 149 [.t 15],none⟩,
 ⟨some 17,.ext (.t 16) 0,none⟩,
 ⟨some 18,.ext (.t 16) 1,none⟩,
 ⟨none,.store 2 (.t 2) (.t 17),none⟩,
 ⟨some 3,.mv (.t 18),none⟩])
 (.ret))))
theorem is_ref11_Canonical:FnIs Tryz.prog 117 19 [.celln 2 2,.tmp 3] c_ref11_Canonical:=⟨⟨_,_,Tryz.func117,rfl,rfl,by kernel_rfl,by kernel_rfl⟩⟩
def c_ref11_Authority:SCode :=
 .seq (.reg [⟨some 1,.box 153 (.t 0),none⟩,
 ⟨some 2,.alloc 104 [.s [],.i .i64 0],none⟩,
 ⟨some 3,.mv (.c (.i .i64 0)),none⟩])
 (.seq (.reg [⟨some 8,.loadn 2 (.t 1),none⟩,
 ⟨some 9,.call 150 [.t 8],none⟩,
 ⟨some 7,.mv (.t 9),none⟩,
 ⟨some 10,.ext (.t 7) 0,none⟩,
 ⟨some 11,.ext (.t 7) 1,none⟩,
 ⟨some 12,.ext (.t 7) 2,none⟩,
 ⟨some 5,.alloc 104 [.s [],.i .i64 0],none⟩,
 ⟨some 4,.mv (.t 10),none⟩,
 ⟨none,.store 2 (.t 5) (.t 11),none⟩,
 ⟨some 6,.mv (.t 12),none⟩])
 (.seq (.reg [⟨some 13,.loadn 2 (.t 5),none⟩,
 ⟨some 14,.mv (.t 6),none⟩,
 ⟨none,.store 2 (.t 2) (.t 13),none⟩,
 ⟨some 3,.mv (.t 14),none⟩])
 (.ret)))
theorem is_ref11_Authority:FnIs Tryz.prog 118 15 [.celln 2 2,.tmp 3] c_ref11_Authority:=⟨⟨_,_,Tryz.func118,rfl,rfl,by kernel_rfl,by kernel_rfl⟩⟩
def c_ref10_FormatDID:SCode :=
 .seq (.reg [⟨some 1,.box 153 (.t 0),none⟩,
 ⟨some 2,.mv (.c (.s [])),none⟩])
 (.seq (.reg [⟨some 3,.fad 0 (.t 1),none⟩,
 ⟨some 4,.load1 (.t 3),none⟩,
 ⟨some 5,.bin .add (.c (.s [100,105,100,58])) (.t 4),none⟩,
 ⟨some 6,.bin .add (.t 5) (.c (.s [58])),none⟩,
 ⟨some 7,.fad 1 (.t 1),none⟩,
 ⟨some 8,.load1 (.t 7),none⟩,
 ⟨some 9,.bin .add (.t 6) (.t 8),none⟩,
 ⟨some 2,.mv (.t 9),none⟩])
 (.ret))
theorem is_ref10_FormatDID:FnIs Tryz.prog 119 10 [.tmp 2] c_ref10_FormatDID:=⟨⟨_,_,Tryz.func119,rfl,rfl,by kernel_rfl,by kernel_rfl⟩⟩
def c_ident_text_acct:SCode :=
 .seq (.reg [⟨some 2,.alloc 23 [.i .i64 0,.s [],.s [],.i .i64 0],none⟩,
 ⟨some 3,.mv (.c (.i .i64 0)),none⟩])
 (.seq (.reg [⟨some 7,.mv (.t 0),none⟩,
 ⟨some 8,.call 155 [.t 7],none⟩,
 ⟨some 6,.mv (.t 8),none⟩,
 ⟨some 9,.ext (.t 6) 0,none⟩,
 ⟨some 10,.ext (.t 6) 1,none⟩,
 ⟨some 4,.alloc 109 [.s [],.s []],none⟩,
 ⟨none,.store 2 (.t 4) (.t 9),none⟩,
 ⟨some 5,.mv (.t 10),none⟩])
 (.seq (.seq (.reg [⟨some 11,.mv (.t 5),none⟩,
 ⟨some 12,.bin .neq (.t 11) (.c (.i .i64 0)),none⟩])
 (.cond (.t 12)
 (.seq (.reg [⟨some 13,.build [.i .i64 0,.s [],.s [],.i .i64 0] [],none⟩,
 ⟨some 14,.mv (.t 5),none⟩,
 ⟨none,.store 4 (.t 2) (.t 13),none⟩,
 ⟨some 3,.mv (.t 14),none⟩])
 (.ret))
 (.skip)))
 (.seq (.drw [⟨some 15,.loadn 2 (.t 4),none⟩,
 ⟨some 16,.call 156 [.t 15],none⟩,
 ⟨some 17,.fad 1 (.t 4),none⟩,
 ⟨some 18,.load1 (.t 17),none⟩,
 ⟨some 19,.build [.i .i64 0,.s [],.s [],.i .i64 0] [(0,(1,.c (.i .i64 1))),(1,(1,.t 16)),(2,(1,.t 18))],none⟩,
 ⟨none,.store 4 (.t 2) (.t 19),none⟩,
 ⟨some 3,.mv (.c (.i .i64 0)),none⟩] 5 [])
 (.ret))))
theorem is_ident_text_acct:FnIs Tryz.prog 125 20 [.celln 2 4,.tmp 3] c_ident_text_acct:=⟨⟨_,_,Tryz.func125,rfl,rfl,by kernel_rfl,by kernel_rfl⟩⟩
def c_ident_text_mail:SCode :=
 .seq (.reg [⟨some 2,.alloc 23 [.i .i64 0,.s [],.s [],.i .i64 0],none⟩,
 ⟨some 3,.mv (.c (.i .i64 0)),none⟩])
 (.seq (.reg [⟨some 7,.mv (.t 0),none⟩,
 ⟨some 8,.call 157 [.t 7],none⟩,
 ⟨some 6,.mv (.t 8),none⟩,
 ⟨some 9,.ext (.t 6) 0,none⟩,
 ⟨some 10,.ext (.t 6) 1,none⟩,
 ⟨some 4,.alloc 114 [.s [],.s []],none⟩,
 ⟨none,.store 2 (.t 4) (.t 9),none⟩,
 ⟨some 5,.mv (.t 10),none⟩])
 (.seq (.seq (.reg [⟨some 11,.mv (.t 5),none⟩,
 ⟨some 12,.bin .neq (.t 11) (.c (.i .i64 0)),none⟩])
 (.cond (.t 12)
 (.seq (.reg [⟨some 13,.build [.i .i64 0,.s [],.s [],.i .i64 0] [],none⟩,
 ⟨some 14,.mv (.t 5),none⟩,
 ⟨none,.store 4 (.t 2) (.t 13),none⟩,
 ⟨some 3,.mv (.t 14),none⟩])
 (.ret))
 (.skip)))
 (.seq (.drw [⟨some 15,.loadn 2 (.t 4),none⟩,
 ⟨some 16,.call 158 [.t 15],none⟩,
 ⟨some 17,.fad 1 (.t 4),none⟩,
 ⟨some 18,.load1 (.t 17),none⟩,
 ⟨some 19,.build [.i .i64 0,.s [],.s [],.i .i64 0] [(0,(1,.c (.i .i64 2))),(1,(1,.t 16)),(2,(1,.t 18))],none⟩,
 ⟨none,.store 4 (.t 2) (.t 19),none⟩,
 ⟨some 3,.mv (.c (.i .i64 0)),none⟩] 5 [])
 (.ret))))
theorem is_ident_text_mail:FnIs Tryz.prog 126 20 [.celln 2 4,.tmp 3] c_ident_text_mail:=⟨⟨_,_,Tryz.func126,rfl,rfl,by kernel_rfl,by kernel_rfl⟩⟩
def c_ident_text_web:SCode :=
 .seq (.reg [⟨some 2,.alloc 23 [.i .i64 0,.s [],.s [],.i .i64 0],none⟩,
 ⟨some 3,.mv (.c (.i .i64 0)),none⟩])
 (.seq (.reg [⟨some 7,.mv (.t 0),none⟩,
 ⟨some 8,.call 159 [.t 7],none⟩,
 ⟨some 6,.mv (.t 8),none⟩,
 ⟨some 9,.ext (.t 6) 0,none⟩,
 ⟨some 10,.ext (.t 6) 1,none⟩,
 ⟨some 4,.alloc 30 [.s [],.i .i64 0,.s [],.s [],.s [],.b false,.b false],none⟩,
 ⟨none,.store 7 (.t 4) (.t 9),none⟩,
 ⟨some 5,.mv (.t 10),none⟩])
 (.seq (.seq (.reg [⟨some 11,.mv (.t 5),none⟩,
 ⟨some 12,.bin .neq (.t 11) (.c (.i .i64 0)),none⟩])
 (.cond (.t 12)
 (.seq (.reg [⟨some 13,.build [.i .i64 0,.s [],.s [],.i .i64 0] [],none⟩,
 ⟨some 14,.mv (.t 5),none⟩,
 ⟨none,.store 4 (.t 2) (.t 13),none⟩,
 ⟨some 3,.mv (.t 14),none⟩])
 (.ret))
 (.skip)))
 (.seq (.drw [⟨some 15,.loadn 7 (.t 4),none⟩,
 ⟨some 16,.call 47 [.t 15],none⟩,
 ⟨some 17,.fad 0 (.t 4),none⟩,
 ⟨some 18,.load1 (.t 17),none⟩,
 ⟨some 19,.fad 1 (.t 4),none⟩,
 ⟨some 20,.load1 (.t 19),none⟩,
 ⟨some 21,.build [.i .i64 0,.s [],.s [],.i .i64 0] [(0,(1,.c (.i .i64 3))),(1,(1,.t 16)),(2,(1,.t 18)),(3,(1,.t 20))],none⟩,
 ⟨none,.store 4 (.t 2) (.t 21),none⟩,
 ⟨some 3,.mv (.c (.i .i64 0)),none⟩] 7 [])
 (.ret))))
theorem is_ident_text_web:FnIs Tryz.prog 127 22 [.celln 2 4,.tmp 3] c_ident_text_web:=⟨⟨_,_,Tryz.func127,rfl,rfl,by kernel_rfl,by kernel_rfl⟩⟩
def c_ident_text_did:SCode :=
 .seq (.reg [⟨some 2,.alloc 23 [.i .i64 0,.s [],.s [],.i .i64 0],none⟩,
 ⟨some 3,.mv (.c (.i .i64 0)),none⟩])
 (.seq (.reg [⟨some 8,.mv (.t 0),none⟩,
 ⟨some 9,.call 160 [.t 8],none⟩,
 ⟨some 7,.mv (.t 9),none⟩,
 ⟨some 10,.ext (.t 7) 0,none⟩,
 ⟨some 11,.ext (.t 7) 1,none⟩,
 ⟨some 4,.alloc 153 [.s [],.s []],none⟩,
 ⟨none,.store 2 (.t 4) (.t 10),none⟩,
 ⟨some 5,.mv (.t 11),none⟩])
 (.seq (.seq (.reg [⟨some 12,.mv (.t 5),none⟩,
 ⟨some 13,.bin .neq (.t 12) (.c (.i .i64 0)),none⟩])
 (.cond (.t 13)
 (.seq (.reg [⟨some 14,.build [.i .i64 0,.s [],.s [],.i .i64 0] [],none⟩,
 ⟨some 15,.mv (.t 5),none⟩,
 ⟨none,.store 4 (.t 2) (.t 14),none⟩,
 ⟨some 3,.mv (.t 15),none⟩])
 (.ret))
 (.skip)))
 (.seq (.reg [⟨some 17,.loadn 2 (.t 4),none⟩,
 ⟨some 18,.call 161 [.t 17],none⟩,
 ⟨some 16,.mv (.t 18),none⟩,
 ⟨some 19,.ext (.t 16) 0,none⟩,
 ⟨some 20,.ext (.t 16) 1,none⟩,
 ⟨none,.store 2 (.t 4) (.t 19),none⟩,
 ⟨some 5,.mv (.t 20),none⟩])
 (.seq (.seq (.reg [⟨some 21,.mv (.t 5),none⟩,
 ⟨some 22,.bin .neq (.t 21) (.c (.i .i64 0)),none⟩])
 (.cond (.t 22)
 (.seq (.reg [⟨some 23,.build [.i .i64 0,.s [],.s [],.i .i64 0] [],none⟩,
 ⟨some 24,.mv (.t 5),none⟩,
 ⟨none,.store 4 (.t 2) (.t 23),none⟩,
 ⟨some 3,.mv (.t 24),none⟩])
 (.ret))
 (.skip)))
 (.seq (.reg [⟨some 26,.loadn 2 (.t 4),none⟩,
 ⟨some 27,.call 162 [.t 26],none⟩,
 ⟨some 25,.mv (.t 27),none⟩,
 ⟨some 28,.ext (.t 25) 0,none⟩,
 ⟨some 29,.ext (.t 25) 1,none⟩,
 ⟨some 6,.alloc 104 [.s [],.i .i64 0],none⟩,
 ⟨none,.store 2 (.t 6) (.t 28),none⟩,
 ⟨some 5,.mv (.t 29),none⟩])
 (.seq (.seq (.reg [⟨some 30,.mv (.t 5),none⟩,
 ⟨some 31,.bin .neq (.t 30) (.c (.i .i64 0)),none⟩])
 (.cond (.t 31)
 (.seq (.reg [⟨some 32,.build [.i .i64 0,.s [],.s [],.i .i64 0] [],none⟩,
 ⟨some 33,.mv (.t 5),none⟩,
 ⟨none,.store 4 (.t 2) (.t 32),none⟩,
 ⟨some 3,.mv (.t 33),none⟩])
 (.ret))
 (.skip)))
 (.seq (.drw [⟨some 34,.loadn 2 (.t 4),none⟩,
 ⟨some 35,.call 163 [.t 34],none⟩,
 ⟨some 36,.fad 0 (.t 6),none⟩,
 ⟨some 37,.load1 (.t 36),none⟩,
 ⟨some 38,.fad 1 (.t 6),none⟩,
 ⟨some 39,.load1 (.t 38),none⟩,
 ⟨some 40,.build [.i .i64 0,.s [],.s [],.i .i64 0] [(0,(1,.c (.i .i64 4))),(1,(1,.t 35)),(2,(1,.t 37)),(3,(1,.t 39))],none⟩,
 ⟨none,.store 4 (.t 2) (.t 40),none⟩,
 ⟨some 3,.mv (.c (.i .i64 0)),none⟩] 7 [])
 (.ret))))))))
theorem is_ident_text_did:FnIs Tryz.prog 128 41 [.celln 2 4,.tmp 3] c_ident_text_did:=⟨⟨_,_,Tryz.func128,rfl,rfl,by kernel_rfl,by kernel_rfl⟩⟩
def c_ref06_Split:SCode :=
 .seq (.reg [⟨some 2,.alloc 183 [.s [],.s [],.s [],.s [],.s [],.b false,.b false,.b false,.b false],none⟩,
 ⟨some 3,.mv (.c (.i .i64 0)),none⟩])
 (.seq (.seq (.reg [⟨some 9,.mv (.t 0),none⟩,
 ⟨some 10,.lens (.t 9),none⟩,
 ⟨some 11,.bin .gtr (.t 10) (.c (.i .i64 16384)),none⟩])
 (.cond (.t 11)
 (.seq (.reg [⟨some 12,.build [.s [],.s [],.s [],.s [],.s [],.b false,.b false,.b false,.b false] [],none⟩,
 ⟨none,.store 9 (.t 2) (.t 12),none⟩,
 ⟨some 3,.mv (.c (.i .i64 5)),none⟩])
 (.ret))
 (.skip)))
 (.seq (.reg [⟨some 4,.alloc 183 [.s [],.s [],.s [],.s [],.s [],.b false,.b false,.b false,.b false],none⟩])
 (.seq (.seq (.reg [⟨some 13,.mv (.t 0),none⟩,
 ⟨some 14,.call 73 [.t 13,.c (.s [35])],none⟩,
 ⟨some 5,.mv (.t 14),none⟩])
 (.seq (.reg [⟨some 15,.mv (.t 5),none⟩,
 ⟨some 16,.mv (.t 0),none⟩,
 ⟨some 17,.lens (.t 16),none⟩,
 ⟨some 18,.bin .lss (.t 15) (.t 17),none⟩])
 (.cond (.t 18)
 (.drw [⟨some 19,.mv (.t 0),none⟩,
 ⟨some 20,.mv (.t 5),none⟩,
 ⟨some 21,.bin .add (.t 20) (.c (.i .i64 1)),none⟩,
 ⟨some 22,.slcs (.t 19) (some (.t 21)) none,none⟩,
 ⟨some 23,.mv (.t 0),none⟩,
 ⟨some 24,.mv (.t 5),none⟩,
 ⟨some 25,.slcs (.t 23) none (some (.t 24)),none⟩,
 ⟨some 26,.fad 4 (.t 4),none⟩,
 ⟨none,.store 1 (.t 26) (.t 22),none⟩,
 ⟨some 27,.fad 8 (.t 4),none⟩,
 ⟨none,.store 1 (.t 27) (.c (.b true)),none⟩,
 ⟨some 0,.mv (.t 25),none⟩] 12 [])
 (.skip))))
 (.seq (.seq (.reg [⟨some 28,.mv (.t 0),none⟩,
 ⟨some 29,.call 73 [.t 28,.c (.s [63])],none⟩,
 ⟨some 6,.mv (.t 29),none⟩])
 (.seq (.reg [⟨some 30,.mv (.t 6),none⟩,
 ⟨some 31,.mv (.t 0),none⟩,
 ⟨some 32,.lens (.t 31),none⟩,
 ⟨some 33,.bin .lss (.t 30) (.t 32),none⟩])
 (.cond (.t 33)
 (.drw [⟨some 34,.mv (.t 0),none⟩,
 ⟨some 35,.mv (.t 6),none⟩,
 ⟨some 36,.bin .add (.t 35) (.c (.i .i64 1)),none⟩,
 ⟨some 37,.slcs (.t 34) (some (.t 36)) none,none⟩,
 ⟨some 38,.mv (.t 0),none⟩,
 ⟨some 39,.mv (.t 6),none⟩,
 ⟨some 40,.slcs (.t 38) none (some (.t 39)),none⟩,
 ⟨some 41,.fad 3 (.t 4),none⟩,
 ⟨none,.store 1 (.t 41) (.t 37),none⟩,
 ⟨some 42,.fad 7 (.t 4),none⟩,
 ⟨none,.store 1 (.t 42) (.c (.b true)),none⟩,
 ⟨some 0,.mv (.t 40),none⟩] 12 [])
 (.skip))))
 (.seq (.seq (.reg [⟨some 43,.mv (.t 0),none⟩,
 ⟨some 44,.call 73 [.t 43,.c (.s [58,47])],none⟩,
 ⟨some 7,.mv (.t 44),none⟩])
 (.seq (.reg [⟨some 45,.mv (.t 7),none⟩,
 ⟨some 46,.mv (.t 0),none⟩,
 ⟨some 47,.lens (.t 46),none⟩,
 ⟨some 48,.bin .lss (.t 45) (.t 47),none⟩,
 ⟨some 49,.mv (.t 48),none⟩,
 ⟨some 50,.mv (.t 0),some (49,true)⟩,
 ⟨some 51,.mv (.t 7),some (49,true)⟩,
 ⟨some 52,.idx (.t 50) (.t 51),some (49,true)⟩,
 ⟨some 53,.bin .eql (.t 52) (.c (.i .u8 58)),some (49,true)⟩,
 ⟨some 54,.pick (.t 49) (.t 53) (.c (.b false)),none⟩])
 (.cond (.t 54)
 (.seq (.seq (.reg [⟨some 55,.mv (.t 0),none⟩,
 ⟨some 56,.mv (.t 7),none⟩,
 ⟨some 57,.slcs (.t 55) none (some (.t 56)),none⟩,
 ⟨some 58,.call 172 [.t 57],none⟩,
 ⟨some 59,.not (.t 58),none⟩])
 (.cond (.t 59)
 (.seq (.reg [⟨some 60,.build [.s [],.s [],.s [],.s [],.s [],.b false,.b false,.b false,.b false] [],none⟩,
 ⟨none,.store 9 (.t 2) (.t 60),none⟩,
 ⟨some 3,.mv (.c (.i .i64 6)),none⟩])
 (.ret))
 (.skip)))
 (.drw [⟨some 61,.mv (.t 0),none⟩,
 ⟨some 62,.mv (.t 7),none⟩,
 ⟨some 63,.slcs (.t 61) none (some (.t 62)),none⟩,
 ⟨some 64,.mv (.t 0),none⟩,
 ⟨some 65,.mv (.t 7),none⟩,
 ⟨some 66,.bin .add (.t 65) (.c (.i .i64 1)),none⟩,
 ⟨some 67,.slcs (.t 64) (some (.t 66)) none,none⟩,
 ⟨some 68,.fad 0 (.t 4),none⟩,
 ⟨none,.store 1 (.t 68) (.t 63),none⟩,
 ⟨some 69,.fad 5 (.t 4),none⟩,
 ⟨none,.store 1 (.t 69) (.c (.b true)),none⟩,
 ⟨some 0,.mv (.t 67),none⟩] 12 []))
 (.skip))))
 (.seq (.seq (.reg [⟨some 70,.mv (.t 0),none⟩,
 ⟨some 71,.call 144 [.t 70,.c (.s [47,47])],none⟩])
 (.cond (.t 71)
 (.seq (.reg [⟨some 72,.mv (.t 0),none⟩,
 ⟨some 73,.slcs (.t 72) (some (.c (.i .i64 2))) none,none⟩,
 ⟨some 74,.call 73 [.t 73,.c (.s [47])],none⟩,
 ⟨some 75,.bin .add (.c (.i .i64 2)) (.t 74),none⟩,
 ⟨some 8,.mv (.t 75),none⟩])
 (.drw [⟨some 76,.mv (.t 0),none⟩,
 ⟨some 77,.mv (.t 8),none⟩,
 ⟨some 78,.slcs (.t 76) (some (.c (.i .i64 2))) (some (.t 77)),none⟩,
 ⟨some 79,.mv (.t 0),none⟩,
 ⟨some 80,.mv (.t 8),none⟩,
 ⟨some 81,.slcs (.t 79) (some (.t 80)) none,none⟩,
 ⟨some 82,.fad 1 (.t 4),none⟩,
 ⟨none,.store 1 (.t 82) (.t 78),none⟩,
 ⟨some 83,.fad 6 (.t 4),none⟩,
 ⟨none,.store 1 (.t 83) (.c (.b true)),none⟩,
 ⟨some 0,.mv (.t 81),none⟩] 11 []))
 (.skip)))
 (.seq (.reg [⟨some 84,.mv (.t 0),none⟩,
 ⟨some 85,.fad 2 (.t 4),none⟩,
 ⟨none,.store 1 (.t 85) (.t 84),none⟩])
 (.seq (.reg [⟨some 86,.loadn 9 (.t 4),none⟩,
 ⟨none,.store 9 (.t 2) (.t 86),none⟩,
 ⟨some 3,.mv (.c (.i .i64 0)),none⟩])
 (.ret)))))))))
theorem is_ref06_Split:FnIs Tryz.prog 141 87 [.celln 2 9,.tmp 3] c_ref06_Split:=⟨⟨_,_,Tryz.func141,rfl,rfl,by kernel_rfl,by kernel_rfl⟩⟩
def c_ref05_Parse:SCode :=
 .seq (.reg [⟨some 2,.alloc 104 [.s [],.i .i64 0],none⟩,
 ⟨some 3,.mv (.c (.i .i64 0)),none⟩])
 (.seq (.reg [⟨some 8,.mv (.t 0),none⟩,
 ⟨some 9,.call 73 [.t 8,.c (.s [58])],none⟩,
 ⟨some 4,.mv (.t 9),none⟩])
 (.seq (.reg [⟨some 11,.mv (.t 0),none⟩,
 ⟨some 12,.mv (.t 4),none⟩,
 ⟨some 13,.slcs (.t 11) none (some (.t 12)),none⟩,
 ⟨some 14,.call 111 [.t 13],none⟩,
 ⟨some 10,.mv (.t 14),none⟩,
 ⟨some 15,.ext (.t 10) 0,none⟩,
 ⟨some 16,.ext (.t 10) 1,none⟩,
 ⟨some 5,.mv (.t 15),none⟩,
 ⟨some 6,.mv (.t 16),none⟩])
 (.seq (.seq (.reg [⟨some 17,.mv (.t 6),none⟩,
 ⟨some 18,.bin .neq (.t 17) (.c (.i .i64 0)),none⟩])
 (.cond (.t 18)
 (.seq (.reg [⟨some 19,.build [.s [],.i .i64 0] [],none⟩,
 ⟨some 20,.mv (.t 6),none⟩,
 ⟨none,.store 2 (.t 2) (.t 19),none⟩,
 ⟨some 3,.mv (.t 20),none⟩])
 (.ret))
 (.skip)))
 (.seq (.seq (.reg [⟨some 21,.mv (.t 4),none⟩,
 ⟨some 22,.mv (.t 0),none⟩,
 ⟨some 23,.lens (.t 22),none⟩,
 ⟨some 24,.bin .eql (.t 21) (.t 23),none⟩])
 (.cond (.t 24)
 (.seq (.reg [⟨some 25,.mv (.t 5),none⟩,
 ⟨some 26,.build [.s [],.i .i64 0] [(0,(1,.t 25))],none⟩,
 ⟨none,.store 2 (.t 2) (.t 26),none⟩,
 ⟨some 3,.mv (.c (.i .i64 0)),none⟩])
 (.ret))
 (.skip)))
 (.seq (.reg [⟨some 28,.mv (.t 0),none⟩,
 ⟨some 29,.mv (.t 4),none⟩,
 ⟨some 30,.bin .add (.t 29) (.c (.i .i64 1)),none⟩,
 ⟨some 31,.slcs (.t 28) (some (.t 30)) none,none⟩,
 ⟨some 32,.call 173 [.t 31],none⟩,
 ⟨some 27,.mv (.t 32),none⟩,
 ⟨some 33,.ext (.t 27) 0,none⟩,
 ⟨some 34,.ext (.t 27) 1,none⟩,
 ⟨some 7,.mv (.t 33),none⟩,
 ⟨some 6,.mv (.t 34),none⟩])
 (.seq (.seq (.reg [⟨some 35,.mv (.t 6),none⟩,
 ⟨some 36,.bin .neq (.t 35) (.c (.i .i64 0)),none⟩])
 (.cond (.t 36)
 (.seq (.reg [⟨some 37,.build [.s [],.i .i64 0] [],none⟩,
 ⟨some 38,.mv (.t 6),none⟩,
 ⟨none,.store 2 (.t 2) (.t 37),none⟩,
 ⟨some 3,.mv (.t 38),none⟩])
 (.ret))
 (.skip)))
 (.seq (.seq (.reg [⟨some 39,.mv (.t 7),none⟩,
 ⟨some 40,.bin .eql (.t 39) (.c (.i .i64 443)),none⟩])
 (.cond (.t 40)
 (.reg [⟨some 7,.mv (.c (.i .i64 0)),none⟩])
 (.skip)))
 (.seq (.reg [⟨some 41,.mv (.t 5),none⟩,
 ⟨some 42,.mv (.t 7),none⟩,
 ⟨some 43,.build [.s [],.i .i64 0] [(0,(1,.t 41)),(1,(1,.t 42))],none⟩,
 ⟨none,.store 2 (.t 2) (.t 43),none⟩,
 ⟨some 3,.mv (.c (.i .i64 0)),none⟩])
 (.ret)))))))))
theorem is_ref05_Parse:FnIs Tryz.prog 142 44 [.celln 2 2,.tmp 3] c_ref05_Parse:=⟨⟨_,_,Tryz.func142,rfl,rfl,by kernel_rfl,by kernel_rfl⟩⟩
def c_ref10_method:SCode :=
 .seq (.reg [⟨some 2,.mv (.c (.b false)),none⟩])
 (.seq (.seq (.reg [⟨some 3,.mv (.c (.i .i64 0)),none⟩])
 (.blk 0
 (.loop
 (.seq (.seq (.reg [⟨some 4,.mv (.t 3),none⟩,
 ⟨some 5,.mv (.t 0),none⟩,
 ⟨some 6,.lens (.t 5),none⟩,
 ⟨some 7,.bin .lss (.t 4) (.t 6),none⟩])
 (.cond (.t 7)
 (.skip)
 (.exit 0)))
 (.seq (.blk 1
 (.seq (.reg [⟨some 10,.mv (.t 0),none⟩,
 ⟨some 11,.mv (.t 3),none⟩,
 ⟨some 12,.idx (.t 10) (.t 11),none⟩,
 ⟨some 13,.call 124 [.t 12],none⟩,
 ⟨some 14,.not (.t 13),none⟩,
 ⟨some 15,.mv (.t 14),none⟩,
 ⟨some 16,.mv (.t 0),some (15,true)⟩,
 ⟨some 17,.mv (.t 3),some (15,true)⟩,
 ⟨some 18,.idx (.t 16) (.t 17),some (15,true)⟩,
 ⟨some 19,.bin .lss (.t 18) (.c (.i .u8 97)),some (15,true)⟩,
 ⟨some 20,.mv (.t 19),some (15,true)⟩,
 ⟨some 21,.mv (.t 0),some (20,false)⟩,
 ⟨some 22,.mv (.t 3),some (20,false)⟩,
 ⟨some 23,.idx (.t 21) (.t 22),some (20,false)⟩,
 ⟨some 24,.bin .gtr (.t 23) (.c (.i .u8 122)),some (20,false)⟩,
 ⟨some 25,.pick (.t 20) (.c (.b true)) (.t 24),some (15,true)⟩,
 ⟨some 26,.pick (.t 15) (.t 25) (.c (.b false)),none⟩])
 (.cond (.t 26)
 (.seq (.reg [⟨some 2,.mv (.c (.b false)),none⟩])
 (.ret))
 (.skip))))
 (.reg [⟨some 8,.mv (.t 3),none⟩,
 ⟨some 9,.bin .add (.t 8) (.c (.i .i64 1)),none⟩,
 ⟨some 3,.mv (.t 9),none⟩]))))))
 (.seq (.reg [⟨some 27,.mv (.t 0),none⟩,
 ⟨some 28,.bin .neq (.t 27) (.c (.s [])),none⟩,
 ⟨some 2,.mv (.t 28),none⟩])
 (.ret)))
theorem is_ref10_method:FnIs Tryz.prog 145 29 [.tmp 2] c_ref10_method:=⟨⟨_,_,Tryz.func145,rfl,rfl,by kernel_rfl,by kernel_rfl⟩⟩
def c_ref10_plain:SCode :=
 .seq (.reg [⟨some 2,.mv (.c (.b false)),none⟩])
 (.seq (.reg [⟨some 3,.mv (.t 0),none⟩,
 ⟨some 4,.call 123 [.t 3],none⟩,
 ⟨some 5,.mv (.t 4),none⟩,
 ⟨some 6,.mv (.t 0),some (5,false)⟩,
 ⟨some 7,.call 124 [.t 6],some (5,false)⟩,
 ⟨some 8,.pick (.t 5) (.c (.b true)) (.t 7),none⟩,
 ⟨some 9,.mv (.t 8),none⟩,
 ⟨some 10,.mv (.t 0),some (9,false)⟩,
 ⟨some 11,.call 92 [.t 10,.c (.s [46,45,95])],some (9,false)⟩,
 ⟨some 12,.pick (.t 9) (.c (.b true)) (.t 11),none⟩,
 ⟨some 2,.mv (.t 12),none⟩])
 (.ret))
theorem is_ref10_plain:FnIs Tryz.prog 146 13 [.tmp 2] c_ref10_plain:=⟨⟨_,_,Tryz.func146,rfl,rfl,by kernel_rfl,by kernel_rfl⟩⟩
def c_ref10_Escaped:SCode :=
 .seq (.reg [⟨some 2,.mv (.c (.s [])),none⟩])
 (.seq (.reg [⟨some 3,.mv (.c (.s [])),none⟩])
 (.seq (.seq (.reg [⟨some 4,.mv (.c (.i .i64 0)),none⟩])
 (.blk 0
 (.loop
 (.seq (.seq (.reg [⟨some 5,.mv (.t 4),none⟩,
 ⟨some 6,.mv (.t 0),none⟩,
 ⟨some 7,.lens (.t 6),none⟩,
 ⟨some 8,.bin .lss (.t 5) (.t 7),none⟩])
 (.cond (.t 8)
 (.skip)
 (.exit 0)))
 (.seq (.blk 1
 (.seq (.reg [⟨some 11,.mv (.t 0),none⟩,
 ⟨some 12,.mv (.t 4),none⟩,
 ⟨some 13,.idx (.t 11) (.t 12),none⟩,
 ⟨some 14,.call 146 [.t 13],none⟩])
 (.cond (.t 14)
 (.reg [⟨some 15,.mv (.t 3),none⟩,
 ⟨some 16,.mv (.t 0),none⟩,
 ⟨some 17,.mv (.t 4),none⟩,
 ⟨some 18,.mv (.t 4),none⟩,
 ⟨some 19,.bin .add (.t 18) (.c (.i .i64 1)),none⟩,
 ⟨some 20,.slcs (.t 16) (some (.t 17)) (some (.t 19)),none⟩,
 ⟨some 21,.bin .add (.t 15) (.t 20),none⟩,
 ⟨some 3,.mv (.t 21),none⟩])
 (.reg [⟨some 22,.mv (.t 3),none⟩,
 ⟨some 23,.mv (.t 0),none⟩,
 ⟨some 24,.mv (.t 4),none⟩,
 ⟨some 25,.idx (.t 23) (.t 24),none⟩,
 ⟨some 26,.call 93 [.t 25],none⟩,
 ⟨some 27,.bin .add (.t 22) (.t 26),none⟩,
 ⟨some 3,.mv (.t 27),none⟩]))))
 (.reg [⟨some 9,.mv (.t 4),none⟩,
 ⟨some 10,.bin .add (.t 9) (.c (.i .i64 1)),none⟩,
 ⟨some 4,.mv (.t 10),none⟩]))))))
 (.seq (.reg [⟨some 28,.mv (.t 3),none⟩,
 ⟨some 2,.mv (.t 28),none⟩])
 (.ret))))
theorem is_ref10_Escaped:FnIs Tryz.prog 147 29 [.tmp 2] c_ref10_Escaped:=⟨⟨_,_,Tryz.func147,rfl,rfl,by kernel_rfl,by kernel_rfl⟩⟩
def c_ref11_ToURL:SCode :=
 .seq (.reg [⟨some 1,.box 153 (.t 0),none⟩,
 ⟨some 2,.alloc 30 [.s [],.i .i64 0,.s [],.s [],.s [],.b false,.b false],none⟩,
 ⟨some 3,.mv (.c (.i .i64 0)),none⟩])
 (.seq (.reg [⟨some 14,.loadn 2 (.t 1),none⟩,
 ⟨some 15,.call 150 [.t 14],none⟩,
 ⟨some 13,.mv (.t 15),none⟩,
 ⟨some 16,.ext (.t 13) 0,none⟩,
 ⟨some 17,.ext (.t 13) 1,none⟩,
 ⟨some 18,.ext (.t 13) 2,none⟩,
 ⟨some 5,.alloc 104 [.s [],.i .i64 0],none⟩,
 ⟨some 4,.mv (.t 16),none⟩,
 ⟨none,.store 2 (.t 5) (.t 17),none⟩,
 ⟨some 6,.mv (.t 18),none⟩])
 (.seq (.seq (.reg [⟨some 19,.mv (.t 6),none⟩,
 ⟨some 20,.bin .neq (.t 19) (.c (.i .i64 0)),none⟩])
 (.cond (.t 20)
 (.seq (.reg [⟨some 21,.build [.s [],.i .i64 0,.s [],.s [],.s [],.b false,.b false] [],none⟩,
 ⟨some 22,.mv (.t 6),none⟩,
 ⟨none,.store 7 (.t 2) (.t 21),none⟩,
 ⟨some 3,.mv (.t 22),none⟩])
 (.ret))
 (.skip)))
 (.seq (.reg [⟨some 7,.mv (.c (.s [])),none⟩])
 (.seq (.seq (.reg [⟨some 23,.mv (.t 4),none⟩,
 ⟨some 24,.pu (.rsl 1) [.t 23,.c (.i .i64 1)],none⟩,
 ⟨some 25,.lenr (.t 24),none⟩,
 ⟨some 26,.mv (.c (.i .i64 0)),none⟩])
 (.blk 0
 (.loop
 (.seq (.reg [⟨some 27,.bin .lss (.t 26) (.t 25),none⟩])
 (.seq (.cond (.t 27)
 (.skip)
 (.exit 0))
 (.seq (.blk 1
 (.seq (.reg [⟨some 28,.iad 1 (.t 24) (.t 26),none⟩,
 ⟨some 29,.load1 (.t 28),none⟩,
 ⟨some 9,.mv (.t 29),none⟩])
 (.seq (.reg [⟨some 31,.mv (.t 9),none⟩,
 ⟨some 32,.call 112 [.t 31],none⟩,
 ⟨some 30,.mv (.t 32),none⟩,
 ⟨some 33,.ext (.t 30) 0,none⟩,
 ⟨some 34,.ext (.t 30) 1,none⟩,
 ⟨some 10,.mv (.t 33),none⟩,
 ⟨some 11,.mv (.t 34),none⟩])
 (.seq (.seq (.reg [⟨some 35,.mv (.t 10),none⟩,
 ⟨some 36,.bin .eql (.t 35) (.c (.s [])),none⟩,
 ⟨some 37,.mv (.t 36),none⟩,
 ⟨some 38,.mv (.t 10),some (37,false)⟩,
 ⟨some 39,.bin .eql (.t 38) (.c (.s [46])),some (37,false)⟩,
 ⟨some 40,.pick (.t 37) (.c (.b true)) (.t 39),none⟩,
 ⟨some 41,.mv (.t 40),none⟩,
 ⟨some 42,.mv (.t 10),some (41,false)⟩,
 ⟨some 43,.bin .eql (.t 42) (.c (.s [46,46])),some (41,false)⟩,
 ⟨some 44,.pick (.t 41) (.c (.b true)) (.t 43),none⟩])
 (.cond (.t 44)
 (.seq (.reg [⟨some 45,.build [.s [],.i .i64 0,.s [],.s [],.s [],.b false,.b false] [],none⟩,
 ⟨none,.store 7 (.t 2) (.t 45),none⟩,
 ⟨some 3,.mv (.c (.i .i64 110)),none⟩])
 (.ret))
 (.skip)))
 (.reg [⟨some 46,.mv (.t 7),none⟩,
 ⟨some 47,.mv (.t 10),none⟩,
 ⟨some 48,.call 49 [.t 47,.c (.s [])],none⟩,
 ⟨some 49,.bin .add (.c (.s [47])) (.t 48),none⟩,
 ⟨some 50,.bin .add (.t 46) (.t 49),none⟩,
 ⟨some 7,.mv (.t 50),none⟩])))))
 (.reg [⟨some 51,.bin .add (.t 26) (.c (.i .i64 1)),none⟩,
 ⟨some 26,.mv (.t 51),none⟩])))))))
 (.seq (.seq (.reg [⟨some 52,.mv (.t 4),none⟩,
 ⟨some 53,.lenr (.t 52),none⟩,
 ⟨some 54,.bin .eql (.t 53) (.c (.i .i64 1)),none⟩])
 (.cond (.t 54)
 (.reg [⟨some 7,.mv (.c (.s [47,46,119,101,108,108,45,107,110,111,119,110])),none⟩])
 (.skip)))
 (.seq (.reg [⟨some 55,.fad 0 (.t 5),none⟩,
 ⟨some 56,.load1 (.t 55),none⟩,
 ⟨some 57,.fad 1 (.t 5),none⟩,
 ⟨some 58,.load1 (.t 57),none⟩,
 ⟨some 59,.mv (.t 7),none⟩,
 ⟨some 60,.bin .add (.t 59) (.c (.s [47,100,105,100,46,106,115,111,110])),none⟩,
 ⟨some 61,.build [.s [],.i .i64 0,.s [],.s [],.s [],.b false,.b false] [(0,(1,.t 56)),(1,(1,.t 58)),(2,(1,.t 60))],none⟩,
 ⟨some 12,.alloc 30 [.s [],.i .i64 0,.s [],.s [],.s [],.b false,.b false],none⟩,
 ⟨none,.store 7 (.t 12) (.t 61),none⟩])
 (.seq (.seq (.reg [⟨some 62,.loadn 7 (.t 12),none⟩,
 ⟨some 63,.call 41 [.t 62],none⟩,
 ⟨some 64,.lens (.t 63),none⟩,
 ⟨some 65,.bin .gtr (.t 64) (.c (.i .i64 4096)),none⟩])
 (.cond (.t 65)
 (.seq (.reg [⟨some 66,.build [.s [],.i .i64 0,.s [],.s [],.s [],.b false,.b false] [],none⟩,
 ⟨none,.store 7 (.t 2) (.t 66),none⟩,
 ⟨some 3,.mv (.c (.i .i64 5)),none⟩])
 (.ret))
 (.skip)))
 (.seq (.reg [⟨some 67,.loadn 7 (.t 12),none⟩,
 ⟨none,.store 7 (.t 2) (.t 67),none⟩,
 ⟨some 3,.mv (.c (.i .i64 0)),none⟩])
 (.ret)))))))))
theorem is_ref11_ToURL:FnIs Tryz.prog 148 68 [.celln 2 7,.tmp 3] c_ref11_ToURL:=⟨⟨_,_,Tryz.func148,rfl,rfl,by kernel_rfl,by kernel_rfl⟩⟩
def c_ref11_FromURL:SCode :=
 .seq (.reg [⟨some 1,.box 30 (.t 0),none⟩,
 ⟨some 2,.alloc 153 [.s [],.s []],none⟩,
 ⟨some 3,.mv (.c (.i .i64 0)),none⟩])
 (.seq (.seq (.reg [⟨some 12,.loadn 7 (.t 1),none⟩,
 ⟨some 13,.call 175 [.t 12],none⟩,
 ⟨some 14,.not (.t 13),none⟩])
 (.cond (.t 14)
 (.seq (.reg [⟨some 15,.build [.s [],.s []] [],none⟩,
 ⟨none,.store 2 (.t 2) (.t 15),none⟩,
 ⟨some 3,.mv (.c (.i .i64 8)),none⟩])
 (.ret))
 (.skip)))
 (.seq (.reg [⟨some 16,.fad 2 (.t 1),none⟩,
 ⟨some 17,.load1 (.t 16),none⟩,
 ⟨some 18,.call 138 [.t 17,.c (.i .u8 47)],none⟩,
 ⟨some 19,.pu (.rsl 1) [.t 18,.c (.i .i64 1)],none⟩,
 ⟨some 4,.mv (.t 19),none⟩])
 (.seq (.seq (.reg [⟨some 20,.fad 5 (.t 1),none⟩,
 ⟨some 21,.load1 (.t 20),none⟩,
 ⟨some 22,.mv (.t 21),none⟩,
 ⟨some 23,.fad 6 (.t 1),some (22,false)⟩,
 ⟨some 24,.load1 (.t 23),some (22,false)⟩,
 ⟨some 25,.pick (.t 22) (.c (.b true)) (.t 24),none⟩,
 ⟨some 26,.mv (.t 25),none⟩,
 ⟨some 27,.mv (.t 4),some (26,false)⟩,
 ⟨some 28,.mv (.t 4),some (26,false)⟩,
 ⟨some 29,.lenr (.t 28),some (26,false)⟩,
 ⟨some 30,.bin .sub (.t 29) (.c (.i .i64 1)),some (26,false)⟩,
 ⟨some 31,.iad 1 (.t 27) (.t 30),some (26,false)⟩,
 ⟨some 32,.load1 (.t 31),some (26,false)⟩,
 ⟨some 33,.bin .neq (.t 32) (.c (.s [100,105,100,46,106,115,111,110])),some (26,false)⟩,
 ⟨some 34,.pick (.t 26) (.c (.b true)) (.t 33),none⟩])
 (.cond (.t 34)
 (.seq (.reg [⟨some 35,.build [.s [],.s []] [],none⟩,
 ⟨none,.store 2 (.t 2) (.t 35),none⟩,
 ⟨some 3,.mv (.c (.i .i64 6)),none⟩])
 (.ret))
 (.skip)))
 (.seq (.reg [⟨some 36,.mv (.t 4),none⟩,
 ⟨some 37,.mv (.t 4),none⟩,
 ⟨some 38,.lenr (.t 37),none⟩,
 ⟨some 39,.bin .sub (.t 38) (.c (.i .i64 1)),none⟩,
 ⟨some 40,.trn 1 (.t 36) (.t 39),none⟩,
 ⟨some 4,.mv (.t 40),none⟩])
 (.seq (.seq (.reg [⟨some 41,.mv (.t 4),none⟩,
 ⟨some 42,.lenr (.t 41),none⟩,
 ⟨some 43,.bin .eql (.t 42) (.c (.i .i64 0)),none⟩])
 (.cond (.t 43)
 (.seq (.reg [⟨some 44,.build [.s [],.s []] [],none⟩,
 ⟨none,.store 2 (.t 2) (.t 44),none⟩,
 ⟨some 3,.mv (.c (.i .i64 110)),none⟩])
 (.ret))
 (.skip)))
 (.seq (.reg [⟨some 45,.fad 0 (.t 1),none⟩,
 ⟨some 46,.load1 (.t 45),none⟩,
 ⟨some 5,.mv (.t 46),none⟩])
 (.seq (.seq (.reg [⟨some 47,.fad 1 (.t 1),none⟩,
 ⟨some 48,.load1 (.t 47),none⟩,
 ⟨some 49,.bin .neq (.t 48) (.c (.i .i64 0)),none⟩])
 (.cond (.t 49)
 (.reg [⟨some 50,.mv (.t 5),none⟩,
 ⟨some 51,.fad 1 (.t 1),none⟩,
 ⟨some 52,.load1 (.t 51),none⟩,
 ⟨some 53,.call 108 [.t 52],none⟩,
 ⟨some 54,.bin .add (.c (.s [37,51,65])) (.t 53),none⟩,
 ⟨some 55,.bin .add (.t 50) (.t 54),none⟩,
 ⟨some 5,.mv (.t 55),none⟩])
 (.skip)))
 (.seq (.seq (.reg [⟨some 56,.mv (.t 4),none⟩,
 ⟨some 57,.lenr (.t 56),none⟩,
 ⟨some 58,.mv (.c (.i .i64 0)),none⟩])
 (.blk 0
 (.loop
 (.seq (.reg [⟨some 59,.bin .lss (.t 58) (.t 57),none⟩])
 (.seq (.cond (.t 59)
 (.skip)
 (.exit 0))
 (.seq (.blk 1
 (.seq (.reg [⟨some 60,.iad 1 (.t 56) (.t 58),none⟩,
 ⟨some 61,.load1 (.t 60),none⟩,
 ⟨some 7,.mv (.t 61),none⟩])
 (.seq (.seq (.reg [⟨some 8,.mv (.c (.i .i64 0)),none⟩])
 (.blk 2
 (.loop
 (.seq (.seq (.reg [⟨some 62,.mv (.t 8),none⟩,
 ⟨some 63,.mv (.t 7),none⟩,
 ⟨some 64,.lens (.t 63),none⟩,
 ⟨some 65,.bin .lss (.t 62) (.t 64),none⟩])
 (.cond (.t 65)
 (.skip)
 (.exit 2)))
 (.seq (.blk 3
 (.seq (.reg [⟨some 68,.mv (.t 7),none⟩,
 ⟨some 69,.mv (.t 8),none⟩,
 ⟨some 70,.idx (.t 68) (.t 69),none⟩,
 ⟨some 71,.call 91 [.t 70],none⟩,
 ⟨some 72,.not (.t 71),none⟩,
 ⟨some 73,.mv (.t 72),none⟩,
 ⟨some 74,.mv (.t 7),some (73,true)⟩,
 ⟨some 75,.mv (.t 8),some (73,true)⟩,
 ⟨some 76,.idx (.t 74) (.t 75),some (73,true)⟩,
 ⟨some 77,.bin .neq (.t 76) (.c (.i .u8 37)),some (73,true)⟩,
 ⟨some 78,.pick (.t 73) (.t 77) (.c (.b false)),none⟩])
 (.cond (.t 78)
 (.seq (.reg [⟨some 79,.build [.s [],.s []] [],none⟩,
 ⟨none,.store 2 (.t 2) (.t 79),none⟩,
 ⟨some 3,.mv (.c (.i .i64 110)),none⟩])
 (.ret))
 (.skip))))
 (.reg [⟨some 66,.mv (.t 8),none⟩,
 ⟨some 67,.bin .add (.t 66) (.c (.i .i64 1)),none⟩,
 ⟨some 8,.mv (.t 67),none⟩]))))))
 (.seq (.reg [⟨some 81,.mv (.t 7),none⟩,
 ⟨some 82,.call 112 [.t 81],none⟩,
 ⟨some 80,.mv (.t 82),none⟩,
 ⟨some 83,.ext (.t 80) 0,none⟩,
 ⟨some 84,.ext (.t 80) 1,none⟩,
 ⟨some 9,.mv (.t 83),none⟩,
 ⟨some 10,.mv (.t 84),none⟩])
 (.seq (.seq (.reg [⟨some 85,.mv (.t 9),none⟩,
 ⟨some 86,.bin .eql (.t 85) (.c (.s [])),none⟩])
 (.cond (.t 86)
 (.seq (.reg [⟨some 87,.build [.s [],.s []] [],none⟩,
 ⟨none,.store 2 (.t 2) (.t 87),none⟩,
 ⟨some 3,.mv (.c (.i .i64 110)),none⟩])
 (.ret))
 (.skip)))
 (.seq (.reg [⟨some 88,.fad 2 (.t 1),none⟩,
 ⟨some 89,.load1 (.t 88),none⟩,
 ⟨some 90,.bin .neq (.t 89) (.c (.s [47,46,119,101,108,108,45,107,110,111,119,110,47,100,105,100,46,106,115,111,110])),none⟩])
 (.cond (.t 90)
 (.reg [⟨some 91,.mv (.t 5),none⟩,
 ⟨some 92,.mv (.t 9),none⟩,
 ⟨some 93,.call 147 [.t 92],none⟩,
 ⟨some 94,.bin .add (.c (.s [58])) (.t 93),none⟩,
 ⟨some 95,.bin .add (.t 91) (.t 94),none⟩,
 ⟨some 5,.mv (.t 95),none⟩])
 (.skip))))))))
 (.reg [⟨some 96,.bin .add (.t 58) (.c (.i .i64 1)),none⟩,
 ⟨some 58,.mv (.t 96),none⟩])))))))
 (.seq (.reg [⟨some 97,.mv (.t 5),none⟩,
 ⟨some 98,.build [.s [],.s []] [(0,(1,.c (.s [119,101,98]))),(1,(1,.t 97))],none⟩,
 ⟨some 11,.alloc 153 [.s [],.s []],none⟩,
 ⟨none,.store 2 (.t 11) (.t 98),none⟩])
 (.seq (.seq (.reg [⟨some 99,.loadn 2 (.t 11),none⟩,
 ⟨some 100,.call 119 [.t 99],none⟩,
 ⟨some 101,.lens (.t 100),none⟩,
 ⟨some 102,.bin .gtr (.t 101) (.c (.i .i64 4096)),none⟩])
 (.cond (.t 102)
 (.seq (.reg [⟨some 103,.build [.s [],.s []] [],none⟩,
 ⟨none,.store 2 (.t 2) (.t 103),none⟩,
 ⟨some 3,.mv (.c (.i .i64 5)),none⟩])
 (.ret))
 (.skip)))
 (.seq (.reg [⟨some 104,.loadn 2 (.t 11),none⟩,
 ⟨none,.store 2 (.t 2) (.t 104),none⟩,
 ⟨some 3,.mv (.c (.i .i64 0)),none⟩])
 (.ret))))))))))))
theorem is_ref11_FromURL:FnIs Tryz.prog 149 105 [.celln 2 2,.tmp 3] c_ref11_FromURL:=⟨⟨_,_,Tryz.func149,rfl,rfl,by kernel_rfl,by kernel_rfl⟩⟩
def c_ref11_first:SCode :=
 .seq (.reg [⟨some 1,.box 153 (.t 0),none⟩,
 ⟨some 2,.mv (.c .nil),none⟩,
 ⟨some 3,.alloc 104 [.s [],.i .i64 0],none⟩,
 ⟨some 4,.mv (.c (.i .i64 0)),none⟩])
 (.seq (.seq (.reg [⟨some 12,.fad 0 (.t 1),none⟩,
 ⟨some 13,.load1 (.t 12),none⟩,
 ⟨some 14,.bin .neq (.t 13) (.c (.s [119,101,98])),none⟩])
 (.cond (.t 14)
 (.seq (.reg [⟨some 15,.build [.s [],.i .i64 0] [],none⟩,
 ⟨some 2,.mv (.c .nil),none⟩,
 ⟨none,.store 2 (.t 3) (.t 15),none⟩,
 ⟨some 4,.mv (.c (.i .i64 100)),none⟩])
 (.ret))
 (.skip)))
 (.seq (.seq (.reg [⟨some 17,.loadn 2 (.t 1),none⟩,
 ⟨some 18,.call 119 [.t 17],none⟩,
 ⟨some 19,.call 116 [.t 18],none⟩,
 ⟨some 16,.mv (.t 19),none⟩,
 ⟨some 20,.ext (.t 16) 0,none⟩,
 ⟨some 21,.ext (.t 16) 1,none⟩,
 ⟨some 5,.alloc 153 [.s [],.s []],none⟩,
 ⟨none,.store 2 (.t 5) (.t 20),none⟩,
 ⟨some 6,.mv (.t 21),none⟩])
 (.seq (.reg [⟨some 22,.mv (.t 6),none⟩,
 ⟨some 23,.bin .neq (.t 22) (.c (.i .i64 0)),none⟩])
 (.cond (.t 23)
 (.seq (.reg [⟨some 24,.build [.s [],.i .i64 0] [],none⟩,
 ⟨some 25,.mv (.t 6),none⟩,
 ⟨some 2,.mv (.c .nil),none⟩,
 ⟨none,.store 2 (.t 3) (.t 24),none⟩,
 ⟨some 4,.mv (.t 25),none⟩])
 (.ret))
 (.skip))))
 (.seq (.reg [⟨some 26,.fad 1 (.t 1),none⟩,
 ⟨some 27,.load1 (.t 26),none⟩,
 ⟨some 28,.call 138 [.t 27,.c (.i .u8 58)],none⟩,
 ⟨some 7,.mv (.t 28),none⟩])
 (.seq (.reg [⟨some 30,.mv (.t 7),none⟩,
 ⟨some 31,.iad 1 (.t 30) (.c (.i .i64 0)),none⟩,
 ⟨some 32,.load1 (.t 31),none⟩,
 ⟨some 33,.call 112 [.t 32],none⟩,
 ⟨some 29,.mv (.t 33),none⟩,
 ⟨some 34,.ext (.t 29) 0,none⟩,
 ⟨some 35,.ext (.t 29) 1,none⟩,
 ⟨some 8,.mv (.t 34),none⟩,
 ⟨some 9,.mv (.t 35),none⟩])
 (.seq (.reg [⟨some 37,.mv (.t 8),none⟩,
 ⟨some 38,.call 142 [.t 37],none⟩,
 ⟨some 36,.mv (.t 38),none⟩,
 ⟨some 39,.ext (.t 36) 0,none⟩,
 ⟨some 40,.ext (.t 36) 1,none⟩,
 ⟨some 10,.alloc 104 [.s [],.i .i64 0],none⟩,
 ⟨none,.store 2 (.t 10) (.t 39),none⟩,
 ⟨some 11,.mv (.t 40),none⟩])
 (.seq (.drw [⟨some 41,.mv (.t 7),none⟩,
 ⟨some 42,.loadn 2 (.t 10),none⟩,
 ⟨some 43,.mv (.t 11),none⟩,
 ⟨some 2,.mv (.t 41),none⟩,
 ⟨none,.store 2 (.t 3) (.t 42),none⟩,
 ⟨some 4,.mv (.t 43),none⟩] 6 [])
 (.ret)))))))
theorem is_ref11_first:FnIs Tryz.prog 150 44 [.tmp 2,.celln 3 2,.tmp 4] c_ref11_first:=⟨⟨_,_,Tryz.func150,rfl,rfl,by kernel_rfl,by kernel_rfl⟩⟩
end Go.Proofs.YtljbdpihiboeaaaGreatDoor.Sx
namespace Go.Proofs.YtljbdpihiboeaaaGreatDoor.Sx
open Go.RowKit
set_option maxRecDepth 100000
def c_weburl_Parse:SCode :=
 .seq (.reg [⟨some 2,.alloc 30 [.s [],.i .i64 0,.s [],.s [],.s [],.b false,.b false],none⟩,
 ⟨some 3,.mv (.c (.i .i64 0)),none⟩])
 (.seq (.seq (.reg [⟨some 8,.mv (.t 0),none⟩,
 ⟨some 9,.lens (.t 8),none⟩,
 ⟨some 10,.bin .gtr (.t 9) (.c (.i .i64 4096)),none⟩])
 (.cond (.t 10)
 (.seq (.reg [⟨some 11,.build [.s [],.i .i64 0,.s [],.s [],.s [],.b false,.b false] [],none⟩,
 ⟨none,.store 7 (.t 2) (.t 11),none⟩,
 ⟨some 3,.mv (.c (.i .i64 5)),none⟩])
 (.ret))
 (.skip)))
 (.seq (.reg [⟨some 13,.mv (.t 0),none⟩,
 ⟨some 14,.call 187 [.t 13],none⟩,
 ⟨some 12,.mv (.t 14),none⟩,
 ⟨some 15,.ext (.t 12) 0,none⟩,
 ⟨some 16,.ext (.t 12) 1,none⟩,
 ⟨some 4,.alloc 183 [.s [],.s [],.s [],.s [],.s [],.b false,.b false,.b false,.b false],none⟩,
 ⟨none,.store 9 (.t 4) (.t 15),none⟩,
 ⟨some 5,.mv (.t 16),none⟩])
 (.seq (.seq (.reg [⟨some 17,.mv (.t 5),none⟩,
 ⟨some 18,.bin .neq (.t 17) (.c (.i .i64 0)),none⟩])
 (.cond (.t 18)
 (.seq (.reg [⟨some 19,.build [.s [],.i .i64 0,.s [],.s [],.s [],.b false,.b false] [],none⟩,
 ⟨some 20,.mv (.t 5),none⟩,
 ⟨none,.store 7 (.t 2) (.t 19),none⟩,
 ⟨some 3,.mv (.t 20),none⟩])
 (.ret))
 (.skip)))
 (.seq (.reg [⟨some 22,.loadn 9 (.t 4),none⟩,
 ⟨some 23,.call 188 [.t 22],none⟩,
 ⟨some 21,.mv (.t 23),none⟩,
 ⟨some 24,.ext (.t 21) 0,none⟩,
 ⟨some 25,.ext (.t 21) 1,none⟩,
 ⟨some 6,.alloc 104 [.s [],.i .i64 0],none⟩,
 ⟨none,.store 2 (.t 6) (.t 24),none⟩,
 ⟨some 5,.mv (.t 25),none⟩])
 (.seq (.seq (.reg [⟨some 26,.mv (.t 5),none⟩,
 ⟨some 27,.bin .neq (.t 26) (.c (.i .i64 0)),none⟩])
 (.cond (.t 27)
 (.seq (.reg [⟨some 28,.build [.s [],.i .i64 0,.s [],.s [],.s [],.b false,.b false] [],none⟩,
 ⟨some 29,.mv (.t 5),none⟩,
 ⟨none,.store 7 (.t 2) (.t 28),none⟩,
 ⟨some 3,.mv (.t 29),none⟩])
 (.ret))
 (.skip)))
 (.seq (.reg [⟨some 31,.loadn 9 (.t 4),none⟩,
 ⟨some 32,.call 189 [.t 31],none⟩,
 ⟨some 30,.mv (.t 32),none⟩,
 ⟨some 33,.ext (.t 30) 0,none⟩,
 ⟨some 34,.ext (.t 30) 1,none⟩,
 ⟨some 7,.alloc 30 [.s [],.i .i64 0,.s [],.s [],.s [],.b false,.b false],none⟩,
 ⟨none,.store 7 (.t 7) (.t 33),none⟩,
 ⟨some 5,.mv (.t 34),none⟩])
 (.seq (.seq (.reg [⟨some 35,.mv (.t 5),none⟩,
 ⟨some 36,.bin .neq (.t 35) (.c (.i .i64 0)),none⟩])
 (.cond (.t 36)
 (.seq (.reg [⟨some 37,.build [.s [],.i .i64 0,.s [],.s [],.s [],.b false,.b false] [],none⟩,
 ⟨some 38,.mv (.t 5),none⟩,
 ⟨none,.store 7 (.t 2) (.t 37),none⟩,
 ⟨some 3,.mv (.t 38),none⟩])
 (.ret))
 (.skip)))
 (.seq (.drw [⟨some 39,.fad 0 (.t 6),none⟩,
 ⟨some 40,.load1 (.t 39),none⟩,
 ⟨some 41,.fad 1 (.t 6),none⟩,
 ⟨some 42,.load1 (.t 41),none⟩,
 ⟨some 43,.fad 0 (.t 7),none⟩,
 ⟨none,.store 1 (.t 43) (.t 40),none⟩,
 ⟨some 44,.fad 1 (.t 7),none⟩,
 ⟨none,.store 1 (.t 44) (.t 42),none⟩] 8 [(41,43)])
 (.seq (.seq (.reg [⟨some 45,.loadn 7 (.t 7),none⟩,
 ⟨some 46,.call 47 [.t 45],none⟩,
 ⟨some 47,.lens (.t 46),none⟩,
 ⟨some 48,.bin .gtr (.t 47) (.c (.i .i64 4096)),none⟩])
 (.cond (.t 48)
 (.seq (.reg [⟨some 49,.build [.s [],.i .i64 0,.s [],.s [],.s [],.b false,.b false] [],none⟩,
 ⟨none,.store 7 (.t 2) (.t 49),none⟩,
 ⟨some 3,.mv (.c (.i .i64 5)),none⟩])
 (.ret))
 (.skip)))
 (.seq (.reg [⟨some 50,.loadn 7 (.t 7),none⟩,
 ⟨none,.store 7 (.t 2) (.t 50),none⟩,
 ⟨some 3,.mv (.c (.i .i64 0)),none⟩])
 (.ret)))))))))))
theorem is_weburl_Parse:FnIs Tryz.prog 159 51 [.celln 2 7,.tmp 3] c_weburl_Parse:=⟨⟨_,_,Tryz.func159,rfl,rfl,by kernel_rfl,by kernel_rfl⟩⟩
def c_did_ParseDID:SCode :=
 .seq (.reg [⟨some 2,.alloc 153 [.s [],.s []],none⟩,
 ⟨some 3,.mv (.c (.i .i64 0)),none⟩])
 (.seq (.seq (.reg [⟨some 9,.mv (.t 0),none⟩,
 ⟨some 10,.lens (.t 9),none⟩,
 ⟨some 11,.bin .gtr (.t 10) (.c (.i .i64 4096)),none⟩])
 (.cond (.t 11)
 (.seq (.reg [⟨some 12,.build [.s [],.s []] [],none⟩,
 ⟨none,.store 2 (.t 2) (.t 12),none⟩,
 ⟨some 3,.mv (.c (.i .i64 5)),none⟩])
 (.ret))
 (.skip)))
 (.seq (.reg [⟨some 14,.mv (.t 0),none⟩,
 ⟨some 15,.call 190 [.t 14,.c (.s [100,105,100,58])],none⟩,
 ⟨some 13,.mv (.t 15),none⟩,
 ⟨some 16,.ext (.t 13) 0,none⟩,
 ⟨some 17,.ext (.t 13) 1,none⟩,
 ⟨some 4,.mv (.t 16),none⟩,
 ⟨some 5,.mv (.t 17),none⟩])
 (.seq (.seq (.reg [⟨some 18,.mv (.t 5),none⟩,
 ⟨some 19,.not (.t 18),none⟩])
 (.cond (.t 19)
 (.seq (.reg [⟨some 20,.build [.s [],.s []] [],none⟩,
 ⟨none,.store 2 (.t 2) (.t 20),none⟩,
 ⟨some 3,.mv (.c (.i .i64 60)),none⟩])
 (.ret))
 (.skip)))
 (.seq (.reg [⟨some 22,.mv (.t 4),none⟩,
 ⟨some 23,.call 129 [.t 22,.c (.s [58])],none⟩,
 ⟨some 21,.mv (.t 23),none⟩,
 ⟨some 24,.ext (.t 21) 0,none⟩,
 ⟨some 25,.ext (.t 21) 1,none⟩,
 ⟨some 26,.ext (.t 21) 2,none⟩,
 ⟨some 6,.mv (.t 24),none⟩,
 ⟨some 7,.mv (.t 25),none⟩,
 ⟨some 5,.mv (.t 26),none⟩])
 (.seq (.seq (.reg [⟨some 27,.mv (.t 5),none⟩,
 ⟨some 28,.not (.t 27),none⟩])
 (.cond (.t 28)
 (.seq (.reg [⟨some 29,.build [.s [],.s []] [],none⟩,
 ⟨none,.store 2 (.t 2) (.t 29),none⟩,
 ⟨some 3,.mv (.c (.i .i64 6)),none⟩])
 (.ret))
 (.skip)))
 (.seq (.seq (.reg [⟨some 30,.mv (.t 6),none⟩,
 ⟨some 31,.call 191 [.t 30],none⟩,
 ⟨some 32,.not (.t 31),none⟩])
 (.cond (.t 32)
 (.seq (.reg [⟨some 33,.build [.s [],.s []] [],none⟩,
 ⟨none,.store 2 (.t 2) (.t 33),none⟩,
 ⟨some 3,.mv (.c (.i .i64 100)),none⟩])
 (.ret))
 (.skip)))
 (.seq (.reg [⟨some 35,.mv (.t 7),none⟩,
 ⟨some 36,.call 192 [.t 35],none⟩,
 ⟨some 34,.mv (.t 36),none⟩,
 ⟨some 37,.ext (.t 34) 0,none⟩,
 ⟨some 38,.ext (.t 34) 1,none⟩,
 ⟨some 7,.mv (.t 37),none⟩,
 ⟨some 8,.mv (.t 38),none⟩])
 (.seq (.seq (.reg [⟨some 39,.mv (.t 8),none⟩,
 ⟨some 40,.bin .neq (.t 39) (.c (.i .i64 0)),none⟩])
 (.cond (.t 40)
 (.seq (.reg [⟨some 41,.build [.s [],.s []] [],none⟩,
 ⟨some 42,.mv (.t 8),none⟩,
 ⟨none,.store 2 (.t 2) (.t 41),none⟩,
 ⟨some 3,.mv (.t 42),none⟩])
 (.ret))
 (.skip)))
 (.seq (.reg [⟨some 43,.mv (.t 6),none⟩,
 ⟨some 44,.mv (.t 7),none⟩,
 ⟨some 45,.build [.s [],.s []] [(0,(1,.t 43)),(1,(1,.t 44))],none⟩,
 ⟨none,.store 2 (.t 2) (.t 45),none⟩,
 ⟨some 3,.mv (.c (.i .i64 0)),none⟩])
 (.ret))))))))))
theorem is_did_ParseDID:FnIs Tryz.prog 160 46 [.celln 2 2,.tmp 3] c_did_ParseDID:=⟨⟨_,_,Tryz.func160,rfl,rfl,by kernel_rfl,by kernel_rfl⟩⟩
def c_didweb_Canonical:SCode :=
 .seq (.reg [⟨some 1,.box 153 (.t 0),none⟩,
 ⟨some 2,.alloc 153 [.s [],.s []],none⟩,
 ⟨some 3,.mv (.c (.i .i64 0)),none⟩])
 (.seq (.reg [⟨some 7,.loadn 2 (.t 1),none⟩,
 ⟨some 8,.call 193 [.t 7],none⟩,
 ⟨some 6,.mv (.t 8),none⟩,
 ⟨some 9,.ext (.t 6) 0,none⟩,
 ⟨some 10,.ext (.t 6) 1,none⟩,
 ⟨some 4,.alloc 30 [.s [],.i .i64 0,.s [],.s [],.s [],.b false,.b false],none⟩,
 ⟨none,.store 7 (.t 4) (.t 9),none⟩,
 ⟨some 5,.mv (.t 10),none⟩])
 (.seq (.seq (.reg [⟨some 11,.mv (.t 5),none⟩,
 ⟨some 12,.bin .neq (.t 11) (.c (.i .i64 0)),none⟩])
 (.cond (.t 12)
 (.seq (.reg [⟨some 13,.build [.s [],.s []] [],none⟩,
 ⟨some 14,.mv (.t 5),none⟩,
 ⟨none,.store 2 (.t 2) (.t 13),none⟩,
 ⟨some 3,.mv (.t 14),none⟩])
 (.ret))
 (.skip)))
 (.seq (.reg [⟨some 15,.loadn 7 (.t 4),none⟩,
 ⟨some 16,.call 194 [.t 15],none⟩,
 ⟨some 17,.ext (.t 16) 0,none⟩,
 ⟨some 18,.ext (.t 16) 1,none⟩,
 ⟨none,.store 2 (.t 2) (.t 17),none⟩,
 ⟨some 3,.mv (.t 18),none⟩])
 (.ret))))
theorem is_didweb_Canonical:FnIs Tryz.prog 161 19 [.celln 2 2,.tmp 3] c_didweb_Canonical:=⟨⟨_,_,Tryz.func161,rfl,rfl,by kernel_rfl,by kernel_rfl⟩⟩
def c_didweb_Authority:SCode :=
 .seq (.reg [⟨some 1,.box 153 (.t 0),none⟩,
 ⟨some 2,.alloc 104 [.s [],.i .i64 0],none⟩,
 ⟨some 3,.mv (.c (.i .i64 0)),none⟩])
 (.seq (.seq (.reg [⟨some 11,.fad 0 (.t 1),none⟩,
 ⟨some 12,.load1 (.t 11),none⟩,
 ⟨some 13,.bin .neq (.t 12) (.c (.s [119,101,98])),none⟩])
 (.cond (.t 13)
 (.seq (.reg [⟨some 14,.build [.s [],.i .i64 0] [],none⟩,
 ⟨none,.store 2 (.t 2) (.t 14),none⟩,
 ⟨some 3,.mv (.c (.i .i64 100)),none⟩])
 (.ret))
 (.skip)))
 (.seq (.seq (.reg [⟨some 16,.loadn 2 (.t 1),none⟩,
 ⟨some 17,.call 163 [.t 16],none⟩,
 ⟨some 18,.call 160 [.t 17],none⟩,
 ⟨some 15,.mv (.t 18),none⟩,
 ⟨some 19,.ext (.t 15) 0,none⟩,
 ⟨some 20,.ext (.t 15) 1,none⟩,
 ⟨some 4,.alloc 153 [.s [],.s []],none⟩,
 ⟨none,.store 2 (.t 4) (.t 19),none⟩,
 ⟨some 5,.mv (.t 20),none⟩])
 (.seq (.reg [⟨some 21,.mv (.t 5),none⟩,
 ⟨some 22,.bin .neq (.t 21) (.c (.i .i64 0)),none⟩])
 (.cond (.t 22)
 (.seq (.reg [⟨some 23,.build [.s [],.i .i64 0] [],none⟩,
 ⟨some 24,.mv (.t 5),none⟩,
 ⟨none,.store 2 (.t 2) (.t 23),none⟩,
 ⟨some 3,.mv (.t 24),none⟩])
 (.ret))
 (.skip))))
 (.seq (.reg [⟨some 26,.fad 1 (.t 1),none⟩,
 ⟨some 27,.load1 (.t 26),none⟩,
 ⟨some 28,.call 129 [.t 27,.c (.s [58])],none⟩,
 ⟨some 25,.mv (.t 28),none⟩,
 ⟨some 29,.ext (.t 25) 0,none⟩,
 ⟨some 30,.ext (.t 25) 1,none⟩,
 ⟨some 31,.ext (.t 25) 2,none⟩,
 ⟨some 6,.mv (.t 29),none⟩,
 ⟨some 7,.mv (.t 30),none⟩,
 ⟨some 8,.mv (.t 31),none⟩])
 (.seq (.reg [⟨some 33,.mv (.t 6),none⟩,
 ⟨some 34,.call 195 [.t 33],none⟩,
 ⟨some 32,.mv (.t 34),none⟩,
 ⟨some 35,.ext (.t 32) 0,none⟩,
 ⟨some 36,.ext (.t 32) 1,none⟩,
 ⟨some 9,.mv (.t 35),none⟩,
 ⟨some 10,.mv (.t 36),none⟩])
 (.seq (.seq (.reg [⟨some 37,.mv (.t 10),none⟩,
 ⟨some 38,.bin .neq (.t 37) (.c (.i .i64 0)),none⟩])
 (.cond (.t 38)
 (.seq (.reg [⟨some 39,.build [.s [],.i .i64 0] [],none⟩,
 ⟨some 40,.mv (.t 10),none⟩,
 ⟨none,.store 2 (.t 2) (.t 39),none⟩,
 ⟨some 3,.mv (.t 40),none⟩])
 (.ret))
 (.skip)))
 (.seq (.reg [⟨some 41,.mv (.t 9),none⟩,
 ⟨some 42,.call 196 [.t 41],none⟩,
 ⟨some 43,.ext (.t 42) 0,none⟩,
 ⟨some 44,.ext (.t 42) 1,none⟩,
 ⟨none,.store 2 (.t 2) (.t 43),none⟩,
 ⟨some 3,.mv (.t 44),none⟩])
 (.ret)))))))
theorem is_didweb_Authority:FnIs Tryz.prog 162 45 [.celln 2 2,.tmp 3] c_didweb_Authority:=⟨⟨_,_,Tryz.func162,rfl,rfl,by kernel_rfl,by kernel_rfl⟩⟩
def c_did_FormatDID:SCode :=
 .seq (.reg [⟨some 1,.box 153 (.t 0),none⟩,
 ⟨some 2,.mv (.c (.s [])),none⟩])
 (.seq (.reg [⟨some 3,.fad 0 (.t 1),none⟩,
 ⟨some 4,.load1 (.t 3),none⟩,
 ⟨some 5,.bin .add (.c (.s [100,105,100,58])) (.t 4),none⟩,
 ⟨some 6,.bin .add (.t 5) (.c (.s [58])),none⟩,
 ⟨some 7,.fad 1 (.t 1),none⟩,
 ⟨some 8,.load1 (.t 7),none⟩,
 ⟨some 9,.bin .add (.t 6) (.t 8),none⟩,
 ⟨some 2,.mv (.t 9),none⟩])
 (.ret))
theorem is_did_FormatDID:FnIs Tryz.prog 163 10 [.tmp 2] c_did_FormatDID:=⟨⟨_,_,Tryz.func163,rfl,rfl,by kernel_rfl,by kernel_rfl⟩⟩
def c_ref07_Valid:SCode :=
 .seq (.reg [⟨some 1,.box 30 (.t 0),none⟩,
 ⟨some 2,.mv (.c (.b false)),none⟩])
 (.seq (.reg [⟨some 6,.loadn 7 (.t 1),none⟩,
 ⟨some 7,.call 41 [.t 6],none⟩,
 ⟨some 8,.call 115 [.t 7],none⟩,
 ⟨some 5,.mv (.t 8),none⟩,
 ⟨some 9,.ext (.t 5) 0,none⟩,
 ⟨some 10,.ext (.t 5) 1,none⟩,
 ⟨some 3,.alloc 30 [.s [],.i .i64 0,.s [],.s [],.s [],.b false,.b false],none⟩,
 ⟨none,.store 7 (.t 3) (.t 9),none⟩,
 ⟨some 4,.mv (.t 10),none⟩])
 (.seq (.reg [⟨some 11,.mv (.t 4),none⟩,
 ⟨some 12,.bin .eql (.t 11) (.c (.i .i64 0)),none⟩,
 ⟨some 13,.mv (.t 12),none⟩,
 ⟨some 14,.loadn 7 (.t 1),some (13,true)⟩,
 ⟨some 15,.loadn 7 (.t 3),some (13,true)⟩,
 ⟨some 16,.eqs false (.str [(0,(none,.ts)),(1,(none,.ti)),(2,(none,.ts)),(3,(none,.ts)),(4,(none,.ts)),(5,(none,.tb)),(6,(none,.tb))]) (.t 14) (.t 15),some (13,true)⟩,
 ⟨some 17,.pick (.t 13) (.t 16) (.c (.b false)),none⟩,
 ⟨some 2,.mv (.t 17),none⟩])
 (.ret)))
theorem is_ref07_Valid:FnIs Tryz.prog 175 18 [.tmp 2] c_ref07_Valid:=⟨⟨_,_,Tryz.func175,rfl,rfl,by kernel_rfl,by kernel_rfl⟩⟩
def c_weburl_parseOrigin:SCode :=
 .seq (.reg [⟨some 1,.box 183 (.t 0),none⟩,
 ⟨some 2,.alloc 104 [.s [],.i .i64 0],none⟩,
 ⟨some 3,.mv (.c (.i .i64 0)),none⟩])
 (.seq (.blk 0
 (.seq (.reg [⟨some 5,.fad 5 (.t 1),none⟩,
 ⟨some 6,.load1 (.t 5),none⟩,
 ⟨some 7,.not (.t 6),none⟩,
 ⟨some 8,.mv (.t 7),none⟩,
 ⟨some 9,.fad 0 (.t 1),some (8,false)⟩,
 ⟨some 10,.load1 (.t 9),some (8,false)⟩,
 ⟨some 11,.call 180 [.t 10,.c (.s [104,116,116,112,115])],some (8,false)⟩,
 ⟨some 12,.not (.t 11),some (8,false)⟩,
 ⟨some 13,.pick (.t 8) (.c (.b true)) (.t 12),none⟩,
 ⟨some 4,.mv (.t 13),none⟩])
 (.cond (.t 4)
 (.seq (.reg [⟨some 14,.build [.s [],.i .i64 0] [],none⟩,
 ⟨none,.store 2 (.t 2) (.t 14),none⟩,
 ⟨some 3,.mv (.c (.i .i64 60)),none⟩])
 (.ret))
 (.seq (.reg [⟨some 16,.fad 6 (.t 1),none⟩,
 ⟨some 17,.load1 (.t 16),none⟩,
 ⟨some 18,.not (.t 17),none⟩,
 ⟨some 15,.mv (.t 18),none⟩])
 (.cond (.t 15)
 (.seq (.reg [⟨some 19,.build [.s [],.i .i64 0] [],none⟩,
 ⟨none,.store 2 (.t 2) (.t 19),none⟩,
 ⟨some 3,.mv (.c (.i .i64 71)),none⟩])
 (.ret))
 (.seq (.reg [⟨some 21,.fad 1 (.t 1),none⟩,
 ⟨some 22,.load1 (.t 21),none⟩,
 ⟨some 23,.call 214 [.t 22,.c (.s [64])],none⟩,
 ⟨some 20,.mv (.t 23),none⟩])
 (.cond (.t 20)
 (.seq (.reg [⟨some 24,.build [.s [],.i .i64 0] [],none⟩,
 ⟨none,.store 2 (.t 2) (.t 24),none⟩,
 ⟨some 3,.mv (.c (.i .i64 70)),none⟩])
 (.ret))
 (.skip))))))))
 (.seq (.reg [⟨some 25,.fad 1 (.t 1),none⟩,
 ⟨some 26,.load1 (.t 25),none⟩,
 ⟨some 27,.call 196 [.t 26],none⟩,
 ⟨some 28,.ext (.t 27) 0,none⟩,
 ⟨some 29,.ext (.t 27) 1,none⟩,
 ⟨none,.store 2 (.t 2) (.t 28),none⟩,
 ⟨some 3,.mv (.t 29),none⟩])
 (.ret)))
theorem is_weburl_parseOrigin:FnIs Tryz.prog 188 30 [.celln 2 2,.tmp 3] c_weburl_parseOrigin:=⟨⟨_,_,Tryz.func188,rfl,rfl,by kernel_rfl,by kernel_rfl⟩⟩
def c_weburl_parseRest:SCode :=
 .seq (.reg [⟨some 1,.box 183 (.t 0),none⟩,
 ⟨some 2,.alloc 30 [.s [],.i .i64 0,.s [],.s [],.s [],.b false,.b false],none⟩,
 ⟨some 3,.mv (.c (.i .i64 0)),none⟩])
 (.seq (.reg [⟨some 9,.fad 2 (.t 1),none⟩,
 ⟨some 10,.load1 (.t 9),none⟩,
 ⟨some 11,.call 182 [.t 10,.c (.s [33,36,38,39,40,41,42,43,44,59,61,58,64,47])],none⟩,
 ⟨some 8,.mv (.t 11),none⟩,
 ⟨some 12,.ext (.t 8) 0,none⟩,
 ⟨some 13,.ext (.t 8) 1,none⟩,
 ⟨some 4,.mv (.t 12),none⟩,
 ⟨some 5,.mv (.t 13),none⟩])
 (.seq (.seq (.reg [⟨some 14,.mv (.t 5),none⟩,
 ⟨some 15,.bin .neq (.t 14) (.c (.i .i64 0)),none⟩])
 (.cond (.t 15)
 (.seq (.reg [⟨some 16,.build [.s [],.i .i64 0,.s [],.s [],.s [],.b false,.b false] [],none⟩,
 ⟨some 17,.mv (.t 5),none⟩,
 ⟨none,.store 7 (.t 2) (.t 16),none⟩,
 ⟨some 3,.mv (.t 17),none⟩])
 (.ret))
 (.skip)))
 (.seq (.seq (.reg [⟨some 18,.mv (.t 4),none⟩,
 ⟨some 19,.call 215 [.t 18],none⟩,
 ⟨some 4,.mv (.t 19),none⟩])
 (.seq (.reg [⟨some 20,.mv (.t 4),none⟩,
 ⟨some 21,.bin .eql (.t 20) (.c (.s [])),none⟩])
 (.cond (.t 21)
 (.reg [⟨some 4,.mv (.c (.s [47])),none⟩])
 (.skip))))
 (.seq (.reg [⟨some 23,.fad 3 (.t 1),none⟩,
 ⟨some 24,.load1 (.t 23),none⟩,
 ⟨some 25,.call 182 [.t 24,.c (.s [33,36,38,39,40,41,42,43,44,59,61,58,64,47,63])],none⟩,
 ⟨some 22,.mv (.t 25),none⟩,
 ⟨some 26,.ext (.t 22) 0,none⟩,
 ⟨some 27,.ext (.t 22) 1,none⟩,
 ⟨some 6,.mv (.t 26),none⟩,
 ⟨some 5,.mv (.t 27),none⟩])
 (.seq (.seq (.reg [⟨some 28,.mv (.t 5),none⟩,
 ⟨some 29,.bin .neq (.t 28) (.c (.i .i64 0)),none⟩])
 (.cond (.t 29)
 (.seq (.reg [⟨some 30,.build [.s [],.i .i64 0,.s [],.s [],.s [],.b false,.b false] [],none⟩,
 ⟨some 31,.mv (.t 5),none⟩,
 ⟨none,.store 7 (.t 2) (.t 30),none⟩,
 ⟨some 3,.mv (.t 31),none⟩])
 (.ret))
 (.skip)))
 (.seq (.reg [⟨some 33,.fad 4 (.t 1),none⟩,
 ⟨some 34,.load1 (.t 33),none⟩,
 ⟨some 35,.call 182 [.t 34,.c (.s [33,36,38,39,40,41,42,43,44,59,61,58,64,47,63])],none⟩,
 ⟨some 32,.mv (.t 35),none⟩,
 ⟨some 36,.ext (.t 32) 0,none⟩,
 ⟨some 37,.ext (.t 32) 1,none⟩,
 ⟨some 7,.mv (.t 36),none⟩,
 ⟨some 5,.mv (.t 37),none⟩])
 (.seq (.seq (.reg [⟨some 38,.mv (.t 5),none⟩,
 ⟨some 39,.bin .neq (.t 38) (.c (.i .i64 0)),none⟩])
 (.cond (.t 39)
 (.seq (.reg [⟨some 40,.build [.s [],.i .i64 0,.s [],.s [],.s [],.b false,.b false] [],none⟩,
 ⟨some 41,.mv (.t 5),none⟩,
 ⟨none,.store 7 (.t 2) (.t 40),none⟩,
 ⟨some 3,.mv (.t 41),none⟩])
 (.ret))
 (.skip)))
 (.seq (.reg [⟨some 42,.mv (.t 4),none⟩,
 ⟨some 43,.mv (.t 6),none⟩,
 ⟨some 44,.fad 7 (.t 1),none⟩,
 ⟨some 45,.load1 (.t 44),none⟩,
 ⟨some 46,.mv (.t 7),none⟩,
 ⟨some 47,.fad 8 (.t 1),none⟩,
 ⟨some 48,.load1 (.t 47),none⟩,
 ⟨some 49,.build [.s [],.i .i64 0,.s [],.s [],.s [],.b false,.b false] [(2,(1,.t 42)),(3,(1,.t 43)),(5,(1,.t 45)),(4,(1,.t 46)),(6,(1,.t 48))],none⟩,
 ⟨none,.store 7 (.t 2) (.t 49),none⟩,
 ⟨some 3,.mv (.c (.i .i64 0)),none⟩])
 (.ret)))))))))
theorem is_weburl_parseRest:FnIs Tryz.prog 189 50 [.celln 2 7,.tmp 3] c_weburl_parseRest:=⟨⟨_,_,Tryz.func189,rfl,rfl,by kernel_rfl,by kernel_rfl⟩⟩
def c_did_isMethod:SCode :=
 .seq (.reg [⟨some 2,.mv (.c (.b false)),none⟩])
 (.seq (.seq (.reg [⟨some 4,.mv (.t 0),none⟩,
 ⟨some 5,.lens (.t 4),none⟩,
 ⟨some 6,.mv (.c (.i .i64 0)),none⟩])
 (.blk 0
 (.loop
 (.seq (.reg [⟨some 7,.bin .lss (.t 6) (.t 5),none⟩])
 (.seq (.cond (.t 7)
 (.skip)
 (.exit 0))
 (.seq (.blk 1
 (.seq (.reg [⟨some 8,.mv (.t 6),none⟩,
 ⟨some 3,.mv (.t 8),none⟩])
 (.seq (.reg [⟨some 9,.mv (.t 0),none⟩,
 ⟨some 10,.mv (.t 3),none⟩,
 ⟨some 11,.idx (.t 9) (.t 10),none⟩,
 ⟨some 12,.call 177 [.t 11],none⟩,
 ⟨some 13,.not (.t 12),none⟩,
 ⟨some 14,.mv (.t 13),none⟩,
 ⟨some 15,.mv (.t 0),some (14,true)⟩,
 ⟨some 16,.mv (.t 3),some (14,true)⟩,
 ⟨some 17,.idx (.t 15) (.t 16),some (14,true)⟩,
 ⟨some 18,.bin .lss (.t 17) (.c (.i .u8 97)),some (14,true)⟩,
 ⟨some 19,.mv (.t 18),some (14,true)⟩,
 ⟨some 20,.mv (.t 0),some (19,false)⟩,
 ⟨some 21,.mv (.t 3),some (19,false)⟩,
 ⟨some 22,.idx (.t 20) (.t 21),some (19,false)⟩,
 ⟨some 23,.bin .gtr (.t 22) (.c (.i .u8 122)),some (19,false)⟩,
 ⟨some 24,.pick (.t 19) (.c (.b true)) (.t 23),some (14,true)⟩,
 ⟨some 25,.pick (.t 14) (.t 24) (.c (.b false)),none⟩])
 (.cond (.t 25)
 (.seq (.reg [⟨some 2,.mv (.c (.b false)),none⟩])
 (.ret))
 (.skip)))))
 (.reg [⟨some 26,.bin .add (.t 6) (.c (.i .i64 1)),none⟩,
 ⟨some 6,.mv (.t 26),none⟩])))))))
 (.seq (.reg [⟨some 27,.mv (.t 0),none⟩,
 ⟨some 28,.bin .neq (.t 27) (.c (.s [])),none⟩,
 ⟨some 2,.mv (.t 28),none⟩])
 (.ret)))
theorem is_did_isMethod:FnIs Tryz.prog 191 29 [.tmp 2] c_did_isMethod:=⟨⟨_,_,Tryz.func191,rfl,rfl,by kernel_rfl,by kernel_rfl⟩⟩
def c_did_parseID:SCode :=
 .seq (.reg [⟨some 2,.mv (.c (.s [])),none⟩,
 ⟨some 3,.mv (.c (.i .i64 0)),none⟩])
 (.seq (.seq (.reg [⟨some 10,.mv (.t 0),none⟩,
 ⟨some 11,.call 195 [.t 10],none⟩,
 ⟨some 9,.mv (.t 11),none⟩,
 ⟨some 12,.ext (.t 9) 0,none⟩,
 ⟨some 13,.ext (.t 9) 1,none⟩,
 ⟨some 4,.mv (.t 12),none⟩,
 ⟨some 5,.mv (.t 13),none⟩])
 (.seq (.reg [⟨some 14,.mv (.t 5),none⟩,
 ⟨some 15,.bin .neq (.t 14) (.c (.i .i64 0)),none⟩])
 (.cond (.t 15)
 (.seq (.reg [⟨some 16,.mv (.t 5),none⟩,
 ⟨some 2,.mv (.c (.s [])),none⟩,
 ⟨some 3,.mv (.t 16),none⟩])
 (.ret))
 (.skip))))
 (.seq (.seq (.reg [⟨some 17,.mv (.t 0),none⟩,
 ⟨some 18,.lens (.t 17),none⟩,
 ⟨some 19,.mv (.c (.i .i64 0)),none⟩])
 (.blk 0
 (.loop
 (.seq (.reg [⟨some 20,.bin .lss (.t 19) (.t 18),none⟩])
 (.seq (.cond (.t 20)
 (.skip)
 (.exit 0))
 (.seq (.blk 1
 (.seq (.reg [⟨some 21,.mv (.t 19),none⟩,
 ⟨some 6,.mv (.t 21),none⟩])
 (.seq (.reg [⟨some 22,.mv (.t 0),none⟩,
 ⟨some 23,.mv (.t 6),none⟩,
 ⟨some 24,.idx (.t 22) (.t 23),none⟩,
 ⟨some 25,.bin .neq (.t 24) (.c (.i .u8 37)),none⟩,
 ⟨some 26,.mv (.t 25),none⟩,
 ⟨some 27,.mv (.t 0),some (26,true)⟩,
 ⟨some 28,.mv (.t 6),some (26,true)⟩,
 ⟨some 29,.idx (.t 27) (.t 28),some (26,true)⟩,
 ⟨some 30,.call 217 [.t 29],some (26,true)⟩,
 ⟨some 31,.not (.t 30),some (26,true)⟩,
 ⟨some 32,.pick (.t 26) (.t 31) (.c (.b false)),none⟩])
 (.cond (.t 32)
 (.seq (.reg [⟨some 2,.mv (.c (.s [])),none⟩,
 ⟨some 3,.mv (.c (.i .i64 1)),none⟩])
 (.ret))
 (.skip)))))
 (.reg [⟨some 33,.bin .add (.t 19) (.c (.i .i64 1)),none⟩,
 ⟨some 19,.mv (.t 33),none⟩])))))))
 (.seq (.seq (.reg [⟨some 34,.mv (.t 0),none⟩,
 ⟨some 35,.bin .eql (.t 34) (.c (.s [])),none⟩,
 ⟨some 36,.mv (.t 35),none⟩,
 ⟨some 37,.mv (.t 0),some (36,false)⟩,
 ⟨some 38,.mv (.t 0),some (36,false)⟩,
 ⟨some 39,.lens (.t 38),some (36,false)⟩,
 ⟨some 40,.bin .sub (.t 39) (.c (.i .i64 1)),some (36,false)⟩,
 ⟨some 41,.idx (.t 37) (.t 40),some (36,false)⟩,
 ⟨some 42,.bin .eql (.t 41) (.c (.i .u8 58)),some (36,false)⟩,
 ⟨some 43,.pick (.t 36) (.c (.b true)) (.t 42),none⟩])
 (.cond (.t 43)
 (.seq (.reg [⟨some 2,.mv (.c (.s [])),none⟩,
 ⟨some 3,.mv (.c (.i .i64 3)),none⟩])
 (.ret))
 (.skip)))
 (.seq (.reg [⟨some 45,.mv (.t 0),none⟩,
 ⟨some 46,.call 182 [.t 45,.c (.s [46,45,95,58])],none⟩,
 ⟨some 44,.mv (.t 46),none⟩,
 ⟨some 47,.ext (.t 44) 0,none⟩,
 ⟨some 48,.ext (.t 44) 1,none⟩,
 ⟨some 7,.mv (.t 47),none⟩,
 ⟨some 8,.mv (.t 48),none⟩])
 (.seq (.seq (.reg [⟨some 49,.mv (.t 8),none⟩,
 ⟨some 50,.bin .neq (.t 49) (.c (.i .i64 0)),none⟩])
 (.cond (.t 50)
 (.seq (.reg [⟨some 51,.mv (.t 8),none⟩,
 ⟨some 2,.mv (.c (.s [])),none⟩,
 ⟨some 3,.mv (.t 51),none⟩])
 (.ret))
 (.skip)))
 (.seq (.reg [⟨some 52,.mv (.t 7),none⟩,
 ⟨some 53,.call 218 [.t 52,.c (.s [126]),.c (.s [37,55,69])],none⟩,
 ⟨some 2,.mv (.t 53),none⟩,
 ⟨some 3,.mv (.c (.i .i64 0)),none⟩])
 (.ret)))))))
theorem is_did_parseID:FnIs Tryz.prog 192 54 [.tmp 2,.tmp 3] c_did_parseID:=⟨⟨_,_,Tryz.func192,rfl,rfl,by kernel_rfl,by kernel_rfl⟩⟩
def c_didweb_ToURL:SCode :=
 .seq (.reg [⟨some 1,.box 153 (.t 0),none⟩,
 ⟨some 2,.alloc 30 [.s [],.i .i64 0,.s [],.s [],.s [],.b false,.b false],none⟩,
 ⟨some 3,.mv (.c (.i .i64 0)),none⟩])
 (.seq (.reg [⟨some 11,.loadn 2 (.t 1),none⟩,
 ⟨some 12,.call 162 [.t 11],none⟩,
 ⟨some 10,.mv (.t 12),none⟩,
 ⟨some 13,.ext (.t 10) 0,none⟩,
 ⟨some 14,.ext (.t 10) 1,none⟩,
 ⟨some 4,.alloc 104 [.s [],.i .i64 0],none⟩,
 ⟨none,.store 2 (.t 4) (.t 13),none⟩,
 ⟨some 5,.mv (.t 14),none⟩])
 (.seq (.seq (.reg [⟨some 15,.mv (.t 5),none⟩,
 ⟨some 16,.bin .neq (.t 15) (.c (.i .i64 0)),none⟩])
 (.cond (.t 16)
 (.seq (.reg [⟨some 17,.build [.s [],.i .i64 0,.s [],.s [],.s [],.b false,.b false] [],none⟩,
 ⟨some 18,.mv (.t 5),none⟩,
 ⟨none,.store 7 (.t 2) (.t 17),none⟩,
 ⟨some 3,.mv (.t 18),none⟩])
 (.ret))
 (.skip)))
 (.seq (.reg [⟨some 19,.fad 0 (.t 4),none⟩,
 ⟨some 20,.load1 (.t 19),none⟩,
 ⟨some 21,.fad 1 (.t 4),none⟩,
 ⟨some 22,.load1 (.t 21),none⟩,
 ⟨some 23,.build [.s [],.i .i64 0,.s [],.s [],.s [],.b false,.b false] [(0,(1,.t 20)),(1,(1,.t 22)),(2,(1,.c (.s [47,46,119,101,108,108,45,107,110,111,119,110,47,100,105,100,46,106,115,111,110])))],none⟩,
 ⟨some 6,.alloc 30 [.s [],.i .i64 0,.s [],.s [],.s [],.b false,.b false],none⟩,
 ⟨none,.store 7 (.t 6) (.t 23),none⟩])
 (.seq (.seq (.reg [⟨some 24,.fad 1 (.t 1),none⟩,
 ⟨some 25,.load1 (.t 24),none⟩,
 ⟨some 26,.call 219 [.t 25,.c (.s [58])],none⟩,
 ⟨some 27,.pu (.rsl 1) [.t 26,.c (.i .i64 1)],none⟩,
 ⟨some 7,.mv (.t 27),none⟩])
 (.seq (.reg [⟨some 28,.mv (.t 7),none⟩,
 ⟨some 29,.lenr (.t 28),none⟩,
 ⟨some 30,.bin .gtr (.t 29) (.c (.i .i64 0)),none⟩])
 (.cond (.t 30)
 (.seq (.reg [⟨some 8,.alloc 218 [.o (.pointer none),.nil],none⟩])
 (.seq (.seq (.reg [⟨some 31,.mv (.t 7),none⟩,
 ⟨some 32,.mkf 221 [.t 8] [],none⟩,
 ⟨some 33,.call 220 [.t 31,.t 32],none⟩,
 ⟨some 9,.mv (.t 33),none⟩])
 (.seq (.reg [⟨some 34,.mv (.t 9),none⟩,
 ⟨some 35,.bin .neq (.t 34) (.c (.i .i64 0)),none⟩])
 (.cond (.t 35)
 (.seq (.reg [⟨some 36,.build [.s [],.i .i64 0,.s [],.s [],.s [],.b false,.b false] [],none⟩,
 ⟨some 37,.mv (.t 9),none⟩,
 ⟨none,.store 7 (.t 2) (.t 36),none⟩,
 ⟨some 3,.mv (.t 37),none⟩])
 (.ret))
 (.skip))))
 (.reg [⟨some 38,.fad 0 (.t 8),none⟩,
 ⟨some 39,.call 222 [.t 38],none⟩,
 ⟨some 40,.bin .add (.t 39) (.c (.s [47])),none⟩,
 ⟨some 41,.bin .add (.t 40) (.c (.s [100,105,100,46,106,115,111,110])),none⟩,
 ⟨some 42,.fad 2 (.t 6),none⟩,
 ⟨none,.store 1 (.t 42) (.t 41),none⟩])))
 (.skip))))
 (.seq (.seq (.reg [⟨some 43,.loadn 7 (.t 6),none⟩,
 ⟨some 44,.call 47 [.t 43],none⟩,
 ⟨some 45,.lens (.t 44),none⟩,
 ⟨some 46,.bin .gtr (.t 45) (.c (.i .i64 4096)),none⟩])
 (.cond (.t 46)
 (.seq (.reg [⟨some 47,.build [.s [],.i .i64 0,.s [],.s [],.s [],.b false,.b false] [],none⟩,
 ⟨none,.store 7 (.t 2) (.t 47),none⟩,
 ⟨some 3,.mv (.c (.i .i64 5)),none⟩])
 (.ret))
 (.skip)))
 (.seq (.reg [⟨some 48,.loadn 7 (.t 6),none⟩,
 ⟨none,.store 7 (.t 2) (.t 48),none⟩,
 ⟨some 3,.mv (.c (.i .i64 0)),none⟩])
 (.ret)))))))
theorem is_didweb_ToURL:FnIs Tryz.prog 193 49 [.celln 2 7,.tmp 3] c_didweb_ToURL:=⟨⟨_,_,Tryz.func193,rfl,rfl,by kernel_rfl,by kernel_rfl⟩⟩
def c_didweb_FromURL:SCode :=
 .seq (.reg [⟨some 1,.box 30 (.t 0),none⟩,
 ⟨some 2,.alloc 153 [.s [],.s []],none⟩,
 ⟨some 3,.mv (.c (.i .i64 0)),none⟩])
 (.seq (.seq (.reg [⟨some 9,.loadn 7 (.t 1),none⟩,
 ⟨some 10,.call 223 [.t 9],none⟩,
 ⟨some 11,.not (.t 10),none⟩])
 (.cond (.t 11)
 (.seq (.reg [⟨some 12,.build [.s [],.s []] [],none⟩,
 ⟨none,.store 2 (.t 2) (.t 12),none⟩,
 ⟨some 3,.mv (.c (.i .i64 8)),none⟩])
 (.ret))
 (.skip)))
 (.seq (.reg [⟨some 13,.fad 2 (.t 1),none⟩,
 ⟨some 14,.load1 (.t 13),none⟩,
 ⟨some 15,.call 219 [.t 14,.c (.s [47])],none⟩,
 ⟨some 16,.pu (.rsl 1) [.t 15,.c (.i .i64 1)],none⟩,
 ⟨some 4,.mv (.t 16),none⟩])
 (.seq (.reg [⟨some 17,.mv (.t 4),none⟩,
 ⟨some 18,.lenr (.t 17),none⟩,
 ⟨some 19,.bin .sub (.t 18) (.c (.i .i64 1)),none⟩,
 ⟨some 5,.mv (.t 19),none⟩])
 (.seq (.seq (.reg [⟨some 20,.fad 5 (.t 1),none⟩,
 ⟨some 21,.load1 (.t 20),none⟩,
 ⟨some 22,.mv (.t 21),none⟩,
 ⟨some 23,.fad 6 (.t 1),some (22,false)⟩,
 ⟨some 24,.load1 (.t 23),some (22,false)⟩,
 ⟨some 25,.pick (.t 22) (.c (.b true)) (.t 24),none⟩,
 ⟨some 26,.mv (.t 25),none⟩,
 ⟨some 27,.mv (.t 4),some (26,false)⟩,
 ⟨some 28,.mv (.t 5),some (26,false)⟩,
 ⟨some 29,.iad 1 (.t 27) (.t 28),some (26,false)⟩,
 ⟨some 30,.load1 (.t 29),some (26,false)⟩,
 ⟨some 31,.bin .neq (.t 30) (.c (.s [100,105,100,46,106,115,111,110])),some (26,false)⟩,
 ⟨some 32,.pick (.t 26) (.c (.b true)) (.t 31),none⟩])
 (.cond (.t 32)
 (.seq (.reg [⟨some 33,.build [.s [],.s []] [],none⟩,
 ⟨none,.store 2 (.t 2) (.t 33),none⟩,
 ⟨some 3,.mv (.c (.i .i64 6)),none⟩])
 (.ret))
 (.skip)))
 (.seq (.reg [⟨some 6,.alloc 222 [.o (.pointer none),.nil],none⟩])
 (.seq (.reg [⟨some 34,.loadn 7 (.t 1),none⟩,
 ⟨some 35,.call 88 [.t 34],none⟩,
 ⟨some 36,.call 224 [.t 6,.t 35],none⟩])
 (.seq (.seq (.reg [⟨some 37,.fad 2 (.t 1),none⟩,
 ⟨some 38,.load1 (.t 37),none⟩,
 ⟨some 39,.bin .neq (.t 38) (.c (.s [47,46,119,101,108,108,45,107,110,111,119,110,47,100,105,100,46,106,115,111,110])),none⟩])
 (.cond (.t 39)
 (.seq (.seq (.reg [⟨some 40,.mv (.t 5),none⟩,
 ⟨some 41,.bin .eql (.t 40) (.c (.i .i64 0)),none⟩])
 (.cond (.t 41)
 (.seq (.reg [⟨some 42,.build [.s [],.s []] [],none⟩,
 ⟨none,.store 2 (.t 2) (.t 42),none⟩,
 ⟨some 3,.mv (.c (.i .i64 110)),none⟩])
 (.ret))
 (.skip)))
 (.seq (.reg [⟨some 43,.mv (.t 4),none⟩,
 ⟨some 44,.mv (.t 5),none⟩,
 ⟨some 45,.trn 1 (.t 43) (.t 44),none⟩,
 ⟨some 46,.mkf 225 [.t 6] [],none⟩,
 ⟨some 47,.call 220 [.t 45,.t 46],none⟩,
 ⟨some 7,.mv (.t 47),none⟩])
 (.seq (.reg [⟨some 48,.mv (.t 7),none⟩,
 ⟨some 49,.bin .neq (.t 48) (.c (.i .i64 0)),none⟩])
 (.cond (.t 49)
 (.seq (.reg [⟨some 50,.build [.s [],.s []] [],none⟩,
 ⟨some 51,.mv (.t 7),none⟩,
 ⟨none,.store 2 (.t 2) (.t 50),none⟩,
 ⟨some 3,.mv (.t 51),none⟩])
 (.ret))
 (.skip)))))
 (.skip)))
 (.seq (.reg [⟨some 52,.fad 0 (.t 6),none⟩,
 ⟨some 53,.call 222 [.t 52],none⟩,
 ⟨some 54,.build [.s [],.s []] [(0,(1,.c (.s [119,101,98]))),(1,(1,.t 53))],none⟩,
 ⟨some 8,.alloc 153 [.s [],.s []],none⟩,
 ⟨none,.store 2 (.t 8) (.t 54),none⟩])
 (.seq (.seq (.reg [⟨some 55,.loadn 2 (.t 8),none⟩,
 ⟨some 56,.call 163 [.t 55],none⟩,
 ⟨some 57,.lens (.t 56),none⟩,
 ⟨some 58,.bin .gtr (.t 57) (.c (.i .i64 4096)),none⟩])
 (.cond (.t 58)
 (.seq (.reg [⟨some 59,.build [.s [],.s []] [],none⟩,
 ⟨none,.store 2 (.t 2) (.t 59),none⟩,
 ⟨some 3,.mv (.c (.i .i64 5)),none⟩])
 (.ret))
 (.skip)))
 (.seq (.reg [⟨some 60,.loadn 2 (.t 8),none⟩,
 ⟨none,.store 2 (.t 2) (.t 60),none⟩,
 ⟨some 3,.mv (.c (.i .i64 0)),none⟩])
 (.ret)))))))))))
theorem is_didweb_FromURL:FnIs Tryz.prog 194 61 [.celln 2 2,.tmp 3] c_didweb_FromURL:=⟨⟨_,_,Tryz.func194,rfl,rfl,by kernel_rfl,by kernel_rfl⟩⟩
def c_did_isIDByte:SCode :=
 .seq (.reg [⟨some 2,.mv (.c (.b false)),none⟩])
 (.seq (.reg [⟨some 3,.mv (.t 0),none⟩,
 ⟨some 4,.call 176 [.t 3],none⟩,
 ⟨some 5,.mv (.t 4),none⟩,
 ⟨some 6,.mv (.t 0),some (5,false)⟩,
 ⟨some 7,.call 177 [.t 6],some (5,false)⟩,
 ⟨some 8,.pick (.t 5) (.c (.b true)) (.t 7),none⟩,
 ⟨some 9,.mv (.t 8),none⟩,
 ⟨some 10,.mv (.t 0),some (9,false)⟩,
 ⟨some 11,.call 121 [.c (.s [46,45,95,58]),.t 10],some (9,false)⟩,
 ⟨some 12,.bin .geq (.t 11) (.c (.i .i64 0)),some (9,false)⟩,
 ⟨some 13,.pick (.t 9) (.c (.b true)) (.t 12),none⟩,
 ⟨some 2,.mv (.t 13),none⟩])
 (.ret))
theorem is_did_isIDByte:FnIs Tryz.prog 217 14 [.tmp 2] c_did_isIDByte:=⟨⟨_,_,Tryz.func217,rfl,rfl,by kernel_rfl,by kernel_rfl⟩⟩
def c_didweb_each:SCode :=
 .seq (.reg [⟨some 4,.mv (.c (.i .i64 0)),none⟩])
 (.seq (.seq (.reg [⟨some 8,.mv (.t 0),none⟩,
 ⟨some 9,.lenr (.t 8),none⟩,
 ⟨some 10,.mv (.c (.i .i64 0)),none⟩])
 (.blk 0
 (.loop
 (.seq (.reg [⟨some 11,.bin .lss (.t 10) (.t 9),none⟩])
 (.seq (.cond (.t 11)
 (.skip)
 (.exit 0))
 (.seq (.blk 1
 (.seq (.reg [⟨some 12,.iad 1 (.t 8) (.t 10),none⟩,
 ⟨some 13,.load1 (.t 12),none⟩,
 ⟨some 6,.mv (.t 13),none⟩])
 (.seq (.reg [⟨some 14,.mv (.t 1),none⟩,
 ⟨some 15,.mv (.t 6),none⟩,
 ⟨some 16,.callv (.t 14) [.t 15],none⟩,
 ⟨some 7,.mv (.t 16),none⟩])
 (.seq (.reg [⟨some 17,.mv (.t 7),none⟩,
 ⟨some 18,.bin .neq (.t 17) (.c (.i .i64 0)),none⟩])
 (.cond (.t 18)
 (.seq (.reg [⟨some 19,.mv (.t 7),none⟩,
 ⟨some 4,.mv (.t 19),none⟩])
 (.ret))
 (.skip))))))
 (.reg [⟨some 20,.bin .add (.t 10) (.c (.i .i64 1)),none⟩,
 ⟨some 10,.mv (.t 20),none⟩])))))))
 (.seq (.reg [⟨some 4,.mv (.c (.i .i64 0)),none⟩])
 (.ret)))
theorem is_didweb_each:FnIs Tryz.prog 220 21 [.tmp 4] c_didweb_each:=⟨⟨_,_,Tryz.func220,rfl,rfl,by kernel_rfl,by kernel_rfl⟩⟩
def c_didweb_pathWriter_add:SCode :=
 .seq (.reg [⟨some 4,.mv (.c (.i .i64 0)),none⟩])
 (.seq (.reg [⟨some 8,.mv (.t 1),none⟩,
 ⟨some 9,.call 195 [.t 8],none⟩,
 ⟨some 7,.mv (.t 9),none⟩,
 ⟨some 10,.ext (.t 7) 0,none⟩,
 ⟨some 11,.ext (.t 7) 1,none⟩,
 ⟨some 5,.mv (.t 10),none⟩,
 ⟨some 6,.mv (.t 11),none⟩])
 (.seq (.seq (.reg [⟨some 12,.mv (.t 6),none⟩,
 ⟨some 13,.bin .neq (.t 12) (.c (.i .i64 0)),none⟩,
 ⟨some 14,.mv (.t 13),none⟩,
 ⟨some 15,.mv (.t 5),some (14,false)⟩,
 ⟨some 16,.bin .eql (.t 15) (.c (.s [])),some (14,false)⟩,
 ⟨some 17,.pick (.t 14) (.c (.b true)) (.t 16),none⟩,
 ⟨some 18,.mv (.t 17),none⟩,
 ⟨some 19,.mv (.t 5),some (18,false)⟩,
 ⟨some 20,.bin .eql (.t 19) (.c (.s [46])),some (18,false)⟩,
 ⟨some 21,.pick (.t 18) (.c (.b true)) (.t 20),none⟩,
 ⟨some 22,.mv (.t 21),none⟩,
 ⟨some 23,.mv (.t 5),some (22,false)⟩,
 ⟨some 24,.bin .eql (.t 23) (.c (.s [46,46])),some (22,false)⟩,
 ⟨some 25,.pick (.t 22) (.c (.b true)) (.t 24),none⟩])
 (.cond (.t 25)
 (.seq (.reg [⟨some 4,.mv (.c (.i .i64 110)),none⟩])
 (.ret))
 (.skip)))
 (.seq (.drw [⟨some 26,.mv (.t 0),none⟩,
 ⟨some 27,.nck (.t 26),none⟩,
 ⟨some 28,.fad 0 (.t 27),none⟩,
 ⟨some 29,.mv (.t 5),none⟩,
 ⟨some 30,.call 46 [.t 29,.c (.s [])],none⟩,
 ⟨some 31,.bin .add (.c (.s [47])) (.t 30),none⟩,
 ⟨some 32,.call 253 [.t 28,.t 31],none⟩] 6 [])
 (.seq (.reg [⟨some 4,.mv (.c (.i .i64 0)),none⟩])
 (.ret)))))
theorem is_didweb_pathWriter_add:FnIs Tryz.prog 221 33 [.tmp 4] c_didweb_pathWriter_add:=⟨⟨_,_,Tryz.func221,rfl,rfl,by kernel_rfl,by kernel_rfl⟩⟩
def c_weburl_Valid:SCode :=
 .seq (.reg [⟨some 1,.box 30 (.t 0),none⟩,
 ⟨some 2,.mv (.c (.b false)),none⟩])
 (.seq (.reg [⟨some 6,.loadn 7 (.t 1),none⟩,
 ⟨some 7,.call 47 [.t 6],none⟩,
 ⟨some 8,.call 159 [.t 7],none⟩,
 ⟨some 5,.mv (.t 8),none⟩,
 ⟨some 9,.ext (.t 5) 0,none⟩,
 ⟨some 10,.ext (.t 5) 1,none⟩,
 ⟨some 3,.alloc 30 [.s [],.i .i64 0,.s [],.s [],.s [],.b false,.b false],none⟩,
 ⟨none,.store 7 (.t 3) (.t 9),none⟩,
 ⟨some 4,.mv (.t 10),none⟩])
 (.seq (.reg [⟨some 11,.mv (.t 4),none⟩,
 ⟨some 12,.bin .eql (.t 11) (.c (.i .i64 0)),none⟩,
 ⟨some 13,.mv (.t 12),none⟩,
 ⟨some 14,.loadn 7 (.t 3),some (13,true)⟩,
 ⟨some 15,.loadn 7 (.t 1),some (13,true)⟩,
 ⟨some 16,.eqs false (.str [(0,(none,.ts)),(1,(none,.ti)),(2,(none,.ts)),(3,(none,.ts)),(4,(none,.ts)),(5,(none,.tb)),(6,(none,.tb))]) (.t 14) (.t 15),some (13,true)⟩,
 ⟨some 17,.pick (.t 13) (.t 16) (.c (.b false)),none⟩,
 ⟨some 2,.mv (.t 17),none⟩])
 (.ret)))
theorem is_weburl_Valid:FnIs Tryz.prog 223 18 [.tmp 2] c_weburl_Valid:=⟨⟨_,_,Tryz.func223,rfl,rfl,by kernel_rfl,by kernel_rfl⟩⟩
def c_didweb_idWriter_start:SCode :=
 .seq (.reg [⟨some 3,.box 104 (.t 1),none⟩])
 (.seq (.drw [⟨some 4,.mv (.t 0),none⟩,
 ⟨some 5,.nck (.t 4),none⟩,
 ⟨some 6,.fad 0 (.t 5),none⟩,
 ⟨some 7,.fad 0 (.t 3),none⟩,
 ⟨some 8,.load1 (.t 7),none⟩,
 ⟨some 9,.call 253 [.t 6,.t 8],none⟩] 5 [])
 (.seq (.reg [⟨some 10,.fad 1 (.t 3),none⟩,
 ⟨some 11,.load1 (.t 10),none⟩,
 ⟨some 12,.bin .neq (.t 11) (.c (.i .i64 0)),none⟩])
 (.cond (.t 12)
 (.drw [⟨some 13,.mv (.t 0),none⟩,
 ⟨some 14,.nck (.t 13),none⟩,
 ⟨some 15,.fad 0 (.t 14),none⟩,
 ⟨some 16,.fad 1 (.t 3),none⟩,
 ⟨some 17,.load1 (.t 16),none⟩,
 ⟨some 18,.call 122 [.t 17],none⟩,
 ⟨some 19,.bin .add (.c (.s [37,51,65])) (.t 18),none⟩,
 ⟨some 20,.call 253 [.t 15,.t 19],none⟩] 7 [])
 (.skip))))
theorem is_didweb_idWriter_start:FnIs Tryz.prog 224 21 [] c_didweb_idWriter_start:=⟨⟨_,_,Tryz.func224,rfl,rfl,by kernel_rfl,by kernel_rfl⟩⟩
def c_didweb_idWriter_add:SCode :=
 .seq (.reg [⟨some 4,.mv (.c (.i .i64 0)),none⟩])
 (.seq (.reg [⟨some 8,.mv (.t 1),none⟩,
 ⟨some 9,.call 182 [.t 8,.c (.s [])],none⟩,
 ⟨some 7,.mv (.t 9),none⟩,
 ⟨some 10,.ext (.t 7) 0,none⟩,
 ⟨some 11,.ext (.t 7) 1,none⟩,
 ⟨some 5,.mv (.t 10),none⟩,
 ⟨some 6,.mv (.t 11),none⟩])
 (.seq (.seq (.reg [⟨some 12,.mv (.t 6),none⟩,
 ⟨some 13,.bin .neq (.t 12) (.c (.i .i64 0)),none⟩,
 ⟨some 14,.mv (.t 13),none⟩,
 ⟨some 15,.mv (.t 1),some (14,false)⟩,
 ⟨some 16,.bin .eql (.t 15) (.c (.s [])),some (14,false)⟩,
 ⟨some 17,.pick (.t 14) (.c (.b true)) (.t 16),none⟩])
 (.cond (.t 17)
 (.seq (.reg [⟨some 4,.mv (.c (.i .i64 110)),none⟩])
 (.ret))
 (.skip)))
 (.seq (.drw [⟨some 18,.mv (.t 0),none⟩,
 ⟨some 19,.nck (.t 18),none⟩,
 ⟨some 20,.fad 0 (.t 19),none⟩,
 ⟨some 21,.mv (.t 5),none⟩,
 ⟨some 22,.call 218 [.t 21,.c (.s [126]),.c (.s [37,55,69])],none⟩,
 ⟨some 23,.bin .add (.c (.s [58])) (.t 22),none⟩,
 ⟨some 24,.call 253 [.t 20,.t 23],none⟩] 6 [])
 (.seq (.reg [⟨some 4,.mv (.c (.i .i64 0)),none⟩])
 (.ret)))))
theorem is_didweb_idWriter_add:FnIs Tryz.prog 225 25 [.tmp 4] c_didweb_idWriter_add:=⟨⟨_,_,Tryz.func225,rfl,rfl,by kernel_rfl,by kernel_rfl⟩⟩
def c_strings_Builder_WriteString:SCode :=
 .seq (.reg [⟨some 4,.mv (.c (.i .i64 0)),none⟩,
 ⟨some 5,.mv (.c (.o .nilIface)),none⟩])
 (.seq (.reg [⟨some 6,.mv (.t 0),none⟩,
 ⟨some 7,.call 264 [.t 6],none⟩])
 (.seq (.reg [⟨some 8,.mv (.t 0),none⟩,
 ⟨some 9,.mv (.t 0),none⟩,
 ⟨some 10,.nck (.t 9),none⟩,
 ⟨some 11,.fad 1 (.t 10),none⟩,
 ⟨some 12,.load1 (.t 11),none⟩,
 ⟨some 13,.mv (.t 1),none⟩,
 ⟨some 14,.apps 5 (.t 12) (.t 13),none⟩,
 ⟨some 15,.nck (.t 8),none⟩,
 ⟨some 16,.fad 1 (.t 15),none⟩,
 ⟨none,.store 1 (.t 16) (.t 14),none⟩])
 (.seq (.reg [⟨some 17,.mv (.t 1),none⟩,
 ⟨some 18,.lens (.t 17),none⟩,
 ⟨some 4,.mv (.t 18),none⟩,
 ⟨some 5,.mv (.c (.o .nilIface)),none⟩])
 (.ret))))
theorem is_strings_Builder_WriteString:FnIs Tryz.prog 253 19 [.tmp 4,.tmp 5] c_strings_Builder_WriteString:=⟨⟨_,_,Tryz.func253,rfl,rfl,by kernel_rfl,by kernel_rfl⟩⟩
end Go.Proofs.YtljbdpihiboeaaaGreatDoor.Sx
namespace Go.Proofs.YtljbdpihiboeaaaGreatDoor
open Go.RowKit Sx
theorem zmS {s:List UInt8} {p:UInt8 → Bool} (h:∀ j (hj:j < s.length),p s[j]=true):s.all p=true:=by
 rw [List.all_eq_true]
 intro x hx
 obtain ⟨j,hj,rfl⟩:=List.mem_iff_getElem.1 hx
 exact h j hj
theorem ziY {s:List UInt8} {p:UInt8 → Bool} {j:Nat} (hj:j < s.length) (h:p s[j]=false):s.all p=false:=by
 rw [Bool.eq_false_iff]
 intro e
 have:=List.all_eq_true.1 e s[j] (List.getElem_mem _)
 rw [h] at this; cases this
theorem zdw {s:List UInt8} {j:Nat} (hj:j < s.length):s.getD j 0=s[j]:=by
 rw [List.getD_eq_getElem?_getD,List.getElem?_eq_getElem hj]; rfl
theorem idx_has (l:List UInt8) (c:UInt8):decide (0 ≤ Lib.indexByte l c)=zbb c l:=by
 have:=zkO (l:=l) (c:=c)
 rcases h:zbb c l with _ | _
 ·exact decide_eq_false (fun h2 => by have:=this.2 h; omega)
 ·exact decide_eq_true (by
   apply Classical.byContradiction
   intro h2
   have:=this.1 (by omega)
   rw [h] at this; cases this)
theorem wrap_u64 (n:Int) (h0:0 ≤ n) (h1:n < 18446744073709551616):IntKind.u64.wrap n=n:=by
 simp [IntKind.wrap,IntKind.bits,IntKind.signed]
 omega
theorem Qb.rev {w w':World} (h:w'=w):Qb w w':=by subst h; exact Qb.refl _
section
variable [Tabs Tryz.prog] {objs:List OB} {K:List OB → AV → Prop}
theorem zmX (c:UInt8) (hk:K objs (.b (zak c))):zad Tryz.prog 177 [.i .u8 c.toNat] objs K :=
 conv (vs:=[.int .u8 c.toNat]) rfl rfl (fun w => (zaT c w).mono (by rintro e w' ⟨rfl,rfl⟩; exact ⟨rfl,Qb.refl _⟩)) hk
theorem aAlpha_k (c:UInt8) (hk:K objs (.b (za0 c))):zad Tryz.prog 176 [.i .u8 c.toNat] objs K :=
 conv (vs:=[.int .u8 c.toNat]) rfl rfl (fun w => (zba c w).mono (by rintro e w' ⟨rfl,rfl⟩; exact ⟨rfl,Qb.refl _⟩)) hk
theorem zjg (s:List UInt8) (c:UInt8) (hk:K objs (.i .i64 (Lib.indexByte s c))):zad Tryz.prog 121 [.s s,.i .u8 c.toNat] objs K:=by
 have e:((c.toNat:Nat):Int).toNat.toUInt8=c:=by simp
 exact conv (vs:=[.string (S s),.int .u8 c.toNat]) rfl rfl (fun w => (Tryz.strings_IndexByte (S s) c.toNat w).mono fun e' w' ⟨h1,h2⟩ => ⟨by rw [h1,e],Qb.rev h2⟩) hk
theorem zjh (s p:List UInt8) (hk:K objs (.tup [.s (Lib.trimPrefix s p),.b (Lib.hasPrefix s p)])):zad Tryz.prog 190 [.s s,.s p] objs K :=
 conv (vs:=[.string (S s),.string (S p)]) rfl rfl (fun w => (Tryz.strings_CutPrefix (S s) (S p) w).mono fun e w' ⟨h1,h2⟩ => ⟨h1,Qb.rev h2⟩) hk
theorem zgr (a b:List UInt8) (ha:a.length ≤ maxLen) (hb:b.length ≤ maxLen) (hk:K objs (.b (eqL a b))):zad Tryz.prog 180 [.s a,.s b] objs K :=
 conv (vs:=[.string (S a),.string (S b)]) rfl rfl (fun w => zbm (S a) (S b) w (by rw [zac]; exact ha) (by rw [zac]; exact hb)) hk
theorem zoD (a b:List UInt8) (ha:a.length ≤ 140737488351232) (hb:b.length ≤ 140737488351232) (hk:K objs (.b (eqL a b))):zad Tryz.prog 109 [.s a,.s b] objs K :=
 conv (vs:=[.string (S a),.string (S b)]) rfl rfl (fun w => zbt (S a) (S b) w (by rw [zac]; exact ha) (by rw [zac]; exact hb)) hk
theorem sCut_k (s:List UInt8) (c:UInt8) (hs:s.length ≤ maxLen) (hk:K objs (.tup [.s (zaq c s).1,.s (zaq c s).2.1,.b (zaq c s).2.2])):zad Tryz.prog 129 [.s s,.s [c]] objs K :=
 conv (vs:=[.string (S s),.string (S [c])]) rfl rfl (fun w => zbe (S s) c w (by rw [zac]; exact hs)) hk
theorem zhJ (u:Nat) (hu:u < 18446744073709551616) (hk:K objs (.s (Lib.decDigits u))):zad Tryz.prog 135 [.i .u64 u] objs K :=
 conv (vs:=[.int .u64 u]) rfl rfl (fun w => zjm u hu w) hk
theorem itoa_k [Pow Tryz.prog] (n:Int) (h0:-9223372036854775808 ≤ n) (h1:n ≤ 9223372036854775807) (hk:K objs (.s (Lib.itoa n))):zad Tryz.prog 122 [.i .i64 n] objs K :=
 convT (vs:=[.int .i64 n]) rfl rfl (fun w hT => (Tryz.strconv_Itoa n h0 h1 w (Pow.pw w hT)).mono fun e w' h => by
  obtain ⟨h2,k,os,h3⟩:=h
  exact ⟨h2,by rw [h3]; exact qb_grow w k os⟩) hk
theorem zaZ (s set:List UInt8) (hs:s.length ≤ maxLen) (ha:set.length ≤ maxLen) (hk:K objs (.i .i64 (zaz s set))):zad Tryz.prog 73 [.s s,.s set] objs K :=
 zqs (vs:=[.string (S s),.string (S set)]) rfl rfl (fun w => zbh (S s) (S set) w (by rw [zac]; exact hs) (by rw [zac]; exact ha)) hk
theorem zbG (s p:List UInt8) (hs:s.length ≤ maxLen) (hk:K objs (.b (Lib.hasPrefix s p))):zad Tryz.prog 144 [.s s,.s p] objs K :=
 zqs (vs:=[.string (S s),.string (S p)]) rfl rfl (fun w => zas (S s) (S p) w (by rw [zac]; exact hs)) hk
end
end Go.Proofs.YtljbdpihiboeaaaGreatDoor
