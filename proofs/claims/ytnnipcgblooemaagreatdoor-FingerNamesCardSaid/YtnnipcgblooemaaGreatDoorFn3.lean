/- The texts that the proofs of these statements reach, in their order, as few files. -/
import Derived.Laws.BytesArg
import Derived.Laws.IdiomStrings
import Derived.Lib.ConvBytes
import Derived.Lib.AppendStr
import Derived.Lib.LaidTab
import Derived.Lib.ItoaNum
import Derived.ChangeAgain
import Derived.Laws.Rows
import Derived.Lib.ItoaMem
import Derived.Lib.ItoaLen
import Derived.Lib.Walk
import Derived.Lib.ItoaWalk
import Derived.Lib.AppendIntMem
import Derived.BigCall
import Derived.BigGuard
import Derived.Test.YtnnipcgblooemaaGreatDoorProg
import Derived.Test.YtnnipcgblooemaaGreatDoorFn2
set_option linter.unusedVariables false
set_option linter.unusedSimpArgs false
set_option maxRecDepth 100000
namespace Go.Proofs.YtnnipcgblooemaaGreatDoor
open Go.RowKit
def zjb (c:UInt8):Bool:=decide (65≤c.toNat∧c.toNat≤90)
def za4 (c:UInt8):Bool:=decide (97≤c.toNat∧c.toNat≤122∨65≤c.toNat∧c.toNat≤90)
def zal (c:UInt8):Bool:=decide (48≤c.toNat∧c.toNat≤57)
def zbn (c:UInt8):Bool:=decide (48≤c.toNat∧c.toNat≤57∨97≤c.toNat∧c.toNat≤102∨65≤c.toNat∧c.toNat≤70)
def zbe (c:UInt8) (l:List UInt8):Bool:=l.contains c
theorem zmX (c:UInt8):zbe c []=false:=rfl
theorem beq_u8 (c d:UInt8):(c==d)=(d.toNat==c.toNat):=by
 by_cases h:c=d
 ·subst h;rw[beq_self_eq_true,beq_self_eq_true]
 ·rw[beq_eq_false_iff_ne.2 h,beq_eq_false_iff_ne.2 (fun e=>h (UInt8.toNat_inj.1 e).symm)]
theorem zky (l:List UInt8) (c d:UInt8):zbe c (l++[d])=(zbe c l||(d.toNat==c.toNat)):=by
 unfold zbe
 rw[←beq_u8]
 simp only[List.contains_append,List.contains_cons,List.contains_nil,Bool.or_false]
def isLD (c:UInt8):Bool:=za4 c||zal c
def zav (c:UInt8):Bool:=isLD c||zbe c [45,46,95,126]
theorem zja (c:UInt8) (w:World) :
  Calls Tryz.prog 134 #[.int .u8 c.toNat] w fun e w'=>e=.returned (.bool (zjb c))∧w=w':=by
 go_enter Tryz.func134,Tryz.ntmps134
 go_wp2
 all_goals go_ret
 all_goals exact⟨zak (by unfold zjb;first|exact dt (by omega)|exact df (by omega)|(rw[Bool.eq_iff_iff];simp only[Bool.or_eq_true,Bool.and_eq_true,decide_eq_true_eq];omega)),rfl⟩
theorem zbd (c:UInt8) (w:World) :
  Calls Tryz.prog 135 #[.int .u8 c.toNat] w fun e w'=>e=.returned (.bool (za4 c))∧w=w':=by
 go_enter Tryz.func135,Tryz.ntmps135
 go_wp2
 all_goals go_ret
 all_goals exact⟨zak (by unfold za4;first|exact dt (by omega)|exact df (by omega)|(rw[Bool.eq_iff_iff];simp only[Bool.or_eq_true,Bool.and_eq_true,decide_eq_true_eq];omega)),rfl⟩
theorem zaW (c:UInt8) (w:World) :
  Calls Tryz.prog 136 #[.int .u8 c.toNat] w fun e w'=>e=.returned (.bool (zal c))∧w=w':=by
 go_enter Tryz.func136,Tryz.ntmps136
 go_wp2
 all_goals go_ret
 all_goals exact⟨zak (by unfold zal;first|exact dt (by omega)|exact df (by omega)|(rw[Bool.eq_iff_iff];simp only[Bool.or_eq_true,Bool.and_eq_true,decide_eq_true_eq];omega)),rfl⟩
theorem zrO (c:UInt8) (w:World) :
  Calls Tryz.prog 195 #[.int .u8 c.toNat] w fun e w'=>e=.returned (.bool (zbn c))∧w=w':=by
 go_enter Tryz.func195,Tryz.ntmps195
 go_wp2
 all_goals go_ret
 all_goals exact⟨zak (by unfold zbn;first|exact dt (by omega)|exact df (by omega)|(rw[Bool.eq_iff_iff];simp only[Bool.or_eq_true,Bool.and_eq_true,decide_eq_true_eq];omega)),rfl⟩
theorem zls (c:UInt8) (s:ByteArray) (w:World) :
  Calls Tryz.prog 104 #[.int .u8 c.toNat,.string s] w fun e w'=>e=.returned (.bool (zbe c s.data.toList))∧w=w':=by
 go_enter Tryz.func104,Tryz.ntmps104
 go_wp2_with (go_at_call 71;refine(Tryz.strings_IndexByte _ _ _).mono ?_;rintro e w' ⟨rfl,rfl⟩)
 go_ret
 exact⟨zak (by unfold zbe;rw[Lib.contains_iff_indexByte]),rfl⟩
theorem isLD_any (c:UInt8) (w:World) :
  Calls Tryz.prog 103 #[.int .u8 c.toNat] w fun e w'=>e=.returned (.bool (isLD c))∧w=w':=by
 go_enter Tryz.func103,Tryz.ntmps103
 go_wp2_with (first|(go_at_call 135;refine(zbd _ _).mono ?_;rintro e w' ⟨rfl,rfl⟩)|(go_at_call 136;refine(zaW _ _).mono ?_;rintro e w' ⟨rfl,rfl⟩))
 all_goals go_ret
 all_goals exact⟨zak (by simp_all [isLD]),rfl⟩
theorem zch (c:UInt8) (w:World) :
  Calls Tryz.prog 70 #[.int .u8 c.toNat] w fun e w'=>e=.returned (.bool (zav c))∧w=w':=by
 go_enter Tryz.func70,Tryz.ntmps70
 go_wp2_with (first|(go_at_call 103;refine(isLD_any _ _).mono ?_;rintro e w' ⟨rfl,rfl⟩)|(go_at_call 104;refine(zls _ _ _).mono ?_;rintro e w' ⟨rfl,rfl⟩))
 all_goals go_ret
 all_goals exact⟨zak (by simp_all [zav]),rfl⟩
def zdc (c:UInt8):UInt8:=if zjb c then c+32 else c
theorem zkg (c:UInt8) (w:World) :
  Calls Tryz.prog 102 #[.int .u8 c.toNat] w fun e w'=>e=.returned (.int .u8 (zdc c).toNat)∧w=w':=by
 go_enter Tryz.func102,Tryz.ntmps102
 go_wp2_with (go_at_call 134;refine(zja _ _).mono ?_;rintro e w' ⟨rfl,rfl⟩)
 all_goals go_ret
 ·have h:zjb c=true:=by assumption
  exact⟨zdh (by simp[zdc,h,UInt8.toNat_add]),rfl⟩
 ·have h:zjb c=false:=by assumption
  exact⟨zdh (by simp[zdc,h]),rfl⟩
theorem za7 (c:UInt8) (w:World) :
  Calls Tryz.prog 77 #[.int .u8 c.toNat] w fun e w'=>e=.returned (.bool (za4 c))∧w=w':=by
 go_enter Tryz.func77,Tryz.ntmps77
 go_wp2
 all_goals go_ret
 all_goals exact⟨zak (by unfold za4;first|exact dt (by omega)|exact df (by omega)|(rw[Bool.eq_iff_iff];simp only[Bool.or_eq_true,Bool.and_eq_true,decide_eq_true_eq];omega)),rfl⟩
theorem za6 (c:UInt8) (w:World) :
  Calls Tryz.prog 78 #[.int .u8 c.toNat] w fun e w'=>e=.returned (.bool (zal c))∧w=w':=by
 go_enter Tryz.func78,Tryz.ntmps78
 go_wp2
 all_goals go_ret
 all_goals exact⟨zak (by unfold zal;first|exact dt (by omega)|exact df (by omega)|(rw[Bool.eq_iff_iff];simp only[Bool.or_eq_true,Bool.and_eq_true,decide_eq_true_eq];omega)),rfl⟩
theorem zfZ (c:UInt8) (w:World) :
  Calls Tryz.prog 107 #[.int .u8 c.toNat] w fun e w'=>e=.returned (.bool (zbn c))∧w=w':=by
 go_enter Tryz.func107,Tryz.ntmps107
 go_wp2
 all_goals go_ret
 all_goals exact⟨zak (by unfold zbn;first|exact dt (by omega)|exact df (by omega)|(rw[Bool.eq_iff_iff];simp only[Bool.or_eq_true,Bool.and_eq_true,decide_eq_true_eq];omega)),rfl⟩
theorem zb7 (c:UInt8) (s:ByteArray) (w:World) (hs:s.size≤maxLen) :
  Calls Tryz.prog 49 #[.int .u8 c.toNat,.string s] w fun e w'=>e=.returned (.bool (zbe c s.data.toList))∧w=w':=by
 unfold maxLen at hs
 go_enter Tryz.func49,Tryz.ntmps49
 go_wp2
 go_loop [5] (fun i=>∃k:Nat,k≤s.size∧i=.int .i64 k∧zbe c (s.data.toList.take k)=false) (fun i=>s.size - (intOf i).toNat)
 case atStart=>exact⟨0,Nat.zero_le _,rfl,zmX c⟩
 case round=>
  obtain⟨k,hk,rfl,hno⟩:=hrel
  have HN:=Lib.hid hno
  clear hno
  by_cases hlt:k<s.size
  ·have HT:=Lib.hid (zcq s k hlt)
   go_wp2
   ·have he:(↑s[k].toNat==(↑c.toNat:Int))=true:=by assumption
    go_ret
    have h:zbe c s.data.toList=true:=by
     have h1:zbe c (s.data.toList.take (k+1))=true:=by
      rw[HT.out,zky]
      have:s[k].toNat=c.toNat:=by have:=eq_of_beq he;omega
      simp[this]
     unfold zbe at h1 ⊢
     rw[List.contains_iff_mem] at h1 ⊢
     exact List.mem_of_mem_take h1
    exact⟨zak h.symm,rfl⟩
   ·have he:(↑s[k].toNat==(↑c.toNat:Int))=false:=by assumption
    go_round
    case rel=>
     refine⟨k+1,by omega,by go_num,?_⟩
     rw[HT.out,zky,HN.out]
     have:¬s[k].toNat=c.toNat:=by intro h;simp[h] at he
     simp[this]
    case measure=>simp[intOf];omega
  ·go_wp2
   go_ret
   exact⟨zak (by have h:=HN.out;rw[List.take_of_length_le (by rw[zaa];omega)] at h;rw[h]),rfl⟩
theorem zaY (c:UInt8) (w:World) :
  Calls Tryz.prog 53 #[.int .u8 c.toNat] w fun e w'=>e=.returned (.bool (zav c))∧w=w':=by
 go_enter Tryz.func53,Tryz.ntmps53
 go_wp2_with (first|(go_at_call 77;refine(za7 _ _).mono ?_;rintro e w' ⟨rfl,rfl⟩)|(go_at_call 78;refine(za6 _ _).mono ?_;rintro e w' ⟨rfl,rfl⟩)|(go_at_call 49;refine(zb7 _ _ _ (by decide)).mono ?_;rintro e w' ⟨rfl,rfl⟩))
 all_goals go_ret
 all_goals exact⟨zak (by simp_all [zav,isLD]),rfl⟩
end Go.Proofs.YtnnipcgblooemaaGreatDoor
namespace Go.Proofs.YtnnipcgblooemaaGreatDoor
open Go.RowKit
theorem zkt:(Tryz.prog.info? 5).map (fun i=>(i.zero,i.size,i.bytes))=some (some (.int .u8 0),1,1):=by kernel_rfl
def bv (l:List UInt8):List Value:=l.map fun c=>.int .u8 c.toNat
theorem zeC (l:List UInt8):(bv l).length=l.length:=by simp[bv]
theorem zfH (a b:List UInt8):bv (a++b)=bv a++bv b:=by simp[bv]
theorem bv_set (l:List UInt8) (i:Nat) (c:UInt8):(bv l).set i (.int .u8 c.toNat)=bv (l.set i c):=by simp[bv,List.map_set]
theorem bv_get (l:List UInt8) (i:Nat) (h:i<l.length):(bv l)[i]? = some (.int .u8 l[i].toNat):=by simp[bv,h]
def zci (w:World) (base:Nat) (v:Value) (l:List UInt8):Prop:=w.ownsRow base 5 1 v l.length (bv l)
theorem zci.nil (w:World) (base:Nat):zci w base (.slice none 0 0) []:=World.ownsRow_nil w base _ _
theorem zci.drew {w:World} {base:Nat} {v:Value} {l:List UInt8} (h:zci w base v l):zci w.drew base v l:=h
theorem zci.drewN {w:World} {base:Nat} {v:Value} {l:List UInt8} (h:zci w base v l) (n:Nat):zci (w.drewN n) base v l:=h
theorem zci.alloc {w:World} {base:Nat} {v:Value} {l:List UInt8} (h:zci w base v l) (o:Obj):zci (w.alloc o) base v l:=World.ownsRow.alloc h o
theorem zci.below {w w':World} {base:Nat} {v:Value} {l:List UInt8} (h:zci w base v l) (hb:Qb w w'):zci w' base v l:=by
 refine World.ownsRow.kept (row:=none) h ⟨hb.os,hb.tape,hb.output,Below.size hb,fun k hk _=>Below.block hb k hk⟩ ?_
 rcases h.2 with ⟨rfl,_⟩|⟨g,cap,cur,rfl,_⟩
 ·exact .inl rfl
 ·exact .inr (by simp[Value.ownBlock])
theorem zm2:∀(l:List UInt8) (s:ByteArray),(l.map fun c=>(c.toNat:Int)).foldl (fun r n=>r.push (UInt8.ofNat n.toNat)) s=⟨s.data++l.toArray⟩
 | [],s=>by simp
 | n::ns,s=>by
  rw[List.map_cons,List.foldl_cons,zm2 ns]
  simp[ByteArray.push]
theorem ze9 {w:World} {base:Nat} {v:Value} {l:List UInt8} (h:zci w base v l) :
  (convert 29 9 v).run Tryz.prog w=.ok (.string ⟨l.toArray⟩) w:=by
 rcases h.2 with ⟨rfl,hn⟩|⟨g,cap,cur,rfl,hb,hg,hnc,hcm,hcs,htake⟩
 ·have:l=[]:=List.eq_nil_of_length_eq_zero hn
  subst this
  exact run_convert_bytes_nil w 29 5 Tryz.underlying29 Tryz.underlying5 0 0 _ Tryz.underlying9
 ·have hl:(loadCells ⟨g,0,none⟩ l.length).run Tryz.prog w=.ok ((l.map fun c=>(c.toNat:Int)).map (Value.int .u8)).toArray w:=by
   have:=run_loadCells_list (P:=Tryz.prog) w ⟨g,0,none⟩ (bv l) (fun j v hj=>World.ownsRow.cells h (g:=g) rfl j v hj)
   rw[zeC] at this
   rw[this]
   simp[bv,Function.comp_def]
  rw[run_convert_bytes_string w _ _ 5 _ _ _ Tryz.underlying29 Tryz.underlying5 Tryz.underlying9,run_bytesToString w _ _ cap _ hl,zm2]
  simp[ByteArray.empty,ByteArray.emptyWithCapacity]
  rfl
def mkB (c:Nat):Array Value:=madeCells (Value.int .u8 0).cells (c*1)
theorem mkB_size (c:Nat):(mkB c).size=c:=by unfold mkB;rw[size_madeCells];omega
theorem mkB_list (c:Nat):(mkB c).toList=bv (List.replicate c 0):=by
 show (madeCells #[.int .u8 0] (c*1)).toList=_
 rw[toList_madeCells_one];simp[bv]
theorem zmx (n c:Nat) (hn:n≤c) (hc:c≤281474976710656) (w:World) :
  (Instr.makeSlice 29 (.int .i64 (n:Int)) (.int .i64 (c:Int))).run Tryz.prog w=.ok (.slice (some ⟨w.heap.size,0,none⟩) n c) (w.alloc (.cells (mkB c) 5)):=by
 obtain⟨i0,hi,hz0,hz1,hz2⟩:=info_parts zkt
 have hb:(i0.bytes:Int)*(c:Int)≤281474976710656:=by rw[hz2];omega
 have hr:=run_make (P:=Tryz.prog) w 29 5 i0 (.int .u8 0) Tryz.underlying29 hi hz0 .i64 .i64 n c (by omega) (by omega) hb (by omega)
 simp only[Int.toNat_natCast,hz1] at hr
 exact hr
theorem zfC (c:Nat) (hc:c≤281474976710656) (w:World) :
  (Instr.makeSlice 29 (.int .i64 0) (.int .i64 (c:Int))).run Tryz.prog w=.ok (.slice (some ⟨w.heap.size,0,none⟩) 0 c) (w.alloc (.cells (mkB c) 5)) :=
 zmx 0 c (Nat.zero_le _) hc w
theorem zeD (w:World) (B n c:Nat) (hB:B≤w.heap.size) (hn:n≤c) (hc:c≤281474976710656) :
  zci (w.alloc (.cells (mkB c) 5)) B (.slice (some ⟨w.heap.size,0,none⟩) n c) (List.replicate n 0):=by
 refine⟨by simp[zeC],.inr ⟨w.heap.size,c,mkB c,by simp,hB,heap_alloc_new w _,by simpa using hn,by simp only[maxLen];omega,by rw[mkB_size];omega,?_⟩⟩
 rw[mkB_list,List.length_replicate]
 simp[bv,List.take_replicate,Nat.min_eq_left hn]
theorem zci.cell {w:World} {B g n cap:Nat} {l:List UInt8} (h:zci w B (.slice (some ⟨g,0,none⟩) n cap) l) (j:Nat) (hj:j<l.length):w.cell? ⟨g,j,none⟩=some (.int .u8 l[j].toNat):=by
 have h':=h
 rcases h'.2 with ⟨e,_⟩|⟨g',cap',cur,e,_⟩
 ·simp at e
 ·simp only[Value.slice.injEq] at e
  obtain⟨_,rfl,_⟩:=e
  rw[World.ownsRow.cellAt (h:World.ownsRow _ _ _ _ _ _ _) j (by omega),bv_get l j hj]
theorem zci.frozen {w:World} {B g n cap:Nat} {l:List UInt8} (h:zci w B (.slice (some ⟨g,0,none⟩) n cap) l) (j:Nat):w.frozen? ⟨g,j,none⟩=false:=by
 have h':=h
 rcases h'.2 with ⟨e,_⟩|⟨g',cap',cur,e,_⟩
 ·simp at e
 ·simp only[Value.slice.injEq] at e
  obtain⟨_,rfl,_⟩:=e
  exact World.ownsRow.frozenAt (h:World.ownsRow _ _ _ _ _ _ _) j
theorem zci.stored {w:World} {B g n cap:Nat} {l:List UInt8} (h:zci w B (.slice (some ⟨g,0,none⟩) n cap) l) (j:Nat) (c:UInt8) :
  zci (w.setCell ⟨g,j,none⟩ (.int .u8 c.toNat)) B (.slice (some ⟨g,0,none⟩) n cap) (l.set j c):=by
 have h':=h
 rcases h'.2 with ⟨e,_⟩|⟨g',cap',cur,e,_⟩
 ·simp at e
 ·simp only[Value.slice.injEq] at e
  obtain⟨_,rfl,_⟩:=e
  have:=(World.ownsRow.stored (h:World.ownsRow _ _ _ _ _ _ _) j (.int .u8 c.toNat)).1
  unfold zci
  rw[←bv_set,List.length_set]
  exact this
def Crow (w:World) (g:Nat) (l:List UInt8):Prop:=∀j (h:j<l.length),w.cell? ⟨g,j,none⟩=some (.int .u8 l[j].toNat)∧w.frozen? ⟨g,j,none⟩=false
theorem zaO (g j:Nat):(⟨g,0,none⟩:Addr).add j=⟨g,j,none⟩:=by unfold Addr.add;split<;>simp_all
theorem Crow.str {w:World} {g:Nat} {l:List UInt8} (h:Crow w g l) (n cap:Nat) (hn:n=l.length) :
  (convert 29 9 (.slice (some ⟨g,0,none⟩) n cap)).run Tryz.prog w=.ok (.string ⟨l.toArray⟩) w:=by
 subst hn
 exact run_convert_bytes_back w _ _ 5 _ cap l Tryz.underlying29 Tryz.underlying5 Tryz.underlying9 (fun j hj=>by rw[zaO];exact(h j hj).1)
theorem Crow.stored {w:World} {g:Nat} {l:List UInt8} (h:Crow w g l) (k:Nat) (hk:k<l.length) (c:UInt8) :
  Crow (w.setCell ⟨g,k,none⟩ (.int .u8 c.toNat)) g (l.set k c):=by
 intro j hj
 rw[List.length_set] at hj
 refine⟨?_,(World.frozen?_setCell _ _ _ _).trans (h j hj).2⟩
 by_cases e:k=j
 ·subst e
  rw[World.cell?_setCell_same _ _ _ (h k hj).1]
  simp
 ·rw[World.cell?_setCell_other _ _ _ _ (fun e2=>e (by injection e2)),(h j hj).1]
  simp[e]
theorem zlL (w:World) (s:ByteArray):Crow (Lib.bytesWorld w 5 s) w.heap.size s.data.toList:=by
 intro j hj
 rw[zaa] at hj
 refine⟨?_,?_⟩
 ·rw[Lib.bytesWorld_cell w _ s j hj,zkB s j hj];rfl
 ·have hs:(Lib.bytesCells w 5 s).size≠j:=by
   have:s.size≤(Lib.bytesCells w 5 s).size:=by
    simp only[Lib.bytesCells,Array.size_append,Array.size_map]
    exact Nat.le_add_right _ _
   omega
  simp[World.frozen?,Lib.bytesWorld_at_new]
  omega
theorem ziY (w:World) (e:TypeId) (s:ByteArray):Qb w (Lib.bytesWorld w e s):=by
 refine⟨rfl,rfl,rfl,by rw[Lib.bytesWorld_size];omega,fun k hk=>Lib.bytesWorld_at_old w e s k hk⟩
theorem zoo (s:ByteArray) (w:World) :
  (convert 9 29 (.string s)).run Tryz.prog w=.ok (.slice (some ⟨w.heap.size,0,none⟩) s.size (grownCap w s.size 0 5)) (Lib.bytesWorld w 5 s) :=
 Lib.run_convert_string_bytes w _ _ _ s Tryz.underlying9 Tryz.underlying29 Tryz.underlying5
theorem zci.appended {w':World} {B:Nat} {v':Value} {l m:List UInt8} {xs:List Value} {n:Nat} (h:w'.ownsRow B 5 1 v' n xs) (hx:xs=bv (l++m)) (hn:n=(l++m).length):zci w' B v' (l++m):=by
 subst hx hn;exact h
theorem bv_one (vs:List UInt8):∀u∈bv vs,u.oneCell'=true:=by
 intro u hu
 obtain⟨c,_,rfl⟩:=List.mem_map.1 hu
 rfl
theorem zdE {w w':World} {B:Nat} {v:Value} {l:List UInt8} (h:zci w B v l) (hB:B≤w.heap.size) (hg:w.grownBy w' v.ownBlock):Below B w w' :=
 (Below.refl B w).grown hg hB (fun k hk=>(World.ownsRow.lt h k hk).1)
theorem zaP {w:World} {ops:Array Oper} {rest:List Oper} {o:Oper} {a:Act} {Q:Exit→Act→World→Prop} (hgd:o.guard=none) (s x:Operand)
  (ho:o.op=.call { callee:=.builtin .append,args:=#[s,x],argTypes:=#[29,29] })
  (B:Nat) (v:Value) (l m:List UInt8) (hs:a.eval s=v) (hrow:zci w B v l) (ad:Addr) (n c:Nat) (hx:a.eval x=.slice (some ad) n c) (hn:n=m.length)
  (hnews:∀j u,(bv m)[j]? = some u→w.cell? (ad.add j)=some u) (hlen:l.length+m.length≤140737488355328) (hB:B≤w.heap.size)
  (h:∀v' w',zci w' B v' (l++m)→Below B w w'→wpList Tryz.prog ops Q rest (a.put o.dst v') w'):wpList Tryz.prog ops Q (o::rest) a w:=by
 obtain⟨i0,hi,hz0,hz1,hz2⟩:=info_parts zkt
 subst hn
 exact wpList_append_own w hgd s x _ ho B 5 i0 _ 1 1 Tryz.underlying29 hi hz0 hz1 hz2 rfl (by omega) v l.length (bv l) hs hrow ad m.length c (bv m) hx (by rw[zeC];omega) hnews (bv_one m)
  (by simp only[maxLen];omega) (by omega) hB fun v' w' h1 h2 _=>h v' w' (zci.appended h1 (zfH l m).symm (by simp)) (zdE hrow hB h2)
theorem zgX {w:World} {ops:Array Oper} {o:Oper} {a:Act} {K:Act→World→Prop} {Q:Exit→Act→World→Prop} {E:Prop} (hgd:o.guard=none) (s x:Operand)
  (ho:o.op=.call { callee:=.builtin .append,args:=#[s,x],argTypes:=#[29,29] })
  (B:Nat) (v:Value) (l m:List UInt8) (hs:a.eval s=v) (hrow:zci w B v l) (ad:Addr) (n c:Nat) (hx:a.eval x=.slice (some ad) n c) (hn:n=m.length)
  (hnews:∀j u,(bv m)[j]? = some u→w.cell? (ad.add j)=some u) (hlen:l.length+m.length≤140737488355328) (hB:B≤w.heap.size)
  (h:∀v' w',zci w' B v' (l++m)→Below B w w'→K (a.put o.dst v') w'):if Region.wanted o (yielded ops a.tmps)=true then Oper.wp Tryz.prog o a w K Q else E:=by
 have hw:Region.wanted o (yielded ops a.tmps)=true:=by simp[Region.wanted,hgd]
 rw[if_pos hw]
 obtain⟨i0,hi,hz0,hz1,hz2⟩:=info_parts zkt
 subst hn
 exact wp_append_own w s x _ ho B 5 i0 _ 1 1 Tryz.underlying29 hi hz0 hz1 hz2 rfl (by omega) v l.length (bv l) hs hrow ad m.length c (bv m) hx (by rw[zeC];omega) hnews (bv_one m)
  (by simp only[maxLen];omega) (by omega) hB fun v' w' h1 h2 _=>h v' w' (zci.appended h1 (zfH l m).symm (by simp)) (zdE hrow hB h2)
theorem zgV (s:ByteArray):Lib.strCells s=bv s.data.toList:=by simp[Lib.strCells,bv]
theorem zfO {w:World} {ops:Array Oper} {rest:List Oper} {o:Oper} {a:Act} {Q:Exit→Act→World→Prop} (hgd:o.guard=none) (sl x:Operand)
  (ho:o.op=.call { callee:=.builtin .append,args:=#[sl,x],argTypes:=#[29,9] })
  (B:Nat) (v:Value) (l:List UInt8) (hs:a.eval sl=v) (hrow:zci w B v l) (s:ByteArray) (hx:a.eval x=.string s)
  (hlen:l.length+s.size≤140737488355328) (hB:B≤w.heap.size)
  (h:∀v' w',zci w' B v' (l++s.data.toList)→Below B w w'→wpList Tryz.prog ops Q rest (a.put o.dst v') w'):wpList Tryz.prog ops Q (o::rest) a w:=by
 obtain⟨i0,hi,hz0,hz1,hz2⟩:=info_parts zkt
 exact Lib.wpList_append_own_string w hgd sl x _ _ ho B 5 i0 Tryz.underlying29 Tryz.underlying9 hi hz0 hz1 hz2 v l.length (bv l) hs hrow s hx
  (by simp only[maxLen];omega) hlen hB fun v' w' h1 h2 _=>h v' w' (zci.appended h1 (by rw[zgV,zfH]) (by rw[List.length_append,zaa])) (zdE hrow hB h2)
theorem conv_new (W:World) (xs:List Int) (n:Nat) (hn:n=xs.length) :
  (convert 29 9 (.slice (some ⟨W.heap.size,0,none⟩) n n)).run Tryz.prog (W.alloc (.cells (xs.map (Value.int .u8)).toArray 5))=.ok (.string (strOfNums xs)) (W.alloc (.cells (xs.map (Value.int .u8)).toArray 5)):=by
 refine run_convert_bytes_arg _ 29 5 Tryz.underlying29 Tryz.underlying5 W.heap.size 0 n n xs hn.symm ?_ _ Tryz.underlying9
 intro i hi
 rw[World.cell?_alloc_at _ _ _ _ rfl]
 have h:i<xs.length:=by omega
 simp[List.getD,List.getElem?_eq_getElem h]
end Go.Proofs.YtnnipcgblooemaaGreatDoor
namespace Go.Proofs.YtnnipcgblooemaaGreatDoor
open Go.RowKit
def zbm (l:List UInt8):List UInt8:=l.map zdc
theorem low_set (l:List UInt8) (k n:Nat) (hn:l.length=n) (hk:k<n) :
  (zbm (l.take k)++List.replicate (n - k) 0).set k (zdc (l[k]'(by omega)))=zbm (l.take (k+1))++List.replicate (n - (k+1)) 0:=by
 have h1:(zbm (l.take k)).length=k:=by simp[zbm];omega
 rw[List.set_append_right _ _ (by omega),h1,Nat.sub_self,show n - k=(n - (k+1))+1 from by omega,List.replicate_succ,List.set_cons_zero,List.take_succ_eq_append_getElem (by omega)]
 simp only[zbm,List.map_append,List.map_cons,List.map_nil,List.append_assoc,List.singleton_append]
theorem zhN (s:ByteArray) (w:World) (hs:s.size≤140737488351232) :
  Calls Tryz.prog 68 #[.string s] w fun e w'=>e=.returned (.string (S (zbm s.data.toList)))∧Qb w w':=by
 have hmk:=fun W=>zmx s.size s.size (Nat.le_refl _) (by omega) W
 go_enter Tryz.func68,Tryz.ntmps68
 go_wp2_with fail
 clear hmk
 go_loopw [4,10] (fun _ i wr=>∃k:Nat,k≤s.size∧i=.int .i64 k∧zci wr w.heap.size (.slice (some ⟨w.heap.size,0,none⟩) s.size s.size) (zbm (s.data.toList.take k)++List.replicate (s.size - k) 0)∧Qb w wr) (fun _ i _=>s.size - (intOf i).toNat)
 case atStart=>exact⟨0,Nat.zero_le _,rfl,zeD w _ _ _ (Nat.le_refl _) (Nat.le_refl _) (by omega),(Qb.refl w).alloc _⟩
 case round=>
  obtain⟨k,hk,rfl,hrow,hq⟩:=hrel
  by_cases hlt:k<s.size
  ·have hlen:(zbm (s.data.toList.take k)++List.replicate (s.size - k) 0).length=s.size:=by simp[zbm,zaa];omega
   obtain⟨u,hc⟩:∃u,wr.cell? ⟨w.heap.size,k,none⟩=some u:=⟨_,hrow.cell k (by omega)⟩
   have hf:wr.frozen? ⟨w.heap.size,k,none⟩=false:=hrow.frozen k
   have hrow':=hrow.stored k (zdc s[k])
   have hset:=low_set s.data.toList k s.size (zaa s) hlt
   rw[zrC s k hlt] at hset
   rw[hset] at hrow'
   clear hset hrow hlen
   have HR:=Lib.hid hrow'
   clear hrow'
   go_wp2_with (go_at_call 102;refine(zkg _ _).mono ?_;rintro e w' ⟨rfl,rfl⟩)
   go_roundw
   case rel=>exact⟨k+1,by omega,by go_num,HR.out,hq.set (Nat.le_refl _) _⟩
   case measure=>simp[intOf];omega
  ·obtain rfl:k=s.size:=by omega
   have hl:zbm (s.data.toList.take s.size)++List.replicate (s.size - s.size) 0=zbm s.data.toList:=by
    rw[List.take_of_length_le (by rw[zaa];omega)];simp
   rw[hl] at hrow
   have hst:=ze9 hrow
   clear hl
   go_wp2
   go_ret
   exact⟨rfl,hq⟩
def zcw (l:List UInt8):Bool:=l.all zal&&!l.isEmpty
def eqL (a b:List UInt8):Bool:=zbm a==zbm b
theorem zce (p:UInt8→Bool) (s:ByteArray) (k:Nat) (h:k<s.size):(s.data.toList.take (k+1)).all p=((s.data.toList.take k).all p&&p s[k]):=by
 rw[zcq s k h,List.all_append];simp
theorem zbk (p:UInt8→Bool) (l:List UInt8) (k:Nat) (h:(l.take k).all p=false):l.all p=false:=by
 rw[←List.take_append_drop k l,List.all_append,h,Bool.false_and]
theorem zbO (s:ByteArray) (k:Nat) (h:¬k<s.size):s.data.toList.take k=s.data.toList:=List.take_of_length_le (by rw[zaa];omega)
theorem zov (s:ByteArray) (w:World) (hs:s.size≤maxLen) :
  Calls Tryz.prog 174 #[.string s] w fun e w'=>e=.returned (.bool (zcw s.data.toList))∧w=w':=by
 unfold maxLen at hs
 go_enter Tryz.func174,Tryz.ntmps174
 go_wp2_with fail
 go_loop [3,6] (fun _ i=>∃k:Nat,k≤s.size∧i=.int .i64 k∧Hid ((s.data.toList.take k).all zal=true)) (fun _ i=>s.size - (intOf i).toNat)
 case atStart=>exact⟨0,Nat.zero_le _,rfl,Lib.hid rfl⟩
 case round=>
  obtain⟨k,hk,rfl,HA⟩:=hrel
  by_cases hlt:k<s.size
  ·have HT:=Lib.hid (zce zal s k hlt)
   go_wp2_with (go_at_call 136;refine(zaW _ _).mono ?_;rintro e w' ⟨rfl,rfl⟩)
   ·have hd:(!zal s[k])=true:=by assumption
    go_ret
    exact⟨zak (by
     unfold zcw
     rw[zbk zal _ (k+1) (by rw[HT.out];simpa using fun _=>hd)];rfl),rfl⟩
   ·have hd:(!zal s[k])=false:=by assumption
    go_round
    case rel=>exact⟨k+1,by omega,by go_num,Lib.hid (by rw[HT.out,HA.out];simpa using hd)⟩
    case measure=>simp[intOf];omega
  ·have HF:Hid ((s.data.toList).all zal=true):=Lib.hid (by rw[←zbO s k hlt];exact HA.out)
   go_wp2_with fail
   go_ret
   exact⟨zak (by rw[ByteArray.toList_eq];unfold zcw;rw[HF.out];rfl),rfl⟩
theorem eqL_len {a b:List UInt8} (h:a.length≠b.length):eqL a b=false:=by
 unfold eqL zbm
 rw[beq_eq_false_iff_ne]
 intro e
 exact h (by have:=congrArg List.length e;simpa using this)
theorem zmy (s:ByteArray) (k:Nat) (h:k<s.size):zbm (s.data.toList.take (k+1))=zbm (s.data.toList.take k)++[zdc s[k]]:=by
 rw[zcq s k h];simp[zbm]
theorem eqL_ne {a b:List UInt8} {k:Nat} (h:zbm (a.take k)≠zbm (b.take k)):eqL a b=false:=by
 unfold eqL
 rw[beq_eq_false_iff_ne]
 intro e
 apply h
 simp only[zbm,List.map_take] at e ⊢
 rw[e]
theorem zbq (a b:ByteArray) (w:World) (ha:a.size≤maxLen) (hb:b.size≤maxLen) :
  Calls Tryz.prog 116 #[.string a,.string b] w fun e w'=>e=.returned (.bool (eqL a.data.toList b.data.toList))∧Qb w w':=by
 unfold maxLen at ha hb
 go_enter Tryz.func116,Tryz.ntmps116
 by_cases hl:a.size=b.size
 ·have HL:=Lib.hid hl
  have hl1:a.size≤b.size:=by omega
  have hb1:((a.size:Int) != (b.size:Int))=false:=by simp[hl]
  clear hl
  go_wp2_with fail
  go_loopw [5,13] (fun _ i wr=>∃k:Nat,k≤a.size∧i=.int .i64 k∧Hid (zbm (a.data.toList.take k)=zbm (b.data.toList.take k))∧Qb w wr) (fun _ i _=>a.size - (intOf i).toNat)
  case atStart=>exact⟨0,Nat.zero_le _,rfl,Lib.hid rfl,Qb.refl w⟩
  case round=>
   obtain⟨k,hk,rfl,HA,hq⟩:=hrel
   by_cases hlt:k<a.size
   ·have hlt2:k<b.size:=by omega
    have HT:=Lib.hid (zmy a k hlt)
    have HU:=Lib.hid (zmy b k hlt2)
    go_wp2_with fail
    go_quiet ((go_at_call 102;exact zdb (zkg _ _)))
    go_wp2_with fail
    ·have hd:((zdc a[k]).toNat:Int) != ((zdc b[k]).toNat:Int):=by assumption
     go_ret
     refine⟨zak (eqL_ne (k:=k+1) ?_).symm,hq.drewN _⟩
     rw[HT.out,HU.out,HA.out]
     intro e
     have e1:=List.append_cancel_left e
     injection e1 with e1
     rw[e1] at hd
     simp at hd
    ·have hd:(((zdc a[k]).toNat:Int) != ((zdc b[k]).toNat:Int))=false:=by assumption
     go_roundw
     case rel=>
      refine⟨k+1,by omega,by go_num,Lib.hid ?_,hq.drewN _⟩
      rw[HT.out,HU.out,HA.out]
      have e1:(zdc a[k]).toNat=(zdc b[k]).toNat:=by simp only[bne_eq_false_iff_eq] at hd;omega
      rw[UInt8.toNat_inj.1 e1]
     case measure=>simp[intOf];omega
   ·go_wp2_with fail
    go_ret
    refine⟨zak ?_,hq⟩
    have h:=HA.out
    rw[zbO a k hlt,zbO b k (by have:=HL.out;omega)] at h
    unfold eqL
    rw[h,beq_self_eq_true]
 ·have hb1:((a.size:Int) != (b.size:Int))=true:=by simp;omega
  have HL:=Lib.hid hl
  clear hl
  go_wp2_with fail
  go_ret
  exact⟨zak (eqL_len (by rw[zaa,zaa];exact HL.out)).symm,Qb.refl w⟩
theorem zmz (s:ByteArray) (k:Nat) (hk:k<s.size) :
  (zbm (s.data.toList.take k)++s.data.toList.drop k).set k (zdc s[k])=zbm (s.data.toList.take (k+1))++s.data.toList.drop (k+1):=by
 have h1:(zbm (s.data.toList.take k)).length=k:=by simp only[zbm,List.length_map,List.length_take,zaa];omega
 rw[List.set_append_right _ _ (by omega),h1,Nat.sub_self,za0 s k hk,List.set_cons_zero,zcq s k hk]
 simp only[zbm,List.map_append,List.map_cons,List.map_nil,List.append_assoc,List.singleton_append]
theorem zmA (s:ByteArray) (k:Nat) (hk:k<s.size) (h:k<(zbm (s.data.toList.take k)++s.data.toList.drop k).length) :
  (zbm (s.data.toList.take k)++s.data.toList.drop k)[k]'h=s[k]:=by
 have h1:(zbm (s.data.toList.take k)).length=k:=by simp only[zbm,List.length_map,List.length_take,zaa];omega
 rw[List.getElem_append_right (by omega)]
 simp only[h1,Nat.sub_self]
 simp only[za0 s k hk,List.getElem_cons_zero]
theorem lowB_cap {c:UInt8} (h1:65≤(c.toNat:Int)) (h2:(c.toNat:Int)≤90):((c.toNat:Int)+32) % 256=((zdc c).toNat:Int):=by
 have:zjb c=true:=by unfold zjb;exact decide_eq_true (by omega)
 simp[zdc,this,UInt8.toNat_add]
theorem zqc {c:UInt8} (h1:65≤(c.toNat:Int)) (h2:(c.toNat:Int)≤90):((c.toNat:Int)+32)=((zdc c).toNat:Int):=by
 rw[←lowB_cap h1 h2];omega
theorem zmB {c:UInt8} (h:¬(65≤(c.toNat:Int)∧(c.toNat:Int)≤90)):zdc c=c:=by
 have:zjb c=false:=by unfold zjb;exact decide_eq_false (by omega)
 simp[zdc,this]
theorem zdP (s:ByteArray) (w:World) (hs:s.size≤140737488351232) :
  Calls Tryz.prog 28 #[.string s] w fun e w'=>e=.returned (.string (S (zbm s.data.toList)))∧Qb w w':=by
 have hcv:=zoo s
 go_enter Tryz.func28,Tryz.ntmps28
 go_wp2_with fail
 clear hcv
 go_loopw [4,9] (fun _ i wr=>∃k:Nat,k≤s.size∧i=.int .i64 k∧Crow wr w.heap.size (zbm (s.data.toList.take k)++s.data.toList.drop k)∧Qb w wr) (fun _ i _=>s.size - (intOf i).toNat)
 case atStart=>exact⟨0,Nat.zero_le _,rfl,zlL w s,ziY w _ s⟩
 case round=>
  obtain⟨k,hk,rfl,hrow,hq⟩:=hrel
  by_cases hlt:k<s.size
  ·have hlen:k<(zbm (s.data.toList.take k)++s.data.toList.drop k).length:=by simp only[zbm,List.length_append,List.length_map,List.length_take,List.length_drop,zaa];omega
   obtain⟨hc,hf⟩:=hrow k hlen
   rw[zmA s k hlt] at hc
   have hrow':=hrow.stored k hlen (zdc s[k])
   rw[zmz s k hlt] at hrow'
   have hsame:zdc s[k]=s[k]→Crow wr w.heap.size (zbm (s.data.toList.take (k+1))++s.data.toList.drop (k+1)):=fun e=>by
    rw[←zmz s k hlt,e,←zmA s k hlt hlen,List.set_getElem_self]
    exact hrow
   clear hrow hlen
   have HR:=Lib.hid (And.intro hrow' hsame)
   clear hsame
   clear hrow'
   go_wp2_with fail
   ·have h1:65≤(s[k].toNat:Int):=by assumption
    have h2:(s[k].toNat:Int)≤90:=by assumption
    go_roundw
    case rel=>
     refine⟨k+1,by omega,by go_num,?_,hq.set (Nat.le_refl _) _⟩
     rw[zqc h1 h2]
     exact HR.out.1
    case measure=>simp[intOf];omega
   ·have h2:90<(s[k].toNat:Int):=by assumption
    go_roundw
    case rel=>exact⟨k+1,by omega,by go_num,HR.out.2 (zmB (by omega)),hq⟩
    case measure=>simp[intOf];omega
   ·have h2:¬65≤(s[k].toNat:Int):=by assumption
    go_roundw
    case rel=>exact⟨k+1,by omega,by go_num,HR.out.2 (zmB (by omega)),hq⟩
    case measure=>simp[intOf];omega
  ·obtain rfl:k=s.size:=by omega
   have hl:zbm (s.data.toList.take s.size)++s.data.toList.drop s.size=zbm s.data.toList:=by
    rw[zbO s _ (by omega),List.drop_of_length_le (by rw[zaa];omega),List.append_nil]
   rw[hl] at hrow
   have hst:=hrow.str s.size (grownCap w s.size 0 5) (by simp[zbm,zaa])
   clear hl hrow
   go_wp2
   go_ret
   exact⟨rfl,hq⟩
theorem zlf (s:ByteArray) (w:World) (hs:s.size≤maxLen) :
  Calls Tryz.prog 110 #[.string s] w fun e w'=>e=.returned (.bool (zcw s.data.toList))∧w=w':=by
 unfold maxLen at hs
 go_enter Tryz.func110,Tryz.ntmps110
 go_wp2_with fail
 go_loop [3] (fun i=>∃k:Nat,k≤s.size∧i=.int .i64 k∧Hid ((s.data.toList.take k).all zal=true)) (fun i=>s.size - (intOf i).toNat)
 case atStart=>exact⟨0,Nat.zero_le _,rfl,Lib.hid rfl⟩
 case round=>
  obtain⟨k,hk,rfl,HA⟩:=hrel
  by_cases hlt:k<s.size
  ·have HT:=Lib.hid (zce zal s k hlt)
   go_wp2_with (go_at_call 78;refine(za6 _ _).mono ?_;rintro e w' ⟨rfl,rfl⟩)
   ·have hd:(!zal s[k])=true:=by assumption
    go_ret
    exact⟨zak (by
     unfold zcw
     rw[zbk zal _ (k+1) (by rw[HT.out];simpa using fun _=>hd)];rfl),rfl⟩
   ·have hd:(!zal s[k])=false:=by assumption
    go_round
    case rel=>exact⟨k+1,by omega,by go_num,Lib.hid (by rw[HT.out,HA.out];simpa using hd)⟩
    case measure=>simp[intOf];omega
  ·have HF:Hid ((s.data.toList).all zal=true):=Lib.hid (by rw[←zbO s k hlt];exact HA.out)
   go_wp2_with fail
   go_ret
   exact⟨zak (by rw[ByteArray.toList_eq];unfold zcw;rw[HF.out];rfl),rfl⟩
def zfI (c:UInt8):Bool:=decide (c.toNat=32∨c.toNat=9)
def rdw (l:List UInt8):List UInt8:=(l.reverse.dropWhile zfI).reverse
def trimL (l:List UInt8):List UInt8:=rdw (l.dropWhile zfI)
theorem rdw_snoc (l:List UInt8) (x:UInt8):rdw (l++[x])=if zfI x=true then rdw l else l++[x]:=by
 unfold rdw
 rw[List.reverse_append,List.reverse_singleton,List.singleton_append,List.dropWhile_cons]
 split<;>simp
theorem S_eq {a:ByteArray} {l:List UInt8} (h:a.data.toList=l):a=S l:=by rw[←h]
def TP (n:Nat) (l:List UInt8) (f t:Nat):Prop :=
 ∃A M B,l=A++M++B∧(∀a∈A,zfI a=true)∧(∀b∈B,zfI b=true)∧M.dropWhile zfI=M∧rdw M=M ∧
  ((M=[]∧f=n∧t=0)∨(M≠[]∧f=A.length∧t=A.length+M.length))
theorem TP.other {n:Nat} {l:List UInt8} {f t:Nat} {c:UInt8} (h:TP n l f t) (hc:zfI c=false) (hl:l.length<n):TP n (l++[c]) (min f l.length) (l.length+1):=by
 obtain⟨A,M,B,rfl,hA,hB,h1,h2,h3⟩:=h
 rcases h3 with ⟨rfl,rfl,rfl⟩|⟨h3,rfl,rfl⟩
 ·refine⟨A++B,[c],[],by simp,?_,by simp,by simp[hc],by simp[rdw,hc],.inr ⟨by simp,?_,?_⟩⟩
  ·intro a ha
   rcases List.mem_append.1 ha with ha|ha
   ·exact hA a ha
   ·exact hB a ha
  ·simp at hl ⊢;omega
  ·simp
 ·refine⟨A,M++B++[c],[],by simp,hA,by simp,?_,?_,.inr ⟨by simp,?_,?_⟩⟩
  ·cases M with
   | nil=>exact absurd rfl h3
   | cons x M=>
    have hx:¬zfI x=true:=by
     intro hx
     rw[List.dropWhile_cons,if_pos hx] at h1
     have:=congrArg List.length h1
     have h4:=(List.dropWhile_sublist (p:=zfI) (l:=M)).length_le
     simp at this
     omega
    simp only[List.cons_append]
    rw[List.dropWhile_cons,if_neg hx]
  ·rw[rdw_snoc,if_neg (by rw[hc];exact Bool.false_ne_true)]
  ·simp
  ·simp;omega
theorem zn1 {B:List UInt8} (hB:∀b∈B,zfI b=true) (l:List UInt8):rdw (l++B)=rdw l:=by
 unfold rdw
 rw[List.reverse_append,List.dropWhile_append_of_pos]
 intro a ha
 exact hB a (List.mem_reverse.1 ha)
theorem TP.done {l:List UInt8} {f t:Nat} (h:TP l.length l f t):(t≤f∧trimL l=[])∨(f<t∧t≤l.length∧trimL l=(l.drop f).take (t - f)):=by
 obtain⟨A,M,B,rfl,hA,hB,h1,h2,h3⟩:=h
 have ht:trimL (A++M++B)=rdw ((M++B).dropWhile zfI):=by
  unfold trimL
  rw[List.append_assoc,List.dropWhile_append_of_pos hA]
 rcases h3 with ⟨rfl,rfl,rfl⟩|⟨h3,rfl,rfl⟩
 ·refine .inl ⟨Nat.zero_le _,?_⟩
  rw[ht,List.nil_append,←List.append_nil B,List.dropWhile_append_of_pos hB]
  rfl
 ·have hp:0<M.length:=List.length_pos_iff.2 h3
  refine .inr ⟨by omega,by simp,?_⟩
  have hm:(M++B).dropWhile zfI=M++B:=by
   cases M with
   | nil=>exact absurd rfl h3
   | cons x M=>
    have hx:¬zfI x=true:=by
     intro hx
     rw[List.dropWhile_cons,if_pos hx] at h1
     have:=congrArg List.length h1
     have h4:=(List.dropWhile_sublist (p:=zfI) (l:=M)).length_le
     simp at this
     omega
    simp only[List.cons_append]
    rw[List.dropWhile_cons,if_neg hx]
  rw[ht,hm,zn1 hB,h2,List.append_assoc,List.drop_left,Nat.add_sub_cancel_left,List.take_left]
theorem zby (a b:ByteArray) (w:World) (ha:a.size≤140737488351232) (hb:b.size≤140737488351232) :
  Calls Tryz.prog 50 #[.string a,.string b] w fun e w'=>e=.returned (.bool (eqL a.data.toList b.data.toList))∧Qb w w':=by
 go_enter Tryz.func50,Tryz.ntmps50
 go_wp2_with fail
 refine(zdP a _ ha).mono ?_
 rintro e w1 ⟨rfl,hq1⟩
 go_wp2_with fail
 refine(zdP b _ hb).mono ?_
 rintro e w2 ⟨rfl,hq2⟩
 go_wp2_with fail
 go_ret
 exact⟨rfl,hq1.trans hq2⟩
end Go.Proofs.YtnnipcgblooemaaGreatDoor
namespace Go.Proofs.YtnnipcgblooemaaGreatDoor.Sx
open Go.RowKit
theorem sxA:type_of% (And.intro @rn_nil (And.intro @rn_seq (And.intro @zpb (And.intro @rn_reg (And.intro @rn_drw (And.intro @zbY (And.intro @zmd (And.intro @zia (And.intro @zg9 (And.intro @rn_ret (And.intro @zpl (And.intro @zoB (And.intro @zlU (And.intro @zoA (And.intro @zlT (And.intro @zoC (And.intro @xit_ap (And.intro @rn_ap (And.intro @apOk_n (And.intro @apOk_c (And.intro @zrG (And.intro @zgo (And.intro @zio (And.intro @zkh (And.intro @zqj (And.intro @zry (And.intro @endK_n (And.intro @endK_r (And.intro @outO_s (And.intro @zpN (And.intro @endI_n (And.intro @endI_r (And.intro @outJ_s (And.intro @zpO (And.intro @rn_mv (And.intro @zqh (And.intro @zqi (And.intro @zpc (And.intro @zmi (@rn_box)))))))))))))))))))))))))))))))))))))))):=And.intro @rn_nil (And.intro @rn_seq (And.intro @zpb (And.intro @rn_reg (And.intro @rn_drw (And.intro @zbY (And.intro @zmd (And.intro @zia (And.intro @zg9 (And.intro @rn_ret (And.intro @zpl (And.intro @zoB (And.intro @zlU (And.intro @zoA (And.intro @zlT (And.intro @zoC (And.intro @xit_ap (And.intro @rn_ap (And.intro @apOk_n (And.intro @apOk_c (And.intro @zrG (And.intro @zgo (And.intro @zio (And.intro @zkh (And.intro @zqj (And.intro @zry (And.intro @endK_n (And.intro @endK_r (And.intro @outO_s (And.intro @zpN (And.intro @endI_n (And.intro @endI_r (And.intro @outJ_s (And.intro @zpO (And.intro @rn_mv (And.intro @zqh (And.intro @zqi (And.intro @zpc (And.intro @zmi (@rn_box)))))))))))))))))))))))))))))))))))))))
theorem sxB:type_of% (And.intro @kLit_s (And.intro @zpq (And.intro @zmh (And.intro @zjU (And.intro @kLd1_p (And.intro @kLd1_r (And.intro @zmc (And.intro @kLdn_s (And.intro @kLdv_p (And.intro @kLdv_r (And.intro @zmb (And.intro @kSt2_b (And.intro @kSt_p (And.intro @zl9 (And.intro @kNck_0 (And.intro @kNck_1 (And.intro @kNck_2 (And.intro @rn_nck (And.intro @kNot_0 (And.intro @rn_not (And.intro @zqC (And.intro @kAr_i8 (And.intro @zqE (And.intro @zqD (And.intro @kAr_u8 (And.intro @zqB (And.intro @zqA (And.intro @zqz (And.intro @kNeg_0 (And.intro @rn_neg (And.intro @kCvi_0 (And.intro @rn_cvi (And.intro @kCvs_0 (And.intro @rn_cvs (And.intro @zql (And.intro @zpf (And.intro @zqv (And.intro @zpj (And.intro @kFad_0 (And.intro @kFad_1 (And.intro @rn_fad (@zqw)))))))))))))))))))))))))))))))))))))))))):=And.intro @kLit_s (And.intro @zpq (And.intro @zmh (And.intro @zjU (And.intro @kLd1_p (And.intro @kLd1_r (And.intro @zmc (And.intro @kLdn_s (And.intro @kLdv_p (And.intro @kLdv_r (And.intro @zmb (And.intro @kSt2_b (And.intro @kSt_p (And.intro @zl9 (And.intro @kNck_0 (And.intro @kNck_1 (And.intro @kNck_2 (And.intro @rn_nck (And.intro @kNot_0 (And.intro @rn_not (And.intro @zqC (And.intro @kAr_i8 (And.intro @zqE (And.intro @zqD (And.intro @kAr_u8 (And.intro @zqB (And.intro @zqA (And.intro @zqz (And.intro @kNeg_0 (And.intro @rn_neg (And.intro @kCvi_0 (And.intro @rn_cvi (And.intro @kCvs_0 (And.intro @rn_cvs (And.intro @zql (And.intro @zpf (And.intro @zqv (And.intro @zpj (And.intro @kFad_0 (And.intro @kFad_1 (And.intro @rn_fad (@zqw)))))))))))))))))))))))))))))))))))))))))
theorem sxC:type_of% (And.intro @zpk (And.intro @kExt_0 (And.intro @rn_ext (And.intro @kLr2_o (And.intro @zqp (And.intro @zqo (And.intro @zqn (And.intro @zpg (And.intro @zko (And.intro @zmE (And.intro @ziq (And.intro @zkn (And.intro @kEqs_a (And.intro @rn_beq (And.intro @rn_eqs (And.intro @kIad_0 (And.intro @rn_iad (And.intro @zqu (And.intro @zpi (And.intro @kIdx_0 (And.intro @rn_idx (And.intro @kMks_0 (And.intro @rn_mks (And.intro @rn_bin (And.intro @zmS (And.intro @zmF (And.intro @zmL (And.intro @zmJ (And.intro @zmI (And.intro @zmQ (And.intro @zmK (And.intro @zmM (And.intro @zmN (And.intro @zmO (And.intro @zmP (And.intro @zmR (And.intro @zmH (And.intro @zmG (And.intro @svi_i (@zjI)))))))))))))))))))))))))))))))))))))))):=And.intro @zpk (And.intro @kExt_0 (And.intro @rn_ext (And.intro @kLr2_o (And.intro @zqp (And.intro @zqo (And.intro @zqn (And.intro @zpg (And.intro @zko (And.intro @zmE (And.intro @ziq (And.intro @zkn (And.intro @kEqs_a (And.intro @rn_beq (And.intro @rn_eqs (And.intro @kIad_0 (And.intro @rn_iad (And.intro @zqu (And.intro @zpi (And.intro @kIdx_0 (And.intro @rn_idx (And.intro @kMks_0 (And.intro @rn_mks (And.intro @rn_bin (And.intro @zmS (And.intro @zmF (And.intro @zmL (And.intro @zmJ (And.intro @zmI (And.intro @zmQ (And.intro @zmK (And.intro @zmM (And.intro @zmN (And.intro @zmO (And.intro @zmP (And.intro @zmR (And.intro @zmH (And.intro @zmG (And.intro @svi_i (@zjI)))))))))))))))))))))))))))))))))))))))
theorem sxD:type_of% (And.intro @zjH (And.intro @kSl2_s (And.intro @kSl_s (And.intro @zpa (And.intro @kAp_s (And.intro @kAp2_o (And.intro @kAp2_n (And.intro @kAp3_o (And.intro @kAs_o (And.intro @kAs_n (And.intro @kAs2_o (And.intro @rn_app (And.intro @zpr (And.intro @kCb_o (And.intro @kCb_n (And.intro @zpn (And.intro @rn_mkf (And.intro @kG_tt (And.intro @kG_tf (And.intro @kG_ft (And.intro @kG_ff (And.intro @kG_u (And.intro @kG_v (And.intro @kGD_tt (And.intro @kGD_tf (And.intro @kGD_ft (And.intro @kGD_ff (And.intro @kGD_u (And.intro @kGD_v (And.intro @zme (And.intro @zjT (And.intro @kC_t (And.intro @kC_f (And.intro @zpo (And.intro @zpp (And.intro @zmf (And.intro @zmg (And.intro @drn_mv (And.intro @znf (@zkL)))))))))))))))))))))))))))))))))))))))):=And.intro @zjH (And.intro @kSl2_s (And.intro @kSl_s (And.intro @zpa (And.intro @kAp_s (And.intro @kAp2_o (And.intro @kAp2_n (And.intro @kAp3_o (And.intro @kAs_o (And.intro @kAs_n (And.intro @kAs2_o (And.intro @rn_app (And.intro @zpr (And.intro @kCb_o (And.intro @kCb_n (And.intro @zpn (And.intro @rn_mkf (And.intro @kG_tt (And.intro @kG_tf (And.intro @kG_ft (And.intro @kG_ff (And.intro @kG_u (And.intro @kG_v (And.intro @kGD_tt (And.intro @kGD_tf (And.intro @kGD_ft (And.intro @kGD_ff (And.intro @kGD_u (And.intro @kGD_v (And.intro @zme (And.intro @zjT (And.intro @kC_t (And.intro @kC_f (And.intro @zpo (And.intro @zpp (And.intro @zmf (And.intro @zmg (And.intro @drn_mv (And.intro @znf (@zkL)))))))))))))))))))))))))))))))))))))))
theorem sxE:type_of% (And.intro @znp (And.intro @ziy (And.intro @zkK (And.intro @zkJ (And.intro @zq8 (And.intro @zrk (And.intro @zrl (And.intro @zrg (And.intro @zq6 (And.intro @zq7 (And.intro @znl (And.intro @zri (And.intro @zrh (And.intro @zno (And.intro @zne (And.intro @zre (And.intro @znn (And.intro @znm (And.intro @zrd (And.intro @zrc (And.intro @zrf (And.intro @zni (And.intro @znj (And.intro @zrb (And.intro @zkM (And.intro @zrj (And.intro @zkI (And.intro @zrm (And.intro @znq (@zra)))))))))))))))))))))))))))))):=And.intro @znp (And.intro @ziy (And.intro @zkK (And.intro @zkJ (And.intro @zq8 (And.intro @zrk (And.intro @zrl (And.intro @zrg (And.intro @zq6 (And.intro @zq7 (And.intro @znl (And.intro @zri (And.intro @zrh (And.intro @zno (And.intro @zne (And.intro @zre (And.intro @znn (And.intro @znm (And.intro @zrd (And.intro @zrc (And.intro @zrf (And.intro @zni (And.intro @znj (And.intro @zrb (And.intro @zkM (And.intro @zrj (And.intro @zkI (And.intro @zrm (And.intro @znq (@zra)))))))))))))))))))))))))))))
theorem sxF:type_of% (And.intro @kO_if (And.intro @pq_and (And.intro @pq_or (And.intro @pq_xor (And.intro @pq_shl (And.intro @pq_shr (And.intro @pq_mn (And.intro @pq_mx (And.intro @pq_rsl (And.intro @zpF (And.intro @zpG (And.intro @zmq (And.intro @zpH (And.intro @pq_asl (And.intro @kCb_b (And.intro @pq_lss (And.intro @pq_leq (And.intro @pq_gtr (And.intro @pq_geq (And.intro @rn_pu (@drn_pu))))))))))))))))))))):=And.intro @kO_if (And.intro @pq_and (And.intro @pq_or (And.intro @pq_xor (And.intro @pq_shl (And.intro @pq_shr (And.intro @pq_mn (And.intro @pq_mx (And.intro @pq_rsl (And.intro @zpF (And.intro @zpG (And.intro @zmq (And.intro @zpH (And.intro @pq_asl (And.intro @kCb_b (And.intro @pq_lss (And.intro @pq_leq (And.intro @pq_gtr (And.intro @pq_geq (And.intro @rn_pu (@drn_pu))))))))))))))))))))
theorem sxM:type_of% (And.intro @zpm (And.intro @kLd1_o (And.intro @zqr (And.intro @kLdv_o (And.intro @zqq (And.intro @kSt_o (And.intro @kSt3_o (And.intro @kNck_3 (And.intro @kFad_2 (And.intro @kIad_1 (And.intro @zqt (And.intro @zqg (And.intro @kTrn_0 (And.intro @kTrn_1 (And.intro @kTrn_2 (And.intro @rn_trn (And.intro @zq5 (And.intro @zpI (And.intro @zpJ (And.intro @pq_snn (And.intro @pq_snz (And.intro @pq_snr (And.intro @zqm (And.intro @zqs (And.intro @zph (And.intro @znk (@zrF))))))))))))))))))))))))))):=And.intro @zpm (And.intro @kLd1_o (And.intro @zqr (And.intro @kLdv_o (And.intro @zqq (And.intro @kSt_o (And.intro @kSt3_o (And.intro @kNck_3 (And.intro @kFad_2 (And.intro @kIad_1 (And.intro @zqt (And.intro @zqg (And.intro @kTrn_0 (And.intro @kTrn_1 (And.intro @kTrn_2 (And.intro @rn_trn (And.intro @zq5 (And.intro @zpI (And.intro @zpJ (And.intro @pq_snn (And.intro @pq_snz (And.intro @pq_snr (And.intro @zqm (And.intro @zqs (And.intro @zph (And.intro @znk (@zrF))))))))))))))))))))))))))
theorem sxN:type_of% (And.intro @zpe (And.intro @zpd (And.intro @kMkm_i (And.intro @rn_lk (And.intro @kLk_0 (And.intro @kLk2_m (And.intro @rn_mup (And.intro @kMup_0 (And.intro @zqk (And.intro @znh (And.intro @zng (And.intro @drn_lk (And.intro @zq9 (And.intro @lkA_tt (And.intro @lkA_tf (And.intro @lkA_nt (And.intro @lkA_nf (And.intro @apS_o (And.intro @apS_p (And.intro @znF (And.intro @znE (And.intro @znD (@znC))))))))))))))))))))))):=And.intro @zpe (And.intro @zpd (And.intro @kMkm_i (And.intro @rn_lk (And.intro @kLk_0 (And.intro @kLk2_m (And.intro @rn_mup (And.intro @kMup_0 (And.intro @zqk (And.intro @znh (And.intro @zng (And.intro @drn_lk (And.intro @zq9 (And.intro @lkA_tt (And.intro @lkA_tf (And.intro @lkA_nt (And.intro @lkA_nf (And.intro @apS_o (And.intro @apS_p (And.intro @znF (And.intro @znE (And.intro @znD (@znC))))))))))))))))))))))
theorem sxL:type_of% (And.intro @List.length_cons.{0} (And.intro @List.length_nil.{0} (And.intro @List.length_append.{0} (And.intro @List.length_replicate.{0} (And.intro @List.length_set.{0} (And.intro @List.cons_append.{0} (And.intro @List.nil_append.{0} (And.intro @List.append_nil.{0} (And.intro @List.getElem?_cons_zero.{0} (And.intro @List.getElem?_cons_succ.{0} (And.intro @List.getElem?_nil.{0} (And.intro @Option.getD_some.{0} (And.intro @Option.getD_none.{0} (And.intro @List.set_cons_zero.{0} (And.intro @List.set_cons_succ.{0} (And.intro @List.set_nil.{0} (And.intro @List.map_cons.{0,0} (And.intro @List.map_nil.{0,0} (And.intro @List.take_succ_cons.{0} (And.intro @List.take_zero.{0} (And.intro @List.drop_succ_cons.{0} (And.intro @List.drop_zero.{0} (And.intro @List.take_nil.{0} (And.intro @List.drop_nil.{0} (And.intro @List.take_length.{0} (And.intro @Int.toNat_natCast (And.intro @Int.toNat_natCast_add_one (And.intro @Bool.not_true (And.intro @Bool.not_false (And.intro @Bool.and_true (And.intro @Bool.true_and (And.intro @Bool.and_false (And.intro @Bool.false_and (And.intro @true_and (And.intro @and_true (And.intro @true_implies (And.intro @false_implies (And.intro @Option.bind_some.{0,0} (And.intro @Option.map_some.{0,0} (And.intro @Bool.false_eq_true (And.intro @Bool.true_eq_false (And.intro @decide_true (And.intro @decide_false (And.intro @not_true_eq_false (And.intro @not_false_eq_true (@beq_self_eq_true.{0})))))))))))))))))))))))))))))))))))))))))))))):=And.intro @List.length_cons.{0} (And.intro @List.length_nil.{0} (And.intro @List.length_append.{0} (And.intro @List.length_replicate.{0} (And.intro @List.length_set.{0} (And.intro @List.cons_append.{0} (And.intro @List.nil_append.{0} (And.intro @List.append_nil.{0} (And.intro @List.getElem?_cons_zero.{0} (And.intro @List.getElem?_cons_succ.{0} (And.intro @List.getElem?_nil.{0} (And.intro @Option.getD_some.{0} (And.intro @Option.getD_none.{0} (And.intro @List.set_cons_zero.{0} (And.intro @List.set_cons_succ.{0} (And.intro @List.set_nil.{0} (And.intro @List.map_cons.{0,0} (And.intro @List.map_nil.{0,0} (And.intro @List.take_succ_cons.{0} (And.intro @List.take_zero.{0} (And.intro @List.drop_succ_cons.{0} (And.intro @List.drop_zero.{0} (And.intro @List.take_nil.{0} (And.intro @List.drop_nil.{0} (And.intro @List.take_length.{0} (And.intro @Int.toNat_natCast (And.intro @Int.toNat_natCast_add_one (And.intro @Bool.not_true (And.intro @Bool.not_false (And.intro @Bool.and_true (And.intro @Bool.true_and (And.intro @Bool.and_false (And.intro @Bool.false_and (And.intro @true_and (And.intro @and_true (And.intro @true_implies (And.intro @false_implies (And.intro @Option.bind_some.{0,0} (And.intro @Option.map_some.{0,0} (And.intro @Bool.false_eq_true (And.intro @Bool.true_eq_false (And.intro @decide_true (And.intro @decide_false (And.intro @not_true_eq_false (And.intro @not_false_eq_true (@beq_self_eq_true.{0})))))))))))))))))))))))))))))))))))))))))))))
theorem sxZ:type_of% (And.intro @zma (And.intro sxA (And.intro sxB (And.intro sxC (And.intro sxD (And.intro sxE (And.intro sxF (And.intro sxM (And.intro sxN (And.intro sxL (And.intro @forall_const.{1} (And.intro @implies_true.{1} (And.intro @implies_true.{0} (And.intro @if_true.{1} (And.intro @if_false.{1} (And.intro @ite_true.{1} (And.intro @ite_false.{1} (And.intro @exists_eq_left'.{1} (And.intro @exists_eq'.{1} (And.intro @ne_eq.{1} (And.intro @evs.eq_1 (And.intro @evs.eq_2 (And.intro @evp.eq_1 (And.intro @evp.eq_2 (And.intro @zaD.eq_1 (And.intro @zaD.eq_2 (And.intro @SV.ev.eq_1 (And.intro @SV.ev.eq_2 (And.intro @AV.flat.eq_1 (And.intro @AV.flat.eq_2 (And.intro @AV.one.eq_1 (And.intro @AV.one.eq_2 (And.intro @AV.one.eq_3 (And.intro @AV.one.eq_4 (And.intro @AV.one.eq_5 (And.intro @AV.cells.eq_1 (And.intro @AV.cells.eq_2 (And.intro @zfa.eq_1 (And.intro @zfa.eq_2 (And.intro @zpt.eq_1 (And.intro @zpt.eq_2 (And.intro @zpt.eq_3 (And.intro @znO.eq_1 (And.intro @znO.eq_2 (And.intro @pub.eq_1 (And.intro @pub.eq_2 (And.intro @pub.eq_3 (And.intro @pub.eq_4 (And.intro @pub.eq_5 (And.intro @zhg.eq_1 (And.intro @zhg.eq_2 (And.intro @AV.plain.eq_1 (And.intro @AV.plain.eq_2 (And.intro @AV.plain.eq_3 (And.intro @AV.plain.eq_4 (And.intro @AV.plain.eq_5 (And.intro @AV.plain.eq_6 (And.intro @AV.plain.eq_7 (And.intro @AV.plain.eq_8 (And.intro @AV.plain.eq_9 (And.intro @AV.plain.eq_10 (And.intro @AV.plain.eq_11 (And.intro @zaK.eq_1 (And.intro @zaK.eq_2 (And.intro @ze6.eq_1 (And.intro @ze6.eq_2 (And.intro @ze6.eq_3 (And.intro @ze6.eq_4 (And.intro @zbE.eq_1 (And.intro @zdU.eq_1 (And.intro @zdU.eq_2 (And.intro @eqA.eq_1 (And.intro @eqA.eq_2 (And.intro @eqA.eq_3 (And.intro @eqA.eq_4 (And.intro @eqA.eq_5 (And.intro @znb.eq_1 (And.intro @znb.eq_2 (And.intro @znb.eq_3 (And.intro @List.replicate.eq_1.{0} (@List.replicate.eq_2.{0}))))))))))))))))))))))))))))))))))))))))))))))))))))))))))))))))))))))))))))))))):=And.intro @zma (And.intro sxA (And.intro sxB (And.intro sxC (And.intro sxD (And.intro sxE (And.intro sxF (And.intro sxM (And.intro sxN (And.intro sxL (And.intro @forall_const.{1} (And.intro @implies_true.{1} (And.intro @implies_true.{0} (And.intro @if_true.{1} (And.intro @if_false.{1} (And.intro @ite_true.{1} (And.intro @ite_false.{1} (And.intro @exists_eq_left'.{1} (And.intro @exists_eq'.{1} (And.intro @ne_eq.{1} (And.intro @evs.eq_1 (And.intro @evs.eq_2 (And.intro @evp.eq_1 (And.intro @evp.eq_2 (And.intro @zaD.eq_1 (And.intro @zaD.eq_2 (And.intro @SV.ev.eq_1 (And.intro @SV.ev.eq_2 (And.intro @AV.flat.eq_1 (And.intro @AV.flat.eq_2 (And.intro @AV.one.eq_1 (And.intro @AV.one.eq_2 (And.intro @AV.one.eq_3 (And.intro @AV.one.eq_4 (And.intro @AV.one.eq_5 (And.intro @AV.cells.eq_1 (And.intro @AV.cells.eq_2 (And.intro @zfa.eq_1 (And.intro @zfa.eq_2 (And.intro @zpt.eq_1 (And.intro @zpt.eq_2 (And.intro @zpt.eq_3 (And.intro @znO.eq_1 (And.intro @znO.eq_2 (And.intro @pub.eq_1 (And.intro @pub.eq_2 (And.intro @pub.eq_3 (And.intro @pub.eq_4 (And.intro @pub.eq_5 (And.intro @zhg.eq_1 (And.intro @zhg.eq_2 (And.intro @AV.plain.eq_1 (And.intro @AV.plain.eq_2 (And.intro @AV.plain.eq_3 (And.intro @AV.plain.eq_4 (And.intro @AV.plain.eq_5 (And.intro @AV.plain.eq_6 (And.intro @AV.plain.eq_7 (And.intro @AV.plain.eq_8 (And.intro @AV.plain.eq_9 (And.intro @AV.plain.eq_10 (And.intro @AV.plain.eq_11 (And.intro @zaK.eq_1 (And.intro @zaK.eq_2 (And.intro @ze6.eq_1 (And.intro @ze6.eq_2 (And.intro @ze6.eq_3 (And.intro @ze6.eq_4 (And.intro @zbE.eq_1 (And.intro @zdU.eq_1 (And.intro @zdU.eq_2 (And.intro @eqA.eq_1 (And.intro @eqA.eq_2 (And.intro @eqA.eq_3 (And.intro @eqA.eq_4 (And.intro @eqA.eq_5 (And.intro @znb.eq_1 (And.intro @znb.eq_2 (And.intro @znb.eq_3 (And.intro @List.replicate.eq_1.{0} (@List.replicate.eq_2.{0}))))))))))))))))))))))))))))))))))))))))))))))))))))))))))))))))))))))))))))))))
end Go.Proofs.YtnnipcgblooemaaGreatDoor.Sx
namespace Go.Proofs.YtnnipcgblooemaaGreatDoor
open Go.RowKit Sx
class Shp (P:Program) [Tabs P]:Prop where
 sh:∀w:World,Tabs.T (P:=P) w→w.ShapedOpen P
class Pow (P:Program) [Tabs P]:Prop where
 pw : ∀ w : World, Tabs.T (P := P) w → Lib.TabIs P w "internal/strconv.uint64pow10" .u64 Lib.pow10Tab
theorem zg1 {P:Program} {w w':World} (h:w.ShapedOpen P) (hk:∀k,k<w.heap.size→w'.heap[k]? = w.heap[k]?):w'.ShapedOpen P:=by
 have lt:∀{k:Nat} {o:Obj},w.heap[k]? = some o→k<w.heap.size:=fun {k o} e=>by
  rcases Nat.lt_or_ge k w.heap.size with h1|h1
  ·exact h1
  ·rw[Array.getElem?_eq_none h1] at e;cases e
 refine⟨fun g zero t hg hz=>?_,fun k hk1 hk2=>?_⟩
 ·obtain⟨cs,h1,h2,h3⟩:=h.1 g zero t hg hz
  refine⟨cs,(hk g (lt h1)).trans h1,h2,fun hb=>Row.ok_of_shape (fun b x hx=>?_) (h3 hb)⟩
  rcases Nat.lt_or_ge b w.heap.size with h4|h4
  ·simpa[World.shape?,hk b h4] using hx
  ·simp[World.shape?,Array.getElem?_eq_none h4] at hx
 ·obtain⟨o,o₀,h1,h2,h3⟩:=h.2 k hk1 hk2
  exact⟨o,o₀,(hk k (lt h1)).trans h1,h2,h3⟩
mutual
/-- a value without memory, as it is -/
def val:AV→Option Value
 | .s l=>some (.string ⟨l.toArray⟩)
 | .i k n=>some (.int k n)
 | .b x=>some (.bool x)
 | .agg cs=>match zow cs with
  | some vs=>if vs.all (·.oneCell')=true then some (.agg vs.toArray) else none
  | none=>none
 | .tup cs=>(zow cs).map fun vs=>.tuple vs.toArray
 | _=>none
def zow:List AV→Option (List Value)
 | []=>some []
 | x::xs=>match val x,zow xs with
  | some v,some vs=>some (v::vs)
  | _,_=>none
end
mutual
theorem ze4 (G:Gh) (I:Imm):∀(x:AV) (v:Value),val x=some v→∀y,Den G I x y↔y=v
 | .s l,v,h,y=>by simp only[val,Option.some.injEq] at h;subst h;simp[Den]
 | .i k n,v,h,y=>by simp only[val,Option.some.injEq] at h;subst h;simp[Den]
 | .b x,v,h,y=>by simp only[val,Option.some.injEq] at h;subst h;simp[Den]
 | .agg cs,v,h,y=>by
  simp only[val] at h
  split at h
  ·rename_i vs h1
   split at h
   ·rename_i h2
    injection h with h;subst h
    simp only[Den]
    constructor
    ·rintro⟨ys,rfl,k1,_⟩
     rw[(zco G I cs vs h1 ys).1 k1]
    ·rintro rfl
     exact⟨vs,rfl,(zco G I cs vs h1 vs).2 rfl,fun u hu=>(List.all_eq_true.1 h2) u hu⟩
   ·cases h
  ·cases h
 | .tup cs,v,h,y=>by
  simp only[val,Option.map_eq_some_iff] at h
  obtain⟨vs,h1,rfl⟩:=h
  simp only[Den]
  constructor
  ·rintro⟨ys,rfl,k1⟩
   rw[(zco G I cs vs h1 ys).1 k1]
  ·rintro rfl
   exact⟨vs,rfl,(zco G I cs vs h1 vs).2 rfl⟩
 | .p _ _,v,h,y=>by simp[val] at h
 | .row _ _,v,h,y=>by simp[val] at h
 | .prow _ _,v,h,y=>by simp[val] at h
 | .orow _ _,v,h,y=>by simp[val] at h
 | .porow _ _ _,v,h,y=>by simp[val] at h
 | .bsl _ _ _,v,h,y=>by simp[val] at h
 | .m _,v,h,y=>by simp[val] at h
 | .zn _,v,h,y=>by simp[val] at h
 | .nil,v,h,y=>by simp[val] at h
 | .fn _ _ _,v,h,y=>by simp[val] at h
 | .o _,v,h,y=>by simp[val] at h
 | .u,v,h,y=>by simp[val] at h
theorem zco (G:Gh) (I:Imm):∀(xs:List AV) (vs:List Value),zow xs=some vs→∀ys,zao G I xs ys↔ys=vs
 | [],vs,h,ys=>by simp only[zow,Option.some.injEq] at h;subst h;simp[zao]
 | x::xs,vs,h,ys=>by
  simp only[zow] at h
  split at h
  ·rename_i v vs' h1 h2
   injection h with h;subst h
   simp only[zao]
   constructor
   ·rintro⟨y,ys',rfl,k1,k2⟩
    rw[(ze4 G I x v h1 y).1 k1,(zco G I xs vs' h2 ys').1 k2]
   ·rintro rfl
    exact⟨v,vs',rfl,(ze4 G I x v h1 v).2 rfl,(zco G I xs vs' h2 vs').2 rfl⟩
  ·cases h
end
section
variable {P:Program} [Tabs P] {f:FuncId} {args:List AV} {vs:List Value} {r:AV} {v:Value} {objs:List OB} {K:List OB→AV→Prop}
theorem conv (ha:zow args=some vs) (hr:val r=some v) (h:∀w,Calls P f vs.toArray w fun e w'=>e=.returned v∧Qb w w') (hk:K objs r):zad P f args objs K :=
 zlN r hk fun G I w ys hm hd=>by
  rw[(zco G I args vs ha ys).1 hd]
  exact⟨v,h w,(ze4 G I r v hr v).2 rfl⟩
theorem zrv (ha:zow args=some vs) (hr:val r=some v) (h:∀w,Calls P f vs.toArray w fun e w'=>e=.returned v∧w=w') (hk:K objs r):zad P f args objs K :=
 conv ha hr (fun w=>(h w).mono (by rintro e w' ⟨rfl,rfl⟩;exact⟨rfl,Qb.refl _⟩)) hk
theorem convT (ha:zow args=some vs) (hr:val r=some v) (h:∀w,Tabs.T (P:=P) w→Calls P f vs.toArray w fun e w'=>e=.returned v∧Qb w w') (hk:K objs r):zad P f args objs K :=
 zgd r hk fun G I w ys hT hm hd=>by
  rw[(zco G I args vs ha ys).1 hd]
  exact⟨v,h w hT,(ze4 G I r v hr v).2 rfl⟩
end
end Go.Proofs.YtnnipcgblooemaaGreatDoor
namespace Go.Proofs.YtnnipcgblooemaaGreatDoor
open Sx
theorem gn1 (l:List OB) (x:OB):(l++[x])[l.length]? = some x:=by simp
theorem sn1 (l:List OB) (x y:OB):(l++[x]).set l.length y=l++[y]:=by simp
end Go.Proofs.YtnnipcgblooemaaGreatDoor
namespace Go.Proofs.YtnnipcgblooemaaGreatDoor
open Go.RowKit
theorem infoStr:(Tryz.prog.info? 9).map (fun i=>(i.zero,i.size,i.bytes))=some (some (.string ByteArray.empty),1,16):=by kernel_rfl
def sv (ls:List (List UInt8)):List Value:=ls.map fun l=>.string (S l)
theorem zjJ (ls:List (List UInt8)):(sv ls).length=ls.length:=by simp[sv]
theorem zoS (a b:List (List UInt8)):sv (a++b)=sv a++sv b:=by simp[sv]
theorem sv_get (ls:List (List UInt8)) (i:Nat) (h:i<ls.length):(sv ls)[i]? = some (.string (S ls[i])):=by simp[sv,h]
theorem zoR (ls:List (List UInt8)):∀u∈sv ls,u.oneCell'=true:=by
 intro u hu
 obtain⟨c,_,rfl⟩:=List.mem_map.1 hu
 rfl
def zfN (w:World) (base:Nat) (v:Value) (ls:List (List UInt8)):Prop:=w.ownsRow base 9 1 v ls.length (sv ls)
theorem zfN.nil (w:World) (base:Nat):zfN w base (.slice none 0 0) []:=World.ownsRow_nil w base _ _
theorem zfN.drew {w:World} {base:Nat} {v:Value} {l:List (List UInt8)} (h:zfN w base v l):zfN w.drew base v l:=h
theorem zfN.drewN {w:World} {base:Nat} {v:Value} {l:List (List UInt8)} (h:zfN w base v l) (n:Nat):zfN (w.drewN n) base v l:=h
theorem zfN.alloc {w:World} {base:Nat} {v:Value} {l:List (List UInt8)} (h:zfN w base v l) (o:Obj):zfN (w.alloc o) base v l:=World.ownsRow.alloc h o
theorem zfN.below {w w':World} {base:Nat} {v:Value} {l:List (List UInt8)} (h:zfN w base v l) (hb:Qb w w'):zfN w' base v l:=by
 refine World.ownsRow.kept (row:=none) h ⟨hb.os,hb.tape,hb.output,Below.size hb,fun k hk _=>Below.block hb k hk⟩ ?_
 rcases h.2 with ⟨rfl,_⟩|⟨g,cap,cur,rfl,_⟩
 ·exact .inl rfl
 ·exact .inr (by simp[Value.ownBlock])
theorem zfN.form {w:World} {base:Nat} {v:Value} {l:List (List UInt8)} (h:zfN w base v l) (hl:0<l.length):∃g cap,v=.slice (some ⟨g,0,none⟩) l.length cap∧base≤g∧g<w.heap.size∧l.length≤cap:=by
 rcases h.2 with ⟨rfl,hn⟩|⟨g,cap,cur,rfl,hb,hg,hnc,_⟩
 ·omega
 ·refine⟨g,cap,rfl,hb,?_,hnc⟩
  rcases Nat.lt_or_ge g w.heap.size with h1|h1
  ·exact h1
  ·rw[Array.getElem?_eq_none h1] at hg;cases hg
theorem zfN.cell {w:World} {B g n cap:Nat} {l:List (List UInt8)} (h:zfN w B (.slice (some ⟨g,0,none⟩) n cap) l) (j:Nat) (hj:j<l.length):w.cell? ⟨g,j,none⟩=some (.string (S l[j])):=by
 have h':=h
 rcases h'.2 with ⟨e,_⟩|⟨g',cap',cur,e,_⟩
 ·simp at e
 ·simp only[Value.slice.injEq] at e
  obtain⟨_,rfl,_⟩:=e
  rw[World.ownsRow.cellAt (h:World.ownsRow _ _ _ _ _ _ _) j (by omega),sv_get l j hj]
theorem zjs {w w':World} {B:Nat} {v:Value} {l:List (List UInt8)} (h:zfN w B v l) (hB:B≤w.heap.size) (hg:w.grownBy w' v.ownBlock):Below B w w' :=
 (Below.refl B w).grown hg hB (fun k hk=>(World.ownsRow.lt h k hk).1)
theorem zfN.appended {w':World} {B:Nat} {v':Value} {l m:List (List UInt8)} {xs:List Value} {n:Nat} (h:w'.ownsRow B 9 1 v' n xs) (hx:xs=sv (l++m)) (hn:n=(l++m).length):zfN w' B v' (l++m):=by
 subst hx hn;exact h
theorem zds {w:World} {ops:Array Oper} {rest:List Oper} {o:Oper} {a:Act} {Q:Exit→Act→World→Prop} (hgd:o.guard=none) (s x:Operand)
  (ho:o.op=.call { callee:=.builtin .append,args:=#[s,x],argTypes:=#[22,22] })
  (B:Nat) (v:Value) (l m:List (List UInt8)) (hs:a.eval s=v) (hrow:zfN w B v l) (ad:Addr) (n c:Nat) (hx:a.eval x=.slice (some ad) n c) (hn:n=m.length)
  (hnews:∀j u,(sv m)[j]? = some u→w.cell? (ad.add j)=some u) (hlen:l.length+m.length≤1000000000) (hB:B≤w.heap.size)
  (h:∀v' w',zfN w' B v' (l++m)→Below B w w'→wpList Tryz.prog ops Q rest (a.put o.dst v') w'):wpList Tryz.prog ops Q (o::rest) a w:=by
 obtain⟨i0,hi,hz0,hz1,hz2⟩:=info_parts infoStr
 subst hn
 exact wpList_append_own w hgd s x _ ho B 9 i0 _ 1 16 Tryz.underlying22 hi hz0 hz1 hz2 rfl (by omega) v l.length (sv l) hs hrow ad m.length c (sv m) hx (by rw[zjJ];omega) hnews (zoR m)
  (by simp only[maxLen];omega) (by omega) hB fun v' w' h1 h2 _=>h v' w' (zfN.appended h1 (zoS l m).symm (by simp)) (zjs hrow hB h2)
theorem news1S (W:World) (a:ByteArray):∀j u,(sv [a.data.toList])[j]? = some u→(W.alloc (.cells #[.string a] 9)).cell? ((⟨W.heap.size,0,none⟩:Addr).add j)=some u:=by
 intro j u hj
 rw[zaO,World.cell?_alloc_at _ _ _ _ rfl]
 have:sv [a.data.toList]=[.string a]:=by simp[sv]
 rw[this] at hj
 simpa using hj
end Go.Proofs.YtnnipcgblooemaaGreatDoor
namespace Go.Proofs.YtnnipcgblooemaaGreatDoor
open Go.RowKit
def zar (c:UInt8):List UInt8→List UInt8×List UInt8×Bool
 | []=>([],[],false)
 | x::t=>if x=c then ([],t,true) else (x::(zar c t).1,(zar c t).2.1,(zar c t).2.2)
theorem zbs (c:UInt8):∀l:List UInt8,(Lib.indexByte l c=-1∧zar c l=(l,[],false)∧c∉l)∨∃k:Nat,Lib.indexByte l c=k∧k<l.length∧zar c l=(l.take k,l.drop (k+1),true)∧l[k]? = some c
 | []=>.inl ⟨rfl,rfl,by simp⟩
 | x::t=>by
  unfold Lib.indexByte zar
  by_cases h:x=c
  ·subst h
   exact .inr ⟨0,by simp,by simp,by simp,by simp⟩
  ·rw[if_neg (by simpa using h),if_neg h]
   rcases zbs c t with ⟨h1,h2,h3⟩|⟨k,h1,h2,h3,h4⟩
   ·refine .inl ⟨by rw[h1];rfl,by rw[h2],?_⟩
    simp only[List.mem_cons,not_or]
    exact⟨fun e=>h e.symm,h3⟩
   ·refine .inr ⟨k+1,?_,by simpa using h2,?_,by simpa using h4⟩
    ·rw[h1,if_neg (by simp only[beq_iff_eq];omega)];omega
    ·rw[h3];simp
theorem zcc (c:UInt8) (l:List UInt8):(zar c l).1.length≤l.length∧((zar c l).2.2=true→(zar c l).1.length+(zar c l).2.1.length+1=l.length)∧((zar c l).2.2=false→(zar c l).1=l∧(zar c l).2.1=[]):=by
 rcases zbs c l with ⟨h1,h2,h3⟩|⟨k,h1,h2,h3,h4⟩
 ·rw[h2];simp
 ·rw[h3];simp;omega
theorem za5 (c:UInt8) (l:List UInt8):(zar c l).1.length≤l.length∧(zar c l).2.1.length≤l.length:=by
 rcases zbs c l with ⟨h1,h2,h3⟩|⟨k,h1,h2,h3,h4⟩
 ·rw[h2];simp
 ·rw[h3];simp;omega
def zah (c:UInt8):List UInt8→List (List UInt8)
 | []=>[[]]
 | x::t=>if x=c then []::zah c t else match zah c t with
  | p::ps=>(x::p)::ps
  | []=>[[x]]
theorem zaG (c:UInt8):∀l,∃p ps,zah c l=p::ps
 | []=>⟨_,_,rfl⟩
 | x::t=>by
  unfold zah
  by_cases h:x=c
  ·rw[if_pos h];exact⟨_,_,rfl⟩
  ·rw[if_neg h]
   obtain⟨p,ps,e⟩:=zaG c t
   rw[e];exact⟨_,_,rfl⟩
theorem zbx (c:UInt8) (l:List UInt8):0<(zah c l).length:=by obtain⟨p,ps,e⟩:=zaG c l;rw[e];simp
theorem zc9 (c:UInt8):∀l,(zah c l).length≤l.length+1
 | []=>by simp[zah]
 | x::t=>by
  have:=zc9 c t
  unfold zah
  by_cases h:x=c
  ·rw[if_pos h];simp;omega
  ·rw[if_neg h]
   obtain⟨p,ps,e⟩:=zaG c t
   rw[e] at this ⊢
   simp at this ⊢;omega
theorem zaE (c x:UInt8) (t:List UInt8):zah c (x::t)=if x=c then []::zah c t else match zah c t with
  | p::ps=>(x::p)::ps
  | []=>[[x]]:=rfl
theorem zcx (c x:UInt8) (t:List UInt8):zar c (x::t)=if x=c then ([],t,true) else (x::(zar c t).1,(zar c t).2.1,(zar c t).2.2):=rfl
theorem zaX (c:UInt8):∀l,zah c l=if (zar c l).2.2=true then (zar c l).1::zah c (zar c l).2.1 else [l]
 | []=>rfl
 | x::t=>by
  have ih:=zaX c t
  rw[zaE,zcx]
  by_cases h:x=c
  ·rw[if_pos h,if_pos h,if_pos rfl]
  ·rw[if_neg h,if_neg h,ih]
   by_cases h2:(zar c t).2.2=true
   ·rw[if_pos h2,if_pos h2]
   ·rw[if_neg h2,if_neg h2]
def zdw (c:UInt8) (r:List (List UInt8)×List UInt8) (x:UInt8):List (List UInt8)×List UInt8:=if x=c then (r.1++[r.2],[]) else (r.1,r.2++[x])
def zg5 (c:UInt8) (l:List UInt8):List (List UInt8)×List UInt8:=l.foldl (zdw c) ([],[])
theorem znV (c x:UInt8) (l:List UInt8):zg5 c (l++[x])=zdw c (zg5 c l) x:=by unfold zg5;rw[List.foldl_append];rfl
theorem zfV (c:UInt8):∀(l:List UInt8) (d:List (List UInt8)) (cur p:List UInt8) (ps:List (List UInt8)),zah c l=p::ps→(l.foldl (zdw c) (d,cur)).1++[(l.foldl (zdw c) (d,cur)).2]=d++(cur++p)::ps
 | [],d,cur,p,ps,h=>by
  rw[zah] at h;injection h with h1 h2;subst h1 h2;simp
 | x::t,d,cur,p,ps,h=>by
  rw[zaE] at h
  obtain⟨q,qs,e⟩:=zaG c t
  rw[List.foldl_cons]
  by_cases hx:x=c
  ·rw[if_pos hx] at h
   injection h with h1 h2
   subst h1
   rw[show zdw c (d,cur) x=(d++[cur],[]) from if_pos hx,zfV c t _ _ q qs e,←h2,e]
   simp
  ·rw[if_neg hx,e] at h
   injection h with h1 h2
   subst h1 h2
   rw[show zdw c (d,cur) x=(d,cur++[x]) from if_neg hx,zfV c t _ _ q qs e]
   simp
theorem zk7 (c:UInt8) (l:List UInt8):zah c l=(zg5 c l).1++[(zg5 c l).2]:=by
 obtain⟨p,ps,e⟩:=zaG c l
 unfold zg5
 rw[zfV c l [] [] p ps e,e];rfl
def zeY (x:List UInt8×List UInt8×Bool):Value:=.tuple #[.string (S x.1),.string (S x.2.1),.bool x.2.2]
theorem lCut_any (s:ByteArray) (c:UInt8) (w:World) (hs:s.size≤maxLen) :
  Calls Tryz.prog 101 #[.string s,.string ⟨#[c]⟩] w fun e w'=>e=.returned (zeY (zar c s.data.toList))∧Qb w w':=by
 unfold maxLen at hs
 rcases zbs c s.data.toList with ⟨h1,h2,_⟩|⟨k,h1,h2,h3,_⟩
 ·have HI:=Lib.hid h1
  have HC:=Lib.hid h2
  clear h1 h2
  go_enter Tryz.func101,Tryz.ntmps101
  go_wp2_with fail
  refine(Tryz.stringslite_Index_one _ _ _).mono ?_
  rintro e w' ⟨rfl,rfl⟩
  rw[HI.out]
  go_wp2_with fail
  go_ret3
  exact⟨by rw[HC.out];rfl,Qb.refl _⟩
 ·rw[zaa] at h2
  have HI:=Lib.hid h1
  have HC:=Lib.hid h3
  clear h1 h3
  have i0:(0:Int)≤(k:Int):=by omega
  have i1:(k:Int)<(s.size:Int):=by omega
  have q1:IntKind.i64.wrap ((k:Int)+1)=(k:Int)+1:=IntWalk.i64_in _ (by omega)
  have q2:(0:Int)≤(k:Int)+1:=by omega
  have q3:((k:Int)+1).toNat=k+1:=by omega
  have q4:(k:Int)+1≤(s.size:Int):=by omega
  go_enter Tryz.func101,Tryz.ntmps101
  go_wp2_with fail
  refine(Tryz.stringslite_Index_one _ _ _).mono ?_
  rintro e w' ⟨rfl,rfl⟩
  rw[HI.out]
  go_wp2_with fail
  go_quiet (fail)
  go_wp2_with fail
  go_ret3
  refine⟨?_,(Qb.refl _).drewN _⟩
  rw[HC.out]
  refine congrArg Ending.returned (congrArg Value.tuple ?_)
  rw[show S (s.data.toList.take k)=s.extract 0 k from by rw[←S_of (s.extract 0 k),Lib.extract_data];simp,show S (s.data.toList.drop (k+1))=s.extract (k+1) s.size from by
   rw[←S_of (s.extract (k+1) s.size),Lib.extract_data];congr 2;rw[List.take_of_length_le];rw[List.length_drop,zaa];omega]
  try rfl
theorem zbi (s:ByteArray) (c:UInt8) (w:World) (hs:s.size≤maxLen) :
  Calls Tryz.prog 67 #[.string s,.string ⟨#[c]⟩] w fun e w'=>e=.returned (zeY (zar c s.data.toList))∧Qb w w':=by
 go_enter Tryz.func67,Tryz.ntmps67
 go_wp2_with fail
 refine(lCut_any _ _ _ hs).mono ?_
 rintro e w' ⟨rfl,hq⟩
 unfold zeY
 go_wp2_with fail
 go_ret3
 exact⟨rfl,hq⟩
theorem zbb (s:ByteArray) (k:Nat):s.extract 0 k=S (s.data.toList.take k):=by rw[←S_of (s.extract 0 k),Lib.extract_data];simp
theorem zhz (s:ByteArray) (i j:Nat):s.extract i j=S ((s.data.toList.drop i).take (j - i)):=by rw[←S_of (s.extract i j),Lib.extract_data]
theorem zaB (s:ByteArray) (k:Nat):s.extract k s.size=S (s.data.toList.drop k):=by
 rw[zhz,List.take_of_length_le (by rw[List.length_drop,zaa];omega)]
def zrK (l:List UInt8) (c:UInt8) (w:World) (e:Ending) (w':World):Prop:=∃v,e=.returned v∧zfN w' w.heap.size v (zah c l)∧Qb w w'
theorem zeJ (s:ByteArray) (c:UInt8) (w:World) (hs:s.size≤1000000) :
  Calls Tryz.prog 79 #[.string s,.int .u8 c.toNat] w (zrK s.data.toList c w):=by
 go_enter Tryz.func79,Tryz.ntmps79
 go_wp2_with fail
 go_loopw [5,6,7] (fun v f i wr=>∃(k j:Nat) (ls:List (List UInt8)),k≤s.size∧j≤k∧ls.length≤k∧i=.int .i64 k∧f=.int .i64 j∧zfN wr w.heap.size v ls∧Hid (zg5 c (s.data.toList.take k)=(ls,(s.data.toList.drop j).take (k - j)))∧Qb w wr) (fun _ _ i _=>s.size - (intOf i).toNat)
 case atStart=>exact⟨0,0,[],Nat.zero_le _,Nat.le_refl _,Nat.le_refl _,rfl,rfl,zfN.nil _ _,Lib.hid (by simp[zg5]),Qb.refl w⟩
 case round=>
  obtain⟨k,j,ls,hk,hj,hls,rfl,rfl,hrow,HL,hq⟩:=hrel
  have hB:w.heap.size≤wr.heap.size:=hq.size
  have HX:=Lib.hid (zhz s j k)
  by_cases hlt:k<s.size
  ·have HS:=Lib.hid ((congrArg (zg5 c) (zcq s k hlt)).trans (znV c s[k] (s.data.toList.take k)))
   by_cases hc:s[k]=c
   ·have hb:((s[k].toNat:Int)==(c.toNat:Int))=true:=by rw[hc];exact beq_self_eq_true _
    have HN:Hid (zg5 c (s.data.toList.take (k+1))=(ls++[(s.extract j k).data.toList],(s.data.toList.drop (k+1)).take (k+1 - (k+1)))):=Lib.hid (by
     rw[HS.out,HL.out];unfold zdw;rw[if_pos hc,HX.out];simp)
    clear hc HS HL
    go_wp2_with (at_builtin;refine zds rfl (.tmp 19) (.tmp 24) rfl w.heap.size _ ls [(s.extract j k).data.toList] rfl (hrow.alloc _) _ _ _ rfl rfl (news1S _ _) (by simp;omega) (by simp;omega) ?_;intro v1 w1 hr1 hb1)
    go_roundw
    case rel=>exact⟨k+1,k+1,_,by omega,by omega,by simp;omega,by go_num,by go_num,hr1,HN,Below.trans (hq.alloc _) hb1⟩
    case measure=>simp[intOf];omega
   ·have hb:((s[k].toNat:Int)==(c.toNat:Int))=false:=by
     rw[beq_eq_false_iff_ne];intro e;exact hc (UInt8.toNat_inj.1 (by omega))
    have HN:Hid (zg5 c (s.data.toList.take (k+1))=(ls,(s.data.toList.drop j).take (k+1 - j))):=Lib.hid (by
     rw[HS.out,HL.out];unfold zdw;rw[if_neg hc]
     have e1:(s.data.toList.drop j).take (k+1 - j)=(s.data.toList.drop j).take (k - j)++[s[k]]:=by
      rw[show k+1 - j=(k - j)+1 from by omega,List.take_succ_eq_append_getElem (by rw[List.length_drop,zaa];omega),List.getElem_drop]
      congr 2
      rw[←zrC s k hlt]
      congr 1;omega
     rw[e1])
    clear hc HS HL
    go_wp2_with fail
    go_roundw
    case rel=>exact⟨k+1,j,ls,by omega,by omega,by omega,by go_num,rfl,hrow,HN,hq⟩
    case measure=>simp[intOf];omega
  ·obtain rfl:k=s.size:=by omega
   have HN:Hid (zah c s.data.toList=ls++[(s.extract j s.size).data.toList]):=Lib.hid (by
    rw[zk7,←zbO s s.size hlt,HL.out,HX.out])
   clear HL
   go_wp2_with (at_builtin;refine zds rfl (.tmp 28) (.tmp 32) rfl w.heap.size _ ls [(s.extract j s.size).data.toList] rfl (hrow.alloc _) _ _ _ rfl rfl (news1S _ _) (by simp;omega) (by simp;omega) ?_;intro v1 w1 hr1 hb1)
   go_ret
   exact⟨v1,rfl,by rw[HN.out];exact hr1,Below.trans (hq.alloc _) hb1⟩
end Go.Proofs.YtnnipcgblooemaaGreatDoor
namespace Go.Proofs.YtnnipcgblooemaaGreatDoor
structure UriP where
 scheme:List UInt8
 auth:List UInt8
 path:List UInt8
 query:List UInt8
 frag:List UInt8
 hs:Bool
 ha:Bool
 hq:Bool
 hf:Bool
def zfP:UriP:=⟨[],[],[],[],[],false,false,false,false⟩
def zbr (u:UriP):Array Value:=#[.string (S u.scheme),.string (S u.auth),.string (S u.path),.string (S u.query),.string (S u.frag),.bool u.hs,.bool u.ha,.bool u.hq,.bool u.hf]
def uriA (u:UriP):Value:=.agg (zbr u)
def zlZ (r:Int×UriP):Value:=.tuple #[uriA r.2,.int .i64 r.1]
def zau (l:List UInt8):List UInt8:=(zar 47 l).1
def scB (c:UInt8):Bool:=za4 c||zal c||zbe c [43,45,46]
def zbU:List UInt8→Bool
 | []=>false
 | c::t=>za4 c&&t.all scB
def zbN (l:List UInt8):Bool:=Lib.hasPrefix l [47,47]
theorem zh2 {l:List UInt8} (h:zbN l=true):Lib.trimPrefix l [47,47]=l.drop 2:=by unfold Lib.trimPrefix;rw[if_pos (show Lib.hasPrefix l [47,47]=true from h)];rfl
theorem zbA {l:List UInt8} (h:zbN l=true):2≤l.length:=by
 have:=(List.isPrefixOf_iff_prefix.1 h).length_le
 simpa using this
def zcB (l:List UInt8):List UInt8:=(zar 63 (zar 35 l).1).1
def zbB (l:List UInt8):List UInt8×List UInt8×Bool:=zar 58 (zau (zcB l))
def zd9 (l:List UInt8):List UInt8:=if (zbB l).2.2=true then (zcB l).drop ((zbB l).1.length+1) else zcB l
def zbh (r:List UInt8):List UInt8:=if zbN r=true then zau (r.drop 2) else []
def zbC (r:List UInt8):List UInt8:=if zbN r=true then (r.drop 2).drop (zbh r).length else r
def zaw (l:List UInt8):Int×UriP :=
 if 16384<l.length then (5,zfP)
 else if ((zbB l).2.2&&!zbU (zbB l).1)=true then (6,zfP)
 else (0,{ scheme:=if (zbB l).2.2=true then (zbB l).1 else [],auth:=zbh (zd9 l),path:=zbC (zd9 l),query:=(zar 63 (zar 35 l).1).2.1,frag:=(zar 35 l).2.1,hs:=(zbB l).2.2,ha:=zbN (zd9 l),hq:=(zar 63 (zar 35 l).1).2.2,hf:=(zar 35 l).2.2 })
theorem zaI (l:List UInt8):zau l=l.take (zau l).length∧(zau l).length≤l.length:=by
 unfold zau
 rcases zbs 47 l with ⟨h1,h2,h3⟩|⟨k,h1,h2,h3,h4⟩
 ·rw[h2];simp
 ·rw[h3];simp;omega
end Go.Proofs.YtnnipcgblooemaaGreatDoor
namespace Go.Proofs.YtnnipcgblooemaaGreatDoor
open Go.RowKit
def Obk (w:World) (g:Nat) (t:TypeId) (cs:Array Value):Prop:=w.heap[g]? = some (.cells cs t (0,0))
theorem Obk.lt {w:World} {g:Nat} {t:TypeId} {cs:Array Value} (h:Obk w g t cs):g<w.heap.size:=by
 rcases Nat.lt_or_ge g w.heap.size with h1|h1
 ·exact h1
 ·unfold Obk at h;rw[Array.getElem?_eq_none h1] at h;cases h
theorem Obk.cell {w:World} {g:Nat} {t:TypeId} {cs:Array Value} (h:Obk w g t cs) (i:Nat):w.cell? ⟨g,i,none⟩=cs[i]?:=cell_of_row w g i cs t (0,0) h
theorem Obk.frozen {w:World} {g:Nat} {t:TypeId} {cs:Array Value} (h:Obk w g t cs) (i:Nat):w.frozen? ⟨g,i,none⟩=false:=by
 unfold Obk at h;simp[World.frozen?,h]
theorem Obk.new (w:World) (t:TypeId) (cs:Array Value):Obk (w.alloc (.cells cs t)) w.heap.size t cs:=heap_alloc_new w _
theorem Obk.qb {w w':World} {g:Nat} {t:TypeId} {cs:Array Value} (h:Obk w g t cs) (hq:Qb w w'):Obk w' g t cs:=(hq.block g h.lt).trans h
theorem Obk.alloc {w:World} {g:Nat} {t:TypeId} {cs:Array Value} (h:Obk w g t cs) (o:Obj):Obk (w.alloc o) g t cs:=(Below.heap_alloc w o g h.lt).trans h
theorem Obk.drew {w:World} {g:Nat} {t:TypeId} {cs:Array Value} (h:Obk w g t cs):Obk w.drew g t cs:=h
theorem Obk.drewN {w:World} {g:Nat} {t:TypeId} {cs:Array Value} (h:Obk w g t cs) (n:Nat):Obk (w.drewN n) g t cs:=h
theorem Obk.put {w:World} {g:Nat} {t:TypeId} {cs:Array Value} (h:Obk w g t cs) (i:Nat) (u:Value):Obk (w.setCell ⟨g,i,none⟩ u) g t (cs.setIfInBounds i u):=by
 unfold Obk at h ⊢
 simp[World.setCell,Array.getElem?_modify,h]
theorem Obk.far {w:World} {g:Nat} {t:TypeId} {cs:Array Value} (h:Obk w g t cs) {p:Addr} (hp:g≠p.block) (u:Value):Obk (w.setCell p u) g t cs:=(Below.heap_setCell w p u g hp).trans h
theorem Obk.at_ (w:World) (t:TypeId) (cs:Array Value) (g:Nat) (h:w.heap.size=g):Obk (w.alloc (.cells cs t)) g t cs:=by subst h;exact Obk.new w t cs
theorem Obk.st {w:World} {g:Nat} {t:TypeId} {cs:Array Value} (h:Obk w g t cs) (b o:Nat) (u:Value) (hne:g≠b):Obk (w.setCell ⟨b,o,none⟩ u) g t cs:=h.far (p:=⟨b,o,none⟩) hne u
theorem Qb.st {a c:World} (h:Qb a c) (b o:Nat) (u:Value) (hb:a.heap.size≤b):Qb a (c.setCell ⟨b,o,none⟩ u):=h.set (p:=⟨b,o,none⟩) hb u
theorem Obk.other {w w':World} {g b:Nat} {t:TypeId} {cs:Array Value} (h:Obk w g t cs) (hg:w.grownBy w' (some b)) (hne:g≠b):Obk w' g t cs:=(hg.block g h.lt (fun e=>hne (Option.some.inj e))).trans h
theorem zqV (w:World) (g i:Nat) (u:Value):w.grownBy (w.setCell ⟨g,i,none⟩ u) (some g) :=
 ⟨rfl,rfl,rfl,by simp[World.setCell],fun k hk hne=>Below.heap_setCell w _ u k (by intro e;exact hne (by rw[e]))⟩
theorem Qb.turned {a b c:World} {g:Nat} (h:Qb a b) (hg:b.grownBy c (some g)) (hr:a.heap.size≤g):Qb a c:=h.grown hg (fun k hk=>by rw[←Option.some.inj hk];exact hr)
end Go.Proofs.YtnnipcgblooemaaGreatDoor
namespace Go.Proofs.YtnnipcgblooemaaGreatDoor
open Go.RowKit
theorem zc4 (s:ByteArray) (w:World) (hs:s.size≤maxLen) :
  Calls Tryz.prog 149 #[.string s] w fun e w'=>e=.returned (.string (S (zau s.data.toList)))∧Qb w w':=by
 obtain⟨p,q,b,hcut⟩:∃p q b,zar 47 s.data.toList=(p,q,b):=⟨_,_,_,rfl⟩
 have HC:=Lib.hid hcut
 clear hcut
 go_enter Tryz.func149,Tryz.ntmps149
 go_wp2_with fail
 refine(zbi s 47 _ hs).mono ?_
 rintro e w1 ⟨rfl,hq1⟩
 rw[HC.out]
 unfold zeY
 go_wp2_with fail
 go_ret
 exact⟨zfw (by unfold zau;rw[HC.out]),hq1⟩
theorem ziP (s:ByteArray) (w:World) (hs:s.size≤maxLen) :
  Calls Tryz.prog 147 #[.string s] w fun e w'=>e=.returned (.int .i64 (Lib.indexByte (zau s.data.toList) 58))∧Qb w w':=by
 go_enter Tryz.func147,Tryz.ntmps147
 go_wp2_with fail
 refine(zc4 s _ hs).mono ?_
 rintro e w1 ⟨rfl,hq1⟩
 go_wp2_with fail
 refine(Tryz.strings_IndexByte _ _ _).mono ?_
 rintro e w2 ⟨rfl,rfl⟩
 go_wp2_with fail
 go_ret
 exact⟨rfl,hq1⟩
def zhS (l:List UInt8):Bool:=match l with | []=>true|c::t=>za4 c&&t.all scB
theorem zjO (l:List UInt8) (x:UInt8):zhS (l++[x])=(zhS l&&(if l=[] then za4 x else scB x)):=by
 rcases l with _|⟨c,t⟩
 ·simp[zhS]
 ·simp[zhS,Bool.and_assoc]
theorem zl3 {l:List UInt8} {k:Nat} (h:zhS (l.take k)=false):zhS l=false:=by
 rcases l with _|⟨c,t⟩
 ·simp[zhS] at h
 ·rcases k with _|k
  ·simp[zhS] at h
  ·rw[List.take_succ_cons] at h
   have h':(za4 c&&(t.take k).all scB)=false:=h
   show (za4 c&&t.all scB)=false
   rcases hc:za4 c with _|_
   ·rfl
   ·rw[hc,Bool.true_and] at h'
    rw[zbk scB t k h'];rfl
theorem zfs {l:List UInt8} (h:l≠[]):zbU l=zhS l:=by
 rcases l with _|⟨c,t⟩
 ·exact absurd rfl h
 ·rfl
theorem zlt {l:List UInt8} {c:UInt8}:Lib.indexByte l c<0↔zbe c l=false:=by
 unfold zbe
 rcases zbs c l with ⟨h1,h2,h3⟩|⟨k,h1,h2,h3,h4⟩
 ·rw[h1];simp[h3]
 ·rw[h1]
  have:=List.mem_of_getElem? h4
  simp[this]
theorem zgp (s:ByteArray) (w:World) (hs:s.size≤maxLen) :
  Calls Tryz.prog 148 #[.string s] w fun e w'=>e=.returned (.bool (zbU s.data.toList))∧w=w':=by
 unfold maxLen at hs
 go_enter Tryz.func148,Tryz.ntmps148
 go_wp2_with fail
 go_loop [6] (fun i=>∃k:Nat,k≤s.size∧i=.int .i64 k∧Hid (zhS (s.data.toList.take k)=true)) (fun i=>s.size - (intOf i).toNat)
 case atStart=>exact⟨0,Nat.zero_le _,rfl,Lib.hid rfl⟩
 case round=>
  obtain⟨k,hk,rfl,HT⟩:=hrel
  by_cases hlt:k<s.size
  ·have hne:Hid (s.data.toList≠[]):=Lib.hid (fun e=>by have:=zaa s;rw[e] at this;simp at this;omega)
   have hstep:zhS (s.data.toList.take (k+1))=(if s.data.toList.take k=[] then za4 s[k] else scB s[k]):=by
    rw[zcq s k hlt,zjO,HT.out,Bool.true_and]
   have hbad:zhS (s.data.toList.take (k+1))=false→Hid (zbU s.data.toList=false):=fun h=>Lib.hid (by rw[zfs hne.out,zl3 h])
   rcases ha:za4 s[k] with _|_
   ·by_cases hk0:k=0
    ·subst hk0
     have HB:=hbad (by rw[hstep,List.take_zero,if_pos rfl,ha])
     have H1:=Lib.hid ha
     clear ha hstep hbad
     go_wp2_with fail
     refine(zbd _ _).mono ?_
     rintro e w' ⟨rfl,rfl⟩
     rw[H1.out]
     go_wp2_with fail
     go_ret
     exact⟨zak (by rw[HB.out]),rfl⟩
    ·have hkb:((k:Int)==0)=false:=by rw[beq_eq_false_iff_ne];omega
     have htk:s.data.toList.take k≠[]:=fun e=>by have:=congrArg List.length e;rw[List.length_take,zaa,List.length_nil] at this;omega
     rw[if_neg htk] at hstep
     rcases hd:zal s[k] with _|_
     ·rcases hi:zbe s[k] [43,45,46] with _|_
      ·have HB:=hbad (by rw[hstep];unfold scB;rw[ha,hd,hi];rfl)
       have hidx:Lib.indexByte [43,45,46] s[k]<0:=zlt.2 hi
       have H1:=Lib.hid ha
       have H2:=Lib.hid hd
       clear ha hd hi hstep hbad hk0 htk
       go_wp2_with fail
       refine(zbd _ _).mono ?_
       rintro e w' ⟨rfl,rfl⟩
       rw[H1.out]
       go_wp2_with fail
       refine(zaW _ _).mono ?_
       rintro e w' ⟨rfl,rfl⟩
       rw[H2.out]
       go_wp2_with fail
       refine(Tryz.strings_IndexByte _ _ _).mono ?_
       rintro e w2 ⟨rfl,rfl⟩
       rw[zab,zdu]
       go_wp2_with fail
       go_ret
       exact⟨zak (by rw[HB.out]),rfl⟩
      ·have HB:Hid (zhS (s.data.toList.take (k+1))=true):=Lib.hid (by rw[hstep];unfold scB;rw[ha,hd,hi];rfl)
       have hidx:0≤Lib.indexByte [43,45,46] s[k]:=by
        by_cases h:Lib.indexByte [43,45,46] s[k]<0
        ·rw[zlt.1 h] at hi;cases hi
        ·omega
       have H1:=Lib.hid ha
       have H2:=Lib.hid hd
       clear ha hd hi hstep hbad hk0 htk
       go_wp2_with fail
       refine(zbd _ _).mono ?_
       rintro e w' ⟨rfl,rfl⟩
       rw[H1.out]
       go_wp2_with fail
       refine(zaW _ _).mono ?_
       rintro e w' ⟨rfl,rfl⟩
       rw[H2.out]
       go_wp2_with fail
       refine(Tryz.strings_IndexByte _ _ _).mono ?_
       rintro e w2 ⟨rfl,rfl⟩
       rw[zab,zdu]
       go_wp2_with fail
       go_round
       case rel=>exact⟨k+1,by omega,by go_num,HB⟩
       case measure=>simp[intOf];omega
     ·have HB:Hid (zhS (s.data.toList.take (k+1))=true):=Lib.hid (by rw[hstep];unfold scB;rw[ha,hd];rfl)
      have H1:=Lib.hid ha
      have H2:=Lib.hid hd
      clear ha hd hstep hbad hk0 htk
      go_wp2_with fail
      refine(zbd _ _).mono ?_
      rintro e w' ⟨rfl,rfl⟩
      rw[H1.out]
      go_wp2_with fail
      refine(zaW _ _).mono ?_
      rintro e w' ⟨rfl,rfl⟩
      rw[H2.out]
      go_wp2_with fail
      go_round
      case rel=>exact⟨k+1,by omega,by go_num,HB⟩
      case measure=>simp[intOf];omega
   ·have HB:Hid (zhS (s.data.toList.take (k+1))=true):=Lib.hid (by rw[hstep];unfold scB;rw[ha];split<;>rfl)
    have H1:=Lib.hid ha
    clear ha hstep hbad
    go_wp2_with fail
    refine(zbd _ _).mono ?_
    rintro e w' ⟨rfl,rfl⟩
    rw[H1.out]
    go_wp2_with fail
    go_round
    case rel=>exact⟨k+1,by omega,by go_num,HB⟩
    case measure=>simp[intOf];omega
  ·have HE:=Lib.hid (zbO s k hlt)
   by_cases h0:s.size=0
   ·obtain rfl:s=S []:=zc8 h0
    clear h0 hs hk hlt HE HT
    go_wp2_with fail
    go_ret
    exact⟨rfl,rfl⟩
   ·have hne:s.data.toList≠[]:=fun e=>by have:=zaa s;rw[e] at this;simp at this;omega
    have he1:s.toList.isEmpty=false:=by rw[ByteArray.toList_eq];simpa using hne
    have HB:Hid (zbU s.data.toList=true):=Lib.hid (by rw[zfs hne,←HE.out,HT.out])
    clear hne h0
    go_wp2_with fail
    go_ret
    exact⟨zak (by rw[HB.out]),rfl⟩
def CutPost (c:UInt8) (l:List UInt8) (g:Nat) (w:World) (e:Ending) (w':World):Prop :=
 e=.returned (.tuple #[.string (S (zar c l).2.1),.bool (zar c l).2.2])∧Obk w' g 9 #[.string (S (zar c l).1)]∧w.grownBy w' (some g)
theorem zgw (l:List UInt8) (c:UInt8) (g:Nat) (w:World) (hl:l.length≤9223372036854775806) (hk:Obk w g 9 #[.string (S l)]) :
  Calls Tryz.prog 146 #[.int .u8 c.toNat,.pointer (some ⟨g,0,none⟩)] w (CutPost c l g w):=by
 have hc0:w.cell? ⟨g,0,none⟩=some (.string (S l)):=hk.cell 0
 have hf0:=hk.frozen 0
 have hp:=hk.put 0
 have hz:=zac l
 rcases zbs c l with ⟨h1,h2,_⟩|⟨k,h1,h2,h3,_⟩
 ·have HI:=Lib.hid h1
  have HC:=Lib.hid h2
  have HK:=Lib.hid hk
  clear h1 h2 hk hp hz
  go_enter Tryz.func146,Tryz.ntmps146
  go_wp2_with fail
  refine(Tryz.strings_IndexByte _ _ _).mono ?_
  rintro e w2 ⟨rfl,rfl⟩
  rw[zab,zdu,HI.out]
  go_wp2_with fail
  go_ret2
  exact⟨by rw[HC.out];rfl,by rw[HC.out];exact HK.out,World.grownBy.refl _ _⟩
 ·have HI:=Lib.hid h1
  have HC:=Lib.hid h3
  have HP:=Lib.hid hp
  have i1:(k:Int)<(l.length:Int):=by omega
  clear h1 h3 hk hp hz
  go_enter Tryz.func146,Tryz.ntmps146
  go_wp2_with fail
  refine(Tryz.strings_IndexByte _ _ _).mono ?_
  rintro e w2 ⟨rfl,rfl⟩
  rw[zab,zdu,HI.out]
  go_wp2_with fail
  go_ret2
  have e1:(S l).extract (k+1) l.length=S (l.drop (k+1)):=by
   have:=zaB (S l) (k+1)
   rw[zac,zab] at this;exact this
  have e2:(S l).extract 0 k=S (l.take k):=zbb (S l) k
  refine⟨?_,?_,?_⟩
  ·rw[HC.out]
   show Ending.returned (.tuple #[.string ((S l).extract (k+1) l.length),.bool true])=_
   rw[e1]
  ·rw[HC.out]
   show Obk _ _ _ #[.string (S (l.take k))]
   rw[←e2]
   exact HP.out _
  ·exact zqV _ _ _ _
end Go.Proofs.YtnnipcgblooemaaGreatDoor
namespace Go.Proofs.YtnnipcgblooemaaGreatDoor
open Go.RowKit
def zaA (l set:List UInt8):Nat:=l.findIdx fun c=>zbe c set
theorem zjc (l set:List UInt8):zaA l set≤l.length:=List.findIdx_le_length
theorem idxS_at {l set:List UInt8} {k:Nat} (h:k<l.length) (h1:∀j (hj:j<k),zbe (l[j]'(by omega)) set=false) (h2:zbe l[k] set=true):zaA l set=k:=by
 unfold zaA
 rw[List.findIdx_eq h]
 exact⟨h2,fun j hj=>by rw[h1 j hj]⟩
theorem zqK {l set:List UInt8} (h1:∀j (hj:j<l.length),zbe l[j] set=false):zaA l set=l.length:=by
 unfold zaA
 rw[List.findIdx_eq_length]
 intro x hx
 obtain⟨j,hj,rfl⟩:=List.getElem_of_mem hx
 rw[h1 j hj]
theorem zbD (c:UInt8):∀l,zaA l [c]=(zar c l).1.length
 | []=>rfl
 | x::t=>by
  have ih:=zbD c t
  unfold zaA at ih ⊢
  rw[List.findIdx_cons,zcx,ih]
  by_cases h:x=c
  ·subst h;simp[zbe]
  ·rw[if_neg h]
   have:zbe x [c]=false:=by simp[zbe,h]
   rw[this];rfl
theorem zbl (s set:ByteArray) (w:World) (hs:s.size≤maxLen) (ha:set.size≤maxLen) :
  Calls Tryz.prog 27 #[.string s,.string set] w fun e w'=>e=.returned (.int .i64 (zaA s.data.toList set.data.toList))∧w=w':=by
 have hm:=hs
 unfold maxLen at hm
 go_enter Tryz.func27,Tryz.ntmps27
 go_wp2_with fail
 go_loop [5] (fun i=>∃k:Nat,k≤s.size∧i=.int .i64 k∧Hid (∀j (hj:j<s.size),j<k→zbe s[j] set.data.toList=false)) (fun i=>s.size - (intOf i).toNat)
 case atStart=>exact⟨0,Nat.zero_le _,rfl,Lib.hid (fun j hj h=>absurd h (Nat.not_lt_zero _))⟩
 case round=>
  obtain⟨k,hk,rfl,HT⟩:=hrel
  by_cases hlt:k<s.size
  ·rcases hb:zbe s[k] set.data.toList with _|_
   ·have HB:=Lib.hid hb
    have HN:Hid (∀j (hj:j<s.size),j<k+1→zbe s[j] set.data.toList=false):=Lib.hid fun j hj h=>by
     by_cases e:j=k
     ·subst e;exact HB.out
     ·exact HT.out j hj (by omega)
    clear hb
    go_wp2_with fail
    refine(zb7 _ _ _ ha).mono ?_
    rintro e w' ⟨rfl,rfl⟩
    rw[HB.out]
    go_wp2_with fail
    go_round
    case rel=>exact⟨k+1,by omega,by go_num,HN⟩
    case measure=>simp[intOf];omega
   ·have HB:=Lib.hid hb
    have HN:Hid (zaA s.data.toList set.data.toList=k):=Lib.hid (idxS_at (by rw[zaa];exact hlt) (fun j hj=>HT.out j (by omega) hj) hb)
    clear hb
    go_wp2_with fail
    refine(zb7 _ _ _ ha).mono ?_
    rintro e w' ⟨rfl,rfl⟩
    rw[HB.out]
    go_wp2_with fail
    go_ret
    exact⟨zdh (by rw[HN.out]),rfl⟩
  ·have HN:Hid (zaA s.data.toList set.data.toList=s.size):=Lib.hid (by
    rw[zqK (fun j hj=>HT.out j (by rw[zaa] at hj;exact hj) (by rw[zaa] at hj;omega)),zaa])
   go_wp2_with fail
   go_ret
   exact⟨zdh (by rw[HN.out]),rfl⟩
theorem zmo (s p:List UInt8):Lib.hasPrefix s p=(s.take p.length==p):=by
 unfold Lib.hasPrefix
 rw[Bool.eq_iff_iff,List.isPrefixOf_iff_prefix,beq_iff_eq]
 constructor
 ·rintro⟨t,rfl⟩;simp
 ·intro h;exact⟨s.drop p.length,by have:=List.take_append_drop p.length s;rw[h] at this;exact this⟩
theorem zat (s p:ByteArray) (w:World) (hs:s.size≤maxLen) :
  Calls Tryz.prog 85 #[.string s,.string p] w fun e w'=>e=.returned (.bool (Lib.hasPrefix s.data.toList p.data.toList))∧w=w':=by
 unfold maxLen at hs
 by_cases h:p.size≤s.size
 ·have HP:Hid (Lib.hasPrefix s.data.toList p.data.toList=((s.extract 0 p.size).toList==p.toList)):=Lib.hid (by
   rw[zmo,ByteArray.toList_eq,ByteArray.toList_eq,zbb,zab,zaa])
  go_enter Tryz.func85,Tryz.ntmps85
  go_wp2_with fail
  go_ret
  exact⟨zak (by rw[HP.out]),rfl⟩
 ·have HP:Hid (Lib.hasPrefix s.data.toList p.data.toList=false):=Lib.hid (by
   rw[zmo,beq_eq_false_iff_ne]
   intro e
   have:=congrArg List.length e
   rw[List.length_take,zaa,zaa] at this
   omega)
  have h2:s.size<p.size:=by omega
  clear h
  go_enter Tryz.func85,Tryz.ntmps85
  go_wp2_with fail
  go_ret
  exact⟨zak (by rw[HP.out]),rfl⟩
theorem zlc (s:ByteArray) (w:World) (hs:s.size≤maxLen) :
  Calls Tryz.prog 112 #[.string s] w fun e w'=>e=.returned (.bool (zbU s.data.toList))∧w=w':=by
 unfold maxLen at hs
 go_enter Tryz.func112,Tryz.ntmps112
 go_wp2_with fail
 go_loop [3] (fun i=>∃k:Nat,k≤s.size∧i=.int .i64 k∧Hid (zhS (s.data.toList.take k)=true)) (fun i=>s.size - (intOf i).toNat)
 case atStart=>exact⟨0,Nat.zero_le _,rfl,Lib.hid rfl⟩
 case round=>
  obtain⟨k,hk,rfl,HT⟩:=hrel
  by_cases hlt:k<s.size
  ·have hne:Hid (s.data.toList≠[]):=Lib.hid (fun e=>by have:=zaa s;rw[e] at this;simp at this;omega)
   have hstep:zhS (s.data.toList.take (k+1))=(if s.data.toList.take k=[] then za4 s[k] else scB s[k]):=by
    rw[zcq s k hlt,zjO,HT.out,Bool.true_and]
   have hbad:zhS (s.data.toList.take (k+1))=false→Hid (zbU s.data.toList=false):=fun h=>Lib.hid (by rw[zfs hne.out,zl3 h])
   rcases ha:za4 s[k] with _|_
   ·by_cases hk0:k=0
    ·subst hk0
     have HB:=hbad (by rw[hstep,List.take_zero,if_pos rfl,ha])
     have H1:=Lib.hid ha
     clear ha hstep hbad
     go_wp2_with fail
     refine(za7 _ _).mono ?_
     rintro e w' ⟨rfl,rfl⟩
     rw[H1.out]
     go_wp2_with fail
     go_ret
     exact⟨zak (by rw[HB.out]),rfl⟩
    ·have hkb:((k:Int)==0)=false:=by rw[beq_eq_false_iff_ne];omega
     have htk:s.data.toList.take k≠[]:=fun e=>by have:=congrArg List.length e;rw[List.length_take,zaa,List.length_nil] at this;omega
     rw[if_neg htk] at hstep
     rcases hd:zal s[k] with _|_
     ·rcases hi:zbe s[k] [43,45,46] with _|_
      ·have HB:=hbad (by rw[hstep];unfold scB;rw[ha,hd,hi];rfl)
       have H1:=Lib.hid ha
       have H2:=Lib.hid hd
       have H3:=Lib.hid hi
       clear ha hd hi hstep hbad hk0 htk
       go_wp2_with fail
       refine(za7 _ _).mono ?_
       rintro e w' ⟨rfl,rfl⟩
       rw[H1.out]
       go_wp2_with fail
       refine(za6 _ _).mono ?_
       rintro e w' ⟨rfl,rfl⟩
       rw[H2.out]
       go_wp2_with fail
       refine(zb7 _ _ _ (by decide)).mono ?_
       rintro e w2 ⟨rfl,rfl⟩
       rw[zab,H3.out]
       go_wp2_with fail
       go_ret
       exact⟨zak (by rw[HB.out]),rfl⟩
      ·have HB:Hid (zhS (s.data.toList.take (k+1))=true):=Lib.hid (by rw[hstep];unfold scB;rw[ha,hd,hi];rfl)
       have H1:=Lib.hid ha
       have H2:=Lib.hid hd
       have H3:=Lib.hid hi
       clear ha hd hi hstep hbad hk0 htk
       go_wp2_with fail
       refine(za7 _ _).mono ?_
       rintro e w' ⟨rfl,rfl⟩
       rw[H1.out]
       go_wp2_with fail
       refine(za6 _ _).mono ?_
       rintro e w' ⟨rfl,rfl⟩
       rw[H2.out]
       go_wp2_with fail
       refine(zb7 _ _ _ (by decide)).mono ?_
       rintro e w2 ⟨rfl,rfl⟩
       rw[zab,H3.out]
       go_wp2_with fail
       go_round
       case rel=>exact⟨k+1,by omega,by go_num,HB⟩
       case measure=>simp[intOf];omega
     ·have HB:Hid (zhS (s.data.toList.take (k+1))=true):=Lib.hid (by rw[hstep];unfold scB;rw[ha,hd];rfl)
      have H1:=Lib.hid ha
      have H2:=Lib.hid hd
      clear ha hd hstep hbad hk0 htk
      go_wp2_with fail
      refine(za7 _ _).mono ?_
      rintro e w' ⟨rfl,rfl⟩
      rw[H1.out]
      go_wp2_with fail
      refine(za6 _ _).mono ?_
      rintro e w' ⟨rfl,rfl⟩
      rw[H2.out]
      go_wp2_with fail
      go_round
      case rel=>exact⟨k+1,by omega,by go_num,HB⟩
      case measure=>simp[intOf];omega
   ·have HB:Hid (zhS (s.data.toList.take (k+1))=true):=Lib.hid (by rw[hstep];unfold scB;rw[ha];split<;>rfl)
    have H1:=Lib.hid ha
    clear ha hstep hbad
    go_wp2_with fail
    refine(za7 _ _).mono ?_
    rintro e w' ⟨rfl,rfl⟩
    rw[H1.out]
    go_wp2_with fail
    go_round
    case rel=>exact⟨k+1,by omega,by go_num,HB⟩
    case measure=>simp[intOf];omega
  ·have HE:=Lib.hid (zbO s k hlt)
   by_cases h0:s.size=0
   ·obtain rfl:s=S []:=zc8 h0
    clear h0 hs hk hlt HE HT
    go_wp2_with fail
    go_ret
    exact⟨rfl,rfl⟩
   ·have hne:s.data.toList≠[]:=fun e=>by have:=zaa s;rw[e] at this;simp at this;omega
    have he1:s.toList.isEmpty=false:=by rw[ByteArray.toList_eq];simpa using hne
    have HB:Hid (zbU s.data.toList=true):=Lib.hid (by rw[zfs hne,←HE.out,HT.out])
    clear hne h0
    go_wp2_with fail
    go_ret
    exact⟨zak (by rw[HB.out]),rfl⟩
end Go.Proofs.YtnnipcgblooemaaGreatDoor
namespace Go.Proofs.YtnnipcgblooemaaGreatDoor
def dvN (c:UInt8):Nat:=if c.toNat≤57 then c.toNat - 48 else if c.toNat≤70 then c.toNat - 55 else c.toNat - 87
def zd1 (base most:Nat):List UInt8→Nat→Option Nat
 | [],n=>some n
 | c::l,n=>if n*base+dvN c≤most then zd1 base most l (n*base+dvN c) else none
def optE:Option Nat→Int×Nat
 | some n=>(0,n)
 | none=>(4,0)
def zhQ (base most:Nat) (l:List UInt8):Int×Nat:=optE (zd1 base most l 0)
def zdn (p:UInt8→Bool) (l:List UInt8):Int:=if l=[] then 3 else if l.all p=true then 0 else 1
def zgB (p:UInt8→Bool) (base most:Nat) (l:List UInt8):Int×Nat:=if zdn p l=0 then zhQ base most l else (zdn p l,0)
def zdd:List UInt8→Bool
 | 48::_::_=>true
 | _=>false
def zaF (most:Nat) (l:List UInt8):Int×Nat:=if zdn zal l=0 then (if zdd l=true then (6,0) else zhQ 10 most l) else (zdn zal l,0)
def zhO (r:Int×Nat):Value:=.tuple #[.int .u64 r.2,.int .i64 r.1]
theorem hexC {c:UInt8} (h:zbn c=true):48≤c.toNat∧c.toNat≤57∨97≤c.toNat∧c.toNat≤102∨65≤c.toNat∧c.toNat≤70:=of_decide_eq_true h
theorem dvN_lt {c:UInt8} (h:zbn c=true):dvN c<16:=by have:=hexC h;unfold dvN;(repeat' split)<;>omega
theorem zkH {c:UInt8} (h:zal c=true):dvN c=c.toNat - 48∧48≤c.toNat∧c.toNat≤57:=by
 have h2:48≤c.toNat∧c.toNat≤57:=of_decide_eq_true h
 exact⟨by unfold dvN;rw[if_pos h2.2],h2⟩
theorem zrp {c:UInt8} (h:zal c=true):zbn c=true:=by
 have h2:48≤c.toNat∧c.toNat≤57:=of_decide_eq_true h
 exact decide_eq_true (.inl h2)
theorem zfL {l:List UInt8} (h:l.all zal=true):l.all zbn=true:=by
 rw[List.all_eq_true] at h ⊢
 exact fun c hc=>zrp (h c hc)
theorem zhF {p:UInt8→Bool} {l:List UInt8} (h0:l≠[]) (h:l.all p=true):zdn p l=0:=by unfold zdn;rw[if_neg h0,if_pos h]
theorem ziB {p:UInt8→Bool} {l:List UInt8} (h0:l≠[]) (h:l.all p=false):zdn p l=1:=by unfold zdn;rw[if_neg h0,if_neg (by rw[h];exact Bool.false_ne_true)]
theorem zeU {p:UInt8→Bool} {l:List UInt8} (h:zdn p l=0):l≠[]∧l.all p=true:=by
 unfold zdn at h
 by_cases h0:l=[]
 ·rw[if_pos h0] at h;cases h
 ·rw[if_neg h0] at h
  by_cases h1:l.all p=true
  ·exact⟨h0,h1⟩
  ·rw[if_neg h1] at h;cases h
theorem zgx (p:UInt8→Bool) (l:List UInt8):zdn p l=0∨zdn p l=1∨zdn p l=3:=by
 unfold zdn;repeat' split
 all_goals simp
theorem zoL (base most:Nat):∀(l:List UInt8) (n m:Nat),n≤most→zd1 base most l n=some m→m≤most
 | [],n,m,hn,h=>by rw[zd1] at h;injection h with h;omega
 | c::l,n,m,hn,h=>by
  rw[zd1] at h
  split at h
  ·rename_i h1;exact zoL base most l _ m h1 h
  ·cases h
theorem valE_le (base most:Nat) (l:List UInt8):(zhQ base most l).2≤most:=by
 unfold zhQ
 rcases h:zd1 base most l 0 with _|n
 ·exact Nat.zero_le _
 ·exact zoL base most l 0 n (Nat.zero_le _) h
theorem ze5 (most:Nat) (l:List UInt8):(zaF most l).2≤most:=by
 unfold zaF;split
 ·split
  ·exact Nat.zero_le _
  ·exact valE_le _ _ _
 ·exact Nat.zero_le _
theorem zdZ (s:ByteArray):zdd s.data.toList=true↔∃h:1<s.size,s[0]=48:=by
 by_cases h0:0<s.size
 ·have e:=za0 s 0 h0
  rw[List.drop_zero] at e
  rw[e]
  by_cases h1:1<s.size
  ·rw[za0 s 1 h1]
   constructor
   ·intro h
    refine⟨h1,?_⟩
    unfold zdd at h
    split at h
    ·rename_i h2;injection h2
    ·cases h
   ·rintro⟨_,h⟩
    rw[h];rfl
  ·constructor
   ·intro h
    rw[List.drop_of_length_le (by rw[zaa];omega)] at h
    unfold zdd at h
    split at h
    ·rename_i h2;injection h2 with h2 h3;cases h3
    ·cases h
   ·rintro⟨h,_⟩;exact absurd h h1
 ·have:s.data.toList=[]:=List.eq_nil_of_length_eq_zero (by rw[zaa];omega)
  rw[this]
  constructor
  ·intro h;cases h
  ·rintro⟨h,_⟩;omega
end Go.Proofs.YtnnipcgblooemaaGreatDoor
namespace Go.Proofs.YtnnipcgblooemaaGreatDoor
open Go.RowKit
theorem nand_223:∀n:Fin 256,bits .and .u8 ((n.val:Nat):Int) 223=((n.val &&& 223:Nat):Int):=by decide +kernel
theorem nor_32:∀n:Fin 256,(97≤n.val∧n.val≤102∨65≤n.val∧n.val≤70)→bits .or .u8 ((n.val:Nat):Int) 32=(((if n.val≤70 then n.val+32 else n.val):Nat):Int):=by decide +kernel
theorem nhex_223:∀n:Fin 256,(97≤n.val∧n.val≤102∨65≤n.val∧n.val≤70)→(n.val &&& 223)=(if n.val≤70 then n.val else n.val - 32):=by decide +kernel
theorem zf2 (c:UInt8) (h:zbn c=true) (w:World) :
  Calls Tryz.prog 197 #[.int .u8 c.toNat] w fun e w'=>e=.returned (.int .u64 (dvN c:Int))∧w=w':=by
 rcases hd:zal c with _|_
 ·have h3:=hexC h
  have h2:¬(48≤c.toNat∧c.toNat≤57):=of_decide_eq_false hd
  have h4:97≤c.toNat∧c.toNat≤102∨65≤c.toNat∧c.toNat≤70:=by omega
  obtain⟨x,hx,hx0,hx1,hx2⟩:∃x:Int,bits .and .u8 (c.toNat:Int) 223=x∧65≤x∧x≤70∧x - 65+10=dvN c:=by
   refine⟨_,(nand_223 ⟨c.toNat,c.toNat_lt⟩).trans (congrArg Nat.cast (nhex_223 ⟨c.toNat,c.toNat_lt⟩ h4)),?_,?_,?_⟩
   all_goals simp only[dvN]
   all_goals (repeat' split)
   all_goals omega
  have HX:=Lib.hid hx2
  have HD:=Lib.hid hd
  clear h h3 h2 h4 hd hx2
  go_enter Tryz.func197,Tryz.ntmps197
  go_wp2_with fail
  refine(zaW _ _).mono ?_
  rintro e w' ⟨rfl,rfl⟩
  rw[HD.out]
  go_wp2_with fail
  go_ret
  exact⟨zdh (by rw[←HX.out]),rfl⟩
 ·have h2:=zkH hd
  have HX:=Lib.hid h2.1
  have hx0:=h2.2.1
  have hx1:=h2.2.2
  have HD:=Lib.hid hd
  clear h hd h2
  go_enter Tryz.func197,Tryz.ntmps197
  go_wp2_with fail
  refine(zaW _ _).mono ?_
  rintro e w' ⟨rfl,rfl⟩
  rw[HD.out]
  go_wp2_with fail
  go_ret
  exact⟨zdh (by rw[HX.out];omega),rfl⟩
theorem zbT (s:ByteArray) (w:World) (hs:s.size≤maxLen) :
  Calls Tryz.prog 180 #[.string s,.func (.func 136) #[] #[]] w fun e w'=>e=.returned (.int .i64 (zdn zal s.data.toList))∧w=w':=by
 unfold maxLen at hs
 by_cases h0:s.size=0
 ·obtain rfl:s=S []:=zc8 h0
  clear h0 hs
  go_enter Tryz.func180,Tryz.ntmps180
  go_wp2_with fail
  go_ret
  exact⟨rfl,rfl⟩
 ·have hne:s.data.toList≠[]:=fun e=>h0 (by rw[←zaa,e];rfl)
  have HE:=Lib.hid hne
  have he1:s.toList.isEmpty=false:=by rw[ByteArray.toList_eq];simpa using hne
  have hpos:0<s.size:=by omega
  clear h0 hne
  go_enter Tryz.func180,Tryz.ntmps180
  go_wp2_with fail
  go_loop [10] (fun i=>∃k:Nat,k≤s.size∧i=.int .i64 k∧Hid ((s.data.toList.take k).all zal=true)) (fun i=>s.size - (intOf i).toNat)
  case atStart=>exact⟨0,Nat.zero_le _,rfl,Lib.hid rfl⟩
  case round=>
   obtain⟨k,hk,rfl,HA⟩:=hrel
   by_cases hlt:k<s.size
   ·rcases hp:zal s[k] with _|_
    ·have HB:Hid (s.data.toList.all zal=false):=Lib.hid (zbk _ _ (k+1) (by rw[zce _ _ _ hlt,hp,Bool.and_false]))
     have HP:=Lib.hid hp
     clear hp
     go_wp2_with fail
     refine(zaW _ _).mono ?_
     rintro e w' ⟨rfl,rfl⟩
     rw[HP.out]
     go_wp2_with fail
     go_ret
     exact⟨zdh (by rw[ziB HE.out HB.out]),rfl⟩
    ·have HB:Hid ((s.data.toList.take (k+1)).all zal=true):=Lib.hid (by rw[zce _ _ _ hlt,hp,HA.out];rfl)
     have HP:=Lib.hid hp
     clear hp
     go_wp2_with fail
     refine(zaW _ _).mono ?_
     rintro e w' ⟨rfl,rfl⟩
     rw[HP.out]
     go_wp2_with fail
     go_round
     case rel=>exact⟨k+1,by omega,by go_num,HB⟩
     case measure=>simp[intOf];omega
   ·have HB:Hid (s.data.toList.all zal=true):=Lib.hid (by rw[←zbO s k hlt];exact HA.out)
    go_wp2_with fail
    go_ret
    exact⟨zdh (by rw[zhF HE.out HB.out]),rfl⟩
theorem all_at {p:UInt8→Bool} {s:ByteArray} (h:s.data.toList.all p=true) (k:Nat) (hk:k<s.size):p s[k]=true:=by
 rw[List.all_eq_true] at h
 exact h _ (by rw[←zkB s k hk,List.getD_eq_getElem?_getD,List.getElem?_eq_getElem (by rw[zaa];exact hk)];exact List.getElem_mem _)
theorem ze3 (s:ByteArray) (most:Int) (w:World) (hs:s.size≤maxLen) (h0:0≤most) (h1:most≤18446744073709551615) (hh:s.data.toList.all zbn=true) :
  Calls Tryz.prog 181 #[.string s,.int .u64 10,.int .u64 most] w fun e w'=>e=.returned (zhO (zhQ 10 most.toNat s.data.toList))∧w=w':=by
 unfold maxLen at hs
 obtain⟨M,rfl⟩:=Int.eq_ofNat_of_zero_le h0
 rw[Int.toNat_natCast]
 have HH:=Lib.hid hh
 clear hh h0
 go_enter Tryz.func181,Tryz.ntmps181
 go_wp2_with fail
 go_loop [8,13] (fun n i=>∃k m:Nat,k≤s.size∧m≤M∧i=.int .i64 k∧n=.int .u64 m∧Hid (zd1 10 M s.data.toList 0=zd1 10 M (s.data.toList.drop k) m)) (fun _ i=>s.size - (intOf i).toNat)
 case atStart=>exact⟨0,0,Nat.zero_le _,Nat.zero_le _,rfl,rfl,Lib.hid rfl⟩
 case round=>
  obtain⟨k,m,hk,hm,rfl,rfl,HV⟩:=hrel
  by_cases hlt:k<s.size
  ·have hx:=all_at HH.out k hlt
   have hd16:=dvN_lt hx
   have HX:=Lib.hid hx
   have HC:Hid (zd1 10 M (s.data.toList.drop k) m=if m*10+dvN s[k]≤M then zd1 10 M (s.data.toList.drop (k+1)) (m*10+dvN s[k]) else none):=Lib.hid (by rw[za0 s k hlt];rfl)
   clear hx
   generalize hdv:dvN s[k]=d at *
   have HD:=Lib.hid hdv
   clear hdv
   by_cases hdm:d≤M
   ·by_cases hok:m*10+d≤M
    ·have hq1:(m:Int)≤((M:Int) - d) / 10:=by omega
     have HN:Hid (zd1 10 M s.data.toList 0=zd1 10 M (s.data.toList.drop (k+1)) (m*10+d)):=Lib.hid (by rw[HV.out,HC.out,if_pos hok])
     go_wp2_with fail
     refine(zf2 _ HX.out _).mono ?_
     rintro e w' ⟨rfl,rfl⟩
     rw[HD.out]
     go_wp2_with fail
     go_round
     case rel=>exact⟨k+1,m*10+d,by omega,hok,by go_num,by go_num,HN⟩
     case measure=>simp[intOf];omega
    ·have hq1:((M:Int) - d) / 10<m:=by omega
     have HN:Hid (zd1 10 M s.data.toList 0=none):=Lib.hid (by rw[HV.out,HC.out,if_neg hok])
     clear hok
     go_wp2_with fail
     refine(zf2 _ HX.out _).mono ?_
     rintro e w' ⟨rfl,rfl⟩
     rw[HD.out]
     go_wp2_with fail
     go_ret2
     exact⟨by unfold zhQ;rw[HN.out];rfl,rfl⟩
   ·have hdm1:(M:Int)<d:=by omega
    have HN:Hid (zd1 10 M s.data.toList 0=none):=Lib.hid (by rw[HV.out,HC.out,if_neg (by omega)])
    clear hdm
    go_wp2_with fail
    refine(zf2 _ HX.out _).mono ?_
    rintro e w' ⟨rfl,rfl⟩
    rw[HD.out]
    go_wp2_with fail
    go_ret2
    exact⟨by unfold zhQ;rw[HN.out];rfl,rfl⟩
  ·have HN:Hid (zd1 10 M s.data.toList 0=some m):=Lib.hid (by rw[HV.out,List.drop_of_length_le (by rw[zaa];omega)];rfl)
   go_wp2_with fail
   go_ret2
   exact⟨by unfold zhQ;rw[HN.out];rfl,rfl⟩
theorem zcg (s:ByteArray) (most:Int) (w:World) (hs:s.size≤maxLen) (h0:0≤most) (h1:most≤18446744073709551615) :
  Calls Tryz.prog 145 #[.string s,.int .u64 most] w fun e w'=>e=.returned (zhO (zaF most.toNat s.data.toList))∧w=w':=by
 rcases zgx zal s.data.toList with hc|hc|hc
 ·have HA:Hid (s.data.toList.all zbn=true):=Lib.hid (zfL (zeU hc).2)
  have hpos:0<s.size:=by
   have:=(zeU hc).1
   have h2:s.data.toList.length≠0:=fun e=>this (List.eq_nil_of_length_eq_zero e)
   rw[zaa] at h2;omega
  rcases hz:zdd s.data.toList with _|_
  ·have HN:Hid (zaF most.toNat s.data.toList=zhQ 10 most.toNat s.data.toList):=Lib.hid (by unfold zaF;rw[if_pos hc,if_neg (by rw[hz];exact Bool.false_ne_true)])
   have HC:=Lib.hid hc
   rw[HN.out]
   have hor:s.size≤1∨((s[0].toNat:Int)==48)=false:=by
    by_cases h:s.size≤1
    ·exact .inl h
    ·refine .inr (beq_eq_false_iff_ne.2 fun e=>?_)
     have:s[0]=48:=UInt8.toNat_inj.1 (by show s[0].toNat=48;omega)
     have:=(zdZ s).2 ⟨by omega,this⟩
     rw[hz] at this;cases this
   clear hc hz
   unfold maxLen at hs
   rcases hor with hor|hor
   ·go_enter Tryz.func145,Tryz.ntmps145
    go_wp2_with fail
    refine(zbT s _ hs).mono ?_
    rintro e w' ⟨rfl,rfl⟩
    rw[HC.out]
    go_wp2_with fail
    refine(ze3 s most _ hs h0 h1 HA.out).mono ?_
    rintro e w' ⟨rfl,rfl⟩
    unfold zhO
    go_wp2_with fail
    go_ret2
    exact⟨rfl,rfl⟩
   ·by_cases h1s:s.size≤1
    ·clear hor
     go_enter Tryz.func145,Tryz.ntmps145
     go_wp2_with fail
     refine(zbT s _ hs).mono ?_
     rintro e w' ⟨rfl,rfl⟩
     rw[HC.out]
     go_wp2_with fail
     refine(ze3 s most _ hs h0 h1 HA.out).mono ?_
     rintro e w' ⟨rfl,rfl⟩
     unfold zhO
     go_wp2_with fail
     go_ret2
     exact⟨rfl,rfl⟩
    ·have h2s:1<s.size:=by omega
     clear h1s
     go_enter Tryz.func145,Tryz.ntmps145
     go_wp2_with fail
     refine(zbT s _ hs).mono ?_
     rintro e w' ⟨rfl,rfl⟩
     rw[HC.out]
     go_wp2_with fail
     refine(ze3 s most _ hs h0 h1 HA.out).mono ?_
     rintro e w' ⟨rfl,rfl⟩
     unfold zhO
     go_wp2_with fail
     go_ret2
     exact⟨rfl,rfl⟩
  ·obtain⟨h2s,h48⟩:=(zdZ s).1 hz
   have HN:Hid (zaF most.toNat s.data.toList=(6,0)):=Lib.hid (by unfold zaF;rw[if_pos hc,if_pos hz])
   have hb:((s[0].toNat:Int)==48)=true:=by rw[h48];rfl
   have HC:=Lib.hid hc
   rw[HN.out]
   clear hc hz h48
   go_enter Tryz.func145,Tryz.ntmps145
   go_wp2_with fail
   refine(zbT s _ hs).mono ?_
   rintro e w' ⟨rfl,rfl⟩
   rw[HC.out]
   go_wp2_with fail
   go_ret2
   exact⟨rfl,rfl⟩
 ·have HN:Hid (zaF most.toNat s.data.toList=(1,0)):=Lib.hid (by unfold zaF;rw[hc,if_neg (by decide)])
  have HC:=Lib.hid hc
  clear hc
  rw[HN.out]
  go_enter Tryz.func145,Tryz.ntmps145
  go_wp2_with fail
  refine(zbT s _ hs).mono ?_
  rintro e w' ⟨rfl,rfl⟩
  rw[HC.out]
  go_wp2_with fail
  go_ret2
  exact⟨rfl,rfl⟩
 ·have HN:Hid (zaF most.toNat s.data.toList=(3,0)):=Lib.hid (by unfold zaF;rw[hc,if_neg (by decide)])
  have HC:=Lib.hid hc
  clear hc
  rw[HN.out]
  go_enter Tryz.func145,Tryz.ntmps145
  go_wp2_with fail
  refine(zbT s _ hs).mono ?_
  rintro e w' ⟨rfl,rfl⟩
  rw[HC.out]
  go_wp2_with fail
  go_ret2
  exact⟨rfl,rfl⟩
end Go.Proofs.YtnnipcgblooemaaGreatDoor
namespace Go.Proofs.YtnnipcgblooemaaGreatDoor
open Go.RowKit
theorem zn4 {c:UInt8} (h:zbn c=true):(48≤c.toNat∧c.toNat≤57∧dvN c=c.toNat - 48)∨(57<c.toNat∧∃x:Int,bits .or .u8 (c.toNat:Int) 32=x∧97≤x∧x≤102∧x - 97+10=dvN c):=by
 have h3:=hexC h
 by_cases hd:c.toNat≤57
 ·refine .inl ⟨by omega,hd,?_⟩
  unfold dvN;rw[if_pos hd]
 ·have h4:97≤c.toNat∧c.toNat≤102∨65≤c.toNat∧c.toNat≤70:=by omega
  refine .inr ⟨by omega,_,nor_32 ⟨c.toNat,c.toNat_lt⟩ h4,?_,?_,?_⟩
  all_goals simp only[dvN]
  all_goals (repeat' split)
  all_goals omega
theorem zl1 {M d:Nat} (hM:(M:Int)≤18446744073709551615) (hd:d<16) (h:M<d):∃y:Int,IntKind.u64.wrap ((M:Int) - (d:Int))=y∧1000<y:=by
 refine⟨_,rfl,?_⟩
 rw[IntKind.wrap_u64]
 omega
set_option maxHeartbeats 4000000 in
theorem zen (s:ByteArray) (most:Int) (w:World) (hs:s.size≤maxLen) (h0:0≤most) (h1:most≤18446744073709551615) :
  Calls Tryz.prog 111 #[.string s,.int .u64 10,.int .u64 most] w fun e w'=>e=.returned (zhO (zgB zal 10 most.toNat s.data.toList))∧w=w':=by
 unfold maxLen at hs
 obtain⟨M,rfl⟩:=Int.eq_ofNat_of_zero_le h0
 rw[Int.toNat_natCast]
 clear h0
 by_cases h0:s.size=0
 ·obtain rfl:s=S []:=zc8 h0
  clear h0 hs
  go_enter Tryz.func111,Tryz.ntmps111
  go_wp2_with fail
  go_ret2
  exact⟨rfl,rfl⟩
 ·have hne:s.data.toList≠[]:=fun e=>h0 (by rw[←zaa,e];rfl)
  have HE:=Lib.hid hne
  have he1:s.toList.isEmpty=false:=by rw[ByteArray.toList_eq];simpa using hne
  have hpos:0<s.size:=by omega
  clear h0 hne
  go_enter Tryz.func111,Tryz.ntmps111
  go_wp2_with fail
  go_loop [8] (fun i=>∃k:Nat,k≤s.size∧i=.int .i64 k∧Hid ((s.data.toList.take k).all zal=true)) (fun i=>s.size - (intOf i).toNat)
  case atStart=>exact⟨0,Nat.zero_le _,rfl,Lib.hid rfl⟩
  case round=>
   obtain⟨k,hk,rfl,HA⟩:=hrel
   by_cases hlt:k<s.size
   ·rcases hp:zal s[k] with _|_
    ·have HB:Hid (s.data.toList.all zal=false):=Lib.hid (zbk _ _ (k+1) (by rw[zce _ _ _ hlt,hp,Bool.and_false]))
     have HP:=Lib.hid hp
     clear hp
     go_wp2_with fail
     refine(za6 _ _).mono ?_
     rintro e w' ⟨rfl,rfl⟩
     rw[HP.out]
     go_wp2_with fail
     go_ret2
     exact⟨by unfold zgB;rw[ziB HE.out HB.out,if_neg (by decide)];rfl,rfl⟩
    ·have HB:Hid ((s.data.toList.take (k+1)).all zal=true):=Lib.hid (by rw[zce _ _ _ hlt,hp,HA.out];rfl)
     have HP:=Lib.hid hp
     clear hp
     go_wp2_with fail
     refine(za6 _ _).mono ?_
     rintro e w' ⟨rfl,rfl⟩
     rw[HP.out]
     go_wp2_with fail
     go_round
     case rel=>exact⟨k+1,by omega,by go_num,HB⟩
     case measure=>simp[intOf];omega
   ·have HB:Hid (s.data.toList.all zal=true):=Lib.hid (by rw[←zbO s k hlt];exact HA.out)
    have HQ:Hid (zgB zal 10 M s.data.toList=zhQ 10 M s.data.toList):=Lib.hid (by unfold zgB;rw[zhF HE.out HB.out,if_pos rfl])
    have HH:Hid (s.data.toList.all zbn=true):=Lib.hid (zfL HB.out)
    clear HA HB
    go_wp2_with fail
    go_loop [9,10,11] (fun n i _=>∃k m:Nat,k≤s.size∧m≤M∧i=.int .i64 k∧n=.int .u64 m∧Hid (zd1 10 M s.data.toList 0=zd1 10 M (s.data.toList.drop k) m)) (fun _ i _=>s.size - (intOf i).toNat)
    case atStart=>exact⟨0,0,Nat.zero_le _,Nat.zero_le _,rfl,rfl,Lib.hid rfl⟩
    case round=>
     obtain⟨k,m,hk,hm,rfl,rfl,HV⟩:=hrel
     by_cases hlt:k<s.size
     ·have hx:=all_at HH.out k hlt
      have hd16:=dvN_lt hx
      have hcs:=zn4 hx
      have HC:Hid (zd1 10 M (s.data.toList.drop k) m=if m*10+dvN s[k]≤M then zd1 10 M (s.data.toList.drop (k+1)) (m*10+dvN s[k]) else none):=Lib.hid (by rw[za0 s k hlt];rfl)
      clear hx
      generalize hdv:dvN s[k]=d at *
      clear hdv
      rcases hcs with ⟨c1,c2,hc3⟩|⟨c1,x,hx,hx1,hx2,hx3⟩
      ·have HD:=Lib.hid hc3
       clear hc3
       by_cases hdm:d≤M
       ·by_cases hok:m*10+d≤M
        ·have HN:Hid (zd1 10 M s.data.toList 0=zd1 10 M (s.data.toList.drop (k+1)) (m*10+d)):=Lib.hid (by rw[HV.out,HC.out,if_pos hok])
         have e1:(m:Int)≤(M:Int) / 10:=by omega
         have hde:=HD.out
         have hdi:(s[k].toNat:Int) - 48=(d:Int):=by omega
         have e2:(m:Int)*10≤(M:Int) - ((s[k].toNat:Int) - 48):=by omega
         have e3:(s[k].toNat:Int) - 48≤(M:Int):=by omega
         have HI:=Lib.hid hdi
         clear hde hdi
         go_wp2_with fail
         go_round
         case rel=>exact⟨k+1,m*10+d,by omega,hok,by go_num,congrArg (Value.int .u64) (by have:=HI.out;omega),HN⟩
         case measure=>simp[intOf];omega
        ·have HN:Hid (zd1 10 M s.data.toList 0=none):=Lib.hid (by rw[HV.out,HC.out,if_neg hok])
         by_cases e1:(m:Int)≤(M:Int) / 10
         ·have hde:=HD.out
          have e2:(M:Int) - ((s[k].toNat:Int) - 48)<(m:Int)*10:=by omega
          have e3:(s[k].toNat:Int) - 48≤(M:Int):=by omega
          have e4:(m:Int)*10≤18446744073709551615:=by omega
          clear hde hok
          go_wp2_with fail
          go_ret2
          exact⟨by rw[HQ.out];unfold zhQ;rw[HN.out];rfl,rfl⟩
         ·have e2:(M:Int) / 10<(m:Int):=by omega
          clear e1 hok
          go_wp2_with fail
          go_ret2
          exact⟨by rw[HQ.out];unfold zhQ;rw[HN.out];rfl,rfl⟩
       ·have HN:Hid (zd1 10 M s.data.toList 0=none):=Lib.hid (by rw[HV.out,HC.out,if_neg (by omega)])
        by_cases e1:(m:Int)≤(M:Int) / 10
        ·have hde:=HD.out
         obtain⟨y,hy,hy1⟩:=zl1 h1 hd16 (by omega:M<d)
         have hdi:(d:Int)=(s[k].toNat:Int) - 48:=by omega
         rw[hdi] at hy
         have e3:(M:Int)<(s[k].toNat:Int) - 48:=by omega
         have e4:(m:Int)*10≤1000:=by omega
         clear hde hdi hdm
         go_wp2_with fail
         go_ret2
         exact⟨by rw[HQ.out];unfold zhQ;rw[HN.out];rfl,rfl⟩
        ·have e2:(M:Int) / 10<(m:Int):=by omega
         clear e1 hdm
         go_wp2_with fail
         go_ret2
         exact⟨by rw[HQ.out];unfold zhQ;rw[HN.out];rfl,rfl⟩
      ·have HD:=Lib.hid hx3
       have c3:(10:Int)≤d:=by omega
       clear hx3
       by_cases hdm:d≤M
       ·by_cases hok:m*10+d≤M
        ·have HN:Hid (zd1 10 M s.data.toList 0=zd1 10 M (s.data.toList.drop (k+1)) (m*10+d)):=Lib.hid (by rw[HV.out,HC.out,if_pos hok])
         have e1:(m:Int)≤(M:Int) / 10:=by omega
         have hde:=HD.out
         have hdi:x - 97+10=(d:Int):=by omega
         have e2:(m:Int)*10≤(M:Int) - (x - 97+10):=by omega
         have e3:x - 97+10≤(M:Int):=by omega
         have HI:=Lib.hid hdi
         clear hde hdi
         go_wp2_with fail
         go_round
         case rel=>exact⟨k+1,m*10+d,by omega,hok,by go_num,congrArg (Value.int .u64) (by have:=HI.out;omega),HN⟩
         case measure=>simp[intOf];omega
        ·have HN:Hid (zd1 10 M s.data.toList 0=none):=Lib.hid (by rw[HV.out,HC.out,if_neg hok])
         by_cases e1:(m:Int)≤(M:Int) / 10
         ·have hde:=HD.out
          have e2:(M:Int) - (x - 97+10)<(m:Int)*10:=by omega
          have e3:x - 97+10≤(M:Int):=by omega
          have e4:(m:Int)*10≤18446744073709551615:=by omega
          clear hde hok
          go_wp2_with fail
          go_ret2
          exact⟨by rw[HQ.out];unfold zhQ;rw[HN.out];rfl,rfl⟩
         ·have e2:(M:Int) / 10<(m:Int):=by omega
          clear e1 hok
          go_wp2_with fail
          go_ret2
          exact⟨by rw[HQ.out];unfold zhQ;rw[HN.out];rfl,rfl⟩
       ·have HN:Hid (zd1 10 M s.data.toList 0=none):=Lib.hid (by rw[HV.out,HC.out,if_neg (by omega)])
        by_cases e1:(m:Int)≤(M:Int) / 10
        ·have hde:=HD.out
         obtain⟨y,hy,hy1⟩:=zl1 h1 hd16 (by omega:M<d)
         have hdi:(d:Int)=x - 97+10:=by omega
         rw[hdi] at hy
         have e3:(M:Int)<x - 97+10:=by omega
         have e4:(m:Int)*10≤1000:=by omega
         clear hde hdi hdm
         go_wp2_with fail
         go_ret2
         exact⟨by rw[HQ.out];unfold zhQ;rw[HN.out];rfl,rfl⟩
        ·have e2:(M:Int) / 10<(m:Int):=by omega
         clear e1 hdm
         go_wp2_with fail
         go_ret2
         exact⟨by rw[HQ.out];unfold zhQ;rw[HN.out];rfl,rfl⟩
     ·have HN:Hid (zd1 10 M s.data.toList 0=some m):=Lib.hid (by rw[HV.out,List.drop_of_length_le (by rw[zaa];omega)];rfl)
      go_wp2_with fail
      go_ret2
      exact⟨by rw[HQ.out];unfold zhQ;rw[HN.out];rfl,rfl⟩
theorem ziJ (most:Nat) (l:List UInt8):((zgB zal 10 most l).1=0∨(zgB zal 10 most l).1=4)∧(zdd l=true→zaF most l=(6,0))∧(zdd l=false→zaF most l=zgB zal 10 most l) ∨
  ((zgB zal 10 most l).1=1∨(zgB zal 10 most l).1=3)∧zaF most l=zgB zal 10 most l:=by
 unfold zgB zaF
 rcases zgx zal l with hc|hc|hc
 ·rw[hc,if_pos rfl,if_pos rfl]
  refine .inl ⟨?_,fun hz=>by rw[if_pos hz],fun hz=>by rw[if_neg (by rw[hz];exact Bool.false_ne_true)]⟩
  unfold zhQ
  rcases zd1 10 most l 0 with _|n
  ·exact .inr rfl
  ·exact .inl rfl
 ·rw[hc,if_neg (by decide),if_neg (by decide)];exact .inr ⟨.inl rfl,rfl⟩
 ·rw[hc,if_neg (by decide),if_neg (by decide)];exact .inr ⟨.inr rfl,rfl⟩
theorem zdj (s:ByteArray) (most:Int) (w:World) (hs:s.size≤maxLen) (h0:0≤most) (h1:most≤18446744073709551615) :
  Calls Tryz.prog 81 #[.string s,.int .u64 most] w fun e w'=>e=.returned (zhO (zaF most.toNat s.data.toList))∧w=w':=by
 unfold maxLen at hs
 have hcs:=ziJ most.toNat s.data.toList
 rcases hn:zgB zal 10 most.toNat s.data.toList with ⟨er,v⟩
 rw[hn] at hcs
 have HN:=Lib.hid hn
 clear hn
 rcases hcs with ⟨he,hz1,hz0⟩|⟨he,hz⟩
 ·rcases hz:zdd s.data.toList with _|_
  ·have HS:=Lib.hid (hz0 hz)
   have hor:s.size≤1∨(1<s.size∧∃h:0<s.size,((s[0].toNat:Int)==48)=false):=by
    by_cases h:s.size≤1
    ·exact .inl h
    ·refine .inr ⟨by omega,by omega,beq_eq_false_iff_ne.2 fun e=>?_⟩
     have:s[0]=48:=UInt8.toNat_inj.1 (by show s[0].toNat=48;omega)
     have:=(zdZ s).2 ⟨by omega,this⟩
     rw[hz] at this;cases this
   rw[HS.out]
   clear hz0 hz1 hz HS
   rcases he with rfl|rfl
   all_goals rcases hor with hor|⟨hor,hpos,hor2⟩
   all_goals go_enter Tryz.func81,Tryz.ntmps81
   all_goals go_wp2_with fail
   all_goals refine(zen s most _ hs h0 h1).mono ?_
   all_goals rintro e w' ⟨rfl,rfl⟩
   all_goals rw[HN.out]
   all_goals unfold zhO
   all_goals go_wp2_with fail
   all_goals go_ret2
   all_goals exact⟨rfl,rfl⟩
  ·obtain⟨h2s,h48⟩:=(zdZ s).1 hz
   have hb:((s[0].toNat:Int)==48)=true:=by rw[h48];rfl
   have HS:=Lib.hid (hz1 hz)
   rw[HS.out]
   clear hz0 hz1 hz HS h48
   rcases he with rfl|rfl
   all_goals go_enter Tryz.func81,Tryz.ntmps81
   all_goals go_wp2_with fail
   all_goals refine(zen s most _ hs h0 h1).mono ?_
   all_goals rintro e w' ⟨rfl,rfl⟩
   all_goals rw[HN.out]
   all_goals unfold zhO
   all_goals go_wp2_with fail
   all_goals go_ret2
   all_goals exact⟨rfl,rfl⟩
 ·rw[hz]
  clear hz
  rcases he with rfl|rfl
  all_goals go_enter Tryz.func81,Tryz.ntmps81
  all_goals go_wp2_with fail
  all_goals refine(zen s most _ hs h0 h1).mono ?_
  all_goals rintro e w' ⟨rfl,rfl⟩
  all_goals rw[HN.out]
  all_goals unfold zhO
  all_goals go_wp2_with fail
  all_goals go_ret2
  all_goals exact⟨rfl,rfl⟩
end Go.Proofs.YtnnipcgblooemaaGreatDoor
namespace Go.Proofs.YtnnipcgblooemaaGreatDoor
theorem zfh {m:Nat} (h:m<10):Lib.decDigits m=[UInt8.ofNat (48+m)]:=Lib.decDigits_one h
theorem zgO {m:Nat} (h:¬m<10):Lib.decDigits m=Lib.decDigits (m / 10)++[UInt8.ofNat (48+m % 10)]:=by
 rw[Lib.decDigits,dif_neg h]
theorem zgU (b M:Nat):∀(l1 l2:List UInt8) (a:Nat),zd1 b M (l1++l2) a=match zd1 b M l1 a with|some m=>zd1 b M l2 m|none=>none
 | [],l2,a=>rfl
 | c::l,l2,a=>by
  rw[List.cons_append,zd1,zd1]
  split
  ·exact zgU b M l l2 _
  ·rfl
theorem zrq {d:Nat} (h:d<10):(UInt8.ofNat (48+d)).toNat=48+d:=by rw[UInt8.toNat_ofNat'];omega
theorem zns {d:Nat} (h:d<10):dvN (UInt8.ofNat (48+d))=d∧zal (UInt8.ofNat (48+d))=true:=by
 have e:=zrq h
 have h2:zal (UInt8.ofNat (48+d))=true:=decide_eq_true (by rw[e];omega)
 exact⟨by rw[(zkH h2).1,e];omega,h2⟩
theorem valU_dec (M:Nat):∀(k n:Nat),n≤k→n≤M→zd1 10 M (Lib.decDigits n) 0=some n:=by
 intro k
 induction k with
 | zero=>
  intro n hn hM
  obtain rfl:n=0:=by omega
  rw[zfh (by decide)]
  rfl
 | succ k ih=>
  intro n hn hM
  by_cases h10:n<10
  ·rw[zfh h10,zd1,(zns h10).1,if_pos (by omega),zd1]
   congr 1;omega
  ·rw[zgO h10,zgU,ih (n / 10) (by omega) (by omega)]
   simp only
   rw[zd1,(zns (show n % 10<10 by omega)).1,if_pos (by omega),zd1]
   congr 1;omega
theorem zlJ:∀(k n:Nat),n≤k→(Lib.decDigits n).all zal=true∧Lib.decDigits n≠[]:=by
 intro k
 induction k with
 | zero=>
  intro n hn
  obtain rfl:n=0:=by omega
  rw[zfh (by decide)]
  exact⟨by decide,by simp⟩
 | succ k ih=>
  intro n hn
  by_cases h10:n<10
  ·rw[zfh h10]
   exact⟨by rw[List.all_cons,(zns h10).2];rfl,by simp⟩
  ·rw[zgO h10]
   exact⟨by rw[List.all_append,(ih (n / 10) (by omega)).1,List.all_cons,(zns (show n % 10<10 by omega)).2];rfl,by simp⟩
theorem dec_head:∀(k n:Nat),n≤k→1≤n→∃c t,Lib.decDigits n=c::t∧c≠48:=by
 intro k
 induction k with
 | zero=>intro n hn h;omega
 | succ k ih=>
  intro n hn h
  by_cases h10:n<10
  ·refine⟨_,_,zfh h10,fun e=>?_⟩
   have:=congrArg UInt8.toNat e
   rw[zrq h10] at this
   have h48:(48:UInt8).toNat=48:=rfl
   omega
  ·obtain⟨c,t,h1,h2⟩:=ih (n / 10) (by omega) (by omega)
   exact⟨c,t++[UInt8.ofNat (48+n % 10)],by rw[zgO h10,h1];rfl,h2⟩
theorem znM {c:UInt8} {t:List UInt8} (h:c≠48):zdd (c::t)=false:=by
 unfold zdd
 split
 ·rename_i h2;injection h2 with h2;exact absurd h2 h
 ·rfl
theorem zlI (n:Nat):zdd (Lib.decDigits n)=false:=by
 by_cases h:n=0
 ·subst h;rw[zfh (by decide)];rfl
 ·obtain⟨c,t,h1,h2⟩:=dec_head n n (Nat.le_refl _) (by omega)
  rw[h1];exact znM h2
theorem znS (n M:Nat) (h:n≤M):zaF M (Lib.decDigits n)=(0,n):=by
 have ha:=zlJ n n (Nat.le_refl _)
 unfold zaF
 rw[zhF ha.2 ha.1,if_pos rfl,if_neg (by rw[zlI];exact Bool.false_ne_true)]
 unfold zhQ
 rw[valU_dec M n n (Nat.le_refl _) h]
 rfl
end Go.Proofs.YtnnipcgblooemaaGreatDoor
namespace Go.Proofs.YtnnipcgblooemaaGreatDoor
open Go.RowKit Go.Sort
def Pw (w : World) : Prop := Lib.TabIs Tryz.prog w "internal/strconv.uint64pow10" .u64 Lib.pow10Tab
theorem Pw.keep {w w':World} (h:Pw w) (hq:Qb w w'):Pw w':=Lib.tabBelow_of_tabIs h w' hq
theorem Pw.drew {w:World} (h:Pw w):Pw w.drew:=h
theorem Pw.alloc {w:World} (h:Pw w) (o:Obj):Pw (w.alloc o):=Lib.tabIs_alloc h o
theorem qb_grow (w:World) (k:Nat) (os:Array Obj):Qb w (grow (w.drewN k) os):=Lib.below_grow w.heap.size w (Nat.le_refl _) k os
end Go.Proofs.YtnnipcgblooemaaGreatDoor
namespace Go.Proofs.YtnnipcgblooemaaGreatDoor
open Go.RowKit
theorem str_cons (x:Nat) (t:List UInt8):(strOfNums [48+(x:Int)]++S t:ByteArray)=S (UInt8.ofNat (48+x)::t):=by
 rw[←S_of (strOfNums [48+(x:Int)]++S t),ByteArray.data_append,Array.toList_append,strOfNums_data]
 have:(48+(x:Int)).toNat=48+x:=by omega
 simp[this]
set_option maxHeartbeats 1000000 in
theorem zjV (u:Nat) (hu64:u<18446744073709551616) (w:World) :
  Calls Tryz.prog 73 #[.int .u64 u] w fun e w'=>e=.returned (.string (S (Lib.decDigits u)))∧Qb w w':=by
 go_enter Tryz.func73,Tryz.ntmps73
 go_wp2_with fail
 go_loopw [0,3] (fun n s wr=>∃(m:Nat) (t:List UInt8),m≤u∧n=.int .u64 m∧s=.string (S t)∧Hid (Lib.decDigits u=Lib.decDigits m++t)∧Qb w wr) (fun n _ _=>(intOf n).toNat)
 case atStart=>exact⟨u,[],Nat.le_refl _,rfl,rfl,Lib.hid (by simp),Qb.refl w⟩
 case round=>
  obtain⟨m,t,hm,rfl,rfl,HD,hq⟩:=hrel
  have hst:=conv_new wr [48+(m:Int) % 10] 1 rfl
  simp only[List.map_cons,List.map_nil] at hst
  have HC:Hid ((strOfNums [48+(m:Int) % 10]++S t:ByteArray)=S (UInt8.ofNat (48+m % 10)::t)):=Lib.hid (str_cons (m % 10) t)
  have hsz:(S t).size≤30:=by
   have h1:=congrArg List.length HD.out
   rw[List.length_append,Lib.decDigits_length] at h1
   have h2:=Lib.nDigits_le20 u hu64
   rw[zac];omega
  have hsx:(strOfNums [48+(m:Int) % 10]).size≤1:=by rw[←zaa,strOfNums_data];simp
  by_cases h10:m<10
  ·have HN:Hid (Lib.decDigits u=UInt8.ofNat (48+m % 10)::t):=Lib.hid (by rw[HD.out,zfh h10,Nat.mod_eq_of_lt h10];rfl)
   have hz:((m:Int) / 10==0)=true:=by rw[beq_iff_eq];omega
   clear HD
   go_wp2_with fail
   go_ret
   exact⟨zeo (by rw[HN.out,HC.out]),hq.alloc _⟩
  ·have HN:Hid (Lib.decDigits u=Lib.decDigits (m / 10)++(UInt8.ofNat (48+m % 10)::t)):=Lib.hid (by rw[HD.out,zgO h10,List.append_assoc];rfl)
   have hz:((m:Int) / 10==0)=false:=by rw[beq_eq_false_iff_ne];omega
   clear HD
   go_wp2_with fail
   go_roundw
   case rel=>exact⟨m / 10,_,by omega,by go_num,congrArg Value.string HC.out,HN,hq.alloc _⟩
   case measure=>simp[intOf];omega
end Go.Proofs.YtnnipcgblooemaaGreatDoor
namespace Go.Proofs.YtnnipcgblooemaaGreatDoor.Sx
open Go.RowKit
set_option maxRecDepth 100000
open Option renaming some → Sa, none → Sb
def c_law27_FingerNames:SCode :=.seq (.reg [⟨Sa 3,.box 26 (.t 0),Sb⟩,⟨Sa 4,.box 28 (.t 1),Sb⟩,⟨Sa 6,.mv (.c (.b false)),Sb⟩]) (.seq (.seq (.reg [⟨Sa 8,.call 4 [],Sb⟩,⟨Sa 9,.not (.t 8),Sb⟩]) (.cond (.t 9) (.seq (.reg [⟨Sa 6,.mv (.c (.b false)),Sb⟩]) (.ret)) (.skip))) (.seq (.seq (.reg [⟨Sa 10,.loadn 4 (.t 3),Sb⟩,⟨Sa 11,.call 5 [.t 10],Sb⟩,⟨Sa 12,.not (.t 11),Sb⟩,⟨Sa 13,.mv (.t 12),Sb⟩,⟨Sa 14,.loadn 4 (.t 4),some (13,false)⟩,⟨Sa 15,.call 6 [.t 14],some (13,false)⟩,⟨Sa 16,.not (.t 15),some (13,false)⟩,⟨Sa 17,.pick (.t 13) (.c (.b true)) (.t 16),Sb⟩]) (.cond (.t 17) (.seq (.reg [⟨Sa 6,.mv (.c (.b true)),Sb⟩]) (.ret)) (.skip))) (.seq (.reg [⟨Sa 18,.mv (.t 2),Sb⟩,⟨Sa 19,.call 7 [.t 18],Sb⟩,⟨Sa 7,.alloc 28 [.i .i64 0,.s [],.s [],.i .i64 0],Sb⟩,⟨Sb,.store 4 (.t 7) (.t 19),Sb⟩]) (.seq (.drw [⟨Sa 20,.loadn 4 (.t 3),Sb⟩,⟨Sa 21,.loadn 4 (.t 4),Sb⟩,⟨Sa 22,.call 9 [.t 20,.t 21],Sb⟩,⟨Sa 23,.loadn 4 (.t 3),Sb⟩,⟨Sa 24,.loadn 4 (.t 4),Sb⟩,⟨Sa 25,.call 10 [.t 23,.t 24],Sb⟩,⟨Sa 26,.call 8 [.t 22,.t 25],Sb⟩,⟨Sa 27,.mv (.t 26),Sb⟩,⟨Sa 28,.loadn 4 (.t 3),some (27,true)⟩,⟨Sa 29,.loadn 4 (.t 7),some (27,true)⟩,⟨Sa 30,.call 9 [.t 28,.t 29],some (27,true)⟩,⟨Sa 31,.loadn 4 (.t 3),some (27,true)⟩,⟨Sa 32,.loadn 4 (.t 7),some (27,true)⟩,⟨Sa 33,.call 10 [.t 31,.t 32],some (27,true)⟩,⟨Sa 34,.call 8 [.t 30,.t 33],some (27,true)⟩,⟨Sa 35,.pick (.t 27) (.t 34) (.c (.b false)),Sb⟩,⟨Sa 6,.mv (.t 35),Sb⟩] 17 []) (.ret)))))
theorem is_law27_FingerNames:FnIs Tryz.prog 3 36 [.tmp 6] c_law27_FingerNames:=⟨⟨_,_,Tryz.func3,rfl,rfl,by kernel_rfl,by kernel_rfl⟩⟩
def c_law27_sane:SCode :=.seq (.reg [⟨Sa 0,.mv (.c (.b false)),Sb⟩]) (.seq (.reg [⟨Sa 6,.call 12 [],Sb⟩,⟨Sa 7,.call 11 [.t 6],Sb⟩,⟨Sa 5,.mv (.t 7),Sb⟩,⟨Sa 8,.ext (.t 5) 0,Sb⟩,⟨Sa 9,.ext (.t 5) 1,Sb⟩,⟨Sa 1,.alloc 39 [.s [],.i .i64 0,.s [],.s [],.s [],.b false,.b false],Sb⟩,⟨Sb,.store 7 (.t 1) (.t 8),Sb⟩,⟨Sa 2,.mv (.t 9),Sb⟩]) (.seq (.reg [⟨Sa 11,.build [.i .i64 0,.s [],.s [],.i .i64 0] [],Sb⟩,⟨Sa 12,.call 11 [.t 11],Sb⟩,⟨Sa 10,.mv (.t 12),Sb⟩,⟨Sa 13,.ext (.t 10) 0,Sb⟩,⟨Sa 14,.ext (.t 10) 1,Sb⟩,⟨Sa 3,.alloc 39 [.s [],.i .i64 0,.s [],.s [],.s [],.b false,.b false],Sb⟩,⟨Sb,.store 7 (.t 3) (.t 13),Sb⟩,⟨Sa 4,.mv (.t 14),Sb⟩]) (.seq (.reg [⟨Sa 15,.mv (.t 2),Sb⟩,⟨Sa 16,.bin .eql (.t 15) (.c (.i .i64 0)),Sb⟩,⟨Sa 17,.mv (.t 16),Sb⟩,⟨Sa 18,.loadn 7 (.t 1),some (17,true)⟩,⟨Sa 19,.call 13 [.t 18],some (17,true)⟩,⟨Sa 20,.bin .eql (.t 19) (.c (.s [104,116,116,112,115,58,47,47,101,120,97,109,112,108,101,46,99,111,109,47,46,119,101,108,108,45,107,110,111,119,110,47,119,101,98,102,105,110,103,101,114,63,114,101,115,111,117,114,99,101,61,97,99,99,116,37,51,65,98,111,98,37,52,48,101,120,97,109,112,108,101,46,99,111,109])),some (17,true)⟩,⟨Sa 21,.pick (.t 17) (.t 20) (.c (.b false)),Sb⟩,⟨Sa 22,.mv (.t 21),Sb⟩,⟨Sa 23,.mv (.t 4),some (22,true)⟩,⟨Sa 24,.bin .eql (.t 23) (.c (.i .i64 8)),some (22,true)⟩,⟨Sa 25,.pick (.t 22) (.t 24) (.c (.b false)),Sb⟩,⟨Sa 0,.mv (.t 25),Sb⟩]) (.ret))))
theorem is_law27_sane:FnIs Tryz.prog 4 26 [.tmp 0] c_law27_sane:=⟨⟨_,_,Tryz.func4,rfl,rfl,by kernel_rfl,by kernel_rfl⟩⟩
def c_keep_JRD:SCode :=.seq (.reg [⟨Sa 1,.box 26 (.t 0),Sb⟩,⟨Sa 2,.mv (.c (.b false)),Sb⟩]) (.seq (.seq (.reg [⟨Sa 7,.fad 0 (.t 1),Sb⟩,⟨Sa 8,.load1 (.t 7),Sb⟩,⟨Sa 9,.lens (.t 8),Sb⟩,⟨Sa 10,.bin .gtr (.t 9) (.c (.i .i64 300)),Sb⟩,⟨Sa 11,.mv (.t 10),Sb⟩,⟨Sa 12,.fad 1 (.t 1),some (11,false)⟩,⟨Sa 13,.load1 (.t 12),some (11,false)⟩,⟨Sa 14,.lenr (.t 13),some (11,false)⟩,⟨Sa 15,.bin .gtr (.t 14) (.c (.i .i64 70)),some (11,false)⟩,⟨Sa 16,.pick (.t 11) (.c (.b true)) (.t 15),Sb⟩,⟨Sa 17,.mv (.t 16),Sb⟩,⟨Sa 18,.fad 3 (.t 1),some (17,false)⟩,⟨Sa 19,.load1 (.t 18),some (17,false)⟩,⟨Sa 20,.lenr (.t 19),some (17,false)⟩,⟨Sa 21,.bin .gtr (.t 20) (.c (.i .i64 70)),some (17,false)⟩,⟨Sa 22,.pick (.t 17) (.c (.b true)) (.t 21),Sb⟩,⟨Sa 23,.mv (.t 22),Sb⟩,⟨Sa 24,.fad 2 (.t 1),some (23,false)⟩,⟨Sa 25,.load1 (.t 24),some (23,false)⟩,⟨Sa 26,.lenr (.t 25),some (23,false)⟩,⟨Sa 27,.bin .gtr (.t 26) (.c (.i .i64 70)),some (23,false)⟩,⟨Sa 28,.pick (.t 23) (.c (.b true)) (.t 27),Sb⟩]) (.cond (.t 28) (.seq (.reg [⟨Sa 2,.mv (.c (.b false)),Sb⟩]) (.ret)) (.skip))) (.seq (.seq (.reg [⟨Sa 29,.fad 1 (.t 1),Sb⟩,⟨Sa 30,.load1 (.t 29),Sb⟩,⟨Sa 31,.lenr (.t 30),Sb⟩,⟨Sa 32,.mv (.c (.i .i64 0)),Sb⟩]) (.blk 0 (.loop (.seq (.reg [⟨Sa 33,.bin .lss (.t 32) (.t 31),Sb⟩]) (.seq (.cond (.t 33) (.skip) (.exit 0)) (.seq (.blk 1 (.seq (.reg [⟨Sa 34,.iad 1 (.t 30) (.t 32),Sb⟩,⟨Sa 35,.load1 (.t 34),Sb⟩,⟨Sa 4,.mv (.t 35),Sb⟩]) (.seq (.reg [⟨Sa 36,.mv (.t 4),Sb⟩,⟨Sa 37,.lens (.t 36),Sb⟩,⟨Sa 38,.bin .gtr (.t 37) (.c (.i .i64 300)),Sb⟩]) (.cond (.t 38) (.seq (.reg [⟨Sa 2,.mv (.c (.b false)),Sb⟩]) (.ret)) (.skip))))) (.reg [⟨Sa 39,.bin .add (.t 32) (.c (.i .i64 1)),Sb⟩,⟨Sa 32,.mv (.t 39),Sb⟩]))))))) (.seq (.seq (.reg [⟨Sa 40,.fad 3 (.t 1),Sb⟩,⟨Sa 41,.load1 (.t 40),Sb⟩,⟨Sa 42,.lenr (.t 41),Sb⟩,⟨Sa 43,.mv (.c (.i .i64 0)),Sb⟩]) (.blk 2 (.loop (.seq (.reg [⟨Sa 44,.bin .lss (.t 43) (.t 42),Sb⟩]) (.seq (.cond (.t 44) (.skip) (.exit 2)) (.seq (.blk 3 (.seq (.reg [⟨Sa 45,.iad 6 (.t 41) (.t 43),Sb⟩,⟨Sa 46,.loadn 6 (.t 45),Sb⟩,⟨Sa 6,.alloc 46 [.s [],.s [],.s [],.s [],.nil,.nil],Sb⟩,⟨Sb,.store 6 (.t 6) (.t 46),Sb⟩]) (.seq (.reg [⟨Sa 47,.fad 0 (.t 6),Sb⟩,⟨Sa 48,.load1 (.t 47),Sb⟩,⟨Sa 49,.lens (.t 48),Sb⟩,⟨Sa 50,.fad 1 (.t 6),Sb⟩,⟨Sa 51,.load1 (.t 50),Sb⟩,⟨Sa 52,.lens (.t 51),Sb⟩,⟨Sa 53,.bin .add (.t 49) (.t 52),Sb⟩,⟨Sa 54,.fad 2 (.t 6),Sb⟩,⟨Sa 55,.load1 (.t 54),Sb⟩,⟨Sa 56,.lens (.t 55),Sb⟩,⟨Sa 57,.bin .add (.t 53) (.t 56),Sb⟩,⟨Sa 58,.fad 3 (.t 6),Sb⟩,⟨Sa 59,.load1 (.t 58),Sb⟩,⟨Sa 60,.lens (.t 59),Sb⟩,⟨Sa 61,.bin .add (.t 57) (.t 60),Sb⟩,⟨Sa 62,.bin .gtr (.t 61) (.c (.i .i64 900)),Sb⟩,⟨Sa 63,.mv (.t 62),Sb⟩,⟨Sa 64,.fad 4 (.t 6),some (63,false)⟩,⟨Sa 65,.load1 (.t 64),some (63,false)⟩,⟨Sa 66,.lenr (.t 65),some (63,false)⟩,⟨Sa 67,.bin .gtr (.t 66) (.c (.i .i64 70)),some (63,false)⟩,⟨Sa 68,.pick (.t 63) (.c (.b true)) (.t 67),Sb⟩,⟨Sa 69,.mv (.t 68),Sb⟩,⟨Sa 70,.fad 5 (.t 6),some (69,false)⟩,⟨Sa 71,.load1 (.t 70),some (69,false)⟩,⟨Sa 72,.lenr (.t 71),some (69,false)⟩,⟨Sa 73,.bin .gtr (.t 72) (.c (.i .i64 70)),some (69,false)⟩,⟨Sa 74,.pick (.t 69) (.c (.b true)) (.t 73),Sb⟩]) (.cond (.t 74) (.seq (.reg [⟨Sa 2,.mv (.c (.b false)),Sb⟩]) (.ret)) (.skip))))) (.reg [⟨Sa 75,.bin .add (.t 43) (.c (.i .i64 1)),Sb⟩,⟨Sa 43,.mv (.t 75),Sb⟩]))))))) (.seq (.reg [⟨Sa 2,.mv (.c (.b true)),Sb⟩]) (.ret)))))
theorem is_keep_JRD:FnIs Tryz.prog 5 76 [.tmp 2] c_keep_JRD:=⟨⟨_,_,Tryz.func5,rfl,rfl,by kernel_rfl,by kernel_rfl⟩⟩
def c_keep_ID:SCode :=.seq (.reg [⟨Sa 1,.box 28 (.t 0),Sb⟩,⟨Sa 2,.mv (.c (.b false)),Sb⟩]) (.seq (.reg [⟨Sa 3,.fad 1 (.t 1),Sb⟩,⟨Sa 4,.load1 (.t 3),Sb⟩,⟨Sa 5,.lens (.t 4),Sb⟩,⟨Sa 6,.fad 2 (.t 1),Sb⟩,⟨Sa 7,.load1 (.t 6),Sb⟩,⟨Sa 8,.lens (.t 7),Sb⟩,⟨Sa 9,.bin .add (.t 5) (.t 8),Sb⟩,⟨Sa 10,.bin .leq (.t 9) (.c (.i .i64 1000)),Sb⟩,⟨Sa 2,.mv (.t 10),Sb⟩]) (.ret))
theorem is_keep_ID:FnIs Tryz.prog 6 11 [.tmp 2] c_keep_ID:=⟨⟨_,_,Tryz.func6,rfl,rfl,by kernel_rfl,by kernel_rfl⟩⟩
def c_law27_identifier:SCode :=.seq (.reg [⟨Sa 2,.alloc 28 [.i .i64 0,.s [],.s [],.i .i64 0],Sb⟩]) (.seq (.reg [⟨Sa 6,.mv (.t 0),Sb⟩,⟨Sa 7,.call 16 [.t 6],Sb⟩,⟨Sa 8,.call 15 [.t 7],Sb⟩,⟨Sa 9,.call 14 [.t 8],Sb⟩,⟨Sa 5,.mv (.t 9),Sb⟩,⟨Sa 10,.ext (.t 5) 0,Sb⟩,⟨Sa 11,.ext (.t 5) 1,Sb⟩,⟨Sa 3,.alloc 28 [.i .i64 0,.s [],.s [],.i .i64 0],Sb⟩,⟨Sb,.store 4 (.t 3) (.t 10),Sb⟩,⟨Sa 4,.mv (.t 11),Sb⟩]) (.seq (.reg [⟨Sa 12,.loadn 4 (.t 3),Sb⟩,⟨Sb,.store 4 (.t 2) (.t 12),Sb⟩]) (.ret)))
theorem is_law27_identifier:FnIs Tryz.prog 7 13 [.celln 2 4] c_law27_identifier:=⟨⟨_,_,Tryz.func7,rfl,rfl,by kernel_rfl,by kernel_rfl⟩⟩
def c_ref27_SameNames:SCode :=.seq (.reg [⟨Sa 4,.mv (.c (.b false)),Sb⟩]) (.seq (.seq (.reg [⟨Sa 6,.mv (.t 0),Sb⟩,⟨Sa 7,.lenr (.t 6),Sb⟩,⟨Sa 8,.mv (.t 1),Sb⟩,⟨Sa 9,.lenr (.t 8),Sb⟩,⟨Sa 10,.bin .neq (.t 7) (.t 9),Sb⟩]) (.cond (.t 10) (.seq (.reg [⟨Sa 4,.mv (.c (.b false)),Sb⟩]) (.ret)) (.skip))) (.seq (.seq (.reg [⟨Sa 11,.mv (.t 0),Sb⟩,⟨Sa 12,.lenr (.t 11),Sb⟩,⟨Sa 13,.mv (.c (.i .i64 0)),Sb⟩]) (.blk 0 (.loop (.seq (.reg [⟨Sa 14,.bin .lss (.t 13) (.t 12),Sb⟩]) (.seq (.cond (.t 14) (.skip) (.exit 0)) (.seq (.blk 1 (.seq (.reg [⟨Sa 15,.mv (.t 13),Sb⟩,⟨Sa 5,.mv (.t 15),Sb⟩]) (.seq (.drw [⟨Sa 16,.mv (.t 0),Sb⟩,⟨Sa 17,.mv (.t 5),Sb⟩,⟨Sa 18,.iad 4 (.t 16) (.t 17),Sb⟩,⟨Sa 19,.loadn 4 (.t 18),Sb⟩,⟨Sa 20,.mv (.t 1),Sb⟩,⟨Sa 21,.mv (.t 5),Sb⟩,⟨Sa 22,.iad 4 (.t 20) (.t 21),Sb⟩,⟨Sa 23,.loadn 4 (.t 22),Sb⟩,⟨Sa 24,.eqs true (.str [(0,(none,.ti)),(1,(none,.ts)),(2,(none,.ts)),(3,(none,.ti))]) (.t 19) (.t 23),Sb⟩] 9 []) (.cond (.t 24) (.seq (.reg [⟨Sa 4,.mv (.c (.b false)),Sb⟩]) (.ret)) (.skip))))) (.reg [⟨Sa 25,.bin .add (.t 13) (.c (.i .i64 1)),Sb⟩,⟨Sa 13,.mv (.t 25),Sb⟩]))))))) (.seq (.reg [⟨Sa 4,.mv (.c (.b true)),Sb⟩]) (.ret))))
theorem is_ref27_SameNames:FnIs Tryz.prog 8 26 [.tmp 4] c_ref27_SameNames:=⟨⟨_,_,Tryz.func8,rfl,rfl,by kernel_rfl,by kernel_rfl⟩⟩
def c_finger_Names:SCode :=.seq (.reg [⟨Sa 2,.box 26 (.t 0),Sb⟩,⟨Sa 3,.box 28 (.t 1),Sb⟩,⟨Sa 4,.mv (.c .nil),Sb⟩]) (.seq (.reg [⟨Sa 5,.mv (.c .nil),Sb⟩]) (.seq (.seq (.reg [⟨Sa 8,.loadn 4 (.t 2),Sb⟩,⟨Sa 9,.call 17 [.t 8,.c (.s [115,101,108,102])],Sb⟩,⟨Sa 10,.lenr (.t 9),Sb⟩,⟨Sa 11,.mv (.c (.i .i64 0)),Sb⟩]) (.blk 0 (.loop (.seq (.reg [⟨Sa 12,.bin .lss (.t 11) (.t 10),Sb⟩]) (.seq (.cond (.t 12) (.skip) (.exit 0)) (.seq (.blk 1 (.seq (.reg [⟨Sa 13,.iad 6 (.t 9) (.t 11),Sb⟩,⟨Sa 14,.loadn 6 (.t 13),Sb⟩,⟨Sa 7,.alloc 46 [.s [],.s [],.s [],.s [],.nil,.nil],Sb⟩,⟨Sb,.store 6 (.t 7) (.t 14),Sb⟩]) (.reg [⟨Sa 15,.mv (.t 5),Sb⟩,⟨Sa 16,.fad 2 (.t 7),Sb⟩,⟨Sa 17,.load1 (.t 16),Sb⟩,⟨Sa 18,.bslice 1 [.s []] [(0,(1,.t 17))],Sb⟩,⟨Sa 19,.app 9 1 16 (.t 15) (.t 18),Sb⟩,⟨Sa 5,.mv (.t 19),Sb⟩]))) (.reg [⟨Sa 20,.bin .add (.t 11) (.c (.i .i64 1)),Sb⟩,⟨Sa 11,.mv (.t 20),Sb⟩]))))))) (.seq (.reg [⟨Sa 21,.mv (.t 5),Sb⟩,⟨Sa 22,.fad 0 (.t 2),Sb⟩,⟨Sa 23,.load1 (.t 22),Sb⟩,⟨Sa 24,.bslice 1 [.s []] [(0,(1,.t 23))],Sb⟩,⟨Sa 25,.app 9 1 16 (.t 21) (.t 24),Sb⟩,⟨Sa 5,.mv (.t 25),Sb⟩]) (.seq (.reg [⟨Sa 26,.mv (.t 5),Sb⟩,⟨Sa 27,.fad 1 (.t 2),Sb⟩,⟨Sa 28,.load1 (.t 27),Sb⟩,⟨Sa 29,.app 9 1 16 (.t 26) (.t 28),Sb⟩,⟨Sa 5,.mv (.t 29),Sb⟩]) (.seq (.reg [⟨Sa 30,.loadn 4 (.t 3),Sb⟩,⟨Sa 31,.mv (.t 5),Sb⟩,⟨Sa 32,.call 18 [.t 30,.t 31],Sb⟩,⟨Sa 4,.mv (.t 32),Sb⟩]) (.ret))))))
theorem is_finger_Names:FnIs Tryz.prog 9 33 [.tmp 4] c_finger_Names:=⟨⟨_,_,Tryz.func9,rfl,rfl,by kernel_rfl,by kernel_rfl⟩⟩
def c_ref27_Names:SCode :=.seq (.reg [⟨Sa 2,.box 26 (.t 0),Sb⟩,⟨Sa 3,.box 28 (.t 1),Sb⟩,⟨Sa 4,.mv (.c .nil),Sb⟩]) (.seq (.reg [⟨Sa 5,.mv (.c .nil),Sb⟩]) (.seq (.seq (.reg [⟨Sa 8,.loadn 4 (.t 2),Sb⟩,⟨Sa 9,.call 19 [.t 8,.c (.s [115,101,108,102])],Sb⟩,⟨Sa 10,.lenr (.t 9),Sb⟩,⟨Sa 11,.mv (.c (.i .i64 0)),Sb⟩]) (.blk 0 (.loop (.seq (.reg [⟨Sa 12,.bin .lss (.t 11) (.t 10),Sb⟩]) (.seq (.cond (.t 12) (.skip) (.exit 0)) (.seq (.blk 1 (.seq (.reg [⟨Sa 13,.iad 6 (.t 9) (.t 11),Sb⟩,⟨Sa 14,.loadn 6 (.t 13),Sb⟩,⟨Sa 7,.alloc 46 [.s [],.s [],.s [],.s [],.nil,.nil],Sb⟩,⟨Sb,.store 6 (.t 7) (.t 14),Sb⟩]) (.reg [⟨Sa 15,.mv (.t 5),Sb⟩,⟨Sa 16,.fad 2 (.t 7),Sb⟩,⟨Sa 17,.load1 (.t 16),Sb⟩,⟨Sa 18,.bslice 1 [.s []] [(0,(1,.t 17))],Sb⟩,⟨Sa 19,.app 9 1 16 (.t 15) (.t 18),Sb⟩,⟨Sa 5,.mv (.t 19),Sb⟩]))) (.reg [⟨Sa 20,.bin .add (.t 11) (.c (.i .i64 1)),Sb⟩,⟨Sa 11,.mv (.t 20),Sb⟩]))))))) (.seq (.drw [⟨Sa 21,.mv (.t 5),Sb⟩,⟨Sa 22,.fad 0 (.t 2),Sb⟩,⟨Sa 23,.load1 (.t 22),Sb⟩,⟨Sa 24,.bslice 1 [.s []] [(0,(1,.t 23))],Sb⟩,⟨Sa 25,.app 9 1 16 (.t 21) (.t 24),Sb⟩,⟨Sa 26,.fad 1 (.t 2),Sb⟩,⟨Sa 27,.load1 (.t 26),Sb⟩,⟨Sa 28,.app 9 1 16 (.t 25) (.t 27),Sb⟩,⟨Sa 29,.loadn 4 (.t 3),Sb⟩,⟨Sa 30,.call 20 [.t 28,.t 29],Sb⟩,⟨Sa 4,.mv (.t 30),Sb⟩] 9 [(26,25),(3,25),(3,28)]) (.ret))))
theorem is_ref27_Names:FnIs Tryz.prog 10 31 [.tmp 4] c_ref27_Names:=⟨⟨_,_,Tryz.func10,rfl,rfl,by kernel_rfl,by kernel_rfl⟩⟩
def c_finger_Query:SCode :=.seq (.reg [⟨Sa 1,.box 28 (.t 0),Sb⟩,⟨Sa 2,.alloc 39 [.s [],.i .i64 0,.s [],.s [],.s [],.b false,.b false],Sb⟩,⟨Sa 3,.mv (.c (.i .i64 0)),Sb⟩]) (.seq (.reg [⟨Sa 7,.loadn 4 (.t 1),Sb⟩,⟨Sa 8,.call 21 [.t 7,.c (.s [47,46,119,101,108,108,45,107,110,111,119,110,47,119,101,98,102,105,110,103,101,114])],Sb⟩,⟨Sa 6,.mv (.t 8),Sb⟩,⟨Sa 9,.ext (.t 6) 0,Sb⟩,⟨Sa 10,.ext (.t 6) 1,Sb⟩,⟨Sa 4,.alloc 39 [.s [],.i .i64 0,.s [],.s [],.s [],.b false,.b false],Sb⟩,⟨Sb,.store 7 (.t 4) (.t 9),Sb⟩,⟨Sa 5,.mv (.t 10),Sb⟩]) (.seq (.seq (.reg [⟨Sa 11,.mv (.t 5),Sb⟩,⟨Sa 12,.bin .neq (.t 11) (.c (.i .i64 0)),Sb⟩]) (.cond (.t 12) (.seq (.reg [⟨Sa 13,.build [.s [],.i .i64 0,.s [],.s [],.s [],.b false,.b false] [],Sb⟩,⟨Sa 14,.mv (.t 5),Sb⟩,⟨Sb,.store 7 (.t 2) (.t 13),Sb⟩,⟨Sa 3,.mv (.t 14),Sb⟩]) (.ret)) (.skip))) (.seq (.reg [⟨Sa 15,.fad 1 (.t 1),Sb⟩,⟨Sa 16,.load1 (.t 15),Sb⟩,⟨Sa 17,.call 22 [.t 16,.c (.s [])],Sb⟩,⟨Sa 18,.bin .add (.c (.s [114,101,115,111,117,114,99,101,61])) (.t 17),Sb⟩,⟨Sa 19,.fad 3 (.t 4),Sb⟩,⟨Sb,.store 1 (.t 19) (.t 18),Sb⟩,⟨Sa 20,.fad 5 (.t 4),Sb⟩,⟨Sb,.store 1 (.t 20) (.c (.b true)),Sb⟩]) (.seq (.seq (.reg [⟨Sa 21,.loadn 7 (.t 4),Sb⟩,⟨Sa 22,.call 23 [.t 21],Sb⟩,⟨Sa 23,.lens (.t 22),Sb⟩,⟨Sa 24,.bin .gtr (.t 23) (.c (.i .i64 4096)),Sb⟩]) (.cond (.t 24) (.seq (.reg [⟨Sa 25,.build [.s [],.i .i64 0,.s [],.s [],.s [],.b false,.b false] [],Sb⟩,⟨Sb,.store 7 (.t 2) (.t 25),Sb⟩,⟨Sa 3,.mv (.c (.i .i64 5)),Sb⟩]) (.ret)) (.skip))) (.seq (.reg [⟨Sa 26,.loadn 7 (.t 4),Sb⟩,⟨Sb,.store 7 (.t 2) (.t 26),Sb⟩,⟨Sa 3,.mv (.c (.i .i64 0)),Sb⟩]) (.ret))))))
theorem is_finger_Query:FnIs Tryz.prog 11 27 [.celln 2 7,.tmp 3] c_finger_Query:=⟨⟨_,_,Tryz.func11,rfl,rfl,by kernel_rfl,by kernel_rfl⟩⟩
def c_law27_bob:SCode :=.seq (.reg [⟨Sa 0,.alloc 28 [.i .i64 0,.s [],.s [],.i .i64 0],Sb⟩]) (.seq (.reg [⟨Sa 1,.build [.i .i64 0,.s [],.s [],.i .i64 0] [(0,(1,.c (.i .i64 1))),(1,(1,.c (.s [97,99,99,116,58,98,111,98,64,101,120,97,109,112,108,101,46,99,111,109]))),(2,(1,.c (.s [101,120,97,109,112,108,101,46,99,111,109])))],Sb⟩,⟨Sb,.store 4 (.t 0) (.t 1),Sb⟩]) (.ret))
theorem is_law27_bob:FnIs Tryz.prog 12 2 [.celln 0 4] c_law27_bob:=⟨⟨_,_,Tryz.func12,rfl,rfl,by kernel_rfl,by kernel_rfl⟩⟩
def c_ref07_Format:SCode :=.seq (.reg [⟨Sa 1,.box 39 (.t 0),Sb⟩,⟨Sa 2,.mv (.c (.s [])),Sb⟩]) (.seq (.drw [⟨Sa 4,.loadn 7 (.t 1),Sb⟩,⟨Sa 5,.call 25 [.t 4],Sb⟩,⟨Sa 6,.call 24 [.t 5],Sb⟩,⟨Sa 7,.bin .add (.c (.s [104,116,116,112,115,58,47,47])) (.t 6),Sb⟩,⟨Sa 8,.loadn 7 (.t 1),Sb⟩,⟨Sa 9,.call 26 [.t 8],Sb⟩,⟨Sa 10,.bin .add (.t 7) (.t 9),Sb⟩,⟨Sa 3,.mv (.t 10),Sb⟩] 8 []) (.seq (.seq (.reg [⟨Sa 11,.fad 6 (.t 1),Sb⟩,⟨Sa 12,.load1 (.t 11),Sb⟩]) (.cond (.t 12) (.reg [⟨Sa 13,.mv (.t 3),Sb⟩,⟨Sa 14,.fad 4 (.t 1),Sb⟩,⟨Sa 15,.load1 (.t 14),Sb⟩,⟨Sa 16,.bin .add (.c (.s [35])) (.t 15),Sb⟩,⟨Sa 17,.bin .add (.t 13) (.t 16),Sb⟩,⟨Sa 3,.mv (.t 17),Sb⟩]) (.skip))) (.seq (.reg [⟨Sa 18,.mv (.t 3),Sb⟩,⟨Sa 2,.mv (.t 18),Sb⟩]) (.ret))))
theorem is_ref07_Format:FnIs Tryz.prog 13 19 [.tmp 2] c_ref07_Format:=⟨⟨_,_,Tryz.func13,rfl,rfl,by kernel_rfl,by kernel_rfl⟩⟩
def c_ref12_Parse:SCode :=.seq (.reg [⟨Sa 2,.alloc 28 [.i .i64 0,.s [],.s [],.i .i64 0],Sb⟩,⟨Sa 3,.mv (.c (.i .i64 0)),Sb⟩]) (.seq (.seq (.reg [⟨Sa 9,.mv (.t 0),Sb⟩,⟨Sa 10,.lens (.t 9),Sb⟩,⟨Sa 11,.bin .gtr (.t 10) (.c (.i .i64 4096)),Sb⟩]) (.cond (.t 11) (.seq (.reg [⟨Sa 12,.build [.i .i64 0,.s [],.s [],.i .i64 0] [],Sb⟩,⟨Sb,.store 4 (.t 2) (.t 12),Sb⟩,⟨Sa 3,.mv (.c (.i .i64 5)),Sb⟩]) (.ret)) (.skip))) (.seq (.reg [⟨Sa 13,.mv (.t 0),Sb⟩,⟨Sa 14,.call 27 [.t 13,.c (.s [58])],Sb⟩,⟨Sa 4,.mv (.t 14),Sb⟩]) (.seq (.seq (.reg [⟨Sa 15,.mv (.t 4),Sb⟩,⟨Sa 16,.mv (.t 0),Sb⟩,⟨Sa 17,.lens (.t 16),Sb⟩,⟨Sa 18,.bin .eql (.t 15) (.t 17),Sb⟩]) (.cond (.t 18) (.seq (.reg [⟨Sa 19,.build [.i .i64 0,.s [],.s [],.i .i64 0] [],Sb⟩,⟨Sb,.store 4 (.t 2) (.t 19),Sb⟩,⟨Sa 3,.mv (.c (.i .i64 60)),Sb⟩]) (.ret)) (.skip))) (.seq (.seq (.reg [⟨Sa 20,.mv (.t 0),Sb⟩,⟨Sa 21,.mv (.t 4),Sb⟩,⟨Sa 22,.slcs (.t 20) none (some (.t 21)),Sb⟩,⟨Sa 23,.call 28 [.t 22],Sb⟩]) (.blk 0 (.seq (.reg [⟨Sa 25,.bin .eql (.t 23) (.c (.s [97,99,99,116])),Sb⟩,⟨Sa 24,.mv (.t 25),Sb⟩]) (.cond (.t 24) (.seq (.reg [⟨Sa 27,.mv (.t 0),Sb⟩,⟨Sa 28,.call 29 [.t 27],Sb⟩,⟨Sa 26,.mv (.t 28),Sb⟩,⟨Sa 29,.ext (.t 26) 0,Sb⟩,⟨Sa 30,.ext (.t 26) 1,Sb⟩,⟨Sa 5,.alloc 64 [.s [],.s []],Sb⟩,⟨Sb,.store 2 (.t 5) (.t 29),Sb⟩,⟨Sa 6,.mv (.t 30),Sb⟩]) (.seq (.seq (.reg [⟨Sa 31,.mv (.t 6),Sb⟩,⟨Sa 32,.bin .neq (.t 31) (.c (.i .i64 0)),Sb⟩]) (.cond (.t 32) (.seq (.reg [⟨Sa 33,.build [.i .i64 0,.s [],.s [],.i .i64 0] [],Sb⟩,⟨Sa 34,.mv (.t 6),Sb⟩,⟨Sb,.store 4 (.t 2) (.t 33),Sb⟩,⟨Sa 3,.mv (.t 34),Sb⟩]) (.ret)) (.skip))) (.seq (.drw [⟨Sa 35,.loadn 2 (.t 5),Sb⟩,⟨Sa 36,.call 30 [.t 35],Sb⟩,⟨Sa 37,.fad 1 (.t 5),Sb⟩,⟨Sa 38,.load1 (.t 37),Sb⟩,⟨Sa 39,.build [.i .i64 0,.s [],.s [],.i .i64 0] [(0,(1,.c (.i .i64 1))),(1,(1,.t 36)),(2,(1,.t 38))],Sb⟩,⟨Sb,.store 4 (.t 2) (.t 39),Sb⟩,⟨Sa 3,.mv (.c (.i .i64 0)),Sb⟩] 5 []) (.ret)))) (.seq (.reg [⟨Sa 41,.bin .eql (.t 23) (.c (.s [109,97,105,108,116,111])),Sb⟩,⟨Sa 40,.mv (.t 41),Sb⟩]) (.cond (.t 40) (.seq (.reg [⟨Sa 43,.mv (.t 0),Sb⟩,⟨Sa 44,.call 31 [.t 43],Sb⟩,⟨Sa 42,.mv (.t 44),Sb⟩,⟨Sa 45,.ext (.t 42) 0,Sb⟩,⟨Sa 46,.ext (.t 42) 1,Sb⟩,⟨Sa 7,.alloc 69 [.s [],.s []],Sb⟩,⟨Sb,.store 2 (.t 7) (.t 45),Sb⟩,⟨Sa 8,.mv (.t 46),Sb⟩]) (.seq (.seq (.reg [⟨Sa 47,.mv (.t 8),Sb⟩,⟨Sa 48,.bin .neq (.t 47) (.c (.i .i64 0)),Sb⟩]) (.cond (.t 48) (.seq (.reg [⟨Sa 49,.build [.i .i64 0,.s [],.s [],.i .i64 0] [],Sb⟩,⟨Sa 50,.mv (.t 8),Sb⟩,⟨Sb,.store 4 (.t 2) (.t 49),Sb⟩,⟨Sa 3,.mv (.t 50),Sb⟩]) (.ret)) (.skip))) (.seq (.drw [⟨Sa 51,.loadn 2 (.t 7),Sb⟩,⟨Sa 52,.call 32 [.t 51],Sb⟩,⟨Sa 53,.fad 1 (.t 7),Sb⟩,⟨Sa 54,.load1 (.t 53),Sb⟩,⟨Sa 55,.build [.i .i64 0,.s [],.s [],.i .i64 0] [(0,(1,.c (.i .i64 2))),(1,(1,.t 52)),(2,(1,.t 54))],Sb⟩,⟨Sb,.store 4 (.t 2) (.t 55),Sb⟩,⟨Sa 3,.mv (.c (.i .i64 0)),Sb⟩] 5 []) (.ret)))) (.seq (.reg [⟨Sa 57,.bin .eql (.t 23) (.c (.s [104,116,116,112,115])),Sb⟩,⟨Sa 56,.mv (.t 57),Sb⟩]) (.cond (.t 56) (.seq (.reg [⟨Sa 58,.mv (.t 0),Sb⟩,⟨Sa 59,.call 33 [.t 58],Sb⟩,⟨Sa 60,.ext (.t 59) 0,Sb⟩,⟨Sa 61,.ext (.t 59) 1,Sb⟩,⟨Sb,.store 4 (.t 2) (.t 60),Sb⟩,⟨Sa 3,.mv (.t 61),Sb⟩]) (.ret)) (.seq (.reg [⟨Sa 63,.bin .eql (.t 23) (.c (.s [100,105,100])),Sb⟩,⟨Sa 62,.mv (.t 63),Sb⟩]) (.cond (.t 62) (.seq (.reg [⟨Sa 64,.mv (.t 0),Sb⟩,⟨Sa 65,.call 34 [.t 64],Sb⟩,⟨Sa 66,.ext (.t 65) 0,Sb⟩,⟨Sa 67,.ext (.t 65) 1,Sb⟩,⟨Sb,.store 4 (.t 2) (.t 66),Sb⟩,⟨Sa 3,.mv (.t 67),Sb⟩]) (.ret)) (.skip))))))))))) (.seq (.reg [⟨Sa 68,.build [.i .i64 0,.s [],.s [],.i .i64 0] [],Sb⟩,⟨Sb,.store 4 (.t 2) (.t 68),Sb⟩,⟨Sa 3,.mv (.c (.i .i64 60)),Sb⟩]) (.ret))))))
theorem is_ref12_Parse:FnIs Tryz.prog 14 69 [.celln 2 4,.tmp 3] c_ref12_Parse:=⟨⟨_,_,Tryz.func14,rfl,rfl,by kernel_rfl,by kernel_rfl⟩⟩
def c_made_Text:SCode :=.seq (.reg [⟨Sa 2,.mv (.c (.s [])),Sb⟩]) (.seq (.reg [⟨Sa 4,.mv (.t 0),Sb⟩,⟨Sa 5,.call 35 [.t 4],Sb⟩,⟨Sa 3,.mv (.t 5),Sb⟩]) (.seq (.seq (.reg [⟨Sa 6,.mv (.t 0),Sb⟩,⟨Sa 7,.call 36 [.t 6,.c (.i .i64 6)],Sb⟩]) (.blk 0 (.seq (.seq (.reg [⟨Sa 9,.bin .eql (.t 7) (.c (.i .i64 0)),Sb⟩,⟨Sa 8,.mv (.t 9),Sb⟩]) (.cond (.t 8) (.skip) (.reg [⟨Sa 10,.bin .eql (.t 7) (.c (.i .i64 1)),Sb⟩,⟨Sa 8,.mv (.t 10),Sb⟩]))) (.cond (.t 8) (.seq (.reg [⟨Sa 11,.mv (.t 0),Sb⟩,⟨Sa 12,.bslice 2 [.s [],.s []] [(0,(1,.c (.s [97,99,99,116,58]))),(1,(1,.c (.s [65,67,67,84,58])))],Sb⟩,⟨Sa 13,.call 37 [.t 11,.t 12],Sb⟩,⟨Sa 14,.mv (.t 0),Sb⟩,⟨Sa 15,.bslice 4 [.s [],.s [],.s [],.s []] [(0,(1,.c (.s [98,111,98]))),(1,(1,.c (.s [97,109,121]))),(2,(1,.c (.s [120,37,50,102,121]))),(3,(1,.c (.s [99,43,100])))],Sb⟩,⟨Sa 16,.call 37 [.t 14,.t 15],Sb⟩,⟨Sa 17,.bin .add (.t 13) (.t 16),Sb⟩,⟨Sa 18,.bin .add (.t 17) (.c (.s [64])),Sb⟩,⟨Sa 19,.mv (.t 0),Sb⟩,⟨Sa 20,.bslice 3 [.s [],.s [],.s []] [(0,(1,.c (.s [97,46,101,120,97,109,112,108,101]))),(1,(1,.c (.s [66,46,101,120,97,109,112,108,101]))),(2,(1,.c (.s [99,46,101,120,97,109,112,108,101])))],Sb⟩,⟨Sa 21,.call 37 [.t 19,.t 20],Sb⟩,⟨Sa 22,.bin .add (.t 18) (.t 21),Sb⟩,⟨Sa 2,.mv (.t 22),Sb⟩]) (.ret)) (.seq (.reg [⟨Sa 24,.bin .eql (.t 7) (.c (.i .i64 2)),Sb⟩,⟨Sa 23,.mv (.t 24),Sb⟩]) (.cond (.t 23) (.seq (.reg [⟨Sa 25,.mv (.t 0),Sb⟩,⟨Sa 26,.bslice 3 [.s [],.s [],.s []] [(0,(1,.c (.s [98,111,98]))),(1,(1,.c (.s [37,54,49,109,121]))),(2,(1,.c (.s [99,43,100])))],Sb⟩,⟨Sa 27,.call 37 [.t 25,.t 26],Sb⟩,⟨Sa 28,.bin .add (.c (.s [109,97,105,108,116,111,58])) (.t 27),Sb⟩,⟨Sa 29,.bin .add (.t 28) (.c (.s [64])),Sb⟩,⟨Sa 30,.mv (.t 0),Sb⟩,⟨Sa 31,.bslice 2 [.s [],.s []] [(0,(1,.c (.s [97,46,101,120,97,109,112,108,101]))),(1,(1,.c (.s [98,46,69,120,97,109,112,108,101])))],Sb⟩,⟨Sa 32,.call 37 [.t 30,.t 31],Sb⟩,⟨Sa 33,.bin .add (.t 29) (.t 32),Sb⟩,⟨Sa 2,.mv (.t 33),Sb⟩]) (.ret)) (.seq (.reg [⟨Sa 35,.bin .eql (.t 7) (.c (.i .i64 3)),Sb⟩,⟨Sa 34,.mv (.t 35),Sb⟩]) (.cond (.t 34) (.seq (.reg [⟨Sa 36,.mv (.t 3),Sb⟩,⟨Sa 37,.bin .add (.c (.s [104,116,116,112,115,58,47,47])) (.t 36),Sb⟩,⟨Sa 38,.mv (.t 0),Sb⟩,⟨Sa 39,.bslice 5 [.s [],.s [],.s [],.s [],.s []] [(0,(1,.c (.s []))),(1,(1,.c (.s [47]))),(2,(1,.c (.s [47,117,47,98,111,98]))),(3,(1,.c (.s [47,46,47,120,63,121,61,49]))),(4,(1,.c (.s [47,126,97,35,109,101])))],Sb⟩,⟨Sa 40,.call 37 [.t 38,.t 39],Sb⟩,⟨Sa 41,.bin .add (.t 37) (.t 40),Sb⟩,⟨Sa 2,.mv (.t 41),Sb⟩]) (.ret)) (.skip))))))))) (.seq (.seq (.reg [⟨Sa 42,.mv (.t 3),Sb⟩,⟨Sa 43,.bin .eql (.t 42) (.c (.s [99,46,101,120,97,109,112,108,101,58,56,52,52,51])),Sb⟩]) (.cond (.t 43) (.reg [⟨Sa 3,.mv (.c (.s [99,46,101,120,97,109,112,108,101,37,51,65,56,52,52,51])),Sb⟩]) (.skip))) (.seq (.reg [⟨Sa 44,.mv (.t 3),Sb⟩,⟨Sa 45,.bin .add (.c (.s [100,105,100,58,119,101,98,58])) (.t 44),Sb⟩,⟨Sa 46,.mv (.t 0),Sb⟩,⟨Sa 47,.bslice 4 [.s [],.s [],.s [],.s []] [(0,(1,.c (.s []))),(1,(1,.c (.s [58,117]))),(2,(1,.c (.s [58,117,58,98,111,98]))),(3,(1,.c (.s [58,97,37,55,101,98])))],Sb⟩,⟨Sa 48,.call 37 [.t 46,.t 47],Sb⟩,⟨Sa 49,.bin .add (.t 45) (.t 48),Sb⟩,⟨Sa 2,.mv (.t 49),Sb⟩]) (.ret)))))
theorem is_made_Text:FnIs Tryz.prog 15 50 [.tmp 2] c_made_Text:=⟨⟨_,_,Tryz.func15,rfl,rfl,by kernel_rfl,by kernel_rfl⟩⟩
def c_made_New:SCode :=.seq (.reg [⟨Sa 2,.mv (.c (.o (.pointer none))),Sb⟩]) (.seq (.reg [⟨Sa 3,.mv (.t 0),Sb⟩,⟨Sa 4,.mv (.t 0),Sb⟩,⟨Sa 5,.lenr (.t 4),Sb⟩,⟨Sa 6,.pu .mn [.t 5,.c (.i .i64 200)],Sb⟩,⟨Sa 7,.trn 1 (.t 3) (.t 6),Sb⟩,⟨Sa 8,.build [.nil] [(0,(1,.t 7))],Sb⟩,⟨Sa 9,.box 76 (.t 8),Sb⟩,⟨Sa 2,.mv (.t 9),Sb⟩]) (.ret))
theorem is_made_New:FnIs Tryz.prog 16 10 [.tmp 2] c_made_New:=⟨⟨_,_,Tryz.func16,rfl,rfl,by kernel_rfl,by kernel_rfl⟩⟩
def c_jrd_Find:SCode :=.seq (.reg [⟨Sa 2,.box 26 (.t 0),Sb⟩,⟨Sa 4,.mv (.c .nil),Sb⟩]) (.seq (.reg [⟨Sa 5,.mv (.c .nil),Sb⟩]) (.seq (.seq (.reg [⟨Sa 8,.fad 3 (.t 2),Sb⟩,⟨Sa 9,.load1 (.t 8),Sb⟩,⟨Sa 10,.lenr (.t 9),Sb⟩,⟨Sa 11,.mv (.c (.i .i64 0)),Sb⟩]) (.blk 0 (.loop (.seq (.reg [⟨Sa 12,.bin .lss (.t 11) (.t 10),Sb⟩]) (.seq (.cond (.t 12) (.skip) (.exit 0)) (.seq (.blk 1 (.seq (.reg [⟨Sa 13,.iad 6 (.t 9) (.t 11),Sb⟩,⟨Sa 14,.loadn 6 (.t 13),Sb⟩,⟨Sa 7,.alloc 46 [.s [],.s [],.s [],.s [],.nil,.nil],Sb⟩,⟨Sb,.store 6 (.t 7) (.t 14),Sb⟩]) (.seq (.reg [⟨Sa 15,.fad 0 (.t 7),Sb⟩,⟨Sa 16,.load1 (.t 15),Sb⟩,⟨Sa 17,.mv (.t 1),Sb⟩,⟨Sa 18,.bin .eql (.t 16) (.t 17),Sb⟩]) (.cond (.t 18) (.seq (.reg [⟨Sa 19,.fad 4 (.t 7),Sb⟩,⟨Sa 20,.load1 (.t 19),Sb⟩,⟨Sa 21,.call 38 [.t 20],Sb⟩,⟨Sa 22,.fad 4 (.t 7),Sb⟩,⟨Sb,.store 1 (.t 22) (.t 21),Sb⟩]) (.seq (.reg [⟨Sa 23,.fad 5 (.t 7),Sb⟩,⟨Sa 24,.load1 (.t 23),Sb⟩,⟨Sa 25,.call 38 [.t 24],Sb⟩,⟨Sa 26,.fad 5 (.t 7),Sb⟩,⟨Sb,.store 1 (.t 26) (.t 25),Sb⟩]) (.reg [⟨Sa 27,.mv (.t 5),Sb⟩,⟨Sa 28,.loadn 6 (.t 7),Sb⟩,⟨Sa 29,.bslice 1 [.s [],.s [],.s [],.s [],.nil,.nil] [(0,(6,.t 28))],Sb⟩,⟨Sa 30,.app 46 6 112 (.t 27) (.t 29),Sb⟩,⟨Sa 5,.mv (.t 30),Sb⟩]))) (.skip))))) (.reg [⟨Sa 31,.bin .add (.t 11) (.c (.i .i64 1)),Sb⟩,⟨Sa 11,.mv (.t 31),Sb⟩]))))))) (.seq (.reg [⟨Sa 32,.mv (.t 5),Sb⟩,⟨Sa 4,.mv (.t 32),Sb⟩]) (.ret))))
theorem is_jrd_Find:FnIs Tryz.prog 17 33 [.tmp 4] c_jrd_Find:=⟨⟨_,_,Tryz.func17,rfl,rfl,by kernel_rfl,by kernel_rfl⟩⟩
def c_naming_Others:SCode :=.seq (.reg [⟨Sa 2,.box 28 (.t 0),Sb⟩,⟨Sa 4,.mv (.c .nil),Sb⟩]) (.seq (.reg [⟨Sa 5,.mv (.c .nil),Sb⟩]) (.seq (.seq (.reg [⟨Sa 10,.mv (.t 1),Sb⟩,⟨Sa 11,.lenr (.t 10),Sb⟩,⟨Sa 12,.mv (.c (.i .i64 0)),Sb⟩]) (.blk 0 (.loop (.seq (.reg [⟨Sa 13,.bin .lss (.t 12) (.t 11),Sb⟩]) (.seq (.cond (.t 13) (.skip) (.exit 0)) (.seq (.blk 1 (.seq (.reg [⟨Sa 14,.iad 1 (.t 10) (.t 12),Sb⟩,⟨Sa 15,.load1 (.t 14),Sb⟩,⟨Sa 7,.mv (.t 15),Sb⟩]) (.seq (.reg [⟨Sa 17,.mv (.t 7),Sb⟩,⟨Sa 18,.call 39 [.t 17],Sb⟩,⟨Sa 16,.mv (.t 18),Sb⟩,⟨Sa 19,.ext (.t 16) 0,Sb⟩,⟨Sa 20,.ext (.t 16) 1,Sb⟩,⟨Sa 8,.alloc 28 [.i .i64 0,.s [],.s [],.i .i64 0],Sb⟩,⟨Sb,.store 4 (.t 8) (.t 19),Sb⟩,⟨Sa 9,.mv (.t 20),Sb⟩]) (.seq (.reg [⟨Sa 21,.mv (.t 9),Sb⟩,⟨Sa 22,.bin .eql (.t 21) (.c (.i .i64 0)),Sb⟩,⟨Sa 23,.mv (.t 22),Sb⟩,⟨Sa 24,.loadn 4 (.t 8),some (23,true)⟩,⟨Sa 25,.loadn 4 (.t 2),some (23,true)⟩,⟨Sa 26,.eqs true (.str [(0,(none,.ti)),(1,(none,.ts)),(2,(none,.ts)),(3,(none,.ti))]) (.t 24) (.t 25),some (23,true)⟩,⟨Sa 27,.pick (.t 23) (.t 26) (.c (.b false)),Sb⟩,⟨Sa 28,.mv (.t 27),Sb⟩,⟨Sa 29,.mv (.t 5),some (28,true)⟩,⟨Sa 30,.loadn 4 (.t 8),some (28,true)⟩,⟨Sa 31,.call 40 [.t 29,.t 30],some (28,true)⟩,⟨Sa 32,.not (.t 31),some (28,true)⟩,⟨Sa 33,.pick (.t 28) (.t 32) (.c (.b false)),Sb⟩,⟨Sa 34,.mv (.t 33),Sb⟩,⟨Sa 35,.mv (.t 5),some (34,true)⟩,⟨Sa 36,.lenr (.t 35),some (34,true)⟩,⟨Sa 37,.bin .lss (.t 36) (.c (.i .i64 64)),some (34,true)⟩,⟨Sa 38,.pick (.t 34) (.t 37) (.c (.b false)),Sb⟩]) (.cond (.t 38) (.reg [⟨Sa 39,.mv (.t 5),Sb⟩,⟨Sa 40,.loadn 4 (.t 8),Sb⟩,⟨Sa 41,.bslice 1 [.i .i64 0,.s [],.s [],.i .i64 0] [(0,(4,.t 40))],Sb⟩,⟨Sa 42,.app 28 4 48 (.t 39) (.t 41),Sb⟩,⟨Sa 5,.mv (.t 42),Sb⟩]) (.skip)))))) (.reg [⟨Sa 43,.bin .add (.t 12) (.c (.i .i64 1)),Sb⟩,⟨Sa 12,.mv (.t 43),Sb⟩]))))))) (.seq (.reg [⟨Sa 44,.mv (.t 5),Sb⟩,⟨Sa 4,.mv (.t 44),Sb⟩]) (.ret))))
theorem is_naming_Others:FnIs Tryz.prog 18 45 [.tmp 4] c_naming_Others:=⟨⟨_,_,Tryz.func18,rfl,rfl,by kernel_rfl,by kernel_rfl⟩⟩
def c_ref16_Find:SCode :=.seq (.reg [⟨Sa 2,.box 26 (.t 0),Sb⟩,⟨Sa 4,.mv (.c .nil),Sb⟩]) (.seq (.reg [⟨Sa 5,.mv (.c .nil),Sb⟩]) (.seq (.seq (.reg [⟨Sa 8,.fad 3 (.t 2),Sb⟩,⟨Sa 9,.load1 (.t 8),Sb⟩,⟨Sa 10,.lenr (.t 9),Sb⟩,⟨Sa 11,.mv (.c (.i .i64 0)),Sb⟩]) (.blk 0 (.loop (.seq (.reg [⟨Sa 12,.bin .lss (.t 11) (.t 10),Sb⟩]) (.seq (.cond (.t 12) (.skip) (.exit 0)) (.seq (.blk 1 (.seq (.reg [⟨Sa 13,.iad 6 (.t 9) (.t 11),Sb⟩,⟨Sa 14,.loadn 6 (.t 13),Sb⟩,⟨Sa 7,.alloc 46 [.s [],.s [],.s [],.s [],.nil,.nil],Sb⟩,⟨Sb,.store 6 (.t 7) (.t 14),Sb⟩]) (.seq (.reg [⟨Sa 15,.fad 0 (.t 7),Sb⟩,⟨Sa 16,.load1 (.t 15),Sb⟩,⟨Sa 17,.mv (.t 1),Sb⟩,⟨Sa 18,.bin .eql (.t 16) (.t 17),Sb⟩]) (.cond (.t 18) (.reg [⟨Sa 19,.mv (.t 5),Sb⟩,⟨Sa 20,.loadn 6 (.t 7),Sb⟩,⟨Sa 21,.bslice 1 [.s [],.s [],.s [],.s [],.nil,.nil] [(0,(6,.t 20))],Sb⟩,⟨Sa 22,.app 46 6 112 (.t 19) (.t 21),Sb⟩,⟨Sa 5,.mv (.t 22),Sb⟩]) (.skip))))) (.reg [⟨Sa 23,.bin .add (.t 11) (.c (.i .i64 1)),Sb⟩,⟨Sa 11,.mv (.t 23),Sb⟩]))))))) (.seq (.reg [⟨Sa 24,.mv (.t 5),Sb⟩,⟨Sa 4,.mv (.t 24),Sb⟩]) (.ret))))
theorem is_ref16_Find:FnIs Tryz.prog 19 25 [.tmp 4] c_ref16_Find:=⟨⟨_,_,Tryz.func19,rfl,rfl,by kernel_rfl,by kernel_rfl⟩⟩
def c_ref27_Collect:SCode :=.seq (.reg [⟨Sa 3,.box 28 (.t 1),Sb⟩,⟨Sa 4,.mv (.c .nil),Sb⟩]) (.seq (.reg [⟨Sa 5,.mv (.c .nil),Sb⟩]) (.seq (.seq (.reg [⟨Sa 13,.mv (.t 0),Sb⟩,⟨Sa 14,.lenr (.t 13),Sb⟩,⟨Sa 15,.mv (.c (.i .i64 0)),Sb⟩]) (.blk 0 (.loop (.seq (.reg [⟨Sa 16,.bin .lss (.t 15) (.t 14),Sb⟩]) (.seq (.cond (.t 16) (.skip) (.exit 0)) (.seq (.blk 1 (.seq (.reg [⟨Sa 17,.iad 1 (.t 13) (.t 15),Sb⟩,⟨Sa 18,.load1 (.t 17),Sb⟩,⟨Sa 7,.mv (.t 18),Sb⟩]) (.seq (.reg [⟨Sa 20,.mv (.t 7),Sb⟩,⟨Sa 21,.call 14 [.t 20],Sb⟩,⟨Sa 19,.mv (.t 21),Sb⟩,⟨Sa 22,.ext (.t 19) 0,Sb⟩,⟨Sa 23,.ext (.t 19) 1,Sb⟩,⟨Sa 8,.alloc 28 [.i .i64 0,.s [],.s [],.i .i64 0],Sb⟩,⟨Sb,.store 4 (.t 8) (.t 22),Sb⟩,⟨Sa 9,.mv (.t 23),Sb⟩]) (.seq (.reg [⟨Sa 24,.mv (.t 9),Sb⟩,⟨Sa 25,.bin .neq (.t 24) (.c (.i .i64 0)),Sb⟩,⟨Sa 26,.mv (.t 25),Sb⟩,⟨Sa 27,.loadn 4 (.t 8),some (26,false)⟩,⟨Sa 28,.loadn 4 (.t 3),some (26,false)⟩,⟨Sa 29,.eqs false (.str [(0,(none,.ti)),(1,(none,.ts)),(2,(none,.ts)),(3,(none,.ti))]) (.t 27) (.t 28),some (26,false)⟩,⟨Sa 30,.pick (.t 26) (.c (.b true)) (.t 29),Sb⟩,⟨Sa 10,.mv (.t 30),Sb⟩]) (.seq (.seq (.reg [⟨Sa 31,.mv (.t 5),Sb⟩,⟨Sa 32,.lenr (.t 31),Sb⟩,⟨Sa 33,.mv (.c (.i .i64 0)),Sb⟩]) (.blk 2 (.loop (.seq (.reg [⟨Sa 34,.bin .lss (.t 33) (.t 32),Sb⟩]) (.seq (.cond (.t 34) (.skip) (.exit 2)) (.seq (.blk 3 (.seq (.reg [⟨Sa 35,.iad 4 (.t 31) (.t 33),Sb⟩,⟨Sa 36,.loadn 4 (.t 35),Sb⟩,⟨Sa 12,.alloc 28 [.i .i64 0,.s [],.s [],.i .i64 0],Sb⟩,⟨Sb,.store 4 (.t 12) (.t 36),Sb⟩]) (.reg [⟨Sa 37,.mv (.t 10),Sb⟩,⟨Sa 38,.mv (.t 37),Sb⟩,⟨Sa 39,.loadn 4 (.t 8),some (38,false)⟩,⟨Sa 40,.loadn 4 (.t 12),some (38,false)⟩,⟨Sa 41,.eqs false (.str [(0,(none,.ti)),(1,(none,.ts)),(2,(none,.ts)),(3,(none,.ti))]) (.t 39) (.t 40),some (38,false)⟩,⟨Sa 42,.pick (.t 38) (.c (.b true)) (.t 41),Sb⟩,⟨Sa 10,.mv (.t 42),Sb⟩]))) (.reg [⟨Sa 43,.bin .add (.t 33) (.c (.i .i64 1)),Sb⟩,⟨Sa 33,.mv (.t 43),Sb⟩]))))))) (.seq (.reg [⟨Sa 44,.mv (.t 10),Sb⟩,⟨Sa 45,.not (.t 44),Sb⟩,⟨Sa 46,.mv (.t 45),Sb⟩,⟨Sa 47,.mv (.t 5),some (46,true)⟩,⟨Sa 48,.lenr (.t 47),some (46,true)⟩,⟨Sa 49,.bin .lss (.t 48) (.c (.i .i64 64)),some (46,true)⟩,⟨Sa 50,.pick (.t 46) (.t 49) (.c (.b false)),Sb⟩]) (.cond (.t 50) (.reg [⟨Sa 51,.mv (.t 5),Sb⟩,⟨Sa 52,.loadn 4 (.t 8),Sb⟩,⟨Sa 53,.bslice 1 [.i .i64 0,.s [],.s [],.i .i64 0] [(0,(4,.t 52))],Sb⟩,⟨Sa 54,.app 28 4 48 (.t 51) (.t 53),Sb⟩,⟨Sa 5,.mv (.t 54),Sb⟩]) (.skip)))))))) (.reg [⟨Sa 55,.bin .add (.t 15) (.c (.i .i64 1)),Sb⟩,⟨Sa 15,.mv (.t 55),Sb⟩]))))))) (.seq (.reg [⟨Sa 56,.mv (.t 5),Sb⟩,⟨Sa 4,.mv (.t 56),Sb⟩]) (.ret))))
theorem is_ref27_Collect:FnIs Tryz.prog 20 57 [.tmp 4] c_ref27_Collect:=⟨⟨_,_,Tryz.func20,rfl,rfl,by kernel_rfl,by kernel_rfl⟩⟩
def c_finger_atAuthority:SCode :=.seq (.reg [⟨Sa 2,.box 28 (.t 0),Sb⟩,⟨Sa 4,.alloc 39 [.s [],.i .i64 0,.s [],.s [],.s [],.b false,.b false],Sb⟩,⟨Sa 5,.mv (.c (.i .i64 0)),Sb⟩]) (.seq (.seq (.reg [⟨Sa 7,.loadn 4 (.t 2),Sb⟩,⟨Sa 8,.call 41 [.t 7],Sb⟩,⟨Sa 9,.not (.t 8),Sb⟩]) (.cond (.t 9) (.seq (.reg [⟨Sa 10,.build [.s [],.i .i64 0,.s [],.s [],.s [],.b false,.b false] [],Sb⟩,⟨Sb,.store 7 (.t 4) (.t 10),Sb⟩,⟨Sa 5,.mv (.c (.i .i64 8)),Sb⟩]) (.ret)) (.skip))) (.seq (.reg [⟨Sa 11,.loadn 4 (.t 2),Sb⟩,⟨Sa 12,.call 42 [.t 11],Sb⟩,⟨Sa 6,.alloc 59 [.s [],.i .i64 0],Sb⟩,⟨Sb,.store 2 (.t 6) (.t 12),Sb⟩]) (.seq (.reg [⟨Sa 13,.fad 0 (.t 6),Sb⟩,⟨Sa 14,.load1 (.t 13),Sb⟩,⟨Sa 15,.fad 1 (.t 6),Sb⟩,⟨Sa 16,.load1 (.t 15),Sb⟩,⟨Sa 17,.mv (.t 1),Sb⟩,⟨Sa 18,.build [.s [],.i .i64 0,.s [],.s [],.s [],.b false,.b false] [(0,(1,.t 14)),(1,(1,.t 16)),(2,(1,.t 17))],Sb⟩,⟨Sb,.store 7 (.t 4) (.t 18),Sb⟩,⟨Sa 5,.mv (.c (.i .i64 0)),Sb⟩]) (.ret))))
theorem is_finger_atAuthority:FnIs Tryz.prog 21 19 [.celln 4 7,.tmp 5] c_finger_atAuthority:=⟨⟨_,_,Tryz.func21,rfl,rfl,by kernel_rfl,by kernel_rfl⟩⟩
def c_weburl_Format:SCode :=.seq (.reg [⟨Sa 1,.box 39 (.t 0),Sb⟩,⟨Sa 2,.mv (.c (.s [])),Sb⟩]) (.seq (.drw [⟨Sa 4,.loadn 7 (.t 1),Sb⟩,⟨Sa 5,.call 46 [.t 4],Sb⟩,⟨Sa 6,.call 45 [.t 5],Sb⟩,⟨Sa 7,.bin .add (.c (.s [104,116,116,112,115,58,47,47])) (.t 6),Sb⟩,⟨Sa 8,.loadn 7 (.t 1),Sb⟩,⟨Sa 9,.call 47 [.t 8],Sb⟩,⟨Sa 10,.bin .add (.t 7) (.t 9),Sb⟩,⟨Sa 3,.mv (.t 10),Sb⟩] 8 []) (.seq (.seq (.reg [⟨Sa 11,.fad 6 (.t 1),Sb⟩,⟨Sa 12,.load1 (.t 11),Sb⟩]) (.cond (.t 12) (.reg [⟨Sa 13,.mv (.t 3),Sb⟩,⟨Sa 14,.fad 4 (.t 1),Sb⟩,⟨Sa 15,.load1 (.t 14),Sb⟩,⟨Sa 16,.bin .add (.c (.s [35])) (.t 15),Sb⟩,⟨Sa 17,.bin .add (.t 13) (.t 16),Sb⟩,⟨Sa 3,.mv (.t 17),Sb⟩]) (.skip))) (.seq (.reg [⟨Sa 18,.mv (.t 3),Sb⟩,⟨Sa 2,.mv (.t 18),Sb⟩]) (.ret))))
theorem is_weburl_Format:FnIs Tryz.prog 23 19 [.tmp 2] c_weburl_Format:=⟨⟨_,_,Tryz.func23,rfl,rfl,by kernel_rfl,by kernel_rfl⟩⟩
def c_ref05_Format:SCode :=.seq (.reg [⟨Sa 1,.box 59 (.t 0),Sb⟩,⟨Sa 2,.mv (.c (.s [])),Sb⟩]) (.seq (.seq (.reg [⟨Sa 3,.fad 1 (.t 1),Sb⟩,⟨Sa 4,.load1 (.t 3),Sb⟩,⟨Sa 5,.bin .eql (.t 4) (.c (.i .i64 0)),Sb⟩]) (.cond (.t 5) (.seq (.reg [⟨Sa 6,.fad 0 (.t 1),Sb⟩,⟨Sa 7,.load1 (.t 6),Sb⟩,⟨Sa 2,.mv (.t 7),Sb⟩]) (.ret)) (.skip))) (.seq (.drw [⟨Sa 8,.fad 0 (.t 1),Sb⟩,⟨Sa 9,.load1 (.t 8),Sb⟩,⟨Sa 10,.bin .add (.t 9) (.c (.s [58])),Sb⟩,⟨Sa 11,.fad 1 (.t 1),Sb⟩,⟨Sa 12,.load1 (.t 11),Sb⟩,⟨Sa 13,.call 48 [.t 12],Sb⟩,⟨Sa 14,.bin .add (.t 10) (.t 13),Sb⟩,⟨Sa 2,.mv (.t 14),Sb⟩] 8 []) (.ret)))
theorem is_ref05_Format:FnIs Tryz.prog 24 15 [.tmp 2] c_ref05_Format:=⟨⟨_,_,Tryz.func24,rfl,rfl,by kernel_rfl,by kernel_rfl⟩⟩
def c_ref07_Origin:SCode :=.seq (.reg [⟨Sa 1,.box 39 (.t 0),Sb⟩,⟨Sa 2,.alloc 59 [.s [],.i .i64 0],Sb⟩]) (.seq (.reg [⟨Sa 3,.fad 0 (.t 1),Sb⟩,⟨Sa 4,.load1 (.t 3),Sb⟩,⟨Sa 5,.fad 1 (.t 1),Sb⟩,⟨Sa 6,.load1 (.t 5),Sb⟩,⟨Sa 7,.build [.s [],.i .i64 0] [(0,(1,.t 4)),(1,(1,.t 6))],Sb⟩,⟨Sb,.store 2 (.t 2) (.t 7),Sb⟩]) (.ret))
theorem is_ref07_Origin:FnIs Tryz.prog 25 8 [.celln 2 2] c_ref07_Origin:=⟨⟨_,_,Tryz.func25,rfl,rfl,by kernel_rfl,by kernel_rfl⟩⟩
def c_ref07_Target:SCode :=.seq (.reg [⟨Sa 1,.box 39 (.t 0),Sb⟩,⟨Sa 2,.mv (.c (.s [])),Sb⟩]) (.seq (.seq (.reg [⟨Sa 3,.fad 5 (.t 1),Sb⟩,⟨Sa 4,.load1 (.t 3),Sb⟩]) (.cond (.t 4) (.seq (.reg [⟨Sa 5,.fad 2 (.t 1),Sb⟩,⟨Sa 6,.load1 (.t 5),Sb⟩,⟨Sa 7,.bin .add (.t 6) (.c (.s [63])),Sb⟩,⟨Sa 8,.fad 3 (.t 1),Sb⟩,⟨Sa 9,.load1 (.t 8),Sb⟩,⟨Sa 10,.bin .add (.t 7) (.t 9),Sb⟩,⟨Sa 2,.mv (.t 10),Sb⟩]) (.ret)) (.skip))) (.seq (.reg [⟨Sa 11,.fad 2 (.t 1),Sb⟩,⟨Sa 12,.load1 (.t 11),Sb⟩,⟨Sa 2,.mv (.t 12),Sb⟩]) (.ret)))
theorem is_ref07_Target:FnIs Tryz.prog 26 13 [.tmp 2] c_ref07_Target:=⟨⟨_,_,Tryz.func26,rfl,rfl,by kernel_rfl,by kernel_rfl⟩⟩
def c_ref12_web:SCode :=.seq (.reg [⟨Sa 2,.alloc 28 [.i .i64 0,.s [],.s [],.i .i64 0],Sb⟩,⟨Sa 3,.mv (.c (.i .i64 0)),Sb⟩]) (.seq (.reg [⟨Sa 7,.mv (.t 0),Sb⟩,⟨Sa 8,.call 58 [.t 7],Sb⟩,⟨Sa 6,.mv (.t 8),Sb⟩,⟨Sa 9,.ext (.t 6) 0,Sb⟩,⟨Sa 10,.ext (.t 6) 1,Sb⟩,⟨Sa 4,.alloc 39 [.s [],.i .i64 0,.s [],.s [],.s [],.b false,.b false],Sb⟩,⟨Sb,.store 7 (.t 4) (.t 9),Sb⟩,⟨Sa 5,.mv (.t 10),Sb⟩]) (.seq (.seq (.reg [⟨Sa 11,.mv (.t 5),Sb⟩,⟨Sa 12,.bin .neq (.t 11) (.c (.i .i64 0)),Sb⟩]) (.cond (.t 12) (.seq (.reg [⟨Sa 13,.build [.i .i64 0,.s [],.s [],.i .i64 0] [],Sb⟩,⟨Sa 14,.mv (.t 5),Sb⟩,⟨Sb,.store 4 (.t 2) (.t 13),Sb⟩,⟨Sa 3,.mv (.t 14),Sb⟩]) (.ret)) (.skip))) (.seq (.drw [⟨Sa 15,.loadn 7 (.t 4),Sb⟩,⟨Sa 16,.call 13 [.t 15],Sb⟩,⟨Sa 17,.fad 0 (.t 4),Sb⟩,⟨Sa 18,.load1 (.t 17),Sb⟩,⟨Sa 19,.fad 1 (.t 4),Sb⟩,⟨Sa 20,.load1 (.t 19),Sb⟩,⟨Sa 21,.build [.i .i64 0,.s [],.s [],.i .i64 0] [(0,(1,.c (.i .i64 3))),(1,(1,.t 16)),(2,(1,.t 18)),(3,(1,.t 20))],Sb⟩,⟨Sb,.store 4 (.t 2) (.t 21),Sb⟩,⟨Sa 3,.mv (.c (.i .i64 0)),Sb⟩] 7 []) (.ret))))
theorem is_ref12_web:FnIs Tryz.prog 33 22 [.celln 2 4,.tmp 3] c_ref12_web:=⟨⟨_,_,Tryz.func33,rfl,rfl,by kernel_rfl,by kernel_rfl⟩⟩
def c_ref12_decentral:SCode :=.seq (.reg [⟨Sa 2,.alloc 28 [.i .i64 0,.s [],.s [],.i .i64 0],Sb⟩,⟨Sa 3,.mv (.c (.i .i64 0)),Sb⟩]) (.seq (.reg [⟨Sa 10,.mv (.t 0),Sb⟩,⟨Sa 11,.call 59 [.t 10],Sb⟩,⟨Sa 9,.mv (.t 11),Sb⟩,⟨Sa 12,.ext (.t 9) 0,Sb⟩,⟨Sa 13,.ext (.t 9) 1,Sb⟩,⟨Sa 4,.alloc 93 [.s [],.s []],Sb⟩,⟨Sb,.store 2 (.t 4) (.t 12),Sb⟩,⟨Sa 5,.mv (.t 13),Sb⟩]) (.seq (.seq (.reg [⟨Sa 14,.mv (.t 5),Sb⟩,⟨Sa 15,.bin .neq (.t 14) (.c (.i .i64 0)),Sb⟩]) (.cond (.t 15) (.seq (.reg [⟨Sa 16,.build [.i .i64 0,.s [],.s [],.i .i64 0] [],Sb⟩,⟨Sa 17,.mv (.t 5),Sb⟩,⟨Sb,.store 4 (.t 2) (.t 16),Sb⟩,⟨Sa 3,.mv (.t 17),Sb⟩]) (.ret)) (.skip))) (.seq (.reg [⟨Sa 19,.loadn 2 (.t 4),Sb⟩,⟨Sa 20,.call 60 [.t 19],Sb⟩,⟨Sa 18,.mv (.t 20),Sb⟩,⟨Sa 21,.ext (.t 18) 0,Sb⟩,⟨Sa 22,.ext (.t 18) 1,Sb⟩,⟨Sa 6,.alloc 93 [.s [],.s []],Sb⟩,⟨Sb,.store 2 (.t 6) (.t 21),Sb⟩,⟨Sa 5,.mv (.t 22),Sb⟩]) (.seq (.seq (.reg [⟨Sa 23,.mv (.t 5),Sb⟩,⟨Sa 24,.bin .neq (.t 23) (.c (.i .i64 0)),Sb⟩]) (.cond (.t 24) (.seq (.reg [⟨Sa 25,.build [.i .i64 0,.s [],.s [],.i .i64 0] [],Sb⟩,⟨Sa 26,.mv (.t 5),Sb⟩,⟨Sb,.store 4 (.t 2) (.t 25),Sb⟩,⟨Sa 3,.mv (.t 26),Sb⟩]) (.ret)) (.skip))) (.seq (.reg [⟨Sa 28,.loadn 2 (.t 6),Sb⟩,⟨Sa 29,.call 61 [.t 28],Sb⟩,⟨Sa 27,.mv (.t 29),Sb⟩,⟨Sa 30,.ext (.t 27) 0,Sb⟩,⟨Sa 31,.ext (.t 27) 1,Sb⟩,⟨Sa 7,.alloc 59 [.s [],.i .i64 0],Sb⟩,⟨Sb,.store 2 (.t 7) (.t 30),Sb⟩,⟨Sa 8,.mv (.t 31),Sb⟩]) (.seq (.drw [⟨Sa 32,.loadn 2 (.t 6),Sb⟩,⟨Sa 33,.call 62 [.t 32],Sb⟩,⟨Sa 34,.fad 0 (.t 7),Sb⟩,⟨Sa 35,.load1 (.t 34),Sb⟩,⟨Sa 36,.fad 1 (.t 7),Sb⟩,⟨Sa 37,.load1 (.t 36),Sb⟩,⟨Sa 38,.build [.i .i64 0,.s [],.s [],.i .i64 0] [(0,(1,.c (.i .i64 4))),(1,(1,.t 33)),(2,(1,.t 35)),(3,(1,.t 37))],Sb⟩,⟨Sb,.store 4 (.t 2) (.t 38),Sb⟩,⟨Sa 3,.mv (.c (.i .i64 0)),Sb⟩] 7 []) (.ret)))))))
theorem is_ref12_decentral:FnIs Tryz.prog 34 39 [.celln 2 4,.tmp 3] c_ref12_decentral:=⟨⟨_,_,Tryz.func34,rfl,rfl,by kernel_rfl,by kernel_rfl⟩⟩
def c_made_host:SCode :=.seq (.reg [⟨Sa 2,.mv (.c (.s [])),Sb⟩]) (.seq (.reg [⟨Sa 3,.mv (.t 0),Sb⟩,⟨Sa 4,.bslice 4 [.s [],.s [],.s [],.s []] [(0,(1,.c (.s [97,46,101,120,97,109,112,108,101]))),(1,(1,.c (.s [98,46,101,120,97,109,112,108,101]))),(2,(1,.c (.s [99,46,101,120,97,109,112,108,101,58,56,52,52,51]))),(3,(1,.c (.s [100,46,101,120,97,109,112,108,101])))],Sb⟩,⟨Sa 5,.call 37 [.t 3,.t 4],Sb⟩,⟨Sa 2,.mv (.t 5),Sb⟩]) (.ret))
theorem is_made_host:FnIs Tryz.prog 35 6 [.tmp 2] c_made_host:=⟨⟨_,_,Tryz.func35,rfl,rfl,by kernel_rfl,by kernel_rfl⟩⟩
def c_made_Dice_Next:SCode :=.seq (.reg [⟨Sa 4,.mv (.c (.i .i64 0)),Sb⟩]) (.seq (.seq (.reg [⟨Sa 6,.mv (.t 0),Sb⟩,⟨Sa 7,.nck (.t 6),Sb⟩,⟨Sa 8,.fad 0 (.t 7),Sb⟩,⟨Sa 9,.load1 (.t 8),Sb⟩,⟨Sa 10,.lenr (.t 9),Sb⟩,⟨Sa 11,.bin .eql (.t 10) (.c (.i .i64 0)),Sb⟩,⟨Sa 12,.mv (.t 11),Sb⟩,⟨Sa 13,.mv (.t 1),some (12,false)⟩,⟨Sa 14,.bin .leq (.t 13) (.c (.i .i64 1)),some (12,false)⟩,⟨Sa 15,.pick (.t 12) (.c (.b true)) (.t 14),Sb⟩]) (.cond (.t 15) (.seq (.reg [⟨Sa 4,.mv (.c (.i .i64 0)),Sb⟩]) (.ret)) (.skip))) (.seq (.reg [⟨Sa 16,.mv (.t 0),Sb⟩,⟨Sa 17,.nck (.t 16),Sb⟩,⟨Sa 18,.fad 0 (.t 17),Sb⟩,⟨Sa 19,.load1 (.t 18),Sb⟩,⟨Sa 20,.iad 1 (.t 19) (.c (.i .i64 0)),Sb⟩,⟨Sa 21,.load1 (.t 20),Sb⟩,⟨Sa 22,.cvi .i64 (.t 21),Sb⟩,⟨Sa 5,.mv (.t 22),Sb⟩]) (.seq (.reg [⟨Sa 23,.mv (.t 0),Sb⟩,⟨Sa 24,.mv (.t 0),Sb⟩,⟨Sa 25,.nck (.t 24),Sb⟩,⟨Sa 26,.fad 0 (.t 25),Sb⟩,⟨Sa 27,.load1 (.t 26),Sb⟩,⟨Sa 28,.pu (.rsl 1) [.t 27,.c (.i .i64 1)],Sb⟩,⟨Sa 29,.nck (.t 23),Sb⟩,⟨Sa 30,.fad 0 (.t 29),Sb⟩,⟨Sb,.store 1 (.t 30) (.t 28),Sb⟩]) (.seq (.reg [⟨Sa 31,.mv (.t 5),Sb⟩,⟨Sa 32,.mv (.t 1),Sb⟩,⟨Sa 33,.bin .rem (.t 31) (.t 32),Sb⟩,⟨Sa 4,.mv (.t 33),Sb⟩]) (.ret)))))
theorem is_made_Dice_Next:FnIs Tryz.prog 36 34 [.tmp 4] c_made_Dice_Next:=⟨⟨_,_,Tryz.func36,rfl,rfl,by kernel_rfl,by kernel_rfl⟩⟩
def c_made_Dice_One:SCode :=.seq (.reg [⟨Sa 4,.mv (.c (.s [])),Sb⟩]) (.seq (.reg [⟨Sa 5,.mv (.t 1),Sb⟩,⟨Sa 6,.mv (.t 0),Sb⟩,⟨Sa 7,.mv (.t 1),Sb⟩,⟨Sa 8,.lenr (.t 7),Sb⟩,⟨Sa 9,.call 36 [.t 6,.t 8],Sb⟩,⟨Sa 10,.iad 1 (.t 5) (.t 9),Sb⟩,⟨Sa 11,.load1 (.t 10),Sb⟩,⟨Sa 4,.mv (.t 11),Sb⟩]) (.ret))
theorem is_made_Dice_One:FnIs Tryz.prog 37 12 [.tmp 4] c_made_Dice_One:=⟨⟨_,_,Tryz.func37,rfl,rfl,by kernel_rfl,by kernel_rfl⟩⟩
def c_slices_Clone__api_Property_api_Property:SCode :=.seq (.reg [⟨Sa 2,.mv (.c .nil),Sb⟩]) (.seq (.seq (.reg [⟨Sa 3,.mv (.t 0),Sb⟩,⟨Sa 4,.pu (.snil false) [.t 3,.c .nil],Sb⟩]) (.cond (.t 4) (.seq (.reg [⟨Sa 2,.mv (.c .nil),Sb⟩]) (.ret)) (.skip))) (.seq (.reg [⟨Sa 5,.mks 79 3 1 (.c (.i .i64 0)) (.c (.i .i64 0)),Sb⟩,⟨Sa 6,.mv (.t 0),Sb⟩,⟨Sa 7,.app 79 3 40 (.t 5) (.t 6),Sb⟩,⟨Sa 2,.mv (.t 7),Sb⟩]) (.ret)))
theorem is_slices_Clone__api_Property_api_Property:FnIs Tryz.prog 38 8 [.tmp 2] c_slices_Clone__api_Property_api_Property:=⟨⟨_,_,Tryz.func38,rfl,rfl,by kernel_rfl,by kernel_rfl⟩⟩
def c_slices_Contains__api_ID_api_ID:SCode :=.seq (.reg [⟨Sa 3,.box 28 (.t 1),Sb⟩,⟨Sa 4,.mv (.c (.b false)),Sb⟩]) (.seq (.reg [⟨Sa 5,.mv (.t 0),Sb⟩,⟨Sa 6,.loadn 4 (.t 3),Sb⟩,⟨Sa 7,.call 69 [.t 5,.t 6],Sb⟩,⟨Sa 8,.bin .geq (.t 7) (.c (.i .i64 0)),Sb⟩,⟨Sa 4,.mv (.t 8),Sb⟩]) (.ret))
theorem is_slices_Contains__api_ID_api_ID:FnIs Tryz.prog 40 9 [.tmp 4] c_slices_Contains__api_ID_api_ID:=⟨⟨_,_,Tryz.func40,rfl,rfl,by kernel_rfl,by kernel_rfl⟩⟩
def c_ident_Valid:SCode :=.seq (.reg [⟨Sa 1,.box 28 (.t 0),Sb⟩,⟨Sa 2,.mv (.c (.b false)),Sb⟩]) (.seq (.reg [⟨Sa 6,.fad 1 (.t 1),Sb⟩,⟨Sa 7,.load1 (.t 6),Sb⟩,⟨Sa 8,.call 39 [.t 7],Sb⟩,⟨Sa 5,.mv (.t 8),Sb⟩,⟨Sa 9,.ext (.t 5) 0,Sb⟩,⟨Sa 10,.ext (.t 5) 1,Sb⟩,⟨Sa 3,.alloc 28 [.i .i64 0,.s [],.s [],.i .i64 0],Sb⟩,⟨Sb,.store 4 (.t 3) (.t 9),Sb⟩,⟨Sa 4,.mv (.t 10),Sb⟩]) (.seq (.reg [⟨Sa 11,.mv (.t 4),Sb⟩,⟨Sa 12,.bin .eql (.t 11) (.c (.i .i64 0)),Sb⟩,⟨Sa 13,.mv (.t 12),Sb⟩,⟨Sa 14,.loadn 4 (.t 3),some (13,true)⟩,⟨Sa 15,.loadn 4 (.t 1),some (13,true)⟩,⟨Sa 16,.eqs false (.str [(0,(none,.ti)),(1,(none,.ts)),(2,(none,.ts)),(3,(none,.ti))]) (.t 14) (.t 15),some (13,true)⟩,⟨Sa 17,.pick (.t 13) (.t 16) (.c (.b false)),Sb⟩,⟨Sa 2,.mv (.t 17),Sb⟩]) (.ret)))
theorem is_ident_Valid:FnIs Tryz.prog 41 18 [.tmp 2] c_ident_Valid:=⟨⟨_,_,Tryz.func41,rfl,rfl,by kernel_rfl,by kernel_rfl⟩⟩
def c_ident_Authority:SCode :=.seq (.reg [⟨Sa 1,.box 28 (.t 0),Sb⟩,⟨Sa 2,.alloc 59 [.s [],.i .i64 0],Sb⟩]) (.seq (.reg [⟨Sa 3,.fad 2 (.t 1),Sb⟩,⟨Sa 4,.load1 (.t 3),Sb⟩,⟨Sa 5,.fad 3 (.t 1),Sb⟩,⟨Sa 6,.load1 (.t 5),Sb⟩,⟨Sa 7,.build [.s [],.i .i64 0] [(0,(1,.t 4)),(1,(1,.t 6))],Sb⟩,⟨Sb,.store 2 (.t 2) (.t 7),Sb⟩]) (.ret))
theorem is_ident_Authority:FnIs Tryz.prog 42 8 [.celln 2 2] c_ident_Authority:=⟨⟨_,_,Tryz.func42,rfl,rfl,by kernel_rfl,by kernel_rfl⟩⟩
def c_host_Format:SCode :=.seq (.reg [⟨Sa 1,.box 59 (.t 0),Sb⟩,⟨Sa 2,.mv (.c (.s [])),Sb⟩]) (.seq (.seq (.reg [⟨Sa 3,.fad 1 (.t 1),Sb⟩,⟨Sa 4,.load1 (.t 3),Sb⟩,⟨Sa 5,.bin .eql (.t 4) (.c (.i .i64 0)),Sb⟩]) (.cond (.t 5) (.seq (.reg [⟨Sa 6,.fad 0 (.t 1),Sb⟩,⟨Sa 7,.load1 (.t 6),Sb⟩,⟨Sa 2,.mv (.t 7),Sb⟩]) (.ret)) (.skip))) (.seq (.drw [⟨Sa 8,.fad 0 (.t 1),Sb⟩,⟨Sa 9,.load1 (.t 8),Sb⟩,⟨Sa 10,.bin .add (.t 9) (.c (.s [58])),Sb⟩,⟨Sa 11,.fad 1 (.t 1),Sb⟩,⟨Sa 12,.load1 (.t 11),Sb⟩,⟨Sa 13,.call 72 [.t 12],Sb⟩,⟨Sa 14,.bin .add (.t 10) (.t 13),Sb⟩,⟨Sa 2,.mv (.t 14),Sb⟩] 8 []) (.ret)))
theorem is_host_Format:FnIs Tryz.prog 45 15 [.tmp 2] c_host_Format:=⟨⟨_,_,Tryz.func45,rfl,rfl,by kernel_rfl,by kernel_rfl⟩⟩
def c_weburl_Origin:SCode :=.seq (.reg [⟨Sa 1,.box 39 (.t 0),Sb⟩,⟨Sa 2,.alloc 59 [.s [],.i .i64 0],Sb⟩]) (.seq (.reg [⟨Sa 3,.fad 0 (.t 1),Sb⟩,⟨Sa 4,.load1 (.t 3),Sb⟩,⟨Sa 5,.fad 1 (.t 1),Sb⟩,⟨Sa 6,.load1 (.t 5),Sb⟩,⟨Sa 7,.build [.s [],.i .i64 0] [(0,(1,.t 4)),(1,(1,.t 6))],Sb⟩,⟨Sb,.store 2 (.t 2) (.t 7),Sb⟩]) (.ret))
theorem is_weburl_Origin:FnIs Tryz.prog 46 8 [.celln 2 2] c_weburl_Origin:=⟨⟨_,_,Tryz.func46,rfl,rfl,by kernel_rfl,by kernel_rfl⟩⟩
def c_weburl_Target:SCode :=.seq (.reg [⟨Sa 1,.box 39 (.t 0),Sb⟩,⟨Sa 2,.mv (.c (.s [])),Sb⟩]) (.seq (.seq (.reg [⟨Sa 3,.fad 5 (.t 1),Sb⟩,⟨Sa 4,.load1 (.t 3),Sb⟩,⟨Sa 5,.not (.t 4),Sb⟩]) (.cond (.t 5) (.seq (.reg [⟨Sa 6,.fad 2 (.t 1),Sb⟩,⟨Sa 7,.load1 (.t 6),Sb⟩,⟨Sa 2,.mv (.t 7),Sb⟩]) (.ret)) (.skip))) (.seq (.reg [⟨Sa 8,.fad 2 (.t 1),Sb⟩,⟨Sa 9,.load1 (.t 8),Sb⟩,⟨Sa 10,.bin .add (.t 9) (.c (.s [63])),Sb⟩,⟨Sa 11,.fad 3 (.t 1),Sb⟩,⟨Sa 12,.load1 (.t 11),Sb⟩,⟨Sa 13,.bin .add (.t 10) (.t 12),Sb⟩,⟨Sa 2,.mv (.t 13),Sb⟩]) (.ret)))
theorem is_weburl_Target:FnIs Tryz.prog 47 14 [.tmp 2] c_weburl_Target:=⟨⟨_,_,Tryz.func47,rfl,rfl,by kernel_rfl,by kernel_rfl⟩⟩
def c_ref05_Decimal:SCode :=.seq (.reg [⟨Sa 2,.mv (.c (.s [])),Sb⟩]) (.seq (.seq (.reg [⟨Sa 3,.mv (.t 0),Sb⟩,⟨Sa 4,.bin .lss (.t 3) (.c (.i .i64 0)),Sb⟩]) (.cond (.t 4) (.seq (.reg [⟨Sa 5,.mv (.t 0),Sb⟩,⟨Sa 6,.bin .add (.t 5) (.c (.i .i64 1)),Sb⟩,⟨Sa 7,.neg (.t 6),Sb⟩,⟨Sa 8,.cvi .u64 (.t 7),Sb⟩,⟨Sa 9,.bin .add (.t 8) (.c (.i .u64 1)),Sb⟩,⟨Sa 10,.call 73 [.t 9],Sb⟩,⟨Sa 11,.bin .add (.c (.s [45])) (.t 10),Sb⟩,⟨Sa 2,.mv (.t 11),Sb⟩]) (.ret)) (.skip))) (.seq (.reg [⟨Sa 12,.mv (.t 0),Sb⟩,⟨Sa 13,.cvi .u64 (.t 12),Sb⟩,⟨Sa 14,.call 73 [.t 13],Sb⟩,⟨Sa 2,.mv (.t 14),Sb⟩]) (.ret)))
theorem is_ref05_Decimal:FnIs Tryz.prog 48 15 [.tmp 2] c_ref05_Decimal:=⟨⟨_,_,Tryz.func48,rfl,rfl,by kernel_rfl,by kernel_rfl⟩⟩
def c_ref07_Parse:SCode :=.seq (.reg [⟨Sa 2,.alloc 39 [.s [],.i .i64 0,.s [],.s [],.s [],.b false,.b false],Sb⟩,⟨Sa 3,.mv (.c (.i .i64 0)),Sb⟩]) (.seq (.seq (.reg [⟨Sa 11,.mv (.t 0),Sb⟩,⟨Sa 12,.lens (.t 11),Sb⟩,⟨Sa 13,.bin .gtr (.t 12) (.c (.i .i64 4096)),Sb⟩]) (.cond (.t 13) (.seq (.reg [⟨Sa 14,.build [.s [],.i .i64 0,.s [],.s [],.s [],.b false,.b false] [],Sb⟩,⟨Sb,.store 7 (.t 2) (.t 14),Sb⟩,⟨Sa 3,.mv (.c (.i .i64 5)),Sb⟩]) (.ret)) (.skip))) (.seq (.reg [⟨Sa 16,.mv (.t 0),Sb⟩,⟨Sa 17,.call 82 [.t 16],Sb⟩,⟨Sa 15,.mv (.t 17),Sb⟩,⟨Sa 18,.ext (.t 15) 0,Sb⟩,⟨Sa 19,.ext (.t 15) 1,Sb⟩,⟨Sa 4,.alloc 119 [.s [],.s [],.s [],.s [],.s [],.b false,.b false,.b false,.b false],Sb⟩,⟨Sb,.store 9 (.t 4) (.t 18),Sb⟩,⟨Sa 5,.mv (.t 19),Sb⟩]) (.seq (.seq (.reg [⟨Sa 20,.mv (.t 5),Sb⟩,⟨Sa 21,.bin .neq (.t 20) (.c (.i .i64 0)),Sb⟩]) (.cond (.t 21) (.seq (.reg [⟨Sa 22,.build [.s [],.i .i64 0,.s [],.s [],.s [],.b false,.b false] [],Sb⟩,⟨Sa 23,.mv (.t 5),Sb⟩,⟨Sb,.store 7 (.t 2) (.t 22),Sb⟩,⟨Sa 3,.mv (.t 23),Sb⟩]) (.ret)) (.skip))) (.seq (.blk 0 (.seq (.reg [⟨Sa 25,.fad 5 (.t 4),Sb⟩,⟨Sa 26,.load1 (.t 25),Sb⟩,⟨Sa 27,.not (.t 26),Sb⟩,⟨Sa 28,.mv (.t 27),Sb⟩,⟨Sa 29,.fad 0 (.t 4),some (28,false)⟩,⟨Sa 30,.load1 (.t 29),some (28,false)⟩,⟨Sa 31,.call 50 [.t 30,.c (.s [104,116,116,112,115])],some (28,false)⟩,⟨Sa 32,.not (.t 31),some (28,false)⟩,⟨Sa 33,.pick (.t 28) (.c (.b true)) (.t 32),Sb⟩,⟨Sa 24,.mv (.t 33),Sb⟩]) (.cond (.t 24) (.seq (.reg [⟨Sa 34,.build [.s [],.i .i64 0,.s [],.s [],.s [],.b false,.b false] [],Sb⟩,⟨Sb,.store 7 (.t 2) (.t 34),Sb⟩,⟨Sa 3,.mv (.c (.i .i64 60)),Sb⟩]) (.ret)) (.seq (.reg [⟨Sa 36,.fad 6 (.t 4),Sb⟩,⟨Sa 37,.load1 (.t 36),Sb⟩,⟨Sa 38,.not (.t 37),Sb⟩,⟨Sa 35,.mv (.t 38),Sb⟩]) (.cond (.t 35) (.seq (.reg [⟨Sa 39,.build [.s [],.i .i64 0,.s [],.s [],.s [],.b false,.b false] [],Sb⟩,⟨Sb,.store 7 (.t 2) (.t 39),Sb⟩,⟨Sa 3,.mv (.c (.i .i64 71)),Sb⟩]) (.ret)) (.seq (.drw [⟨Sa 41,.fad 1 (.t 4),Sb⟩,⟨Sa 42,.load1 (.t 41),Sb⟩,⟨Sa 43,.call 27 [.t 42,.c (.s [64])],Sb⟩,⟨Sa 44,.fad 1 (.t 4),Sb⟩,⟨Sa 45,.load1 (.t 44),Sb⟩,⟨Sa 46,.lens (.t 45),Sb⟩,⟨Sa 47,.bin .lss (.t 43) (.t 46),Sb⟩,⟨Sa 40,.mv (.t 47),Sb⟩] 8 []) (.cond (.t 40) (.seq (.reg [⟨Sa 48,.build [.s [],.i .i64 0,.s [],.s [],.s [],.b false,.b false] [],Sb⟩,⟨Sb,.store 7 (.t 2) (.t 48),Sb⟩,⟨Sa 3,.mv (.c (.i .i64 70)),Sb⟩]) (.ret)) (.skip)))))))) (.seq (.reg [⟨Sa 50,.fad 1 (.t 4),Sb⟩,⟨Sa 51,.load1 (.t 50),Sb⟩,⟨Sa 52,.call 83 [.t 51],Sb⟩,⟨Sa 49,.mv (.t 52),Sb⟩,⟨Sa 53,.ext (.t 49) 0,Sb⟩,⟨Sa 54,.ext (.t 49) 1,Sb⟩,⟨Sa 6,.alloc 59 [.s [],.i .i64 0],Sb⟩,⟨Sb,.store 2 (.t 6) (.t 53),Sb⟩,⟨Sa 5,.mv (.t 54),Sb⟩]) (.seq (.seq (.reg [⟨Sa 55,.mv (.t 5),Sb⟩,⟨Sa 56,.bin .neq (.t 55) (.c (.i .i64 0)),Sb⟩]) (.cond (.t 56) (.seq (.reg [⟨Sa 57,.build [.s [],.i .i64 0,.s [],.s [],.s [],.b false,.b false] [],Sb⟩,⟨Sa 58,.mv (.t 5),Sb⟩,⟨Sb,.store 7 (.t 2) (.t 57),Sb⟩,⟨Sa 3,.mv (.t 58),Sb⟩]) (.ret)) (.skip))) (.seq (.reg [⟨Sa 60,.fad 2 (.t 4),Sb⟩,⟨Sa 61,.load1 (.t 60),Sb⟩,⟨Sa 62,.call 51 [.t 61,.c (.s [33,36,38,39,40,41,42,43,44,59,61,58,64,47])],Sb⟩,⟨Sa 59,.mv (.t 62),Sb⟩,⟨Sa 63,.ext (.t 59) 0,Sb⟩,⟨Sa 64,.ext (.t 59) 1,Sb⟩,⟨Sa 7,.mv (.t 63),Sb⟩,⟨Sa 5,.mv (.t 64),Sb⟩]) (.seq (.seq (.reg [⟨Sa 65,.mv (.t 5),Sb⟩,⟨Sa 66,.bin .neq (.t 65) (.c (.i .i64 0)),Sb⟩]) (.cond (.t 66) (.seq (.reg [⟨Sa 67,.build [.s [],.i .i64 0,.s [],.s [],.s [],.b false,.b false] [],Sb⟩,⟨Sa 68,.mv (.t 5),Sb⟩,⟨Sb,.store 7 (.t 2) (.t 67),Sb⟩,⟨Sa 3,.mv (.t 68),Sb⟩]) (.ret)) (.skip))) (.seq (.reg [⟨Sa 70,.fad 3 (.t 4),Sb⟩,⟨Sa 71,.load1 (.t 70),Sb⟩,⟨Sa 72,.call 51 [.t 71,.c (.s [33,36,38,39,40,41,42,43,44,59,61,58,64,47,63])],Sb⟩,⟨Sa 69,.mv (.t 72),Sb⟩,⟨Sa 73,.ext (.t 69) 0,Sb⟩,⟨Sa 74,.ext (.t 69) 1,Sb⟩,⟨Sa 8,.mv (.t 73),Sb⟩,⟨Sa 5,.mv (.t 74),Sb⟩]) (.seq (.seq (.reg [⟨Sa 75,.mv (.t 5),Sb⟩,⟨Sa 76,.bin .neq (.t 75) (.c (.i .i64 0)),Sb⟩]) (.cond (.t 76) (.seq (.reg [⟨Sa 77,.build [.s [],.i .i64 0,.s [],.s [],.s [],.b false,.b false] [],Sb⟩,⟨Sa 78,.mv (.t 5),Sb⟩,⟨Sb,.store 7 (.t 2) (.t 77),Sb⟩,⟨Sa 3,.mv (.t 78),Sb⟩]) (.ret)) (.skip))) (.seq (.reg [⟨Sa 80,.fad 4 (.t 4),Sb⟩,⟨Sa 81,.load1 (.t 80),Sb⟩,⟨Sa 82,.call 51 [.t 81,.c (.s [33,36,38,39,40,41,42,43,44,59,61,58,64,47,63])],Sb⟩,⟨Sa 79,.mv (.t 82),Sb⟩,⟨Sa 83,.ext (.t 79) 0,Sb⟩,⟨Sa 84,.ext (.t 79) 1,Sb⟩,⟨Sa 9,.mv (.t 83),Sb⟩,⟨Sa 5,.mv (.t 84),Sb⟩]) (.seq (.seq (.reg [⟨Sa 85,.mv (.t 5),Sb⟩,⟨Sa 86,.bin .neq (.t 85) (.c (.i .i64 0)),Sb⟩]) (.cond (.t 86) (.seq (.reg [⟨Sa 87,.build [.s [],.i .i64 0,.s [],.s [],.s [],.b false,.b false] [],Sb⟩,⟨Sa 88,.mv (.t 5),Sb⟩,⟨Sb,.store 7 (.t 2) (.t 87),Sb⟩,⟨Sa 3,.mv (.t 88),Sb⟩]) (.ret)) (.skip))) (.seq (.seq (.reg [⟨Sa 89,.mv (.t 7),Sb⟩,⟨Sa 90,.call 84 [.t 89],Sb⟩,⟨Sa 7,.mv (.t 90),Sb⟩]) (.seq (.reg [⟨Sa 91,.mv (.t 7),Sb⟩,⟨Sa 92,.bin .eql (.t 91) (.c (.s [])),Sb⟩]) (.cond (.t 92) (.reg [⟨Sa 7,.mv (.c (.s [47])),Sb⟩]) (.skip)))) (.seq (.reg [⟨Sa 93,.fad 0 (.t 6),Sb⟩,⟨Sa 94,.load1 (.t 93),Sb⟩,⟨Sa 95,.fad 1 (.t 6),Sb⟩,⟨Sa 96,.load1 (.t 95),Sb⟩,⟨Sa 97,.mv (.t 7),Sb⟩,⟨Sa 98,.mv (.t 8),Sb⟩,⟨Sa 99,.mv (.t 9),Sb⟩,⟨Sa 100,.fad 7 (.t 4),Sb⟩,⟨Sa 101,.load1 (.t 100),Sb⟩,⟨Sa 102,.fad 8 (.t 4),Sb⟩,⟨Sa 103,.load1 (.t 102),Sb⟩,⟨Sa 104,.build [.s [],.i .i64 0,.s [],.s [],.s [],.b false,.b false] [(0,(1,.t 94)),(1,(1,.t 96)),(2,(1,.t 97)),(3,(1,.t 98)),(4,(1,.t 99)),(5,(1,.t 101)),(6,(1,.t 103))],Sb⟩,⟨Sa 10,.alloc 39 [.s [],.i .i64 0,.s [],.s [],.s [],.b false,.b false],Sb⟩,⟨Sb,.store 7 (.t 10) (.t 104),Sb⟩]) (.seq (.seq (.reg [⟨Sa 105,.loadn 7 (.t 10),Sb⟩,⟨Sa 106,.call 13 [.t 105],Sb⟩,⟨Sa 107,.lens (.t 106),Sb⟩,⟨Sa 108,.bin .gtr (.t 107) (.c (.i .i64 4096)),Sb⟩]) (.cond (.t 108) (.seq (.reg [⟨Sa 109,.build [.s [],.i .i64 0,.s [],.s [],.s [],.b false,.b false] [],Sb⟩,⟨Sb,.store 7 (.t 2) (.t 109),Sb⟩,⟨Sa 3,.mv (.c (.i .i64 5)),Sb⟩]) (.ret)) (.skip))) (.seq (.reg [⟨Sa 110,.loadn 7 (.t 10),Sb⟩,⟨Sb,.store 7 (.t 2) (.t 110),Sb⟩,⟨Sa 3,.mv (.c (.i .i64 0)),Sb⟩]) (.ret)))))))))))))))))
theorem is_ref07_Parse:FnIs Tryz.prog 58 111 [.celln 2 7,.tmp 3] c_ref07_Parse:=⟨⟨_,_,Tryz.func58,rfl,rfl,by kernel_rfl,by kernel_rfl⟩⟩
def c_ref10_ParseDID:SCode :=.seq (.reg [⟨Sa 2,.alloc 93 [.s [],.s []],Sb⟩,⟨Sa 3,.mv (.c (.i .i64 0)),Sb⟩]) (.seq (.blk 0 (.seq (.reg [⟨Sa 17,.mv (.t 0),Sb⟩,⟨Sa 18,.lens (.t 17),Sb⟩,⟨Sa 19,.bin .gtr (.t 18) (.c (.i .i64 4096)),Sb⟩,⟨Sa 16,.mv (.t 19),Sb⟩]) (.cond (.t 16) (.seq (.reg [⟨Sa 20,.build [.s [],.s []] [],Sb⟩,⟨Sb,.store 2 (.t 2) (.t 20),Sb⟩,⟨Sa 3,.mv (.c (.i .i64 5)),Sb⟩]) (.ret)) (.seq (.reg [⟨Sa 22,.mv (.t 0),Sb⟩,⟨Sa 23,.call 85 [.t 22,.c (.s [100,105,100,58])],Sb⟩,⟨Sa 24,.not (.t 23),Sb⟩,⟨Sa 21,.mv (.t 24),Sb⟩]) (.cond (.t 21) (.seq (.reg [⟨Sa 25,.build [.s [],.s []] [],Sb⟩,⟨Sb,.store 2 (.t 2) (.t 25),Sb⟩,⟨Sa 3,.mv (.c (.i .i64 60)),Sb⟩]) (.ret)) (.skip)))))) (.seq (.reg [⟨Sa 26,.mv (.t 0),Sb⟩,⟨Sa 27,.slcs (.t 26) (some (.c (.i .i64 4))) none,Sb⟩,⟨Sa 0,.mv (.t 27),Sb⟩]) (.seq (.reg [⟨Sa 28,.mv (.t 0),Sb⟩,⟨Sa 29,.call 27 [.t 28,.c (.s [58])],Sb⟩,⟨Sa 4,.mv (.t 29),Sb⟩]) (.seq (.seq (.reg [⟨Sa 30,.mv (.t 4),Sb⟩,⟨Sa 31,.mv (.t 0),Sb⟩,⟨Sa 32,.lens (.t 31),Sb⟩,⟨Sa 33,.bin .eql (.t 30) (.t 32),Sb⟩]) (.cond (.t 33) (.seq (.reg [⟨Sa 34,.build [.s [],.s []] [],Sb⟩,⟨Sb,.store 2 (.t 2) (.t 34),Sb⟩,⟨Sa 3,.mv (.c (.i .i64 6)),Sb⟩]) (.ret)) (.skip))) (.seq (.seq (.reg [⟨Sa 35,.mv (.t 0),Sb⟩,⟨Sa 36,.mv (.t 4),Sb⟩,⟨Sa 37,.slcs (.t 35) none (some (.t 36)),Sb⟩,⟨Sa 38,.call 86 [.t 37],Sb⟩,⟨Sa 39,.not (.t 38),Sb⟩]) (.cond (.t 39) (.seq (.reg [⟨Sa 40,.build [.s [],.s []] [],Sb⟩,⟨Sb,.store 2 (.t 2) (.t 40),Sb⟩,⟨Sa 3,.mv (.c (.i .i64 100)),Sb⟩]) (.ret)) (.skip))) (.seq (.reg [⟨Sa 41,.mv (.t 0),Sb⟩,⟨Sa 42,.mv (.t 4),Sb⟩,⟨Sa 43,.bin .add (.t 42) (.c (.i .i64 1)),Sb⟩,⟨Sa 44,.slcs (.t 41) (some (.t 43)) none,Sb⟩,⟨Sa 45,.call 79 [.t 44,.c (.i .u8 58)],Sb⟩,⟨Sa 5,.mv (.t 45),Sb⟩]) (.seq (.seq (.reg [⟨Sa 46,.mv (.t 5),Sb⟩,⟨Sa 47,.lenr (.t 46),Sb⟩,⟨Sa 48,.mv (.c (.i .i64 0)),Sb⟩]) (.blk 1 (.loop (.seq (.reg [⟨Sa 49,.bin .lss (.t 48) (.t 47),Sb⟩]) (.seq (.cond (.t 49) (.skip) (.exit 1)) (.seq (.blk 2 (.seq (.reg [⟨Sa 50,.iad 1 (.t 46) (.t 48),Sb⟩,⟨Sa 51,.load1 (.t 50),Sb⟩,⟨Sa 7,.mv (.t 51),Sb⟩]) (.seq (.reg [⟨Sa 53,.mv (.t 7),Sb⟩,⟨Sa 54,.call 54 [.t 53],Sb⟩,⟨Sa 52,.mv (.t 54),Sb⟩,⟨Sa 55,.ext (.t 52) 0,Sb⟩,⟨Sa 56,.ext (.t 52) 1,Sb⟩,⟨Sa 8,.mv (.t 55),Sb⟩,⟨Sa 9,.mv (.t 56),Sb⟩]) (.seq (.reg [⟨Sa 57,.mv (.t 9),Sb⟩,⟨Sa 58,.bin .neq (.t 57) (.c (.i .i64 0)),Sb⟩]) (.cond (.t 58) (.seq (.reg [⟨Sa 59,.build [.s [],.s []] [],Sb⟩,⟨Sb,.store 2 (.t 2) (.t 59),Sb⟩,⟨Sa 3,.mv (.c (.i .i64 2)),Sb⟩]) (.ret)) (.skip)))))) (.reg [⟨Sa 60,.bin .add (.t 48) (.c (.i .i64 1)),Sb⟩,⟨Sa 48,.mv (.t 60),Sb⟩]))))))) (.seq (.reg [⟨Sa 10,.mv (.c (.s [])),Sb⟩]) (.seq (.seq (.reg [⟨Sa 61,.mv (.t 5),Sb⟩,⟨Sa 62,.lenr (.t 61),Sb⟩,⟨Sa 63,.mv (.c (.i .i64 0)),Sb⟩]) (.blk 3 (.loop (.seq (.reg [⟨Sa 64,.bin .lss (.t 63) (.t 62),Sb⟩]) (.seq (.cond (.t 64) (.skip) (.exit 3)) (.seq (.blk 4 (.seq (.reg [⟨Sa 65,.mv (.t 63),Sb⟩,⟨Sa 66,.iad 1 (.t 61) (.t 63),Sb⟩,⟨Sa 67,.load1 (.t 66),Sb⟩,⟨Sa 11,.mv (.t 65),Sb⟩,⟨Sa 12,.mv (.t 67),Sb⟩]) (.seq (.seq (.reg [⟨Sa 13,.mv (.c (.i .i64 0)),Sb⟩]) (.blk 5 (.loop (.seq (.seq (.reg [⟨Sa 68,.mv (.t 13),Sb⟩,⟨Sa 69,.mv (.t 12),Sb⟩,⟨Sa 70,.lens (.t 69),Sb⟩,⟨Sa 71,.bin .lss (.t 68) (.t 70),Sb⟩]) (.cond (.t 71) (.skip) (.exit 5))) (.seq (.blk 6 (.seq (.reg [⟨Sa 74,.mv (.t 12),Sb⟩,⟨Sa 75,.mv (.t 13),Sb⟩,⟨Sa 76,.idx (.t 74) (.t 75),Sb⟩,⟨Sa 77,.call 87 [.t 76],Sb⟩,⟨Sa 78,.not (.t 77),Sb⟩,⟨Sa 79,.mv (.t 78),Sb⟩,⟨Sa 80,.mv (.t 12),some (79,true)⟩,⟨Sa 81,.mv (.t 13),some (79,true)⟩,⟨Sa 82,.idx (.t 80) (.t 81),some (79,true)⟩,⟨Sa 83,.bin .neq (.t 82) (.c (.i .u8 37)),some (79,true)⟩,⟨Sa 84,.pick (.t 79) (.t 83) (.c (.b false)),Sb⟩]) (.cond (.t 84) (.seq (.reg [⟨Sa 85,.build [.s [],.s []] [],Sb⟩,⟨Sb,.store 2 (.t 2) (.t 85),Sb⟩,⟨Sa 3,.mv (.c (.i .i64 1)),Sb⟩]) (.ret)) (.skip)))) (.reg [⟨Sa 72,.mv (.t 13),Sb⟩,⟨Sa 73,.bin .add (.t 72) (.c (.i .i64 1)),Sb⟩,⟨Sa 13,.mv (.t 73),Sb⟩])))))) (.seq (.reg [⟨Sa 87,.mv (.t 12),Sb⟩,⟨Sa 88,.call 54 [.t 87],Sb⟩,⟨Sa 86,.mv (.t 88),Sb⟩,⟨Sa 89,.ext (.t 86) 0,Sb⟩,⟨Sa 90,.ext (.t 86) 1,Sb⟩,⟨Sa 14,.mv (.t 89),Sb⟩,⟨Sa 15,.mv (.t 90),Sb⟩]) (.seq (.seq (.reg [⟨Sa 91,.mv (.t 11),Sb⟩,⟨Sa 92,.bin .gtr (.t 91) (.c (.i .i64 0)),Sb⟩]) (.cond (.t 92) (.reg [⟨Sa 93,.mv (.t 10),Sb⟩,⟨Sa 94,.bin .add (.t 93) (.c (.s [58])),Sb⟩,⟨Sa 10,.mv (.t 94),Sb⟩]) (.skip))) (.reg [⟨Sa 95,.mv (.t 10),Sb⟩,⟨Sa 96,.mv (.t 14),Sb⟩,⟨Sa 97,.call 88 [.t 96],Sb⟩,⟨Sa 98,.bin .add (.t 95) (.t 97),Sb⟩,⟨Sa 10,.mv (.t 98),Sb⟩])))))) (.reg [⟨Sa 99,.bin .add (.t 63) (.c (.i .i64 1)),Sb⟩,⟨Sa 63,.mv (.t 99),Sb⟩]))))))) (.seq (.seq (.reg [⟨Sa 100,.mv (.t 5),Sb⟩,⟨Sa 101,.mv (.t 5),Sb⟩,⟨Sa 102,.lenr (.t 101),Sb⟩,⟨Sa 103,.bin .sub (.t 102) (.c (.i .i64 1)),Sb⟩,⟨Sa 104,.iad 1 (.t 100) (.t 103),Sb⟩,⟨Sa 105,.load1 (.t 104),Sb⟩,⟨Sa 106,.bin .eql (.t 105) (.c (.s [])),Sb⟩]) (.cond (.t 106) (.seq (.reg [⟨Sa 107,.build [.s [],.s []] [],Sb⟩,⟨Sb,.store 2 (.t 2) (.t 107),Sb⟩,⟨Sa 3,.mv (.c (.i .i64 3)),Sb⟩]) (.ret)) (.skip))) (.seq (.reg [⟨Sa 108,.mv (.t 0),Sb⟩,⟨Sa 109,.mv (.t 4),Sb⟩,⟨Sa 110,.slcs (.t 108) none (some (.t 109)),Sb⟩,⟨Sa 111,.mv (.t 10),Sb⟩,⟨Sa 112,.build [.s [],.s []] [(0,(1,.t 110)),(1,(1,.t 111))],Sb⟩,⟨Sb,.store 2 (.t 2) (.t 112),Sb⟩,⟨Sa 3,.mv (.c (.i .i64 0)),Sb⟩]) (.ret))))))))))))
theorem is_ref10_ParseDID:FnIs Tryz.prog 59 113 [.celln 2 2,.tmp 3] c_ref10_ParseDID:=⟨⟨_,_,Tryz.func59,rfl,rfl,by kernel_rfl,by kernel_rfl⟩⟩
def c_ref11_Canonical:SCode :=.seq (.reg [⟨Sa 1,.box 93 (.t 0),Sb⟩,⟨Sa 2,.alloc 93 [.s [],.s []],Sb⟩,⟨Sa 3,.mv (.c (.i .i64 0)),Sb⟩]) (.seq (.reg [⟨Sa 7,.loadn 2 (.t 1),Sb⟩,⟨Sa 8,.call 89 [.t 7],Sb⟩,⟨Sa 6,.mv (.t 8),Sb⟩,⟨Sa 9,.ext (.t 6) 0,Sb⟩,⟨Sa 10,.ext (.t 6) 1,Sb⟩,⟨Sa 4,.alloc 39 [.s [],.i .i64 0,.s [],.s [],.s [],.b false,.b false],Sb⟩,⟨Sb,.store 7 (.t 4) (.t 9),Sb⟩,⟨Sa 5,.mv (.t 10),Sb⟩]) (.seq (.seq (.reg [⟨Sa 11,.mv (.t 5),Sb⟩,⟨Sa 12,.bin .neq (.t 11) (.c (.i .i64 0)),Sb⟩]) (.cond (.t 12) (.seq (.reg [⟨Sa 13,.build [.s [],.s []] [],Sb⟩,⟨Sa 14,.mv (.t 5),Sb⟩,⟨Sb,.store 2 (.t 2) (.t 13),Sb⟩,⟨Sa 3,.mv (.t 14),Sb⟩]) (.ret)) (.skip))) (.seq (.reg [⟨Sa 15,.loadn 7 (.t 4),Sb⟩,⟨Sa 16,.call 90 [.t 15],Sb⟩,⟨Sa 17,.ext (.t 16) 0,Sb⟩,⟨Sa 18,.ext (.t 16) 1,Sb⟩,⟨Sb,.store 2 (.t 2) (.t 17),Sb⟩,⟨Sa 3,.mv (.t 18),Sb⟩]) (.ret))))
theorem is_ref11_Canonical:FnIs Tryz.prog 60 19 [.celln 2 2,.tmp 3] c_ref11_Canonical:=⟨⟨_,_,Tryz.func60,rfl,rfl,by kernel_rfl,by kernel_rfl⟩⟩
def c_ref11_Authority:SCode :=.seq (.reg [⟨Sa 1,.box 93 (.t 0),Sb⟩,⟨Sa 2,.alloc 59 [.s [],.i .i64 0],Sb⟩,⟨Sa 3,.mv (.c (.i .i64 0)),Sb⟩]) (.seq (.reg [⟨Sa 8,.loadn 2 (.t 1),Sb⟩,⟨Sa 9,.call 91 [.t 8],Sb⟩,⟨Sa 7,.mv (.t 9),Sb⟩,⟨Sa 10,.ext (.t 7) 0,Sb⟩,⟨Sa 11,.ext (.t 7) 1,Sb⟩,⟨Sa 12,.ext (.t 7) 2,Sb⟩,⟨Sa 5,.alloc 59 [.s [],.i .i64 0],Sb⟩,⟨Sa 4,.mv (.t 10),Sb⟩,⟨Sb,.store 2 (.t 5) (.t 11),Sb⟩,⟨Sa 6,.mv (.t 12),Sb⟩]) (.seq (.reg [⟨Sa 13,.loadn 2 (.t 5),Sb⟩,⟨Sa 14,.mv (.t 6),Sb⟩,⟨Sb,.store 2 (.t 2) (.t 13),Sb⟩,⟨Sa 3,.mv (.t 14),Sb⟩]) (.ret)))
theorem is_ref11_Authority:FnIs Tryz.prog 61 15 [.celln 2 2,.tmp 3] c_ref11_Authority:=⟨⟨_,_,Tryz.func61,rfl,rfl,by kernel_rfl,by kernel_rfl⟩⟩
def c_ref10_FormatDID:SCode :=.seq (.reg [⟨Sa 1,.box 93 (.t 0),Sb⟩,⟨Sa 2,.mv (.c (.s [])),Sb⟩]) (.seq (.reg [⟨Sa 3,.fad 0 (.t 1),Sb⟩,⟨Sa 4,.load1 (.t 3),Sb⟩,⟨Sa 5,.bin .add (.c (.s [100,105,100,58])) (.t 4),Sb⟩,⟨Sa 6,.bin .add (.t 5) (.c (.s [58])),Sb⟩,⟨Sa 7,.fad 1 (.t 1),Sb⟩,⟨Sa 8,.load1 (.t 7),Sb⟩,⟨Sa 9,.bin .add (.t 6) (.t 8),Sb⟩,⟨Sa 2,.mv (.t 9),Sb⟩]) (.ret))
theorem is_ref10_FormatDID:FnIs Tryz.prog 62 10 [.tmp 2] c_ref10_FormatDID:=⟨⟨_,_,Tryz.func62,rfl,rfl,by kernel_rfl,by kernel_rfl⟩⟩
def c_ident_text_acct:SCode :=.seq (.reg [⟨Sa 2,.alloc 28 [.i .i64 0,.s [],.s [],.i .i64 0],Sb⟩,⟨Sa 3,.mv (.c (.i .i64 0)),Sb⟩]) (.seq (.reg [⟨Sa 7,.mv (.t 0),Sb⟩,⟨Sa 8,.call 92 [.t 7],Sb⟩,⟨Sa 6,.mv (.t 8),Sb⟩,⟨Sa 9,.ext (.t 6) 0,Sb⟩,⟨Sa 10,.ext (.t 6) 1,Sb⟩,⟨Sa 4,.alloc 64 [.s [],.s []],Sb⟩,⟨Sb,.store 2 (.t 4) (.t 9),Sb⟩,⟨Sa 5,.mv (.t 10),Sb⟩]) (.seq (.seq (.reg [⟨Sa 11,.mv (.t 5),Sb⟩,⟨Sa 12,.bin .neq (.t 11) (.c (.i .i64 0)),Sb⟩]) (.cond (.t 12) (.seq (.reg [⟨Sa 13,.build [.i .i64 0,.s [],.s [],.i .i64 0] [],Sb⟩,⟨Sa 14,.mv (.t 5),Sb⟩,⟨Sb,.store 4 (.t 2) (.t 13),Sb⟩,⟨Sa 3,.mv (.t 14),Sb⟩]) (.ret)) (.skip))) (.seq (.drw [⟨Sa 15,.loadn 2 (.t 4),Sb⟩,⟨Sa 16,.call 93 [.t 15],Sb⟩,⟨Sa 17,.fad 1 (.t 4),Sb⟩,⟨Sa 18,.load1 (.t 17),Sb⟩,⟨Sa 19,.build [.i .i64 0,.s [],.s [],.i .i64 0] [(0,(1,.c (.i .i64 1))),(1,(1,.t 16)),(2,(1,.t 18))],Sb⟩,⟨Sb,.store 4 (.t 2) (.t 19),Sb⟩,⟨Sa 3,.mv (.c (.i .i64 0)),Sb⟩] 5 []) (.ret))))
theorem is_ident_text_acct:FnIs Tryz.prog 63 20 [.celln 2 4,.tmp 3] c_ident_text_acct:=⟨⟨_,_,Tryz.func63,rfl,rfl,by kernel_rfl,by kernel_rfl⟩⟩
def c_ident_text_mail:SCode :=.seq (.reg [⟨Sa 2,.alloc 28 [.i .i64 0,.s [],.s [],.i .i64 0],Sb⟩,⟨Sa 3,.mv (.c (.i .i64 0)),Sb⟩]) (.seq (.reg [⟨Sa 7,.mv (.t 0),Sb⟩,⟨Sa 8,.call 94 [.t 7],Sb⟩,⟨Sa 6,.mv (.t 8),Sb⟩,⟨Sa 9,.ext (.t 6) 0,Sb⟩,⟨Sa 10,.ext (.t 6) 1,Sb⟩,⟨Sa 4,.alloc 69 [.s [],.s []],Sb⟩,⟨Sb,.store 2 (.t 4) (.t 9),Sb⟩,⟨Sa 5,.mv (.t 10),Sb⟩]) (.seq (.seq (.reg [⟨Sa 11,.mv (.t 5),Sb⟩,⟨Sa 12,.bin .neq (.t 11) (.c (.i .i64 0)),Sb⟩]) (.cond (.t 12) (.seq (.reg [⟨Sa 13,.build [.i .i64 0,.s [],.s [],.i .i64 0] [],Sb⟩,⟨Sa 14,.mv (.t 5),Sb⟩,⟨Sb,.store 4 (.t 2) (.t 13),Sb⟩,⟨Sa 3,.mv (.t 14),Sb⟩]) (.ret)) (.skip))) (.seq (.drw [⟨Sa 15,.loadn 2 (.t 4),Sb⟩,⟨Sa 16,.call 95 [.t 15],Sb⟩,⟨Sa 17,.fad 1 (.t 4),Sb⟩,⟨Sa 18,.load1 (.t 17),Sb⟩,⟨Sa 19,.build [.i .i64 0,.s [],.s [],.i .i64 0] [(0,(1,.c (.i .i64 2))),(1,(1,.t 16)),(2,(1,.t 18))],Sb⟩,⟨Sb,.store 4 (.t 2) (.t 19),Sb⟩,⟨Sa 3,.mv (.c (.i .i64 0)),Sb⟩] 5 []) (.ret))))
theorem is_ident_text_mail:FnIs Tryz.prog 64 20 [.celln 2 4,.tmp 3] c_ident_text_mail:=⟨⟨_,_,Tryz.func64,rfl,rfl,by kernel_rfl,by kernel_rfl⟩⟩
def c_ident_text_web:SCode :=.seq (.reg [⟨Sa 2,.alloc 28 [.i .i64 0,.s [],.s [],.i .i64 0],Sb⟩,⟨Sa 3,.mv (.c (.i .i64 0)),Sb⟩]) (.seq (.reg [⟨Sa 7,.mv (.t 0),Sb⟩,⟨Sa 8,.call 96 [.t 7],Sb⟩,⟨Sa 6,.mv (.t 8),Sb⟩,⟨Sa 9,.ext (.t 6) 0,Sb⟩,⟨Sa 10,.ext (.t 6) 1,Sb⟩,⟨Sa 4,.alloc 39 [.s [],.i .i64 0,.s [],.s [],.s [],.b false,.b false],Sb⟩,⟨Sb,.store 7 (.t 4) (.t 9),Sb⟩,⟨Sa 5,.mv (.t 10),Sb⟩]) (.seq (.seq (.reg [⟨Sa 11,.mv (.t 5),Sb⟩,⟨Sa 12,.bin .neq (.t 11) (.c (.i .i64 0)),Sb⟩]) (.cond (.t 12) (.seq (.reg [⟨Sa 13,.build [.i .i64 0,.s [],.s [],.i .i64 0] [],Sb⟩,⟨Sa 14,.mv (.t 5),Sb⟩,⟨Sb,.store 4 (.t 2) (.t 13),Sb⟩,⟨Sa 3,.mv (.t 14),Sb⟩]) (.ret)) (.skip))) (.seq (.drw [⟨Sa 15,.loadn 7 (.t 4),Sb⟩,⟨Sa 16,.call 23 [.t 15],Sb⟩,⟨Sa 17,.fad 0 (.t 4),Sb⟩,⟨Sa 18,.load1 (.t 17),Sb⟩,⟨Sa 19,.fad 1 (.t 4),Sb⟩,⟨Sa 20,.load1 (.t 19),Sb⟩,⟨Sa 21,.build [.i .i64 0,.s [],.s [],.i .i64 0] [(0,(1,.c (.i .i64 3))),(1,(1,.t 16)),(2,(1,.t 18)),(3,(1,.t 20))],Sb⟩,⟨Sb,.store 4 (.t 2) (.t 21),Sb⟩,⟨Sa 3,.mv (.c (.i .i64 0)),Sb⟩] 7 []) (.ret))))
theorem is_ident_text_web:FnIs Tryz.prog 65 22 [.celln 2 4,.tmp 3] c_ident_text_web:=⟨⟨_,_,Tryz.func65,rfl,rfl,by kernel_rfl,by kernel_rfl⟩⟩
def c_ident_text_did:SCode :=.seq (.reg [⟨Sa 2,.alloc 28 [.i .i64 0,.s [],.s [],.i .i64 0],Sb⟩,⟨Sa 3,.mv (.c (.i .i64 0)),Sb⟩]) (.seq (.reg [⟨Sa 8,.mv (.t 0),Sb⟩,⟨Sa 9,.call 97 [.t 8],Sb⟩,⟨Sa 7,.mv (.t 9),Sb⟩,⟨Sa 10,.ext (.t 7) 0,Sb⟩,⟨Sa 11,.ext (.t 7) 1,Sb⟩,⟨Sa 4,.alloc 93 [.s [],.s []],Sb⟩,⟨Sb,.store 2 (.t 4) (.t 10),Sb⟩,⟨Sa 5,.mv (.t 11),Sb⟩]) (.seq (.seq (.reg [⟨Sa 12,.mv (.t 5),Sb⟩,⟨Sa 13,.bin .neq (.t 12) (.c (.i .i64 0)),Sb⟩]) (.cond (.t 13) (.seq (.reg [⟨Sa 14,.build [.i .i64 0,.s [],.s [],.i .i64 0] [],Sb⟩,⟨Sa 15,.mv (.t 5),Sb⟩,⟨Sb,.store 4 (.t 2) (.t 14),Sb⟩,⟨Sa 3,.mv (.t 15),Sb⟩]) (.ret)) (.skip))) (.seq (.reg [⟨Sa 17,.loadn 2 (.t 4),Sb⟩,⟨Sa 18,.call 98 [.t 17],Sb⟩,⟨Sa 16,.mv (.t 18),Sb⟩,⟨Sa 19,.ext (.t 16) 0,Sb⟩,⟨Sa 20,.ext (.t 16) 1,Sb⟩,⟨Sb,.store 2 (.t 4) (.t 19),Sb⟩,⟨Sa 5,.mv (.t 20),Sb⟩]) (.seq (.seq (.reg [⟨Sa 21,.mv (.t 5),Sb⟩,⟨Sa 22,.bin .neq (.t 21) (.c (.i .i64 0)),Sb⟩]) (.cond (.t 22) (.seq (.reg [⟨Sa 23,.build [.i .i64 0,.s [],.s [],.i .i64 0] [],Sb⟩,⟨Sa 24,.mv (.t 5),Sb⟩,⟨Sb,.store 4 (.t 2) (.t 23),Sb⟩,⟨Sa 3,.mv (.t 24),Sb⟩]) (.ret)) (.skip))) (.seq (.reg [⟨Sa 26,.loadn 2 (.t 4),Sb⟩,⟨Sa 27,.call 99 [.t 26],Sb⟩,⟨Sa 25,.mv (.t 27),Sb⟩,⟨Sa 28,.ext (.t 25) 0,Sb⟩,⟨Sa 29,.ext (.t 25) 1,Sb⟩,⟨Sa 6,.alloc 59 [.s [],.i .i64 0],Sb⟩,⟨Sb,.store 2 (.t 6) (.t 28),Sb⟩,⟨Sa 5,.mv (.t 29),Sb⟩]) (.seq (.seq (.reg [⟨Sa 30,.mv (.t 5),Sb⟩,⟨Sa 31,.bin .neq (.t 30) (.c (.i .i64 0)),Sb⟩]) (.cond (.t 31) (.seq (.reg [⟨Sa 32,.build [.i .i64 0,.s [],.s [],.i .i64 0] [],Sb⟩,⟨Sa 33,.mv (.t 5),Sb⟩,⟨Sb,.store 4 (.t 2) (.t 32),Sb⟩,⟨Sa 3,.mv (.t 33),Sb⟩]) (.ret)) (.skip))) (.seq (.drw [⟨Sa 34,.loadn 2 (.t 4),Sb⟩,⟨Sa 35,.call 100 [.t 34],Sb⟩,⟨Sa 36,.fad 0 (.t 6),Sb⟩,⟨Sa 37,.load1 (.t 36),Sb⟩,⟨Sa 38,.fad 1 (.t 6),Sb⟩,⟨Sa 39,.load1 (.t 38),Sb⟩,⟨Sa 40,.build [.i .i64 0,.s [],.s [],.i .i64 0] [(0,(1,.c (.i .i64 4))),(1,(1,.t 35)),(2,(1,.t 37)),(3,(1,.t 39))],Sb⟩,⟨Sb,.store 4 (.t 2) (.t 40),Sb⟩,⟨Sa 3,.mv (.c (.i .i64 0)),Sb⟩] 7 []) (.ret))))))))
theorem is_ident_text_did:FnIs Tryz.prog 66 41 [.celln 2 4,.tmp 3] c_ident_text_did:=⟨⟨_,_,Tryz.func66,rfl,rfl,by kernel_rfl,by kernel_rfl⟩⟩
def c_slices_Index__api_ID_api_ID:SCode :=.seq (.reg [⟨Sa 3,.box 28 (.t 1),Sb⟩,⟨Sa 4,.mv (.c (.i .i64 0)),Sb⟩]) (.seq (.seq (.reg [⟨Sa 6,.mv (.t 0),Sb⟩,⟨Sa 7,.lenr (.t 6),Sb⟩,⟨Sa 8,.mv (.c (.i .i64 0)),Sb⟩]) (.blk 0 (.loop (.seq (.reg [⟨Sa 9,.bin .lss (.t 8) (.t 7),Sb⟩]) (.seq (.cond (.t 9) (.skip) (.exit 0)) (.seq (.blk 1 (.seq (.reg [⟨Sa 10,.mv (.t 8),Sb⟩,⟨Sa 5,.mv (.t 10),Sb⟩]) (.seq (.drw [⟨Sa 11,.loadn 4 (.t 3),Sb⟩,⟨Sa 12,.mv (.t 0),Sb⟩,⟨Sa 13,.mv (.t 5),Sb⟩,⟨Sa 14,.iad 4 (.t 12) (.t 13),Sb⟩,⟨Sa 15,.loadn 4 (.t 14),Sb⟩,⟨Sa 16,.eqs false (.str [(0,(none,.ti)),(1,(none,.ts)),(2,(none,.ts)),(3,(none,.ti))]) (.t 11) (.t 15),Sb⟩] 6 []) (.cond (.t 16) (.seq (.reg [⟨Sa 17,.mv (.t 5),Sb⟩,⟨Sa 4,.mv (.t 17),Sb⟩]) (.ret)) (.skip))))) (.reg [⟨Sa 18,.bin .add (.t 8) (.c (.i .i64 1)),Sb⟩,⟨Sa 8,.mv (.t 18),Sb⟩]))))))) (.seq (.reg [⟨Sa 4,.mv (.c (.i .i64 (-1))),Sb⟩]) (.ret)))
theorem is_slices_Index__api_ID_api_ID:FnIs Tryz.prog 69 19 [.tmp 4] c_slices_Index__api_ID_api_ID:=⟨⟨_,_,Tryz.func69,rfl,rfl,by kernel_rfl,by kernel_rfl⟩⟩
def c_ref06_Split:SCode :=.seq (.reg [⟨Sa 2,.alloc 119 [.s [],.s [],.s [],.s [],.s [],.b false,.b false,.b false,.b false],Sb⟩,⟨Sa 3,.mv (.c (.i .i64 0)),Sb⟩]) (.seq (.seq (.reg [⟨Sa 9,.mv (.t 0),Sb⟩,⟨Sa 10,.lens (.t 9),Sb⟩,⟨Sa 11,.bin .gtr (.t 10) (.c (.i .i64 16384)),Sb⟩]) (.cond (.t 11) (.seq (.reg [⟨Sa 12,.build [.s [],.s [],.s [],.s [],.s [],.b false,.b false,.b false,.b false] [],Sb⟩,⟨Sb,.store 9 (.t 2) (.t 12),Sb⟩,⟨Sa 3,.mv (.c (.i .i64 5)),Sb⟩]) (.ret)) (.skip))) (.seq (.reg [⟨Sa 4,.alloc 119 [.s [],.s [],.s [],.s [],.s [],.b false,.b false,.b false,.b false],Sb⟩]) (.seq (.seq (.reg [⟨Sa 13,.mv (.t 0),Sb⟩,⟨Sa 14,.call 27 [.t 13,.c (.s [35])],Sb⟩,⟨Sa 5,.mv (.t 14),Sb⟩]) (.seq (.reg [⟨Sa 15,.mv (.t 5),Sb⟩,⟨Sa 16,.mv (.t 0),Sb⟩,⟨Sa 17,.lens (.t 16),Sb⟩,⟨Sa 18,.bin .lss (.t 15) (.t 17),Sb⟩]) (.cond (.t 18) (.drw [⟨Sa 19,.mv (.t 0),Sb⟩,⟨Sa 20,.mv (.t 5),Sb⟩,⟨Sa 21,.bin .add (.t 20) (.c (.i .i64 1)),Sb⟩,⟨Sa 22,.slcs (.t 19) (some (.t 21)) none,Sb⟩,⟨Sa 23,.mv (.t 0),Sb⟩,⟨Sa 24,.mv (.t 5),Sb⟩,⟨Sa 25,.slcs (.t 23) none (some (.t 24)),Sb⟩,⟨Sa 26,.fad 4 (.t 4),Sb⟩,⟨Sb,.store 1 (.t 26) (.t 22),Sb⟩,⟨Sa 27,.fad 8 (.t 4),Sb⟩,⟨Sb,.store 1 (.t 27) (.c (.b true)),Sb⟩,⟨Sa 0,.mv (.t 25),Sb⟩] 12 []) (.skip)))) (.seq (.seq (.reg [⟨Sa 28,.mv (.t 0),Sb⟩,⟨Sa 29,.call 27 [.t 28,.c (.s [63])],Sb⟩,⟨Sa 6,.mv (.t 29),Sb⟩]) (.seq (.reg [⟨Sa 30,.mv (.t 6),Sb⟩,⟨Sa 31,.mv (.t 0),Sb⟩,⟨Sa 32,.lens (.t 31),Sb⟩,⟨Sa 33,.bin .lss (.t 30) (.t 32),Sb⟩]) (.cond (.t 33) (.drw [⟨Sa 34,.mv (.t 0),Sb⟩,⟨Sa 35,.mv (.t 6),Sb⟩,⟨Sa 36,.bin .add (.t 35) (.c (.i .i64 1)),Sb⟩,⟨Sa 37,.slcs (.t 34) (some (.t 36)) none,Sb⟩,⟨Sa 38,.mv (.t 0),Sb⟩,⟨Sa 39,.mv (.t 6),Sb⟩,⟨Sa 40,.slcs (.t 38) none (some (.t 39)),Sb⟩,⟨Sa 41,.fad 3 (.t 4),Sb⟩,⟨Sb,.store 1 (.t 41) (.t 37),Sb⟩,⟨Sa 42,.fad 7 (.t 4),Sb⟩,⟨Sb,.store 1 (.t 42) (.c (.b true)),Sb⟩,⟨Sa 0,.mv (.t 40),Sb⟩] 12 []) (.skip)))) (.seq (.seq (.reg [⟨Sa 43,.mv (.t 0),Sb⟩,⟨Sa 44,.call 27 [.t 43,.c (.s [58,47])],Sb⟩,⟨Sa 7,.mv (.t 44),Sb⟩]) (.seq (.reg [⟨Sa 45,.mv (.t 7),Sb⟩,⟨Sa 46,.mv (.t 0),Sb⟩,⟨Sa 47,.lens (.t 46),Sb⟩,⟨Sa 48,.bin .lss (.t 45) (.t 47),Sb⟩,⟨Sa 49,.mv (.t 48),Sb⟩,⟨Sa 50,.mv (.t 0),some (49,true)⟩,⟨Sa 51,.mv (.t 7),some (49,true)⟩,⟨Sa 52,.idx (.t 50) (.t 51),some (49,true)⟩,⟨Sa 53,.bin .eql (.t 52) (.c (.i .u8 58)),some (49,true)⟩,⟨Sa 54,.pick (.t 49) (.t 53) (.c (.b false)),Sb⟩]) (.cond (.t 54) (.seq (.seq (.reg [⟨Sa 55,.mv (.t 0),Sb⟩,⟨Sa 56,.mv (.t 7),Sb⟩,⟨Sa 57,.slcs (.t 55) none (some (.t 56)),Sb⟩,⟨Sa 58,.call 112 [.t 57],Sb⟩,⟨Sa 59,.not (.t 58),Sb⟩]) (.cond (.t 59) (.seq (.reg [⟨Sa 60,.build [.s [],.s [],.s [],.s [],.s [],.b false,.b false,.b false,.b false] [],Sb⟩,⟨Sb,.store 9 (.t 2) (.t 60),Sb⟩,⟨Sa 3,.mv (.c (.i .i64 6)),Sb⟩]) (.ret)) (.skip))) (.drw [⟨Sa 61,.mv (.t 0),Sb⟩,⟨Sa 62,.mv (.t 7),Sb⟩,⟨Sa 63,.slcs (.t 61) none (some (.t 62)),Sb⟩,⟨Sa 64,.mv (.t 0),Sb⟩,⟨Sa 65,.mv (.t 7),Sb⟩,⟨Sa 66,.bin .add (.t 65) (.c (.i .i64 1)),Sb⟩,⟨Sa 67,.slcs (.t 64) (some (.t 66)) none,Sb⟩,⟨Sa 68,.fad 0 (.t 4),Sb⟩,⟨Sb,.store 1 (.t 68) (.t 63),Sb⟩,⟨Sa 69,.fad 5 (.t 4),Sb⟩,⟨Sb,.store 1 (.t 69) (.c (.b true)),Sb⟩,⟨Sa 0,.mv (.t 67),Sb⟩] 12 [])) (.skip)))) (.seq (.seq (.reg [⟨Sa 70,.mv (.t 0),Sb⟩,⟨Sa 71,.call 85 [.t 70,.c (.s [47,47])],Sb⟩]) (.cond (.t 71) (.seq (.reg [⟨Sa 72,.mv (.t 0),Sb⟩,⟨Sa 73,.slcs (.t 72) (some (.c (.i .i64 2))) none,Sb⟩,⟨Sa 74,.call 27 [.t 73,.c (.s [47])],Sb⟩,⟨Sa 75,.bin .add (.c (.i .i64 2)) (.t 74),Sb⟩,⟨Sa 8,.mv (.t 75),Sb⟩]) (.drw [⟨Sa 76,.mv (.t 0),Sb⟩,⟨Sa 77,.mv (.t 8),Sb⟩,⟨Sa 78,.slcs (.t 76) (some (.c (.i .i64 2))) (some (.t 77)),Sb⟩,⟨Sa 79,.mv (.t 0),Sb⟩,⟨Sa 80,.mv (.t 8),Sb⟩,⟨Sa 81,.slcs (.t 79) (some (.t 80)) none,Sb⟩,⟨Sa 82,.fad 1 (.t 4),Sb⟩,⟨Sb,.store 1 (.t 82) (.t 78),Sb⟩,⟨Sa 83,.fad 6 (.t 4),Sb⟩,⟨Sb,.store 1 (.t 83) (.c (.b true)),Sb⟩,⟨Sa 0,.mv (.t 81),Sb⟩] 11 [])) (.skip))) (.seq (.reg [⟨Sa 84,.mv (.t 0),Sb⟩,⟨Sa 85,.fad 2 (.t 4),Sb⟩,⟨Sb,.store 1 (.t 85) (.t 84),Sb⟩]) (.seq (.reg [⟨Sa 86,.loadn 9 (.t 4),Sb⟩,⟨Sb,.store 9 (.t 2) (.t 86),Sb⟩,⟨Sa 3,.mv (.c (.i .i64 0)),Sb⟩]) (.ret)))))))))
theorem is_ref06_Split:FnIs Tryz.prog 82 87 [.celln 2 9,.tmp 3] c_ref06_Split:=⟨⟨_,_,Tryz.func82,rfl,rfl,by kernel_rfl,by kernel_rfl⟩⟩
def c_ref05_Parse:SCode :=.seq (.reg [⟨Sa 2,.alloc 59 [.s [],.i .i64 0],Sb⟩,⟨Sa 3,.mv (.c (.i .i64 0)),Sb⟩]) (.seq (.reg [⟨Sa 8,.mv (.t 0),Sb⟩,⟨Sa 9,.call 27 [.t 8,.c (.s [58])],Sb⟩,⟨Sa 4,.mv (.t 9),Sb⟩]) (.seq (.reg [⟨Sa 11,.mv (.t 0),Sb⟩,⟨Sa 12,.mv (.t 4),Sb⟩,⟨Sa 13,.slcs (.t 11) none (some (.t 12)),Sb⟩,⟨Sa 14,.call 52 [.t 13],Sb⟩,⟨Sa 10,.mv (.t 14),Sb⟩,⟨Sa 15,.ext (.t 10) 0,Sb⟩,⟨Sa 16,.ext (.t 10) 1,Sb⟩,⟨Sa 5,.mv (.t 15),Sb⟩,⟨Sa 6,.mv (.t 16),Sb⟩]) (.seq (.seq (.reg [⟨Sa 17,.mv (.t 6),Sb⟩,⟨Sa 18,.bin .neq (.t 17) (.c (.i .i64 0)),Sb⟩]) (.cond (.t 18) (.seq (.reg [⟨Sa 19,.build [.s [],.i .i64 0] [],Sb⟩,⟨Sa 20,.mv (.t 6),Sb⟩,⟨Sb,.store 2 (.t 2) (.t 19),Sb⟩,⟨Sa 3,.mv (.t 20),Sb⟩]) (.ret)) (.skip))) (.seq (.seq (.reg [⟨Sa 21,.mv (.t 4),Sb⟩,⟨Sa 22,.mv (.t 0),Sb⟩,⟨Sa 23,.lens (.t 22),Sb⟩,⟨Sa 24,.bin .eql (.t 21) (.t 23),Sb⟩]) (.cond (.t 24) (.seq (.reg [⟨Sa 25,.mv (.t 5),Sb⟩,⟨Sa 26,.build [.s [],.i .i64 0] [(0,(1,.t 25))],Sb⟩,⟨Sb,.store 2 (.t 2) (.t 26),Sb⟩,⟨Sa 3,.mv (.c (.i .i64 0)),Sb⟩]) (.ret)) (.skip))) (.seq (.reg [⟨Sa 28,.mv (.t 0),Sb⟩,⟨Sa 29,.mv (.t 4),Sb⟩,⟨Sa 30,.bin .add (.t 29) (.c (.i .i64 1)),Sb⟩,⟨Sa 31,.slcs (.t 28) (some (.t 30)) none,Sb⟩,⟨Sa 32,.call 113 [.t 31],Sb⟩,⟨Sa 27,.mv (.t 32),Sb⟩,⟨Sa 33,.ext (.t 27) 0,Sb⟩,⟨Sa 34,.ext (.t 27) 1,Sb⟩,⟨Sa 7,.mv (.t 33),Sb⟩,⟨Sa 6,.mv (.t 34),Sb⟩]) (.seq (.seq (.reg [⟨Sa 35,.mv (.t 6),Sb⟩,⟨Sa 36,.bin .neq (.t 35) (.c (.i .i64 0)),Sb⟩]) (.cond (.t 36) (.seq (.reg [⟨Sa 37,.build [.s [],.i .i64 0] [],Sb⟩,⟨Sa 38,.mv (.t 6),Sb⟩,⟨Sb,.store 2 (.t 2) (.t 37),Sb⟩,⟨Sa 3,.mv (.t 38),Sb⟩]) (.ret)) (.skip))) (.seq (.seq (.reg [⟨Sa 39,.mv (.t 7),Sb⟩,⟨Sa 40,.bin .eql (.t 39) (.c (.i .i64 443)),Sb⟩]) (.cond (.t 40) (.reg [⟨Sa 7,.mv (.c (.i .i64 0)),Sb⟩]) (.skip))) (.seq (.reg [⟨Sa 41,.mv (.t 5),Sb⟩,⟨Sa 42,.mv (.t 7),Sb⟩,⟨Sa 43,.build [.s [],.i .i64 0] [(0,(1,.t 41)),(1,(1,.t 42))],Sb⟩,⟨Sb,.store 2 (.t 2) (.t 43),Sb⟩,⟨Sa 3,.mv (.c (.i .i64 0)),Sb⟩]) (.ret)))))))))
theorem is_ref05_Parse:FnIs Tryz.prog 83 44 [.celln 2 2,.tmp 3] c_ref05_Parse:=⟨⟨_,_,Tryz.func83,rfl,rfl,by kernel_rfl,by kernel_rfl⟩⟩
def c_ref10_method:SCode :=.seq (.reg [⟨Sa 2,.mv (.c (.b false)),Sb⟩]) (.seq (.seq (.reg [⟨Sa 3,.mv (.c (.i .i64 0)),Sb⟩]) (.blk 0 (.loop (.seq (.seq (.reg [⟨Sa 4,.mv (.t 3),Sb⟩,⟨Sa 5,.mv (.t 0),Sb⟩,⟨Sa 6,.lens (.t 5),Sb⟩,⟨Sa 7,.bin .lss (.t 4) (.t 6),Sb⟩]) (.cond (.t 7) (.skip) (.exit 0))) (.seq (.blk 1 (.seq (.reg [⟨Sa 10,.mv (.t 0),Sb⟩,⟨Sa 11,.mv (.t 3),Sb⟩,⟨Sa 12,.idx (.t 10) (.t 11),Sb⟩,⟨Sa 13,.call 78 [.t 12],Sb⟩,⟨Sa 14,.not (.t 13),Sb⟩,⟨Sa 15,.mv (.t 14),Sb⟩,⟨Sa 16,.mv (.t 0),some (15,true)⟩,⟨Sa 17,.mv (.t 3),some (15,true)⟩,⟨Sa 18,.idx (.t 16) (.t 17),some (15,true)⟩,⟨Sa 19,.bin .lss (.t 18) (.c (.i .u8 97)),some (15,true)⟩,⟨Sa 20,.mv (.t 19),some (15,true)⟩,⟨Sa 21,.mv (.t 0),some (20,false)⟩,⟨Sa 22,.mv (.t 3),some (20,false)⟩,⟨Sa 23,.idx (.t 21) (.t 22),some (20,false)⟩,⟨Sa 24,.bin .gtr (.t 23) (.c (.i .u8 122)),some (20,false)⟩,⟨Sa 25,.pick (.t 20) (.c (.b true)) (.t 24),some (15,true)⟩,⟨Sa 26,.pick (.t 15) (.t 25) (.c (.b false)),Sb⟩]) (.cond (.t 26) (.seq (.reg [⟨Sa 2,.mv (.c (.b false)),Sb⟩]) (.ret)) (.skip)))) (.reg [⟨Sa 8,.mv (.t 3),Sb⟩,⟨Sa 9,.bin .add (.t 8) (.c (.i .i64 1)),Sb⟩,⟨Sa 3,.mv (.t 9),Sb⟩])))))) (.seq (.reg [⟨Sa 27,.mv (.t 0),Sb⟩,⟨Sa 28,.bin .neq (.t 27) (.c (.s [])),Sb⟩,⟨Sa 2,.mv (.t 28),Sb⟩]) (.ret)))
theorem is_ref10_method:FnIs Tryz.prog 86 29 [.tmp 2] c_ref10_method:=⟨⟨_,_,Tryz.func86,rfl,rfl,by kernel_rfl,by kernel_rfl⟩⟩
def c_ref10_plain:SCode :=.seq (.reg [⟨Sa 2,.mv (.c (.b false)),Sb⟩]) (.seq (.reg [⟨Sa 3,.mv (.t 0),Sb⟩,⟨Sa 4,.call 77 [.t 3],Sb⟩,⟨Sa 5,.mv (.t 4),Sb⟩,⟨Sa 6,.mv (.t 0),some (5,false)⟩,⟨Sa 7,.call 78 [.t 6],some (5,false)⟩,⟨Sa 8,.pick (.t 5) (.c (.b true)) (.t 7),Sb⟩,⟨Sa 9,.mv (.t 8),Sb⟩,⟨Sa 10,.mv (.t 0),some (9,false)⟩,⟨Sa 11,.call 49 [.t 10,.c (.s [46,45,95])],some (9,false)⟩,⟨Sa 12,.pick (.t 9) (.c (.b true)) (.t 11),Sb⟩,⟨Sa 2,.mv (.t 12),Sb⟩]) (.ret))
theorem is_ref10_plain:FnIs Tryz.prog 87 13 [.tmp 2] c_ref10_plain:=⟨⟨_,_,Tryz.func87,rfl,rfl,by kernel_rfl,by kernel_rfl⟩⟩
def c_ref10_Escaped:SCode :=.seq (.reg [⟨Sa 2,.mv (.c (.s [])),Sb⟩]) (.seq (.reg [⟨Sa 3,.mv (.c (.s [])),Sb⟩]) (.seq (.seq (.reg [⟨Sa 4,.mv (.c (.i .i64 0)),Sb⟩]) (.blk 0 (.loop (.seq (.seq (.reg [⟨Sa 5,.mv (.t 4),Sb⟩,⟨Sa 6,.mv (.t 0),Sb⟩,⟨Sa 7,.lens (.t 6),Sb⟩,⟨Sa 8,.bin .lss (.t 5) (.t 7),Sb⟩]) (.cond (.t 8) (.skip) (.exit 0))) (.seq (.blk 1 (.seq (.reg [⟨Sa 11,.mv (.t 0),Sb⟩,⟨Sa 12,.mv (.t 4),Sb⟩,⟨Sa 13,.idx (.t 11) (.t 12),Sb⟩,⟨Sa 14,.call 87 [.t 13],Sb⟩]) (.cond (.t 14) (.reg [⟨Sa 15,.mv (.t 3),Sb⟩,⟨Sa 16,.mv (.t 0),Sb⟩,⟨Sa 17,.mv (.t 4),Sb⟩,⟨Sa 18,.mv (.t 4),Sb⟩,⟨Sa 19,.bin .add (.t 18) (.c (.i .i64 1)),Sb⟩,⟨Sa 20,.slcs (.t 16) (some (.t 17)) (some (.t 19)),Sb⟩,⟨Sa 21,.bin .add (.t 15) (.t 20),Sb⟩,⟨Sa 3,.mv (.t 21),Sb⟩]) (.reg [⟨Sa 22,.mv (.t 3),Sb⟩,⟨Sa 23,.mv (.t 0),Sb⟩,⟨Sa 24,.mv (.t 4),Sb⟩,⟨Sa 25,.idx (.t 23) (.t 24),Sb⟩,⟨Sa 26,.call 75 [.t 25],Sb⟩,⟨Sa 27,.bin .add (.t 22) (.t 26),Sb⟩,⟨Sa 3,.mv (.t 27),Sb⟩])))) (.reg [⟨Sa 9,.mv (.t 4),Sb⟩,⟨Sa 10,.bin .add (.t 9) (.c (.i .i64 1)),Sb⟩,⟨Sa 4,.mv (.t 10),Sb⟩])))))) (.seq (.reg [⟨Sa 28,.mv (.t 3),Sb⟩,⟨Sa 2,.mv (.t 28),Sb⟩]) (.ret))))
theorem is_ref10_Escaped:FnIs Tryz.prog 88 29 [.tmp 2] c_ref10_Escaped:=⟨⟨_,_,Tryz.func88,rfl,rfl,by kernel_rfl,by kernel_rfl⟩⟩
def c_ref11_ToURL:SCode :=.seq (.reg [⟨Sa 1,.box 93 (.t 0),Sb⟩,⟨Sa 2,.alloc 39 [.s [],.i .i64 0,.s [],.s [],.s [],.b false,.b false],Sb⟩,⟨Sa 3,.mv (.c (.i .i64 0)),Sb⟩]) (.seq (.reg [⟨Sa 14,.loadn 2 (.t 1),Sb⟩,⟨Sa 15,.call 91 [.t 14],Sb⟩,⟨Sa 13,.mv (.t 15),Sb⟩,⟨Sa 16,.ext (.t 13) 0,Sb⟩,⟨Sa 17,.ext (.t 13) 1,Sb⟩,⟨Sa 18,.ext (.t 13) 2,Sb⟩,⟨Sa 5,.alloc 59 [.s [],.i .i64 0],Sb⟩,⟨Sa 4,.mv (.t 16),Sb⟩,⟨Sb,.store 2 (.t 5) (.t 17),Sb⟩,⟨Sa 6,.mv (.t 18),Sb⟩]) (.seq (.seq (.reg [⟨Sa 19,.mv (.t 6),Sb⟩,⟨Sa 20,.bin .neq (.t 19) (.c (.i .i64 0)),Sb⟩]) (.cond (.t 20) (.seq (.reg [⟨Sa 21,.build [.s [],.i .i64 0,.s [],.s [],.s [],.b false,.b false] [],Sb⟩,⟨Sa 22,.mv (.t 6),Sb⟩,⟨Sb,.store 7 (.t 2) (.t 21),Sb⟩,⟨Sa 3,.mv (.t 22),Sb⟩]) (.ret)) (.skip))) (.seq (.reg [⟨Sa 7,.mv (.c (.s [])),Sb⟩]) (.seq (.seq (.reg [⟨Sa 23,.mv (.t 4),Sb⟩,⟨Sa 24,.pu (.rsl 1) [.t 23,.c (.i .i64 1)],Sb⟩,⟨Sa 25,.lenr (.t 24),Sb⟩,⟨Sa 26,.mv (.c (.i .i64 0)),Sb⟩]) (.blk 0 (.loop (.seq (.reg [⟨Sa 27,.bin .lss (.t 26) (.t 25),Sb⟩]) (.seq (.cond (.t 27) (.skip) (.exit 0)) (.seq (.blk 1 (.seq (.reg [⟨Sa 28,.iad 1 (.t 24) (.t 26),Sb⟩,⟨Sa 29,.load1 (.t 28),Sb⟩,⟨Sa 9,.mv (.t 29),Sb⟩]) (.seq (.reg [⟨Sa 31,.mv (.t 9),Sb⟩,⟨Sa 32,.call 54 [.t 31],Sb⟩,⟨Sa 30,.mv (.t 32),Sb⟩,⟨Sa 33,.ext (.t 30) 0,Sb⟩,⟨Sa 34,.ext (.t 30) 1,Sb⟩,⟨Sa 10,.mv (.t 33),Sb⟩,⟨Sa 11,.mv (.t 34),Sb⟩]) (.seq (.seq (.reg [⟨Sa 35,.mv (.t 10),Sb⟩,⟨Sa 36,.bin .eql (.t 35) (.c (.s [])),Sb⟩,⟨Sa 37,.mv (.t 36),Sb⟩,⟨Sa 38,.mv (.t 10),some (37,false)⟩,⟨Sa 39,.bin .eql (.t 38) (.c (.s [46])),some (37,false)⟩,⟨Sa 40,.pick (.t 37) (.c (.b true)) (.t 39),Sb⟩,⟨Sa 41,.mv (.t 40),Sb⟩,⟨Sa 42,.mv (.t 10),some (41,false)⟩,⟨Sa 43,.bin .eql (.t 42) (.c (.s [46,46])),some (41,false)⟩,⟨Sa 44,.pick (.t 41) (.c (.b true)) (.t 43),Sb⟩]) (.cond (.t 44) (.seq (.reg [⟨Sa 45,.build [.s [],.i .i64 0,.s [],.s [],.s [],.b false,.b false] [],Sb⟩,⟨Sb,.store 7 (.t 2) (.t 45),Sb⟩,⟨Sa 3,.mv (.c (.i .i64 110)),Sb⟩]) (.ret)) (.skip))) (.reg [⟨Sa 46,.mv (.t 7),Sb⟩,⟨Sa 47,.mv (.t 10),Sb⟩,⟨Sa 48,.call 57 [.t 47,.c (.s [])],Sb⟩,⟨Sa 49,.bin .add (.c (.s [47])) (.t 48),Sb⟩,⟨Sa 50,.bin .add (.t 46) (.t 49),Sb⟩,⟨Sa 7,.mv (.t 50),Sb⟩]))))) (.reg [⟨Sa 51,.bin .add (.t 26) (.c (.i .i64 1)),Sb⟩,⟨Sa 26,.mv (.t 51),Sb⟩]))))))) (.seq (.seq (.reg [⟨Sa 52,.mv (.t 4),Sb⟩,⟨Sa 53,.lenr (.t 52),Sb⟩,⟨Sa 54,.bin .eql (.t 53) (.c (.i .i64 1)),Sb⟩]) (.cond (.t 54) (.reg [⟨Sa 7,.mv (.c (.s [47,46,119,101,108,108,45,107,110,111,119,110])),Sb⟩]) (.skip))) (.seq (.reg [⟨Sa 55,.fad 0 (.t 5),Sb⟩,⟨Sa 56,.load1 (.t 55),Sb⟩,⟨Sa 57,.fad 1 (.t 5),Sb⟩,⟨Sa 58,.load1 (.t 57),Sb⟩,⟨Sa 59,.mv (.t 7),Sb⟩,⟨Sa 60,.bin .add (.t 59) (.c (.s [47,100,105,100,46,106,115,111,110])),Sb⟩,⟨Sa 61,.build [.s [],.i .i64 0,.s [],.s [],.s [],.b false,.b false] [(0,(1,.t 56)),(1,(1,.t 58)),(2,(1,.t 60))],Sb⟩,⟨Sa 12,.alloc 39 [.s [],.i .i64 0,.s [],.s [],.s [],.b false,.b false],Sb⟩,⟨Sb,.store 7 (.t 12) (.t 61),Sb⟩]) (.seq (.seq (.reg [⟨Sa 62,.loadn 7 (.t 12),Sb⟩,⟨Sa 63,.call 13 [.t 62],Sb⟩,⟨Sa 64,.lens (.t 63),Sb⟩,⟨Sa 65,.bin .gtr (.t 64) (.c (.i .i64 4096)),Sb⟩]) (.cond (.t 65) (.seq (.reg [⟨Sa 66,.build [.s [],.i .i64 0,.s [],.s [],.s [],.b false,.b false] [],Sb⟩,⟨Sb,.store 7 (.t 2) (.t 66),Sb⟩,⟨Sa 3,.mv (.c (.i .i64 5)),Sb⟩]) (.ret)) (.skip))) (.seq (.reg [⟨Sa 67,.loadn 7 (.t 12),Sb⟩,⟨Sb,.store 7 (.t 2) (.t 67),Sb⟩,⟨Sa 3,.mv (.c (.i .i64 0)),Sb⟩]) (.ret)))))))))
theorem is_ref11_ToURL:FnIs Tryz.prog 89 68 [.celln 2 7,.tmp 3] c_ref11_ToURL:=⟨⟨_,_,Tryz.func89,rfl,rfl,by kernel_rfl,by kernel_rfl⟩⟩
def c_ref11_FromURL:SCode :=.seq (.reg [⟨Sa 1,.box 39 (.t 0),Sb⟩,⟨Sa 2,.alloc 93 [.s [],.s []],Sb⟩,⟨Sa 3,.mv (.c (.i .i64 0)),Sb⟩]) (.seq (.seq (.reg [⟨Sa 12,.loadn 7 (.t 1),Sb⟩,⟨Sa 13,.call 115 [.t 12],Sb⟩,⟨Sa 14,.not (.t 13),Sb⟩]) (.cond (.t 14) (.seq (.reg [⟨Sa 15,.build [.s [],.s []] [],Sb⟩,⟨Sb,.store 2 (.t 2) (.t 15),Sb⟩,⟨Sa 3,.mv (.c (.i .i64 8)),Sb⟩]) (.ret)) (.skip))) (.seq (.reg [⟨Sa 16,.fad 2 (.t 1),Sb⟩,⟨Sa 17,.load1 (.t 16),Sb⟩,⟨Sa 18,.call 79 [.t 17,.c (.i .u8 47)],Sb⟩,⟨Sa 19,.pu (.rsl 1) [.t 18,.c (.i .i64 1)],Sb⟩,⟨Sa 4,.mv (.t 19),Sb⟩]) (.seq (.seq (.reg [⟨Sa 20,.fad 5 (.t 1),Sb⟩,⟨Sa 21,.load1 (.t 20),Sb⟩,⟨Sa 22,.mv (.t 21),Sb⟩,⟨Sa 23,.fad 6 (.t 1),some (22,false)⟩,⟨Sa 24,.load1 (.t 23),some (22,false)⟩,⟨Sa 25,.pick (.t 22) (.c (.b true)) (.t 24),Sb⟩,⟨Sa 26,.mv (.t 25),Sb⟩,⟨Sa 27,.mv (.t 4),some (26,false)⟩,⟨Sa 28,.mv (.t 4),some (26,false)⟩,⟨Sa 29,.lenr (.t 28),some (26,false)⟩,⟨Sa 30,.bin .sub (.t 29) (.c (.i .i64 1)),some (26,false)⟩,⟨Sa 31,.iad 1 (.t 27) (.t 30),some (26,false)⟩,⟨Sa 32,.load1 (.t 31),some (26,false)⟩,⟨Sa 33,.bin .neq (.t 32) (.c (.s [100,105,100,46,106,115,111,110])),some (26,false)⟩,⟨Sa 34,.pick (.t 26) (.c (.b true)) (.t 33),Sb⟩]) (.cond (.t 34) (.seq (.reg [⟨Sa 35,.build [.s [],.s []] [],Sb⟩,⟨Sb,.store 2 (.t 2) (.t 35),Sb⟩,⟨Sa 3,.mv (.c (.i .i64 6)),Sb⟩]) (.ret)) (.skip))) (.seq (.reg [⟨Sa 36,.mv (.t 4),Sb⟩,⟨Sa 37,.mv (.t 4),Sb⟩,⟨Sa 38,.lenr (.t 37),Sb⟩,⟨Sa 39,.bin .sub (.t 38) (.c (.i .i64 1)),Sb⟩,⟨Sa 40,.trn 1 (.t 36) (.t 39),Sb⟩,⟨Sa 4,.mv (.t 40),Sb⟩]) (.seq (.seq (.reg [⟨Sa 41,.mv (.t 4),Sb⟩,⟨Sa 42,.lenr (.t 41),Sb⟩,⟨Sa 43,.bin .eql (.t 42) (.c (.i .i64 0)),Sb⟩]) (.cond (.t 43) (.seq (.reg [⟨Sa 44,.build [.s [],.s []] [],Sb⟩,⟨Sb,.store 2 (.t 2) (.t 44),Sb⟩,⟨Sa 3,.mv (.c (.i .i64 110)),Sb⟩]) (.ret)) (.skip))) (.seq (.reg [⟨Sa 45,.fad 0 (.t 1),Sb⟩,⟨Sa 46,.load1 (.t 45),Sb⟩,⟨Sa 5,.mv (.t 46),Sb⟩]) (.seq (.seq (.reg [⟨Sa 47,.fad 1 (.t 1),Sb⟩,⟨Sa 48,.load1 (.t 47),Sb⟩,⟨Sa 49,.bin .neq (.t 48) (.c (.i .i64 0)),Sb⟩]) (.cond (.t 49) (.reg [⟨Sa 50,.mv (.t 5),Sb⟩,⟨Sa 51,.fad 1 (.t 1),Sb⟩,⟨Sa 52,.load1 (.t 51),Sb⟩,⟨Sa 53,.call 48 [.t 52],Sb⟩,⟨Sa 54,.bin .add (.c (.s [37,51,65])) (.t 53),Sb⟩,⟨Sa 55,.bin .add (.t 50) (.t 54),Sb⟩,⟨Sa 5,.mv (.t 55),Sb⟩]) (.skip))) (.seq (.seq (.reg [⟨Sa 56,.mv (.t 4),Sb⟩,⟨Sa 57,.lenr (.t 56),Sb⟩,⟨Sa 58,.mv (.c (.i .i64 0)),Sb⟩]) (.blk 0 (.loop (.seq (.reg [⟨Sa 59,.bin .lss (.t 58) (.t 57),Sb⟩]) (.seq (.cond (.t 59) (.skip) (.exit 0)) (.seq (.blk 1 (.seq (.reg [⟨Sa 60,.iad 1 (.t 56) (.t 58),Sb⟩,⟨Sa 61,.load1 (.t 60),Sb⟩,⟨Sa 7,.mv (.t 61),Sb⟩]) (.seq (.seq (.reg [⟨Sa 8,.mv (.c (.i .i64 0)),Sb⟩]) (.blk 2 (.loop (.seq (.seq (.reg [⟨Sa 62,.mv (.t 8),Sb⟩,⟨Sa 63,.mv (.t 7),Sb⟩,⟨Sa 64,.lens (.t 63),Sb⟩,⟨Sa 65,.bin .lss (.t 62) (.t 64),Sb⟩]) (.cond (.t 65) (.skip) (.exit 2))) (.seq (.blk 3 (.seq (.reg [⟨Sa 68,.mv (.t 7),Sb⟩,⟨Sa 69,.mv (.t 8),Sb⟩,⟨Sa 70,.idx (.t 68) (.t 69),Sb⟩,⟨Sa 71,.call 53 [.t 70],Sb⟩,⟨Sa 72,.not (.t 71),Sb⟩,⟨Sa 73,.mv (.t 72),Sb⟩,⟨Sa 74,.mv (.t 7),some (73,true)⟩,⟨Sa 75,.mv (.t 8),some (73,true)⟩,⟨Sa 76,.idx (.t 74) (.t 75),some (73,true)⟩,⟨Sa 77,.bin .neq (.t 76) (.c (.i .u8 37)),some (73,true)⟩,⟨Sa 78,.pick (.t 73) (.t 77) (.c (.b false)),Sb⟩]) (.cond (.t 78) (.seq (.reg [⟨Sa 79,.build [.s [],.s []] [],Sb⟩,⟨Sb,.store 2 (.t 2) (.t 79),Sb⟩,⟨Sa 3,.mv (.c (.i .i64 110)),Sb⟩]) (.ret)) (.skip)))) (.reg [⟨Sa 66,.mv (.t 8),Sb⟩,⟨Sa 67,.bin .add (.t 66) (.c (.i .i64 1)),Sb⟩,⟨Sa 8,.mv (.t 67),Sb⟩])))))) (.seq (.reg [⟨Sa 81,.mv (.t 7),Sb⟩,⟨Sa 82,.call 54 [.t 81],Sb⟩,⟨Sa 80,.mv (.t 82),Sb⟩,⟨Sa 83,.ext (.t 80) 0,Sb⟩,⟨Sa 84,.ext (.t 80) 1,Sb⟩,⟨Sa 9,.mv (.t 83),Sb⟩,⟨Sa 10,.mv (.t 84),Sb⟩]) (.seq (.seq (.reg [⟨Sa 85,.mv (.t 9),Sb⟩,⟨Sa 86,.bin .eql (.t 85) (.c (.s [])),Sb⟩]) (.cond (.t 86) (.seq (.reg [⟨Sa 87,.build [.s [],.s []] [],Sb⟩,⟨Sb,.store 2 (.t 2) (.t 87),Sb⟩,⟨Sa 3,.mv (.c (.i .i64 110)),Sb⟩]) (.ret)) (.skip))) (.seq (.reg [⟨Sa 88,.fad 2 (.t 1),Sb⟩,⟨Sa 89,.load1 (.t 88),Sb⟩,⟨Sa 90,.bin .neq (.t 89) (.c (.s [47,46,119,101,108,108,45,107,110,111,119,110,47,100,105,100,46,106,115,111,110])),Sb⟩]) (.cond (.t 90) (.reg [⟨Sa 91,.mv (.t 5),Sb⟩,⟨Sa 92,.mv (.t 9),Sb⟩,⟨Sa 93,.call 88 [.t 92],Sb⟩,⟨Sa 94,.bin .add (.c (.s [58])) (.t 93),Sb⟩,⟨Sa 95,.bin .add (.t 91) (.t 94),Sb⟩,⟨Sa 5,.mv (.t 95),Sb⟩]) (.skip)))))))) (.reg [⟨Sa 96,.bin .add (.t 58) (.c (.i .i64 1)),Sb⟩,⟨Sa 58,.mv (.t 96),Sb⟩]))))))) (.seq (.reg [⟨Sa 97,.mv (.t 5),Sb⟩,⟨Sa 98,.build [.s [],.s []] [(0,(1,.c (.s [119,101,98]))),(1,(1,.t 97))],Sb⟩,⟨Sa 11,.alloc 93 [.s [],.s []],Sb⟩,⟨Sb,.store 2 (.t 11) (.t 98),Sb⟩]) (.seq (.seq (.reg [⟨Sa 99,.loadn 2 (.t 11),Sb⟩,⟨Sa 100,.call 62 [.t 99],Sb⟩,⟨Sa 101,.lens (.t 100),Sb⟩,⟨Sa 102,.bin .gtr (.t 101) (.c (.i .i64 4096)),Sb⟩]) (.cond (.t 102) (.seq (.reg [⟨Sa 103,.build [.s [],.s []] [],Sb⟩,⟨Sb,.store 2 (.t 2) (.t 103),Sb⟩,⟨Sa 3,.mv (.c (.i .i64 5)),Sb⟩]) (.ret)) (.skip))) (.seq (.reg [⟨Sa 104,.loadn 2 (.t 11),Sb⟩,⟨Sb,.store 2 (.t 2) (.t 104),Sb⟩,⟨Sa 3,.mv (.c (.i .i64 0)),Sb⟩]) (.ret))))))))))))
theorem is_ref11_FromURL:FnIs Tryz.prog 90 105 [.celln 2 2,.tmp 3] c_ref11_FromURL:=⟨⟨_,_,Tryz.func90,rfl,rfl,by kernel_rfl,by kernel_rfl⟩⟩
def c_ref11_first:SCode :=.seq (.reg [⟨Sa 1,.box 93 (.t 0),Sb⟩,⟨Sa 2,.mv (.c .nil),Sb⟩,⟨Sa 3,.alloc 59 [.s [],.i .i64 0],Sb⟩,⟨Sa 4,.mv (.c (.i .i64 0)),Sb⟩]) (.seq (.seq (.reg [⟨Sa 12,.fad 0 (.t 1),Sb⟩,⟨Sa 13,.load1 (.t 12),Sb⟩,⟨Sa 14,.bin .neq (.t 13) (.c (.s [119,101,98])),Sb⟩]) (.cond (.t 14) (.seq (.reg [⟨Sa 15,.build [.s [],.i .i64 0] [],Sb⟩,⟨Sa 2,.mv (.c .nil),Sb⟩,⟨Sb,.store 2 (.t 3) (.t 15),Sb⟩,⟨Sa 4,.mv (.c (.i .i64 100)),Sb⟩]) (.ret)) (.skip))) (.seq (.seq (.reg [⟨Sa 17,.loadn 2 (.t 1),Sb⟩,⟨Sa 18,.call 62 [.t 17],Sb⟩,⟨Sa 19,.call 59 [.t 18],Sb⟩,⟨Sa 16,.mv (.t 19),Sb⟩,⟨Sa 20,.ext (.t 16) 0,Sb⟩,⟨Sa 21,.ext (.t 16) 1,Sb⟩,⟨Sa 5,.alloc 93 [.s [],.s []],Sb⟩,⟨Sb,.store 2 (.t 5) (.t 20),Sb⟩,⟨Sa 6,.mv (.t 21),Sb⟩]) (.seq (.reg [⟨Sa 22,.mv (.t 6),Sb⟩,⟨Sa 23,.bin .neq (.t 22) (.c (.i .i64 0)),Sb⟩]) (.cond (.t 23) (.seq (.reg [⟨Sa 24,.build [.s [],.i .i64 0] [],Sb⟩,⟨Sa 25,.mv (.t 6),Sb⟩,⟨Sa 2,.mv (.c .nil),Sb⟩,⟨Sb,.store 2 (.t 3) (.t 24),Sb⟩,⟨Sa 4,.mv (.t 25),Sb⟩]) (.ret)) (.skip)))) (.seq (.reg [⟨Sa 26,.fad 1 (.t 1),Sb⟩,⟨Sa 27,.load1 (.t 26),Sb⟩,⟨Sa 28,.call 79 [.t 27,.c (.i .u8 58)],Sb⟩,⟨Sa 7,.mv (.t 28),Sb⟩]) (.seq (.reg [⟨Sa 30,.mv (.t 7),Sb⟩,⟨Sa 31,.iad 1 (.t 30) (.c (.i .i64 0)),Sb⟩,⟨Sa 32,.load1 (.t 31),Sb⟩,⟨Sa 33,.call 54 [.t 32],Sb⟩,⟨Sa 29,.mv (.t 33),Sb⟩,⟨Sa 34,.ext (.t 29) 0,Sb⟩,⟨Sa 35,.ext (.t 29) 1,Sb⟩,⟨Sa 8,.mv (.t 34),Sb⟩,⟨Sa 9,.mv (.t 35),Sb⟩]) (.seq (.reg [⟨Sa 37,.mv (.t 8),Sb⟩,⟨Sa 38,.call 83 [.t 37],Sb⟩,⟨Sa 36,.mv (.t 38),Sb⟩,⟨Sa 39,.ext (.t 36) 0,Sb⟩,⟨Sa 40,.ext (.t 36) 1,Sb⟩,⟨Sa 10,.alloc 59 [.s [],.i .i64 0],Sb⟩,⟨Sb,.store 2 (.t 10) (.t 39),Sb⟩,⟨Sa 11,.mv (.t 40),Sb⟩]) (.seq (.drw [⟨Sa 41,.mv (.t 7),Sb⟩,⟨Sa 42,.loadn 2 (.t 10),Sb⟩,⟨Sa 43,.mv (.t 11),Sb⟩,⟨Sa 2,.mv (.t 41),Sb⟩,⟨Sb,.store 2 (.t 3) (.t 42),Sb⟩,⟨Sa 4,.mv (.t 43),Sb⟩] 6 []) (.ret)))))))
theorem is_ref11_first:FnIs Tryz.prog 91 44 [.tmp 2,.celln 3 2,.tmp 4] c_ref11_first:=⟨⟨_,_,Tryz.func91,rfl,rfl,by kernel_rfl,by kernel_rfl⟩⟩
def c_weburl_Parse:SCode :=.seq (.reg [⟨Sa 2,.alloc 39 [.s [],.i .i64 0,.s [],.s [],.s [],.b false,.b false],Sb⟩,⟨Sa 3,.mv (.c (.i .i64 0)),Sb⟩]) (.seq (.seq (.reg [⟨Sa 8,.mv (.t 0),Sb⟩,⟨Sa 9,.lens (.t 8),Sb⟩,⟨Sa 10,.bin .gtr (.t 9) (.c (.i .i64 4096)),Sb⟩]) (.cond (.t 10) (.seq (.reg [⟨Sa 11,.build [.s [],.i .i64 0,.s [],.s [],.s [],.b false,.b false] [],Sb⟩,⟨Sb,.store 7 (.t 2) (.t 11),Sb⟩,⟨Sa 3,.mv (.c (.i .i64 5)),Sb⟩]) (.ret)) (.skip))) (.seq (.reg [⟨Sa 13,.mv (.t 0),Sb⟩,⟨Sa 14,.call 123 [.t 13],Sb⟩,⟨Sa 12,.mv (.t 14),Sb⟩,⟨Sa 15,.ext (.t 12) 0,Sb⟩,⟨Sa 16,.ext (.t 12) 1,Sb⟩,⟨Sa 4,.alloc 119 [.s [],.s [],.s [],.s [],.s [],.b false,.b false,.b false,.b false],Sb⟩,⟨Sb,.store 9 (.t 4) (.t 15),Sb⟩,⟨Sa 5,.mv (.t 16),Sb⟩]) (.seq (.seq (.reg [⟨Sa 17,.mv (.t 5),Sb⟩,⟨Sa 18,.bin .neq (.t 17) (.c (.i .i64 0)),Sb⟩]) (.cond (.t 18) (.seq (.reg [⟨Sa 19,.build [.s [],.i .i64 0,.s [],.s [],.s [],.b false,.b false] [],Sb⟩,⟨Sa 20,.mv (.t 5),Sb⟩,⟨Sb,.store 7 (.t 2) (.t 19),Sb⟩,⟨Sa 3,.mv (.t 20),Sb⟩]) (.ret)) (.skip))) (.seq (.reg [⟨Sa 22,.loadn 9 (.t 4),Sb⟩,⟨Sa 23,.call 124 [.t 22],Sb⟩,⟨Sa 21,.mv (.t 23),Sb⟩,⟨Sa 24,.ext (.t 21) 0,Sb⟩,⟨Sa 25,.ext (.t 21) 1,Sb⟩,⟨Sa 6,.alloc 59 [.s [],.i .i64 0],Sb⟩,⟨Sb,.store 2 (.t 6) (.t 24),Sb⟩,⟨Sa 5,.mv (.t 25),Sb⟩]) (.seq (.seq (.reg [⟨Sa 26,.mv (.t 5),Sb⟩,⟨Sa 27,.bin .neq (.t 26) (.c (.i .i64 0)),Sb⟩]) (.cond (.t 27) (.seq (.reg [⟨Sa 28,.build [.s [],.i .i64 0,.s [],.s [],.s [],.b false,.b false] [],Sb⟩,⟨Sa 29,.mv (.t 5),Sb⟩,⟨Sb,.store 7 (.t 2) (.t 28),Sb⟩,⟨Sa 3,.mv (.t 29),Sb⟩]) (.ret)) (.skip))) (.seq (.reg [⟨Sa 31,.loadn 9 (.t 4),Sb⟩,⟨Sa 32,.call 125 [.t 31],Sb⟩,⟨Sa 30,.mv (.t 32),Sb⟩,⟨Sa 33,.ext (.t 30) 0,Sb⟩,⟨Sa 34,.ext (.t 30) 1,Sb⟩,⟨Sa 7,.alloc 39 [.s [],.i .i64 0,.s [],.s [],.s [],.b false,.b false],Sb⟩,⟨Sb,.store 7 (.t 7) (.t 33),Sb⟩,⟨Sa 5,.mv (.t 34),Sb⟩]) (.seq (.seq (.reg [⟨Sa 35,.mv (.t 5),Sb⟩,⟨Sa 36,.bin .neq (.t 35) (.c (.i .i64 0)),Sb⟩]) (.cond (.t 36) (.seq (.reg [⟨Sa 37,.build [.s [],.i .i64 0,.s [],.s [],.s [],.b false,.b false] [],Sb⟩,⟨Sa 38,.mv (.t 5),Sb⟩,⟨Sb,.store 7 (.t 2) (.t 37),Sb⟩,⟨Sa 3,.mv (.t 38),Sb⟩]) (.ret)) (.skip))) (.seq (.drw [⟨Sa 39,.fad 0 (.t 6),Sb⟩,⟨Sa 40,.load1 (.t 39),Sb⟩,⟨Sa 41,.fad 1 (.t 6),Sb⟩,⟨Sa 42,.load1 (.t 41),Sb⟩,⟨Sa 43,.fad 0 (.t 7),Sb⟩,⟨Sb,.store 1 (.t 43) (.t 40),Sb⟩,⟨Sa 44,.fad 1 (.t 7),Sb⟩,⟨Sb,.store 1 (.t 44) (.t 42),Sb⟩] 8 [(41,43)]) (.seq (.seq (.reg [⟨Sa 45,.loadn 7 (.t 7),Sb⟩,⟨Sa 46,.call 23 [.t 45],Sb⟩,⟨Sa 47,.lens (.t 46),Sb⟩,⟨Sa 48,.bin .gtr (.t 47) (.c (.i .i64 4096)),Sb⟩]) (.cond (.t 48) (.seq (.reg [⟨Sa 49,.build [.s [],.i .i64 0,.s [],.s [],.s [],.b false,.b false] [],Sb⟩,⟨Sb,.store 7 (.t 2) (.t 49),Sb⟩,⟨Sa 3,.mv (.c (.i .i64 5)),Sb⟩]) (.ret)) (.skip))) (.seq (.reg [⟨Sa 50,.loadn 7 (.t 7),Sb⟩,⟨Sb,.store 7 (.t 2) (.t 50),Sb⟩,⟨Sa 3,.mv (.c (.i .i64 0)),Sb⟩]) (.ret)))))))))))
theorem is_weburl_Parse:FnIs Tryz.prog 96 51 [.celln 2 7,.tmp 3] c_weburl_Parse:=⟨⟨_,_,Tryz.func96,rfl,rfl,by kernel_rfl,by kernel_rfl⟩⟩
def c_did_ParseDID:SCode :=.seq (.reg [⟨Sa 2,.alloc 93 [.s [],.s []],Sb⟩,⟨Sa 3,.mv (.c (.i .i64 0)),Sb⟩]) (.seq (.seq (.reg [⟨Sa 9,.mv (.t 0),Sb⟩,⟨Sa 10,.lens (.t 9),Sb⟩,⟨Sa 11,.bin .gtr (.t 10) (.c (.i .i64 4096)),Sb⟩]) (.cond (.t 11) (.seq (.reg [⟨Sa 12,.build [.s [],.s []] [],Sb⟩,⟨Sb,.store 2 (.t 2) (.t 12),Sb⟩,⟨Sa 3,.mv (.c (.i .i64 5)),Sb⟩]) (.ret)) (.skip))) (.seq (.reg [⟨Sa 14,.mv (.t 0),Sb⟩,⟨Sa 15,.call 126 [.t 14,.c (.s [100,105,100,58])],Sb⟩,⟨Sa 13,.mv (.t 15),Sb⟩,⟨Sa 16,.ext (.t 13) 0,Sb⟩,⟨Sa 17,.ext (.t 13) 1,Sb⟩,⟨Sa 4,.mv (.t 16),Sb⟩,⟨Sa 5,.mv (.t 17),Sb⟩]) (.seq (.seq (.reg [⟨Sa 18,.mv (.t 5),Sb⟩,⟨Sa 19,.not (.t 18),Sb⟩]) (.cond (.t 19) (.seq (.reg [⟨Sa 20,.build [.s [],.s []] [],Sb⟩,⟨Sb,.store 2 (.t 2) (.t 20),Sb⟩,⟨Sa 3,.mv (.c (.i .i64 60)),Sb⟩]) (.ret)) (.skip))) (.seq (.reg [⟨Sa 22,.mv (.t 4),Sb⟩,⟨Sa 23,.call 67 [.t 22,.c (.s [58])],Sb⟩,⟨Sa 21,.mv (.t 23),Sb⟩,⟨Sa 24,.ext (.t 21) 0,Sb⟩,⟨Sa 25,.ext (.t 21) 1,Sb⟩,⟨Sa 26,.ext (.t 21) 2,Sb⟩,⟨Sa 6,.mv (.t 24),Sb⟩,⟨Sa 7,.mv (.t 25),Sb⟩,⟨Sa 5,.mv (.t 26),Sb⟩]) (.seq (.seq (.reg [⟨Sa 27,.mv (.t 5),Sb⟩,⟨Sa 28,.not (.t 27),Sb⟩]) (.cond (.t 28) (.seq (.reg [⟨Sa 29,.build [.s [],.s []] [],Sb⟩,⟨Sb,.store 2 (.t 2) (.t 29),Sb⟩,⟨Sa 3,.mv (.c (.i .i64 6)),Sb⟩]) (.ret)) (.skip))) (.seq (.seq (.reg [⟨Sa 30,.mv (.t 6),Sb⟩,⟨Sa 31,.call 127 [.t 30],Sb⟩,⟨Sa 32,.not (.t 31),Sb⟩]) (.cond (.t 32) (.seq (.reg [⟨Sa 33,.build [.s [],.s []] [],Sb⟩,⟨Sb,.store 2 (.t 2) (.t 33),Sb⟩,⟨Sa 3,.mv (.c (.i .i64 100)),Sb⟩]) (.ret)) (.skip))) (.seq (.reg [⟨Sa 35,.mv (.t 7),Sb⟩,⟨Sa 36,.call 128 [.t 35],Sb⟩,⟨Sa 34,.mv (.t 36),Sb⟩,⟨Sa 37,.ext (.t 34) 0,Sb⟩,⟨Sa 38,.ext (.t 34) 1,Sb⟩,⟨Sa 7,.mv (.t 37),Sb⟩,⟨Sa 8,.mv (.t 38),Sb⟩]) (.seq (.seq (.reg [⟨Sa 39,.mv (.t 8),Sb⟩,⟨Sa 40,.bin .neq (.t 39) (.c (.i .i64 0)),Sb⟩]) (.cond (.t 40) (.seq (.reg [⟨Sa 41,.build [.s [],.s []] [],Sb⟩,⟨Sa 42,.mv (.t 8),Sb⟩,⟨Sb,.store 2 (.t 2) (.t 41),Sb⟩,⟨Sa 3,.mv (.t 42),Sb⟩]) (.ret)) (.skip))) (.seq (.reg [⟨Sa 43,.mv (.t 6),Sb⟩,⟨Sa 44,.mv (.t 7),Sb⟩,⟨Sa 45,.build [.s [],.s []] [(0,(1,.t 43)),(1,(1,.t 44))],Sb⟩,⟨Sb,.store 2 (.t 2) (.t 45),Sb⟩,⟨Sa 3,.mv (.c (.i .i64 0)),Sb⟩]) (.ret))))))))))
theorem is_did_ParseDID:FnIs Tryz.prog 97 46 [.celln 2 2,.tmp 3] c_did_ParseDID:=⟨⟨_,_,Tryz.func97,rfl,rfl,by kernel_rfl,by kernel_rfl⟩⟩
def c_didweb_Canonical:SCode :=.seq (.reg [⟨Sa 1,.box 93 (.t 0),Sb⟩,⟨Sa 2,.alloc 93 [.s [],.s []],Sb⟩,⟨Sa 3,.mv (.c (.i .i64 0)),Sb⟩]) (.seq (.reg [⟨Sa 7,.loadn 2 (.t 1),Sb⟩,⟨Sa 8,.call 129 [.t 7],Sb⟩,⟨Sa 6,.mv (.t 8),Sb⟩,⟨Sa 9,.ext (.t 6) 0,Sb⟩,⟨Sa 10,.ext (.t 6) 1,Sb⟩,⟨Sa 4,.alloc 39 [.s [],.i .i64 0,.s [],.s [],.s [],.b false,.b false],Sb⟩,⟨Sb,.store 7 (.t 4) (.t 9),Sb⟩,⟨Sa 5,.mv (.t 10),Sb⟩]) (.seq (.seq (.reg [⟨Sa 11,.mv (.t 5),Sb⟩,⟨Sa 12,.bin .neq (.t 11) (.c (.i .i64 0)),Sb⟩]) (.cond (.t 12) (.seq (.reg [⟨Sa 13,.build [.s [],.s []] [],Sb⟩,⟨Sa 14,.mv (.t 5),Sb⟩,⟨Sb,.store 2 (.t 2) (.t 13),Sb⟩,⟨Sa 3,.mv (.t 14),Sb⟩]) (.ret)) (.skip))) (.seq (.reg [⟨Sa 15,.loadn 7 (.t 4),Sb⟩,⟨Sa 16,.call 130 [.t 15],Sb⟩,⟨Sa 17,.ext (.t 16) 0,Sb⟩,⟨Sa 18,.ext (.t 16) 1,Sb⟩,⟨Sb,.store 2 (.t 2) (.t 17),Sb⟩,⟨Sa 3,.mv (.t 18),Sb⟩]) (.ret))))
theorem is_didweb_Canonical:FnIs Tryz.prog 98 19 [.celln 2 2,.tmp 3] c_didweb_Canonical:=⟨⟨_,_,Tryz.func98,rfl,rfl,by kernel_rfl,by kernel_rfl⟩⟩
def c_didweb_Authority:SCode :=.seq (.reg [⟨Sa 1,.box 93 (.t 0),Sb⟩,⟨Sa 2,.alloc 59 [.s [],.i .i64 0],Sb⟩,⟨Sa 3,.mv (.c (.i .i64 0)),Sb⟩]) (.seq (.seq (.reg [⟨Sa 11,.fad 0 (.t 1),Sb⟩,⟨Sa 12,.load1 (.t 11),Sb⟩,⟨Sa 13,.bin .neq (.t 12) (.c (.s [119,101,98])),Sb⟩]) (.cond (.t 13) (.seq (.reg [⟨Sa 14,.build [.s [],.i .i64 0] [],Sb⟩,⟨Sb,.store 2 (.t 2) (.t 14),Sb⟩,⟨Sa 3,.mv (.c (.i .i64 100)),Sb⟩]) (.ret)) (.skip))) (.seq (.seq (.reg [⟨Sa 16,.loadn 2 (.t 1),Sb⟩,⟨Sa 17,.call 100 [.t 16],Sb⟩,⟨Sa 18,.call 97 [.t 17],Sb⟩,⟨Sa 15,.mv (.t 18),Sb⟩,⟨Sa 19,.ext (.t 15) 0,Sb⟩,⟨Sa 20,.ext (.t 15) 1,Sb⟩,⟨Sa 4,.alloc 93 [.s [],.s []],Sb⟩,⟨Sb,.store 2 (.t 4) (.t 19),Sb⟩,⟨Sa 5,.mv (.t 20),Sb⟩]) (.seq (.reg [⟨Sa 21,.mv (.t 5),Sb⟩,⟨Sa 22,.bin .neq (.t 21) (.c (.i .i64 0)),Sb⟩]) (.cond (.t 22) (.seq (.reg [⟨Sa 23,.build [.s [],.i .i64 0] [],Sb⟩,⟨Sa 24,.mv (.t 5),Sb⟩,⟨Sb,.store 2 (.t 2) (.t 23),Sb⟩,⟨Sa 3,.mv (.t 24),Sb⟩]) (.ret)) (.skip)))) (.seq (.reg [⟨Sa 26,.fad 1 (.t 1),Sb⟩,⟨Sa 27,.load1 (.t 26),Sb⟩,⟨Sa 28,.call 67 [.t 27,.c (.s [58])],Sb⟩,⟨Sa 25,.mv (.t 28),Sb⟩,⟨Sa 29,.ext (.t 25) 0,Sb⟩,⟨Sa 30,.ext (.t 25) 1,Sb⟩,⟨Sa 31,.ext (.t 25) 2,Sb⟩,⟨Sa 6,.mv (.t 29),Sb⟩,⟨Sa 7,.mv (.t 30),Sb⟩,⟨Sa 8,.mv (.t 31),Sb⟩]) (.seq (.reg [⟨Sa 33,.mv (.t 6),Sb⟩,⟨Sa 34,.call 131 [.t 33],Sb⟩,⟨Sa 32,.mv (.t 34),Sb⟩,⟨Sa 35,.ext (.t 32) 0,Sb⟩,⟨Sa 36,.ext (.t 32) 1,Sb⟩,⟨Sa 9,.mv (.t 35),Sb⟩,⟨Sa 10,.mv (.t 36),Sb⟩]) (.seq (.seq (.reg [⟨Sa 37,.mv (.t 10),Sb⟩,⟨Sa 38,.bin .neq (.t 37) (.c (.i .i64 0)),Sb⟩]) (.cond (.t 38) (.seq (.reg [⟨Sa 39,.build [.s [],.i .i64 0] [],Sb⟩,⟨Sa 40,.mv (.t 10),Sb⟩,⟨Sb,.store 2 (.t 2) (.t 39),Sb⟩,⟨Sa 3,.mv (.t 40),Sb⟩]) (.ret)) (.skip))) (.seq (.reg [⟨Sa 41,.mv (.t 9),Sb⟩,⟨Sa 42,.call 132 [.t 41],Sb⟩,⟨Sa 43,.ext (.t 42) 0,Sb⟩,⟨Sa 44,.ext (.t 42) 1,Sb⟩,⟨Sb,.store 2 (.t 2) (.t 43),Sb⟩,⟨Sa 3,.mv (.t 44),Sb⟩]) (.ret)))))))
theorem is_didweb_Authority:FnIs Tryz.prog 99 45 [.celln 2 2,.tmp 3] c_didweb_Authority:=⟨⟨_,_,Tryz.func99,rfl,rfl,by kernel_rfl,by kernel_rfl⟩⟩
def c_did_FormatDID:SCode :=.seq (.reg [⟨Sa 1,.box 93 (.t 0),Sb⟩,⟨Sa 2,.mv (.c (.s [])),Sb⟩]) (.seq (.reg [⟨Sa 3,.fad 0 (.t 1),Sb⟩,⟨Sa 4,.load1 (.t 3),Sb⟩,⟨Sa 5,.bin .add (.c (.s [100,105,100,58])) (.t 4),Sb⟩,⟨Sa 6,.bin .add (.t 5) (.c (.s [58])),Sb⟩,⟨Sa 7,.fad 1 (.t 1),Sb⟩,⟨Sa 8,.load1 (.t 7),Sb⟩,⟨Sa 9,.bin .add (.t 6) (.t 8),Sb⟩,⟨Sa 2,.mv (.t 9),Sb⟩]) (.ret))
theorem is_did_FormatDID:FnIs Tryz.prog 100 10 [.tmp 2] c_did_FormatDID:=⟨⟨_,_,Tryz.func100,rfl,rfl,by kernel_rfl,by kernel_rfl⟩⟩
def c_ref07_Valid:SCode :=.seq (.reg [⟨Sa 1,.box 39 (.t 0),Sb⟩,⟨Sa 2,.mv (.c (.b false)),Sb⟩]) (.seq (.reg [⟨Sa 6,.loadn 7 (.t 1),Sb⟩,⟨Sa 7,.call 13 [.t 6],Sb⟩,⟨Sa 8,.call 58 [.t 7],Sb⟩,⟨Sa 5,.mv (.t 8),Sb⟩,⟨Sa 9,.ext (.t 5) 0,Sb⟩,⟨Sa 10,.ext (.t 5) 1,Sb⟩,⟨Sa 3,.alloc 39 [.s [],.i .i64 0,.s [],.s [],.s [],.b false,.b false],Sb⟩,⟨Sb,.store 7 (.t 3) (.t 9),Sb⟩,⟨Sa 4,.mv (.t 10),Sb⟩]) (.seq (.reg [⟨Sa 11,.mv (.t 4),Sb⟩,⟨Sa 12,.bin .eql (.t 11) (.c (.i .i64 0)),Sb⟩,⟨Sa 13,.mv (.t 12),Sb⟩,⟨Sa 14,.loadn 7 (.t 1),some (13,true)⟩,⟨Sa 15,.loadn 7 (.t 3),some (13,true)⟩,⟨Sa 16,.eqs false (.str [(0,(none,.ts)),(1,(none,.ti)),(2,(none,.ts)),(3,(none,.ts)),(4,(none,.ts)),(5,(none,.tb)),(6,(none,.tb))]) (.t 14) (.t 15),some (13,true)⟩,⟨Sa 17,.pick (.t 13) (.t 16) (.c (.b false)),Sb⟩,⟨Sa 2,.mv (.t 17),Sb⟩]) (.ret)))
theorem is_ref07_Valid:FnIs Tryz.prog 115 18 [.tmp 2] c_ref07_Valid:=⟨⟨_,_,Tryz.func115,rfl,rfl,by kernel_rfl,by kernel_rfl⟩⟩
def c_weburl_parseOrigin:SCode :=.seq (.reg [⟨Sa 1,.box 119 (.t 0),Sb⟩,⟨Sa 2,.alloc 59 [.s [],.i .i64 0],Sb⟩,⟨Sa 3,.mv (.c (.i .i64 0)),Sb⟩]) (.seq (.blk 0 (.seq (.reg [⟨Sa 5,.fad 5 (.t 1),Sb⟩,⟨Sa 6,.load1 (.t 5),Sb⟩,⟨Sa 7,.not (.t 6),Sb⟩,⟨Sa 8,.mv (.t 7),Sb⟩,⟨Sa 9,.fad 0 (.t 1),some (8,false)⟩,⟨Sa 10,.load1 (.t 9),some (8,false)⟩,⟨Sa 11,.call 116 [.t 10,.c (.s [104,116,116,112,115])],some (8,false)⟩,⟨Sa 12,.not (.t 11),some (8,false)⟩,⟨Sa 13,.pick (.t 8) (.c (.b true)) (.t 12),Sb⟩,⟨Sa 4,.mv (.t 13),Sb⟩]) (.cond (.t 4) (.seq (.reg [⟨Sa 14,.build [.s [],.i .i64 0] [],Sb⟩,⟨Sb,.store 2 (.t 2) (.t 14),Sb⟩,⟨Sa 3,.mv (.c (.i .i64 60)),Sb⟩]) (.ret)) (.seq (.reg [⟨Sa 16,.fad 6 (.t 1),Sb⟩,⟨Sa 17,.load1 (.t 16),Sb⟩,⟨Sa 18,.not (.t 17),Sb⟩,⟨Sa 15,.mv (.t 18),Sb⟩]) (.cond (.t 15) (.seq (.reg [⟨Sa 19,.build [.s [],.i .i64 0] [],Sb⟩,⟨Sb,.store 2 (.t 2) (.t 19),Sb⟩,⟨Sa 3,.mv (.c (.i .i64 71)),Sb⟩]) (.ret)) (.seq (.reg [⟨Sa 21,.fad 1 (.t 1),Sb⟩,⟨Sa 22,.load1 (.t 21),Sb⟩,⟨Sa 23,.call 150 [.t 22,.c (.s [64])],Sb⟩,⟨Sa 20,.mv (.t 23),Sb⟩]) (.cond (.t 20) (.seq (.reg [⟨Sa 24,.build [.s [],.i .i64 0] [],Sb⟩,⟨Sb,.store 2 (.t 2) (.t 24),Sb⟩,⟨Sa 3,.mv (.c (.i .i64 70)),Sb⟩]) (.ret)) (.skip)))))))) (.seq (.reg [⟨Sa 25,.fad 1 (.t 1),Sb⟩,⟨Sa 26,.load1 (.t 25),Sb⟩,⟨Sa 27,.call 132 [.t 26],Sb⟩,⟨Sa 28,.ext (.t 27) 0,Sb⟩,⟨Sa 29,.ext (.t 27) 1,Sb⟩,⟨Sb,.store 2 (.t 2) (.t 28),Sb⟩,⟨Sa 3,.mv (.t 29),Sb⟩]) (.ret)))
theorem is_weburl_parseOrigin:FnIs Tryz.prog 124 30 [.celln 2 2,.tmp 3] c_weburl_parseOrigin:=⟨⟨_,_,Tryz.func124,rfl,rfl,by kernel_rfl,by kernel_rfl⟩⟩
def c_weburl_parseRest:SCode :=.seq (.reg [⟨Sa 1,.box 119 (.t 0),Sb⟩,⟨Sa 2,.alloc 39 [.s [],.i .i64 0,.s [],.s [],.s [],.b false,.b false],Sb⟩,⟨Sa 3,.mv (.c (.i .i64 0)),Sb⟩]) (.seq (.reg [⟨Sa 9,.fad 2 (.t 1),Sb⟩,⟨Sa 10,.load1 (.t 9),Sb⟩,⟨Sa 11,.call 118 [.t 10,.c (.s [33,36,38,39,40,41,42,43,44,59,61,58,64,47])],Sb⟩,⟨Sa 8,.mv (.t 11),Sb⟩,⟨Sa 12,.ext (.t 8) 0,Sb⟩,⟨Sa 13,.ext (.t 8) 1,Sb⟩,⟨Sa 4,.mv (.t 12),Sb⟩,⟨Sa 5,.mv (.t 13),Sb⟩]) (.seq (.seq (.reg [⟨Sa 14,.mv (.t 5),Sb⟩,⟨Sa 15,.bin .neq (.t 14) (.c (.i .i64 0)),Sb⟩]) (.cond (.t 15) (.seq (.reg [⟨Sa 16,.build [.s [],.i .i64 0,.s [],.s [],.s [],.b false,.b false] [],Sb⟩,⟨Sa 17,.mv (.t 5),Sb⟩,⟨Sb,.store 7 (.t 2) (.t 16),Sb⟩,⟨Sa 3,.mv (.t 17),Sb⟩]) (.ret)) (.skip))) (.seq (.seq (.reg [⟨Sa 18,.mv (.t 4),Sb⟩,⟨Sa 19,.call 151 [.t 18],Sb⟩,⟨Sa 4,.mv (.t 19),Sb⟩]) (.seq (.reg [⟨Sa 20,.mv (.t 4),Sb⟩,⟨Sa 21,.bin .eql (.t 20) (.c (.s [])),Sb⟩]) (.cond (.t 21) (.reg [⟨Sa 4,.mv (.c (.s [47])),Sb⟩]) (.skip)))) (.seq (.reg [⟨Sa 23,.fad 3 (.t 1),Sb⟩,⟨Sa 24,.load1 (.t 23),Sb⟩,⟨Sa 25,.call 118 [.t 24,.c (.s [33,36,38,39,40,41,42,43,44,59,61,58,64,47,63])],Sb⟩,⟨Sa 22,.mv (.t 25),Sb⟩,⟨Sa 26,.ext (.t 22) 0,Sb⟩,⟨Sa 27,.ext (.t 22) 1,Sb⟩,⟨Sa 6,.mv (.t 26),Sb⟩,⟨Sa 5,.mv (.t 27),Sb⟩]) (.seq (.seq (.reg [⟨Sa 28,.mv (.t 5),Sb⟩,⟨Sa 29,.bin .neq (.t 28) (.c (.i .i64 0)),Sb⟩]) (.cond (.t 29) (.seq (.reg [⟨Sa 30,.build [.s [],.i .i64 0,.s [],.s [],.s [],.b false,.b false] [],Sb⟩,⟨Sa 31,.mv (.t 5),Sb⟩,⟨Sb,.store 7 (.t 2) (.t 30),Sb⟩,⟨Sa 3,.mv (.t 31),Sb⟩]) (.ret)) (.skip))) (.seq (.reg [⟨Sa 33,.fad 4 (.t 1),Sb⟩,⟨Sa 34,.load1 (.t 33),Sb⟩,⟨Sa 35,.call 118 [.t 34,.c (.s [33,36,38,39,40,41,42,43,44,59,61,58,64,47,63])],Sb⟩,⟨Sa 32,.mv (.t 35),Sb⟩,⟨Sa 36,.ext (.t 32) 0,Sb⟩,⟨Sa 37,.ext (.t 32) 1,Sb⟩,⟨Sa 7,.mv (.t 36),Sb⟩,⟨Sa 5,.mv (.t 37),Sb⟩]) (.seq (.seq (.reg [⟨Sa 38,.mv (.t 5),Sb⟩,⟨Sa 39,.bin .neq (.t 38) (.c (.i .i64 0)),Sb⟩]) (.cond (.t 39) (.seq (.reg [⟨Sa 40,.build [.s [],.i .i64 0,.s [],.s [],.s [],.b false,.b false] [],Sb⟩,⟨Sa 41,.mv (.t 5),Sb⟩,⟨Sb,.store 7 (.t 2) (.t 40),Sb⟩,⟨Sa 3,.mv (.t 41),Sb⟩]) (.ret)) (.skip))) (.seq (.reg [⟨Sa 42,.mv (.t 4),Sb⟩,⟨Sa 43,.mv (.t 6),Sb⟩,⟨Sa 44,.fad 7 (.t 1),Sb⟩,⟨Sa 45,.load1 (.t 44),Sb⟩,⟨Sa 46,.mv (.t 7),Sb⟩,⟨Sa 47,.fad 8 (.t 1),Sb⟩,⟨Sa 48,.load1 (.t 47),Sb⟩,⟨Sa 49,.build [.s [],.i .i64 0,.s [],.s [],.s [],.b false,.b false] [(2,(1,.t 42)),(3,(1,.t 43)),(5,(1,.t 45)),(4,(1,.t 46)),(6,(1,.t 48))],Sb⟩,⟨Sb,.store 7 (.t 2) (.t 49),Sb⟩,⟨Sa 3,.mv (.c (.i .i64 0)),Sb⟩]) (.ret)))))))))
theorem is_weburl_parseRest:FnIs Tryz.prog 125 50 [.celln 2 7,.tmp 3] c_weburl_parseRest:=⟨⟨_,_,Tryz.func125,rfl,rfl,by kernel_rfl,by kernel_rfl⟩⟩
def c_did_isMethod:SCode :=.seq (.reg [⟨Sa 2,.mv (.c (.b false)),Sb⟩]) (.seq (.seq (.reg [⟨Sa 4,.mv (.t 0),Sb⟩,⟨Sa 5,.lens (.t 4),Sb⟩,⟨Sa 6,.mv (.c (.i .i64 0)),Sb⟩]) (.blk 0 (.loop (.seq (.reg [⟨Sa 7,.bin .lss (.t 6) (.t 5),Sb⟩]) (.seq (.cond (.t 7) (.skip) (.exit 0)) (.seq (.blk 1 (.seq (.reg [⟨Sa 8,.mv (.t 6),Sb⟩,⟨Sa 3,.mv (.t 8),Sb⟩]) (.seq (.reg [⟨Sa 9,.mv (.t 0),Sb⟩,⟨Sa 10,.mv (.t 3),Sb⟩,⟨Sa 11,.idx (.t 9) (.t 10),Sb⟩,⟨Sa 12,.call 136 [.t 11],Sb⟩,⟨Sa 13,.not (.t 12),Sb⟩,⟨Sa 14,.mv (.t 13),Sb⟩,⟨Sa 15,.mv (.t 0),some (14,true)⟩,⟨Sa 16,.mv (.t 3),some (14,true)⟩,⟨Sa 17,.idx (.t 15) (.t 16),some (14,true)⟩,⟨Sa 18,.bin .lss (.t 17) (.c (.i .u8 97)),some (14,true)⟩,⟨Sa 19,.mv (.t 18),some (14,true)⟩,⟨Sa 20,.mv (.t 0),some (19,false)⟩,⟨Sa 21,.mv (.t 3),some (19,false)⟩,⟨Sa 22,.idx (.t 20) (.t 21),some (19,false)⟩,⟨Sa 23,.bin .gtr (.t 22) (.c (.i .u8 122)),some (19,false)⟩,⟨Sa 24,.pick (.t 19) (.c (.b true)) (.t 23),some (14,true)⟩,⟨Sa 25,.pick (.t 14) (.t 24) (.c (.b false)),Sb⟩]) (.cond (.t 25) (.seq (.reg [⟨Sa 2,.mv (.c (.b false)),Sb⟩]) (.ret)) (.skip))))) (.reg [⟨Sa 26,.bin .add (.t 6) (.c (.i .i64 1)),Sb⟩,⟨Sa 6,.mv (.t 26),Sb⟩]))))))) (.seq (.reg [⟨Sa 27,.mv (.t 0),Sb⟩,⟨Sa 28,.bin .neq (.t 27) (.c (.s [])),Sb⟩,⟨Sa 2,.mv (.t 28),Sb⟩]) (.ret)))
theorem is_did_isMethod:FnIs Tryz.prog 127 29 [.tmp 2] c_did_isMethod:=⟨⟨_,_,Tryz.func127,rfl,rfl,by kernel_rfl,by kernel_rfl⟩⟩
def c_did_parseID:SCode :=.seq (.reg [⟨Sa 2,.mv (.c (.s [])),Sb⟩,⟨Sa 3,.mv (.c (.i .i64 0)),Sb⟩]) (.seq (.seq (.reg [⟨Sa 10,.mv (.t 0),Sb⟩,⟨Sa 11,.call 131 [.t 10],Sb⟩,⟨Sa 9,.mv (.t 11),Sb⟩,⟨Sa 12,.ext (.t 9) 0,Sb⟩,⟨Sa 13,.ext (.t 9) 1,Sb⟩,⟨Sa 4,.mv (.t 12),Sb⟩,⟨Sa 5,.mv (.t 13),Sb⟩]) (.seq (.reg [⟨Sa 14,.mv (.t 5),Sb⟩,⟨Sa 15,.bin .neq (.t 14) (.c (.i .i64 0)),Sb⟩]) (.cond (.t 15) (.seq (.reg [⟨Sa 16,.mv (.t 5),Sb⟩,⟨Sa 2,.mv (.c (.s [])),Sb⟩,⟨Sa 3,.mv (.t 16),Sb⟩]) (.ret)) (.skip)))) (.seq (.seq (.reg [⟨Sa 17,.mv (.t 0),Sb⟩,⟨Sa 18,.lens (.t 17),Sb⟩,⟨Sa 19,.mv (.c (.i .i64 0)),Sb⟩]) (.blk 0 (.loop (.seq (.reg [⟨Sa 20,.bin .lss (.t 19) (.t 18),Sb⟩]) (.seq (.cond (.t 20) (.skip) (.exit 0)) (.seq (.blk 1 (.seq (.reg [⟨Sa 21,.mv (.t 19),Sb⟩,⟨Sa 6,.mv (.t 21),Sb⟩]) (.seq (.reg [⟨Sa 22,.mv (.t 0),Sb⟩,⟨Sa 23,.mv (.t 6),Sb⟩,⟨Sa 24,.idx (.t 22) (.t 23),Sb⟩,⟨Sa 25,.bin .neq (.t 24) (.c (.i .u8 37)),Sb⟩,⟨Sa 26,.mv (.t 25),Sb⟩,⟨Sa 27,.mv (.t 0),some (26,true)⟩,⟨Sa 28,.mv (.t 6),some (26,true)⟩,⟨Sa 29,.idx (.t 27) (.t 28),some (26,true)⟩,⟨Sa 30,.call 153 [.t 29],some (26,true)⟩,⟨Sa 31,.not (.t 30),some (26,true)⟩,⟨Sa 32,.pick (.t 26) (.t 31) (.c (.b false)),Sb⟩]) (.cond (.t 32) (.seq (.reg [⟨Sa 2,.mv (.c (.s [])),Sb⟩,⟨Sa 3,.mv (.c (.i .i64 1)),Sb⟩]) (.ret)) (.skip))))) (.reg [⟨Sa 33,.bin .add (.t 19) (.c (.i .i64 1)),Sb⟩,⟨Sa 19,.mv (.t 33),Sb⟩]))))))) (.seq (.seq (.reg [⟨Sa 34,.mv (.t 0),Sb⟩,⟨Sa 35,.bin .eql (.t 34) (.c (.s [])),Sb⟩,⟨Sa 36,.mv (.t 35),Sb⟩,⟨Sa 37,.mv (.t 0),some (36,false)⟩,⟨Sa 38,.mv (.t 0),some (36,false)⟩,⟨Sa 39,.lens (.t 38),some (36,false)⟩,⟨Sa 40,.bin .sub (.t 39) (.c (.i .i64 1)),some (36,false)⟩,⟨Sa 41,.idx (.t 37) (.t 40),some (36,false)⟩,⟨Sa 42,.bin .eql (.t 41) (.c (.i .u8 58)),some (36,false)⟩,⟨Sa 43,.pick (.t 36) (.c (.b true)) (.t 42),Sb⟩]) (.cond (.t 43) (.seq (.reg [⟨Sa 2,.mv (.c (.s [])),Sb⟩,⟨Sa 3,.mv (.c (.i .i64 3)),Sb⟩]) (.ret)) (.skip))) (.seq (.reg [⟨Sa 45,.mv (.t 0),Sb⟩,⟨Sa 46,.call 118 [.t 45,.c (.s [46,45,95,58])],Sb⟩,⟨Sa 44,.mv (.t 46),Sb⟩,⟨Sa 47,.ext (.t 44) 0,Sb⟩,⟨Sa 48,.ext (.t 44) 1,Sb⟩,⟨Sa 7,.mv (.t 47),Sb⟩,⟨Sa 8,.mv (.t 48),Sb⟩]) (.seq (.seq (.reg [⟨Sa 49,.mv (.t 8),Sb⟩,⟨Sa 50,.bin .neq (.t 49) (.c (.i .i64 0)),Sb⟩]) (.cond (.t 50) (.seq (.reg [⟨Sa 51,.mv (.t 8),Sb⟩,⟨Sa 2,.mv (.c (.s [])),Sb⟩,⟨Sa 3,.mv (.t 51),Sb⟩]) (.ret)) (.skip))) (.seq (.reg [⟨Sa 52,.mv (.t 7),Sb⟩,⟨Sa 53,.call 154 [.t 52,.c (.s [126]),.c (.s [37,55,69])],Sb⟩,⟨Sa 2,.mv (.t 53),Sb⟩,⟨Sa 3,.mv (.c (.i .i64 0)),Sb⟩]) (.ret)))))))
theorem is_did_parseID:FnIs Tryz.prog 128 54 [.tmp 2,.tmp 3] c_did_parseID:=⟨⟨_,_,Tryz.func128,rfl,rfl,by kernel_rfl,by kernel_rfl⟩⟩
def c_didweb_ToURL:SCode :=.seq (.reg [⟨Sa 1,.box 93 (.t 0),Sb⟩,⟨Sa 2,.alloc 39 [.s [],.i .i64 0,.s [],.s [],.s [],.b false,.b false],Sb⟩,⟨Sa 3,.mv (.c (.i .i64 0)),Sb⟩]) (.seq (.reg [⟨Sa 11,.loadn 2 (.t 1),Sb⟩,⟨Sa 12,.call 99 [.t 11],Sb⟩,⟨Sa 10,.mv (.t 12),Sb⟩,⟨Sa 13,.ext (.t 10) 0,Sb⟩,⟨Sa 14,.ext (.t 10) 1,Sb⟩,⟨Sa 4,.alloc 59 [.s [],.i .i64 0],Sb⟩,⟨Sb,.store 2 (.t 4) (.t 13),Sb⟩,⟨Sa 5,.mv (.t 14),Sb⟩]) (.seq (.seq (.reg [⟨Sa 15,.mv (.t 5),Sb⟩,⟨Sa 16,.bin .neq (.t 15) (.c (.i .i64 0)),Sb⟩]) (.cond (.t 16) (.seq (.reg [⟨Sa 17,.build [.s [],.i .i64 0,.s [],.s [],.s [],.b false,.b false] [],Sb⟩,⟨Sa 18,.mv (.t 5),Sb⟩,⟨Sb,.store 7 (.t 2) (.t 17),Sb⟩,⟨Sa 3,.mv (.t 18),Sb⟩]) (.ret)) (.skip))) (.seq (.reg [⟨Sa 19,.fad 0 (.t 4),Sb⟩,⟨Sa 20,.load1 (.t 19),Sb⟩,⟨Sa 21,.fad 1 (.t 4),Sb⟩,⟨Sa 22,.load1 (.t 21),Sb⟩,⟨Sa 23,.build [.s [],.i .i64 0,.s [],.s [],.s [],.b false,.b false] [(0,(1,.t 20)),(1,(1,.t 22)),(2,(1,.c (.s [47,46,119,101,108,108,45,107,110,111,119,110,47,100,105,100,46,106,115,111,110])))],Sb⟩,⟨Sa 6,.alloc 39 [.s [],.i .i64 0,.s [],.s [],.s [],.b false,.b false],Sb⟩,⟨Sb,.store 7 (.t 6) (.t 23),Sb⟩]) (.seq (.seq (.reg [⟨Sa 24,.fad 1 (.t 1),Sb⟩,⟨Sa 25,.load1 (.t 24),Sb⟩,⟨Sa 26,.call 155 [.t 25,.c (.s [58])],Sb⟩,⟨Sa 27,.pu (.rsl 1) [.t 26,.c (.i .i64 1)],Sb⟩,⟨Sa 7,.mv (.t 27),Sb⟩]) (.seq (.reg [⟨Sa 28,.mv (.t 7),Sb⟩,⟨Sa 29,.lenr (.t 28),Sb⟩,⟨Sa 30,.bin .gtr (.t 29) (.c (.i .i64 0)),Sb⟩]) (.cond (.t 30) (.seq (.reg [⟨Sa 8,.alloc 148 [.o (.pointer none),.nil],Sb⟩]) (.seq (.seq (.reg [⟨Sa 31,.mv (.t 7),Sb⟩,⟨Sa 32,.mkf 157 [.t 8] [],Sb⟩,⟨Sa 33,.call 156 [.t 31,.t 32],Sb⟩,⟨Sa 9,.mv (.t 33),Sb⟩]) (.seq (.reg [⟨Sa 34,.mv (.t 9),Sb⟩,⟨Sa 35,.bin .neq (.t 34) (.c (.i .i64 0)),Sb⟩]) (.cond (.t 35) (.seq (.reg [⟨Sa 36,.build [.s [],.i .i64 0,.s [],.s [],.s [],.b false,.b false] [],Sb⟩,⟨Sa 37,.mv (.t 9),Sb⟩,⟨Sb,.store 7 (.t 2) (.t 36),Sb⟩,⟨Sa 3,.mv (.t 37),Sb⟩]) (.ret)) (.skip)))) (.reg [⟨Sa 38,.fad 0 (.t 8),Sb⟩,⟨Sa 39,.call 158 [.t 38],Sb⟩,⟨Sa 40,.bin .add (.t 39) (.c (.s [47])),Sb⟩,⟨Sa 41,.bin .add (.t 40) (.c (.s [100,105,100,46,106,115,111,110])),Sb⟩,⟨Sa 42,.fad 2 (.t 6),Sb⟩,⟨Sb,.store 1 (.t 42) (.t 41),Sb⟩]))) (.skip)))) (.seq (.seq (.reg [⟨Sa 43,.loadn 7 (.t 6),Sb⟩,⟨Sa 44,.call 23 [.t 43],Sb⟩,⟨Sa 45,.lens (.t 44),Sb⟩,⟨Sa 46,.bin .gtr (.t 45) (.c (.i .i64 4096)),Sb⟩]) (.cond (.t 46) (.seq (.reg [⟨Sa 47,.build [.s [],.i .i64 0,.s [],.s [],.s [],.b false,.b false] [],Sb⟩,⟨Sb,.store 7 (.t 2) (.t 47),Sb⟩,⟨Sa 3,.mv (.c (.i .i64 5)),Sb⟩]) (.ret)) (.skip))) (.seq (.reg [⟨Sa 48,.loadn 7 (.t 6),Sb⟩,⟨Sb,.store 7 (.t 2) (.t 48),Sb⟩,⟨Sa 3,.mv (.c (.i .i64 0)),Sb⟩]) (.ret)))))))
theorem is_didweb_ToURL:FnIs Tryz.prog 129 49 [.celln 2 7,.tmp 3] c_didweb_ToURL:=⟨⟨_,_,Tryz.func129,rfl,rfl,by kernel_rfl,by kernel_rfl⟩⟩
def c_didweb_FromURL:SCode :=.seq (.reg [⟨Sa 1,.box 39 (.t 0),Sb⟩,⟨Sa 2,.alloc 93 [.s [],.s []],Sb⟩,⟨Sa 3,.mv (.c (.i .i64 0)),Sb⟩]) (.seq (.seq (.reg [⟨Sa 9,.loadn 7 (.t 1),Sb⟩,⟨Sa 10,.call 159 [.t 9],Sb⟩,⟨Sa 11,.not (.t 10),Sb⟩]) (.cond (.t 11) (.seq (.reg [⟨Sa 12,.build [.s [],.s []] [],Sb⟩,⟨Sb,.store 2 (.t 2) (.t 12),Sb⟩,⟨Sa 3,.mv (.c (.i .i64 8)),Sb⟩]) (.ret)) (.skip))) (.seq (.reg [⟨Sa 13,.fad 2 (.t 1),Sb⟩,⟨Sa 14,.load1 (.t 13),Sb⟩,⟨Sa 15,.call 155 [.t 14,.c (.s [47])],Sb⟩,⟨Sa 16,.pu (.rsl 1) [.t 15,.c (.i .i64 1)],Sb⟩,⟨Sa 4,.mv (.t 16),Sb⟩]) (.seq (.reg [⟨Sa 17,.mv (.t 4),Sb⟩,⟨Sa 18,.lenr (.t 17),Sb⟩,⟨Sa 19,.bin .sub (.t 18) (.c (.i .i64 1)),Sb⟩,⟨Sa 5,.mv (.t 19),Sb⟩]) (.seq (.seq (.reg [⟨Sa 20,.fad 5 (.t 1),Sb⟩,⟨Sa 21,.load1 (.t 20),Sb⟩,⟨Sa 22,.mv (.t 21),Sb⟩,⟨Sa 23,.fad 6 (.t 1),some (22,false)⟩,⟨Sa 24,.load1 (.t 23),some (22,false)⟩,⟨Sa 25,.pick (.t 22) (.c (.b true)) (.t 24),Sb⟩,⟨Sa 26,.mv (.t 25),Sb⟩,⟨Sa 27,.mv (.t 4),some (26,false)⟩,⟨Sa 28,.mv (.t 5),some (26,false)⟩,⟨Sa 29,.iad 1 (.t 27) (.t 28),some (26,false)⟩,⟨Sa 30,.load1 (.t 29),some (26,false)⟩,⟨Sa 31,.bin .neq (.t 30) (.c (.s [100,105,100,46,106,115,111,110])),some (26,false)⟩,⟨Sa 32,.pick (.t 26) (.c (.b true)) (.t 31),Sb⟩]) (.cond (.t 32) (.seq (.reg [⟨Sa 33,.build [.s [],.s []] [],Sb⟩,⟨Sb,.store 2 (.t 2) (.t 33),Sb⟩,⟨Sa 3,.mv (.c (.i .i64 6)),Sb⟩]) (.ret)) (.skip))) (.seq (.reg [⟨Sa 6,.alloc 152 [.o (.pointer none),.nil],Sb⟩]) (.seq (.reg [⟨Sa 34,.loadn 7 (.t 1),Sb⟩,⟨Sa 35,.call 46 [.t 34],Sb⟩,⟨Sa 36,.call 160 [.t 6,.t 35],Sb⟩]) (.seq (.seq (.reg [⟨Sa 37,.fad 2 (.t 1),Sb⟩,⟨Sa 38,.load1 (.t 37),Sb⟩,⟨Sa 39,.bin .neq (.t 38) (.c (.s [47,46,119,101,108,108,45,107,110,111,119,110,47,100,105,100,46,106,115,111,110])),Sb⟩]) (.cond (.t 39) (.seq (.seq (.reg [⟨Sa 40,.mv (.t 5),Sb⟩,⟨Sa 41,.bin .eql (.t 40) (.c (.i .i64 0)),Sb⟩]) (.cond (.t 41) (.seq (.reg [⟨Sa 42,.build [.s [],.s []] [],Sb⟩,⟨Sb,.store 2 (.t 2) (.t 42),Sb⟩,⟨Sa 3,.mv (.c (.i .i64 110)),Sb⟩]) (.ret)) (.skip))) (.seq (.reg [⟨Sa 43,.mv (.t 4),Sb⟩,⟨Sa 44,.mv (.t 5),Sb⟩,⟨Sa 45,.trn 1 (.t 43) (.t 44),Sb⟩,⟨Sa 46,.mkf 161 [.t 6] [],Sb⟩,⟨Sa 47,.call 156 [.t 45,.t 46],Sb⟩,⟨Sa 7,.mv (.t 47),Sb⟩]) (.seq (.reg [⟨Sa 48,.mv (.t 7),Sb⟩,⟨Sa 49,.bin .neq (.t 48) (.c (.i .i64 0)),Sb⟩]) (.cond (.t 49) (.seq (.reg [⟨Sa 50,.build [.s [],.s []] [],Sb⟩,⟨Sa 51,.mv (.t 7),Sb⟩,⟨Sb,.store 2 (.t 2) (.t 50),Sb⟩,⟨Sa 3,.mv (.t 51),Sb⟩]) (.ret)) (.skip))))) (.skip))) (.seq (.reg [⟨Sa 52,.fad 0 (.t 6),Sb⟩,⟨Sa 53,.call 158 [.t 52],Sb⟩,⟨Sa 54,.build [.s [],.s []] [(0,(1,.c (.s [119,101,98]))),(1,(1,.t 53))],Sb⟩,⟨Sa 8,.alloc 93 [.s [],.s []],Sb⟩,⟨Sb,.store 2 (.t 8) (.t 54),Sb⟩]) (.seq (.seq (.reg [⟨Sa 55,.loadn 2 (.t 8),Sb⟩,⟨Sa 56,.call 100 [.t 55],Sb⟩,⟨Sa 57,.lens (.t 56),Sb⟩,⟨Sa 58,.bin .gtr (.t 57) (.c (.i .i64 4096)),Sb⟩]) (.cond (.t 58) (.seq (.reg [⟨Sa 59,.build [.s [],.s []] [],Sb⟩,⟨Sb,.store 2 (.t 2) (.t 59),Sb⟩,⟨Sa 3,.mv (.c (.i .i64 5)),Sb⟩]) (.ret)) (.skip))) (.seq (.reg [⟨Sa 60,.loadn 2 (.t 8),Sb⟩,⟨Sb,.store 2 (.t 2) (.t 60),Sb⟩,⟨Sa 3,.mv (.c (.i .i64 0)),Sb⟩]) (.ret)))))))))))
theorem is_didweb_FromURL:FnIs Tryz.prog 130 61 [.celln 2 2,.tmp 3] c_didweb_FromURL:=⟨⟨_,_,Tryz.func130,rfl,rfl,by kernel_rfl,by kernel_rfl⟩⟩
def c_did_isIDByte:SCode :=.seq (.reg [⟨Sa 2,.mv (.c (.b false)),Sb⟩]) (.seq (.reg [⟨Sa 3,.mv (.t 0),Sb⟩,⟨Sa 4,.call 135 [.t 3],Sb⟩,⟨Sa 5,.mv (.t 4),Sb⟩,⟨Sa 6,.mv (.t 0),some (5,false)⟩,⟨Sa 7,.call 136 [.t 6],some (5,false)⟩,⟨Sa 8,.pick (.t 5) (.c (.b true)) (.t 7),Sb⟩,⟨Sa 9,.mv (.t 8),Sb⟩,⟨Sa 10,.mv (.t 0),some (9,false)⟩,⟨Sa 11,.call 71 [.c (.s [46,45,95,58]),.t 10],some (9,false)⟩,⟨Sa 12,.bin .geq (.t 11) (.c (.i .i64 0)),some (9,false)⟩,⟨Sa 13,.pick (.t 9) (.c (.b true)) (.t 12),Sb⟩,⟨Sa 2,.mv (.t 13),Sb⟩]) (.ret))
theorem is_did_isIDByte:FnIs Tryz.prog 153 14 [.tmp 2] c_did_isIDByte:=⟨⟨_,_,Tryz.func153,rfl,rfl,by kernel_rfl,by kernel_rfl⟩⟩
def c_didweb_each:SCode :=.seq (.reg [⟨Sa 4,.mv (.c (.i .i64 0)),Sb⟩]) (.seq (.seq (.reg [⟨Sa 8,.mv (.t 0),Sb⟩,⟨Sa 9,.lenr (.t 8),Sb⟩,⟨Sa 10,.mv (.c (.i .i64 0)),Sb⟩]) (.blk 0 (.loop (.seq (.reg [⟨Sa 11,.bin .lss (.t 10) (.t 9),Sb⟩]) (.seq (.cond (.t 11) (.skip) (.exit 0)) (.seq (.blk 1 (.seq (.reg [⟨Sa 12,.iad 1 (.t 8) (.t 10),Sb⟩,⟨Sa 13,.load1 (.t 12),Sb⟩,⟨Sa 6,.mv (.t 13),Sb⟩]) (.seq (.reg [⟨Sa 14,.mv (.t 1),Sb⟩,⟨Sa 15,.mv (.t 6),Sb⟩,⟨Sa 16,.callv (.t 14) [.t 15],Sb⟩,⟨Sa 7,.mv (.t 16),Sb⟩]) (.seq (.reg [⟨Sa 17,.mv (.t 7),Sb⟩,⟨Sa 18,.bin .neq (.t 17) (.c (.i .i64 0)),Sb⟩]) (.cond (.t 18) (.seq (.reg [⟨Sa 19,.mv (.t 7),Sb⟩,⟨Sa 4,.mv (.t 19),Sb⟩]) (.ret)) (.skip)))))) (.reg [⟨Sa 20,.bin .add (.t 10) (.c (.i .i64 1)),Sb⟩,⟨Sa 10,.mv (.t 20),Sb⟩]))))))) (.seq (.reg [⟨Sa 4,.mv (.c (.i .i64 0)),Sb⟩]) (.ret)))
theorem is_didweb_each:FnIs Tryz.prog 156 21 [.tmp 4] c_didweb_each:=⟨⟨_,_,Tryz.func156,rfl,rfl,by kernel_rfl,by kernel_rfl⟩⟩
def c_didweb_pathWriter_add:SCode :=.seq (.reg [⟨Sa 4,.mv (.c (.i .i64 0)),Sb⟩]) (.seq (.reg [⟨Sa 8,.mv (.t 1),Sb⟩,⟨Sa 9,.call 131 [.t 8],Sb⟩,⟨Sa 7,.mv (.t 9),Sb⟩,⟨Sa 10,.ext (.t 7) 0,Sb⟩,⟨Sa 11,.ext (.t 7) 1,Sb⟩,⟨Sa 5,.mv (.t 10),Sb⟩,⟨Sa 6,.mv (.t 11),Sb⟩]) (.seq (.seq (.reg [⟨Sa 12,.mv (.t 6),Sb⟩,⟨Sa 13,.bin .neq (.t 12) (.c (.i .i64 0)),Sb⟩,⟨Sa 14,.mv (.t 13),Sb⟩,⟨Sa 15,.mv (.t 5),some (14,false)⟩,⟨Sa 16,.bin .eql (.t 15) (.c (.s [])),some (14,false)⟩,⟨Sa 17,.pick (.t 14) (.c (.b true)) (.t 16),Sb⟩,⟨Sa 18,.mv (.t 17),Sb⟩,⟨Sa 19,.mv (.t 5),some (18,false)⟩,⟨Sa 20,.bin .eql (.t 19) (.c (.s [46])),some (18,false)⟩,⟨Sa 21,.pick (.t 18) (.c (.b true)) (.t 20),Sb⟩,⟨Sa 22,.mv (.t 21),Sb⟩,⟨Sa 23,.mv (.t 5),some (22,false)⟩,⟨Sa 24,.bin .eql (.t 23) (.c (.s [46,46])),some (22,false)⟩,⟨Sa 25,.pick (.t 22) (.c (.b true)) (.t 24),Sb⟩]) (.cond (.t 25) (.seq (.reg [⟨Sa 4,.mv (.c (.i .i64 110)),Sb⟩]) (.ret)) (.skip))) (.seq (.drw [⟨Sa 26,.mv (.t 0),Sb⟩,⟨Sa 27,.nck (.t 26),Sb⟩,⟨Sa 28,.fad 0 (.t 27),Sb⟩,⟨Sa 29,.mv (.t 5),Sb⟩,⟨Sa 30,.call 22 [.t 29,.c (.s [])],Sb⟩,⟨Sa 31,.bin .add (.c (.s [47])) (.t 30),Sb⟩,⟨Sa 32,.call 188 [.t 28,.t 31],Sb⟩] 6 []) (.seq (.reg [⟨Sa 4,.mv (.c (.i .i64 0)),Sb⟩]) (.ret)))))
theorem is_didweb_pathWriter_add:FnIs Tryz.prog 157 33 [.tmp 4] c_didweb_pathWriter_add:=⟨⟨_,_,Tryz.func157,rfl,rfl,by kernel_rfl,by kernel_rfl⟩⟩
def c_weburl_Valid:SCode :=.seq (.reg [⟨Sa 1,.box 39 (.t 0),Sb⟩,⟨Sa 2,.mv (.c (.b false)),Sb⟩]) (.seq (.reg [⟨Sa 6,.loadn 7 (.t 1),Sb⟩,⟨Sa 7,.call 23 [.t 6],Sb⟩,⟨Sa 8,.call 96 [.t 7],Sb⟩,⟨Sa 5,.mv (.t 8),Sb⟩,⟨Sa 9,.ext (.t 5) 0,Sb⟩,⟨Sa 10,.ext (.t 5) 1,Sb⟩,⟨Sa 3,.alloc 39 [.s [],.i .i64 0,.s [],.s [],.s [],.b false,.b false],Sb⟩,⟨Sb,.store 7 (.t 3) (.t 9),Sb⟩,⟨Sa 4,.mv (.t 10),Sb⟩]) (.seq (.reg [⟨Sa 11,.mv (.t 4),Sb⟩,⟨Sa 12,.bin .eql (.t 11) (.c (.i .i64 0)),Sb⟩,⟨Sa 13,.mv (.t 12),Sb⟩,⟨Sa 14,.loadn 7 (.t 3),some (13,true)⟩,⟨Sa 15,.loadn 7 (.t 1),some (13,true)⟩,⟨Sa 16,.eqs false (.str [(0,(none,.ts)),(1,(none,.ti)),(2,(none,.ts)),(3,(none,.ts)),(4,(none,.ts)),(5,(none,.tb)),(6,(none,.tb))]) (.t 14) (.t 15),some (13,true)⟩,⟨Sa 17,.pick (.t 13) (.t 16) (.c (.b false)),Sb⟩,⟨Sa 2,.mv (.t 17),Sb⟩]) (.ret)))
theorem is_weburl_Valid:FnIs Tryz.prog 159 18 [.tmp 2] c_weburl_Valid:=⟨⟨_,_,Tryz.func159,rfl,rfl,by kernel_rfl,by kernel_rfl⟩⟩
def c_didweb_idWriter_start:SCode :=.seq (.reg [⟨Sa 3,.box 59 (.t 1),Sb⟩]) (.seq (.drw [⟨Sa 4,.mv (.t 0),Sb⟩,⟨Sa 5,.nck (.t 4),Sb⟩,⟨Sa 6,.fad 0 (.t 5),Sb⟩,⟨Sa 7,.fad 0 (.t 3),Sb⟩,⟨Sa 8,.load1 (.t 7),Sb⟩,⟨Sa 9,.call 188 [.t 6,.t 8],Sb⟩] 5 []) (.seq (.reg [⟨Sa 10,.fad 1 (.t 3),Sb⟩,⟨Sa 11,.load1 (.t 10),Sb⟩,⟨Sa 12,.bin .neq (.t 11) (.c (.i .i64 0)),Sb⟩]) (.cond (.t 12) (.drw [⟨Sa 13,.mv (.t 0),Sb⟩,⟨Sa 14,.nck (.t 13),Sb⟩,⟨Sa 15,.fad 0 (.t 14),Sb⟩,⟨Sa 16,.fad 1 (.t 3),Sb⟩,⟨Sa 17,.load1 (.t 16),Sb⟩,⟨Sa 18,.call 72 [.t 17],Sb⟩,⟨Sa 19,.bin .add (.c (.s [37,51,65])) (.t 18),Sb⟩,⟨Sa 20,.call 188 [.t 15,.t 19],Sb⟩] 7 []) (.skip))))
theorem is_didweb_idWriter_start:FnIs Tryz.prog 160 21 [] c_didweb_idWriter_start:=⟨⟨_,_,Tryz.func160,rfl,rfl,by kernel_rfl,by kernel_rfl⟩⟩
def c_didweb_idWriter_add:SCode :=.seq (.reg [⟨Sa 4,.mv (.c (.i .i64 0)),Sb⟩]) (.seq (.reg [⟨Sa 8,.mv (.t 1),Sb⟩,⟨Sa 9,.call 118 [.t 8,.c (.s [])],Sb⟩,⟨Sa 7,.mv (.t 9),Sb⟩,⟨Sa 10,.ext (.t 7) 0,Sb⟩,⟨Sa 11,.ext (.t 7) 1,Sb⟩,⟨Sa 5,.mv (.t 10),Sb⟩,⟨Sa 6,.mv (.t 11),Sb⟩]) (.seq (.seq (.reg [⟨Sa 12,.mv (.t 6),Sb⟩,⟨Sa 13,.bin .neq (.t 12) (.c (.i .i64 0)),Sb⟩,⟨Sa 14,.mv (.t 13),Sb⟩,⟨Sa 15,.mv (.t 1),some (14,false)⟩,⟨Sa 16,.bin .eql (.t 15) (.c (.s [])),some (14,false)⟩,⟨Sa 17,.pick (.t 14) (.c (.b true)) (.t 16),Sb⟩]) (.cond (.t 17) (.seq (.reg [⟨Sa 4,.mv (.c (.i .i64 110)),Sb⟩]) (.ret)) (.skip))) (.seq (.drw [⟨Sa 18,.mv (.t 0),Sb⟩,⟨Sa 19,.nck (.t 18),Sb⟩,⟨Sa 20,.fad 0 (.t 19),Sb⟩,⟨Sa 21,.mv (.t 5),Sb⟩,⟨Sa 22,.call 154 [.t 21,.c (.s [126]),.c (.s [37,55,69])],Sb⟩,⟨Sa 23,.bin .add (.c (.s [58])) (.t 22),Sb⟩,⟨Sa 24,.call 188 [.t 20,.t 23],Sb⟩] 6 []) (.seq (.reg [⟨Sa 4,.mv (.c (.i .i64 0)),Sb⟩]) (.ret)))))
theorem is_didweb_idWriter_add:FnIs Tryz.prog 161 25 [.tmp 4] c_didweb_idWriter_add:=⟨⟨_,_,Tryz.func161,rfl,rfl,by kernel_rfl,by kernel_rfl⟩⟩
end Go.Proofs.YtnnipcgblooemaaGreatDoor.Sx
namespace Go.Proofs.YtnnipcgblooemaaGreatDoor.Sx
open Go.RowKit
set_option maxRecDepth 100000
open Option renaming some → Sa, none → Sb
def c_strings_Builder_WriteString:SCode :=.seq (.reg [⟨Sa 4,.mv (.c (.i .i64 0)),Sb⟩,⟨Sa 5,.mv (.c (.o .nilIface)),Sb⟩]) (.seq (.reg [⟨Sa 6,.mv (.t 0),Sb⟩,⟨Sa 7,.call 202 [.t 6],Sb⟩]) (.seq (.reg [⟨Sa 8,.mv (.t 0),Sb⟩,⟨Sa 9,.mv (.t 0),Sb⟩,⟨Sa 10,.nck (.t 9),Sb⟩,⟨Sa 11,.fad 1 (.t 10),Sb⟩,⟨Sa 12,.load1 (.t 11),Sb⟩,⟨Sa 13,.mv (.t 1),Sb⟩,⟨Sa 14,.apps 5 (.t 12) (.t 13),Sb⟩,⟨Sa 15,.nck (.t 8),Sb⟩,⟨Sa 16,.fad 1 (.t 15),Sb⟩,⟨Sb,.store 1 (.t 16) (.t 14),Sb⟩]) (.seq (.reg [⟨Sa 17,.mv (.t 1),Sb⟩,⟨Sa 18,.lens (.t 17),Sb⟩,⟨Sa 4,.mv (.t 18),Sb⟩,⟨Sa 5,.mv (.c (.o .nilIface)),Sb⟩]) (.ret))))
theorem is_strings_Builder_WriteString:FnIs Tryz.prog 188 19 [.tmp 4,.tmp 5] c_strings_Builder_WriteString:=⟨⟨_,_,Tryz.func188,rfl,rfl,by kernel_rfl,by kernel_rfl⟩⟩
end Go.Proofs.YtnnipcgblooemaaGreatDoor.Sx
namespace Go.Proofs.YtnnipcgblooemaaGreatDoor
open Go.RowKit Sx
theorem znG {s:List UInt8} {p:UInt8→Bool} (h:∀j (hj:j<s.length),p s[j]=true):s.all p=true:=by
 rw[List.all_eq_true]
 intro x hx
 obtain⟨j,hj,rfl⟩:=List.mem_iff_getElem.1 hx
 exact h j hj
theorem zjw {s:List UInt8} {p:UInt8→Bool} {j:Nat} (hj:j<s.length) (h:p s[j]=false):s.all p=false:=by
 rw[Bool.eq_false_iff]
 intro e
 have:=List.all_eq_true.1 e s[j] (List.getElem_mem _)
 rw[h] at this;cases this
theorem zdB {s:List UInt8} {j:Nat} (hj:j<s.length):s.getD j 0=s[j]:=by
 rw[List.getD_eq_getElem?_getD,List.getElem?_eq_getElem hj];rfl
theorem idx_has (l:List UInt8) (c:UInt8):decide (0≤Lib.indexByte l c)=zbe c l:=by
 have:=zlt (l:=l) (c:=c)
 rcases h:zbe c l with _|_
 ·exact decide_eq_false (fun h2=>by have:=this.2 h;omega)
 ·exact decide_eq_true (by
   apply Classical.byContradiction
   intro h2
   have:=this.1 (by omega)
   rw[h] at this;cases this)
theorem wrap_u64 (n:Int) (h0:0≤n) (h1:n<18446744073709551616):IntKind.u64.wrap n=n:=by
 simp[IntKind.wrap,IntKind.bits,IntKind.signed]
 omega
theorem Qb.rev {w w':World} (h:w'=w):Qb w w':=by subst h;exact Qb.refl _
section
variable [Tabs Tryz.prog] {objs:List OB} {K:List OB→AV→Prop}
theorem znL (c:UInt8) (hk:K objs (.b (zal c))):zad Tryz.prog 136 [.i .u8 c.toNat] objs K :=
 conv (vs:=[.int .u8 c.toNat]) rfl rfl (fun w=>(zaW c w).mono (by rintro e w' ⟨rfl,rfl⟩;exact⟨rfl,Qb.refl _⟩)) hk
theorem aAlpha_k (c:UInt8) (hk:K objs (.b (za4 c))):zad Tryz.prog 135 [.i .u8 c.toNat] objs K :=
 conv (vs:=[.int .u8 c.toNat]) rfl rfl (fun w=>(zbd c w).mono (by rintro e w' ⟨rfl,rfl⟩;exact⟨rfl,Qb.refl _⟩)) hk
theorem zjP (s:List UInt8) (c:UInt8) (hk:K objs (.i .i64 (Lib.indexByte s c))):zad Tryz.prog 71 [.s s,.i .u8 c.toNat] objs K:=by
 have e:((c.toNat:Nat):Int).toNat.toUInt8=c:=by simp
 exact conv (vs:=[.string (S s),.int .u8 c.toNat]) rfl rfl (fun w=>(Tryz.strings_IndexByte (S s) c.toNat w).mono fun e' w' ⟨h1,h2⟩=>⟨by rw[h1,e],Qb.rev h2⟩) hk
theorem zjQ (s p:List UInt8) (hk:K objs (.tup [.s (Lib.trimPrefix s p),.b (Lib.hasPrefix s p)])):zad Tryz.prog 126 [.s s,.s p] objs K :=
 conv (vs:=[.string (S s),.string (S p)]) rfl rfl (fun w=>(Tryz.strings_CutPrefix (S s) (S p) w).mono fun e w' ⟨h1,h2⟩=>⟨h1,Qb.rev h2⟩) hk
theorem zgS (a b:List UInt8) (ha:a.length≤maxLen) (hb:b.length≤maxLen) (hk:K objs (.b (eqL a b))):zad Tryz.prog 116 [.s a,.s b] objs K :=
 conv (vs:=[.string (S a),.string (S b)]) rfl rfl (fun w=>zbq (S a) (S b) w (by rw[zac];exact ha) (by rw[zac];exact hb)) hk
theorem zpx (a b:List UInt8) (ha:a.length≤140737488351232) (hb:b.length≤140737488351232) (hk:K objs (.b (eqL a b))):zad Tryz.prog 50 [.s a,.s b] objs K :=
 conv (vs:=[.string (S a),.string (S b)]) rfl rfl (fun w=>zby (S a) (S b) w (by rw[zac];exact ha) (by rw[zac];exact hb)) hk
theorem sCut_k (s:List UInt8) (c:UInt8) (hs:s.length≤maxLen) (hk:K objs (.tup [.s (zar c s).1,.s (zar c s).2.1,.b (zar c s).2.2])):zad Tryz.prog 67 [.s s,.s [c]] objs K :=
 conv (vs:=[.string (S s),.string (S [c])]) rfl rfl (fun w=>zbi (S s) c w (by rw[zac];exact hs)) hk
theorem zib (u:Nat) (hu:u<18446744073709551616) (hk:K objs (.s (Lib.decDigits u))):zad Tryz.prog 73 [.i .u64 u] objs K :=
 conv (vs:=[.int .u64 u]) rfl rfl (fun w=>zjV u hu w) hk
theorem itoa_k [Pow Tryz.prog] (n:Int) (h0:-9223372036854775808≤n) (h1:n≤9223372036854775807) (hk:K objs (.s (Lib.itoa n))):zad Tryz.prog 72 [.i .i64 n] objs K :=
 convT (vs:=[.int .i64 n]) rfl rfl (fun w hT=>(Tryz.strconv_Itoa n h0 h1 w (Pow.pw w hT)).mono fun e w' h=>by
  obtain⟨h2,k,os,h3⟩:=h
  exact⟨h2,by rw[h3];exact qb_grow w k os⟩) hk
theorem za3 (s set:List UInt8) (hs:s.length≤maxLen) (ha:set.length≤maxLen) (hk:K objs (.i .i64 (zaA s set))):zad Tryz.prog 27 [.s s,.s set] objs K :=
 zrv (vs:=[.string (S s),.string (S set)]) rfl rfl (fun w=>zbl (S s) (S set) w (by rw[zac];exact hs) (by rw[zac];exact ha)) hk
theorem zbI (s p:List UInt8) (hs:s.length≤maxLen) (hk:K objs (.b (Lib.hasPrefix s p))):zad Tryz.prog 85 [.s s,.s p] objs K :=
 zrv (vs:=[.string (S s),.string (S p)]) rfl rfl (fun w=>zat (S s) (S p) w (by rw[zac];exact hs)) hk
end
end Go.Proofs.YtnnipcgblooemaaGreatDoor
