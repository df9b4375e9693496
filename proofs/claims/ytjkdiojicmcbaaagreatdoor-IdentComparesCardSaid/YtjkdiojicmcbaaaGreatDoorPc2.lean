/- The texts that the proofs of these statements reach, in their order, as few files. -/
import Derived.Shelf.Strings.Builder1
import Derived.Shelf.Strings.Builder2
import Derived.Shelf.Small.Utf8
import Derived.Shelf.Small.Strs
import Derived.Shelf.Small.Wraps
import Derived.Shelf.Strings.BuilderF
import Derived.Shelf.Strings.BuilderK
import Derived.Shelf.Utf8.RuneCount
import Derived.Shelf.Strings.Builder2Cap
import Derived.Shelf.Strconv.Itoa0
import Derived.Shelf.Strconv.Itoa1
import Derived.Shelf.LaysM
import Derived.Shelf.Strconv.Itoa2
import Derived.Shelf.Strconv.Itoa3
import Derived.Shelf.Strings.Search1
import Derived.Shelf.Strings.Search2
import Derived.Shelf.Strings.Search3
import Derived.Shelf.Strings.Cut
import Derived.Shelf.Strings.Count
import Derived.Shelf.Strings.Shaped
import Derived.Shelf.Strings.Prefix
import Derived.Shelf.Strings.Split
import Derived.Shelf.Strings.Replace
import Derived.Shelf.Strings.SplitShaped
import Derived.Shelf.Unicode.Decode
import Derived.Shelf.Strings.Runes
import Derived.Shelf.Strings.RuneCount
import Derived.Shelf.Strings.IndexAny
import Derived.Shelf.Strings.AsciiSet
import Derived.Shelf.Strings.IndexAnyAll
import Derived.Shelf.Strings.Explode
import Derived.Shelf.Unicode.DecodeSlow
import Derived.Shelf.Unicode.DecodeAny
import Derived.Shelf.Strings.BuilderCap
import Derived.Test.YtjkdiojicmcbaaaGreatDoorProg
import Derived.WalkKit
import Derived.WalkLawsBesides
import Derived.WalkSmall
import Derived.WalkSpells
import Derived.Lib.Hide
import Derived.Lib.IndexAny
import Derived.ShutString
import Derived.Lib.Strings
import Derived.Deep.QuietTactic
import Derived.BigQuiet
import Derived.Laws.BytesArg
import Derived.Laws.IdiomStrings
import Derived.Lib.ConvBytes
import Derived.Lib.AppendStr
import Derived.Lib.LaidTab
import Derived.Lib.ItoaNum
import Derived.ChangeAgain
import Derived.Laws.Rows
import Derived.BigRegion
import Derived.Deep.RegionLaw
import Derived.Deep.RegionHeldLaw
import Derived.Deep.DrawnRows
import Derived.Lib.Join
import Derived.Test.YtjkdiojicmcbaaaGreatDoorPc1
set_option linter.unusedVariables false
set_option linter.unusedSimpArgs false
namespace Go.Proofs.YtjkdiojicmcbaaaGreatDoor.Sx
open Go.RowKit
inductive IT where
 | code (c : SCode)
 | ops (l : List SO)
 | dops (l : List SO)
 | ap (l : List (Nat × Nat))
 | blk (id : Nat)
def cont (P : Program) [Tabs P] (C : Cx) (F : Post) : List IT → Post
 | [] => F
 | .code c :: k => thenK (fun o t => wpC P C c (cont P C F k) o t) (cont P C F k)
 | .ops l :: k => thenK (fun o t => wpR P l o t fun o t => cont P C F k .normal o t) (cont P C F k)
 | .dops l :: k => thenK (fun o t => wpD P l o t fun o t => cont P C F k .normal o t) (cont P C F k)
 | .ap l :: k => thenK (fun o t => apOk l t ∧ cont P C F k .normal o t) (cont P C F k)
 | .blk id :: k => blkK id (cont P C F k)
def run (P : Program) [Tabs P] (C : Cx) (k : List IT) (objs : List OB) (tm : List AV) (F : Post) : Prop := cont P C F k .normal objs tm
def xit (P : Program) [Tabs P] (C : Cx) (id : Nat) (k : List IT) (objs : List OB) (tm : List AV) (F : Post) : Prop := cont P C F k (.exit id) objs tm
def loopF (P : Program) [Tabs P] (C : Cx) (J : Nat → List OB → List AV → Prop) (n : Nat) (k : List IT) (F : Post) : Post := thenK (fun o t => ∃ m, m < n ∧ J m o t) (cont P C F k)
def evs (tm : List AV) : List SV → List AV
 | [] => []
 | x :: xs => x.ev tm :: evs tm xs
theorem evs_eq (tm : List AV) : ∀ l : List SV, evs tm l = l.map fun x => x.ev tm
 | [] => rfl
 | x :: l => by rw [evs, evs_eq tm l]; rfl
def evp (tm : List AV) : List (Nat × Nat × SV) → List (Nat × Nat × AV)
 | [] => []
 | (o, s, x) :: xs => (o, s, x.ev tm) :: evp tm xs
theorem evp_eq (tm : List AV) : ∀ l : List (Nat × Nat × SV), evp tm l = l.map fun p => (p.1, p.2.1, p.2.2.ev tm)
 | [] => rfl
 | (o, s, x) :: l => by rw [evp, evp_eq tm l]; rfl
def bxs : Option OB → Option (List AV)
 | some (.box _ cs) => some cs
 | _ => none
theorem bxs_box (T : TypeId) (cs : List AV) : bxs (some (.box T cs)) = some cs := Eq.trans rfl rfl
section
variable {P : Program} [Tabs P] {C : Cx} {F : Post} {k : List IT} {r : List SO} {objs : List OB} {tm : List AV} {d : Option Nat}
theorem rn_nil : run P C [] objs tm F = F .normal objs tm := Eq.trans rfl rfl
theorem rn_seq (x y : SCode) : run P C (.code (.seq x y) :: k) objs tm F = run P C (.code x :: .code y :: k) objs tm F := Eq.trans rfl rfl
theorem rn_skip : run P C (.code .skip :: k) objs tm F = run P C k objs tm F := Eq.trans rfl rfl
theorem rn_reg (l : List SO) : run P C (.code (.reg l) :: k) objs tm F = run P C (.ops l :: k) objs tm F := Eq.trans rfl rfl
theorem rn_ap (l : List (Nat × Nat)) : run P C (.ap l :: k) objs tm F = (apOk l tm ∧ run P C k objs tm F) := Eq.trans rfl rfl
theorem apOk_n : apOk [] tm = True := Eq.trans rfl rfl
theorem apOk_c (s s' : Nat) (l : List (Nat × Nat)) : apOk ((s, s') :: l) tm = (apOne tm[s]? tm[s']? ∧ apOk l tm) := Eq.trans rfl rfl
theorem apOne_p (b o b' o' : Nat) : apOne (some (.p b o)) (some (.p b' o')) = (¬ b = b') := Eq.trans rfl rfl
theorem rn_drw (l : List SO) (n : Nat) (ap : List (Nat × Nat)) : run P C (.code (.drw l n ap) :: k) objs tm F = run P C (.dops (l.take n) :: .ap ap :: .ops (l.drop n) :: k) objs tm F := Eq.trans rfl rfl
theorem rn_blk (id : Nat) (c : SCode) : run P C (.code (.blk id c) :: k) objs tm F = run P C (.code c :: .blk id :: k) objs tm F := Eq.trans rfl rfl
theorem rn_inblk (id : Nat) : run P C (.blk id :: k) objs tm F = run P C k objs tm F := Eq.trans rfl rfl
theorem rn_ops_nil : run P C (.ops [] :: k) objs tm F = run P C k objs tm F := Eq.trans rfl rfl
theorem rn_dops_nil : run P C (.dops [] :: k) objs tm F = run P C k objs tm F := Eq.trans rfl rfl
theorem cont_ret : ∀ (k : List IT), cont P C F k .ret objs tm = F .ret objs tm
 | [] => rfl
 | .code c :: k => cont_ret k
 | .ops l :: k => cont_ret k
 | .dops l :: k => cont_ret k
 | .ap l :: k => cont_ret k
 | .blk id :: k => cont_ret k
theorem rn_ret : run P C (.code .ret :: k) objs tm F = F .ret objs tm := cont_ret k
theorem rn_exit (id : Nat) : run P C (.code (.exit id) :: k) objs tm F = xit P C id k objs tm F := Eq.trans rfl rfl
theorem xit_nil (id : Nat) : xit P C id [] objs tm F = F (.exit id) objs tm := Eq.trans rfl rfl
theorem xit_code (id : Nat) (c : SCode) : xit P C id (.code c :: k) objs tm F = xit P C id k objs tm F := Eq.trans rfl rfl
theorem xit_ops (id : Nat) (l : List SO) : xit P C id (.ops l :: k) objs tm F = xit P C id k objs tm F := Eq.trans rfl rfl
theorem xit_dops (id : Nat) (l : List SO) : xit P C id (.dops l :: k) objs tm F = xit P C id k objs tm F := Eq.trans rfl rfl
theorem xit_ap (id : Nat) (l : List (Nat × Nat)) : xit P C id (.ap l :: k) objs tm F = xit P C id k objs tm F := Eq.trans rfl rfl
theorem xit_blk (id id' : Nat) : xit P C id (.blk id' :: k) objs tm F = if id = id' then run P C k objs tm F else xit P C id k objs tm F := Eq.trans rfl rfl
theorem loopF_normal (J : Nat → List OB → List AV → Prop) (n : Nat) : loopF P C J n k F .normal objs tm = ∃ m, m < n ∧ J m objs tm := Eq.trans rfl rfl
theorem loopF_exit (J : Nat → List OB → List AV → Prop) (n id : Nat) : loopF P C J n k F (.exit id) objs tm = xit P C id k objs tm F := Eq.trans rfl rfl
theorem loopF_ret (J : Nat → List OB → List AV → Prop) (n : Nat) : loopF P C J n k F .ret objs tm = F .ret objs tm := cont_ret k
theorem rn_loop [On P C] {c : SCode} (J : Nat → List OB → List AV → Prop) (n : Nat) (h0 : J n objs tm) (round : ∀ n objs tm, J n objs tm → run P C [.code c] objs tm (loopF P C J n k F)) : run P C (.code (.loop c) :: k) objs tm F :=
 wps_loop J n h0 round
def kO (P : Program) [Tabs P] (C : Cx) (v : Option AV) (d : Option Nat) (r : List SO) (k : List IT) (objs : List OB) (tm : List AV) (F : Post) : Prop :=
 match v with
 | some v => run P C (.ops r :: k) objs (setd tm d v) F
 | none => False
theorem rn_op (op : SOp) : run P C (.ops (⟨d, op, none⟩ :: r) :: k) objs tm F = wpS P op objs tm fun o v => run P C (.ops r :: k) o (setd tm d v) F := Eq.trans rfl rfl
theorem kO_some (v : AV) : kO P C (some v) d r k objs tm F = run P C (.ops r :: k) objs (setd tm d v) F := Eq.trans rfl rfl
theorem rn_mv (x : SV) : run P C (.ops (⟨d, .mv x, none⟩ :: r) :: k) objs tm F = run P C (.ops r :: k) objs (setd tm d (x.ev tm)) F := Eq.trans rfl rfl
def kPick (P : Program) [Tabs P] (C : Cx) (c x y : AV) (d : Option Nat) (r : List SO) (k : List IT) (objs : List OB) (tm : List AV) (F : Post) : Prop :=
 match c with
 | .b t => (t = true → run P C (.ops r :: k) objs (setd tm d x) F) ∧ (t = false → run P C (.ops r :: k) objs (setd tm d y) F)
 | _ => False
theorem kPick_t (x y : AV) : kPick P C (.b true) x y d r k objs tm F = run P C (.ops r :: k) objs (setd tm d x) F := propext ⟨fun h => h.1 rfl, fun h => ⟨fun _ => h, fun e => absurd e.symm Bool.false_ne_true⟩⟩
theorem kPick_f (x y : AV) : kPick P C (.b false) x y d r k objs tm F = run P C (.ops r :: k) objs (setd tm d y) F := propext ⟨fun h => h.2 rfl, fun h => ⟨fun e => absurd e Bool.false_ne_true, fun _ => h⟩⟩
theorem rn_pick (c x y : SV) : run P C (.ops (⟨d, .pick c x y, none⟩ :: r) :: k) objs tm F = kPick P C (c.ev tm) (x.ev tm) (y.ev tm) d r k objs tm F := Eq.trans rfl rfl
theorem rn_alloc (T : Nat) (z : List AV) : run P C (.ops (⟨d, .alloc T z, none⟩ :: r) :: k) objs tm F = run P C (.ops r :: k) (objs ++ [.box T z]) (setd tm d (.p objs.length 0)) F := Eq.trans rfl rfl
theorem rn_box (T : Nat) (x : SV) : run P C (.ops (⟨d, .box T x, none⟩ :: r) :: k) objs tm F = ((x.ev tm).flat = true ∧ run P C (.ops r :: k) (objs ++ [.box T (x.ev tm).cells]) (setd tm d (.p objs.length 0)) F) := Eq.trans rfl rfl
theorem rn_build (z : List AV) (ps : List (Nat × Nat × SV)) : run P C (.ops (⟨d, .build z ps, none⟩ :: r) :: k) objs tm F = kO P C ((fillA z (evp tm ps)).map .agg) d r k objs tm F := by
 rw [evp_eq]
 rw [rn_op]
 simp only [wpS]
 cases fillA z (ps.map fun p => (p.1, p.2.1, p.2.2.ev tm)) <;> rfl
theorem rn_bslice (n : Nat) (z : List AV) (ps : List (Nat × Nat × SV)) : run P C (.ops (⟨d, .bslice n z ps, none⟩ :: r) :: k) objs tm F = kO P C ((fillA z (evp tm ps)).map (.row n)) d r k objs tm F := by
 rw [evp_eq]
 rw [rn_op]
 simp only [wpS]
 cases fillA z (ps.map fun p => (p.1, p.2.1, p.2.2.ev tm)) <;> rfl
def kLd1 (P : Program) [Tabs P] (C : Cx) (v : AV) (d : Option Nat) (r : List SO) (k : List IT) (objs : List OB) (tm : List AV) (F : Post) : Prop :=
 match v with
 | .p b off => kO P C ((bxs objs[b]?).bind fun cs => cs[off]?) d r k objs tm F
 | .prow xs j => kO P C xs[j]? d r k objs tm F
 | _ => False
theorem kLd1_p (b off : Nat) : kLd1 P C (.p b off) d r k objs tm F = kO P C ((bxs objs[b]?).bind fun cs => cs[off]?) d r k objs tm F := Eq.trans rfl rfl
theorem kLd1_r (xs : List AV) (j : Nat) : kLd1 P C (.prow xs j) d r k objs tm F = kO P C xs[j]? d r k objs tm F := Eq.trans rfl rfl
theorem rn_load1 (x : SV) : run P C (.ops (⟨d, .load1 x, none⟩ :: r) :: k) objs tm F = kLd1 P C (x.ev tm) d r k objs tm F := by
 rw [rn_op]
 simp only [wpS, kLd1]
 cases x.ev tm <;> try rfl
 case p b off =>
  dsimp only
  generalize objs[b]? = q
  cases q with
  | none => rfl
  | some ob =>
   cases ob <;> try rfl
   all_goals (dsimp only [bxs, Option.bind]; split <;> rfl)
 case prow xs j =>
  dsimp only
  cases hx : xs[j]? with
  | none => simp [kO]
  | some v => simp [kO]
def kLdn (P : Program) [Tabs P] (C : Cx) (c : Option (List AV)) (off sz : Nat) (d : Option Nat) (r : List SO) (k : List IT) (objs : List OB) (tm : List AV) (F : Post) : Prop :=
 match c with
 | some cs => off + sz ≤ cs.length ∧ run P C (.ops r :: k) objs (setd tm d (.agg ((cs.drop off).take sz))) F
 | none => False
def kLdv (P : Program) [Tabs P] (C : Cx) (v : AV) (sz : Nat) (d : Option Nat) (r : List SO) (k : List IT) (objs : List OB) (tm : List AV) (F : Post) : Prop :=
 match v with
 | .p b off => kLdn P C (bxs objs[b]?) off sz d r k objs tm F
 | .prow xs j => kLdn P C (some xs) j sz d r k objs tm F
 | _ => False
theorem kLdn_s (cs : List AV) (off sz : Nat) : kLdn P C (some cs) off sz d r k objs tm F = (off + sz ≤ cs.length ∧ run P C (.ops r :: k) objs (setd tm d (.agg ((cs.drop off).take sz))) F) := Eq.trans rfl rfl
theorem kLdv_p (b off sz : Nat) : kLdv P C (.p b off) sz d r k objs tm F = kLdn P C (bxs objs[b]?) off sz d r k objs tm F := Eq.trans rfl rfl
theorem kLdv_r (xs : List AV) (j sz : Nat) : kLdv P C (.prow xs j) sz d r k objs tm F = kLdn P C (some xs) j sz d r k objs tm F := Eq.trans rfl rfl
theorem rn_loadn (sz : Nat) (x : SV) : run P C (.ops (⟨d, .loadn sz x, none⟩ :: r) :: k) objs tm F = kLdv P C (x.ev tm) sz d r k objs tm F := by
 rw [rn_op]
 simp only [wpS, kLdv]
 cases x.ev tm <;> try rfl
 try (case p b off =>
  dsimp only
  generalize objs[b]? = q
  cases q with
  | none => rfl
  | some ob => cases ob <;> rfl)
def kSt2 (P : Program) [Tabs P] (C : Cx) (c : Option OB) (b off sz : Nat) (v : AV) (d : Option Nat) (r : List SO) (k : List IT) (objs : List OB) (tm : List AV) (F : Post) : Prop :=
 match c with
 | some (.box T cs) => (v.flat = true ∧ v.cells.length = sz ∧ off + sz ≤ cs.length) ∧ run P C (.ops r :: k) (objs.set b (.box T (splice cs off v.cells))) (setd tm d .u) F
 | _ => False
def kSt (P : Program) [Tabs P] (C : Cx) (p v : AV) (sz : Nat) (d : Option Nat) (r : List SO) (k : List IT) (objs : List OB) (tm : List AV) (F : Post) : Prop :=
 match p with
 | .p b off => kSt2 P C objs[b]? b off sz v d r k objs tm F
 | _ => False
theorem kSt2_b (T : TypeId) (cs : List AV) (b off sz : Nat) (v : AV) : kSt2 P C (some (.box T cs)) b off sz v d r k objs tm F = ((v.flat = true ∧ v.cells.length = sz ∧ off + sz ≤ cs.length) ∧ run P C (.ops r :: k) (objs.set b (.box T (splice cs off v.cells))) (setd tm d .u) F) := Eq.trans rfl rfl
theorem kSt_p (b off sz : Nat) (v : AV) : kSt P C (.p b off) v sz d r k objs tm F = kSt2 P C objs[b]? b off sz v d r k objs tm F := Eq.trans rfl rfl
theorem rn_store (sz : Nat) (x y : SV) : run P C (.ops (⟨d, .store sz x y, none⟩ :: r) :: k) objs tm F = kSt P C (x.ev tm) (y.ev tm) sz d r k objs tm F := by
 rw [rn_op]
 simp only [wpS, kSt]
 cases x.ev tm <;> try rfl
 try (case p b off =>
  dsimp only
  generalize objs[b]? = q
  cases q with
  | none => rfl
  | some ob => cases ob <;> rfl)
def kNck (P : Program) [Tabs P] (C : Cx) (v : AV)  (d : Option Nat) (r : List SO) (k : List IT) (objs : List OB) (tm : List AV) (F : Post) : Prop :=
 match v with
 | .p b o => run P C (.ops r :: k) objs (setd tm d (.p b o)) F
 | .prow xs j => run P C (.ops r :: k) objs (setd tm d (.prow xs j)) F
 | .fn f fs cs => run P C (.ops r :: k) objs (setd tm d (.fn f fs cs)) F
 | _ => False
theorem kNck_0 (b o : Nat)  : kNck P C (.p b o)  d r k objs tm F = (run P C (.ops r :: k) objs (setd tm d (.p b o)) F) := Eq.trans rfl rfl
theorem kNck_1 (xs : List AV) (j : Nat)  : kNck P C (.prow xs j)  d r k objs tm F = (run P C (.ops r :: k) objs (setd tm d (.prow xs j)) F) := Eq.trans rfl rfl
theorem kNck_2 (f : Nat) (fs cs : List AV)  : kNck P C (.fn f fs cs)  d r k objs tm F = (run P C (.ops r :: k) objs (setd tm d (.fn f fs cs)) F) := Eq.trans rfl rfl
theorem rn_nck (x : SV) : run P C (.ops (⟨d, .nck x, none⟩ :: r) :: k) objs tm F = kNck P C (x.ev tm)  d r k objs tm F := by
 rw [rn_op]
 simp only [wpS, kNck]
 cases (x.ev tm) <;> rfl
def kNot (P : Program) [Tabs P] (C : Cx) (v : AV)  (d : Option Nat) (r : List SO) (k : List IT) (objs : List OB) (tm : List AV) (F : Post) : Prop :=
 match v with
 | .b t => run P C (.ops r :: k) objs (setd tm d (.b (!t))) F
 | _ => False
theorem kNot_0 (t : Bool)  : kNot P C (.b t)  d r k objs tm F = (run P C (.ops r :: k) objs (setd tm d (.b (!t))) F) := Eq.trans rfl rfl
theorem rn_not (x : SV) : run P C (.ops (⟨d, .not x, none⟩ :: r) :: k) objs tm F = kNot P C (x.ev tm)  d r k objs tm F := by
 rw [rn_op]
 simp only [wpS, kNot]
 cases (x.ev tm) <;> rfl
def kAr (P : Program) [Tabs P] (C : Cx) (q : IntKind) (z : Int) (d : Option Nat) (r : List SO) (k : List IT) (objs : List OB) (tm : List AV) (F : Post) : Prop := arK q z fun z => run P C (.ops r :: k) objs (setd tm d (.i q z)) F
theorem kAr_i64 (z : Int) : kAr P C .i64 z d r k objs tm F = ((-9223372036854775808 ≤ z ∧ z ≤ 9223372036854775807) ∧ run P C (.ops r :: k) objs (setd tm d (.i .i64 z)) F) := Eq.trans rfl rfl
theorem kAr_i8 (z : Int) : kAr P C .i8 z d r k objs tm F = run P C (.ops r :: k) objs (setd tm d (.i .i8 (IntKind.wrap .i8 z))) F := Eq.trans rfl rfl
theorem kAr_i16 (z : Int) : kAr P C .i16 z d r k objs tm F = run P C (.ops r :: k) objs (setd tm d (.i .i16 (IntKind.wrap .i16 z))) F := Eq.trans rfl rfl
theorem kAr_i32 (z : Int) : kAr P C .i32 z d r k objs tm F = run P C (.ops r :: k) objs (setd tm d (.i .i32 (IntKind.wrap .i32 z))) F := Eq.trans rfl rfl
theorem kAr_u8 (z : Int) : kAr P C .u8 z d r k objs tm F = run P C (.ops r :: k) objs (setd tm d (.i .u8 (IntKind.wrap .u8 z))) F := Eq.trans rfl rfl
theorem kAr_u16 (z : Int) : kAr P C .u16 z d r k objs tm F = run P C (.ops r :: k) objs (setd tm d (.i .u16 (IntKind.wrap .u16 z))) F := Eq.trans rfl rfl
theorem kAr_u32 (z : Int) : kAr P C .u32 z d r k objs tm F = run P C (.ops r :: k) objs (setd tm d (.i .u32 (IntKind.wrap .u32 z))) F := Eq.trans rfl rfl
theorem kAr_u64 (z : Int) : kAr P C .u64 z d r k objs tm F = run P C (.ops r :: k) objs (setd tm d (.i .u64 (IntKind.wrap .u64 z))) F := Eq.trans rfl rfl
def kNeg (P : Program) [Tabs P] (C : Cx) (v : AV)  (d : Option Nat) (r : List SO) (k : List IT) (objs : List OB) (tm : List AV) (F : Post) : Prop :=
 match v with
 | .i q n => kAr P C q (0 - n) d r k objs tm F
 | _ => False
theorem kNeg_0 (q : IntKind) (n : Int)  : kNeg P C (.i q n)  d r k objs tm F = (kAr P C q (0 - n) d r k objs tm F) := Eq.trans rfl rfl
theorem rn_neg (x : SV) : run P C (.ops (⟨d, .neg x, none⟩ :: r) :: k) objs tm F = kNeg P C (x.ev tm)  d r k objs tm F := by
 rw [rn_op]
 simp only [wpS, kNeg, kAr]
 cases x.ev tm <;> rfl
def kCvi (P : Program) [Tabs P] (C : Cx) (v : AV) (q : IntKind) (d : Option Nat) (r : List SO) (k : List IT) (objs : List OB) (tm : List AV) (F : Post) : Prop :=
 match v with
 | .i kk n => run P C (.ops r :: k) objs (setd tm d (.i q (q.wrap n))) F
 | _ => False
theorem kCvi_0 (kk : IntKind) (n : Int) (q : IntKind) : kCvi P C (.i kk n) q d r k objs tm F = (run P C (.ops r :: k) objs (setd tm d (.i q (q.wrap n))) F) := Eq.trans rfl rfl
theorem rn_cvi (q : IntKind) (x : SV) : run P C (.ops (⟨d, .cvi q x, none⟩ :: r) :: k) objs tm F = kCvi P C (x.ev tm) q d r k objs tm F := by
 rw [rn_op]
 simp only [wpS, kCvi]
 cases (x.ev tm) <;> rfl
def kCvs (P : Program) [Tabs P] (C : Cx) (v : AV)  (d : Option Nat) (r : List SO) (k : List IT) (objs : List OB) (tm : List AV) (F : Post) : Prop :=
 match v with
 | .s l => run P C (.ops r :: k) objs (setd tm d (.s l)) F
 | _ => False
theorem kCvs_0 (l : List UInt8)  : kCvs P C (.s l)  d r k objs tm F = (run P C (.ops r :: k) objs (setd tm d (.s l)) F) := Eq.trans rfl rfl
theorem rn_cvs (x : SV) : run P C (.ops (⟨d, .cvs x, none⟩ :: r) :: k) objs tm F = kCvs P C (x.ev tm)  d r k objs tm F := by
 rw [rn_op]
 simp only [wpS, kCvs]
 cases (x.ev tm) <;> rfl
def kLens (P : Program) [Tabs P] (C : Cx) (v : AV)  (d : Option Nat) (r : List SO) (k : List IT) (objs : List OB) (tm : List AV) (F : Post) : Prop :=
 match v with
 | .s l => run P C (.ops r :: k) objs (setd tm d (.i .i64 l.length)) F
 | _ => False
theorem kLens_0 (l : List UInt8)  : kLens P C (.s l)  d r k objs tm F = (run P C (.ops r :: k) objs (setd tm d (.i .i64 l.length)) F) := Eq.trans rfl rfl
theorem rn_lens (x : SV) : run P C (.ops (⟨d, .lens x, none⟩ :: r) :: k) objs tm F = kLens P C (x.ev tm)  d r k objs tm F := by
 rw [rn_op]
 simp only [wpS, kLens]
 cases (x.ev tm) <;> rfl
def kFldn (P : Program) [Tabs P] (C : Cx) (v : AV) (off sz : Nat) (d : Option Nat) (r : List SO) (k : List IT) (objs : List OB) (tm : List AV) (F : Post) : Prop :=
 match v with
 | .agg cs => run P C (.ops r :: k) objs (setd tm d (.agg ((cs.drop off).take sz))) F
 | _ => False
theorem kFldn_0 (cs : List AV) (off sz : Nat) : kFldn P C (.agg cs) off sz d r k objs tm F = (run P C (.ops r :: k) objs (setd tm d (.agg ((cs.drop off).take sz))) F) := Eq.trans rfl rfl
theorem rn_fldn (off sz : Nat) (x : SV) : run P C (.ops (⟨d, .fldn off sz x, none⟩ :: r) :: k) objs tm F = kFldn P C (x.ev tm) off sz d r k objs tm F := by
 rw [rn_op]
 simp only [wpS, kFldn]
 cases (x.ev tm) <;> rfl
def kFad (P : Program) [Tabs P] (C : Cx) (v : AV) (off : Nat) (d : Option Nat) (r : List SO) (k : List IT) (objs : List OB) (tm : List AV) (F : Post) : Prop :=
 match v with
 | .p b o => run P C (.ops r :: k) objs (setd tm d (.p b (o + off))) F
 | .prow xs j => run P C (.ops r :: k) objs (setd tm d (.prow xs (j + off))) F
 | _ => False
theorem kFad_0 (b o : Nat) (off : Nat) : kFad P C (.p b o) off d r k objs tm F = (run P C (.ops r :: k) objs (setd tm d (.p b (o + off))) F) := Eq.trans rfl rfl
theorem kFad_1 (xs : List AV) (j : Nat) (off : Nat) : kFad P C (.prow xs j) off d r k objs tm F = (run P C (.ops r :: k) objs (setd tm d (.prow xs (j + off))) F) := Eq.trans rfl rfl
theorem rn_fad (off : Nat) (x : SV) : run P C (.ops (⟨d, .fad off x, none⟩ :: r) :: k) objs tm F = kFad P C (x.ev tm) off d r k objs tm F := by
 rw [rn_op]
 simp only [wpS, kFad]
 cases (x.ev tm) <;> rfl
def kFld1 (P : Program) [Tabs P] (C : Cx) (v : AV) (off : Nat) (d : Option Nat) (r : List SO) (k : List IT) (objs : List OB) (tm : List AV) (F : Post) : Prop :=
 match v with
 | .agg cs => kO P C cs[off]? d r k objs tm F
 | _ => False
theorem kFld1_0 (cs : List AV) (off : Nat) : kFld1 P C (.agg cs) off d r k objs tm F = (kO P C cs[off]? d r k objs tm F) := Eq.trans rfl rfl
theorem rn_fld1 (off : Nat) (x : SV) : run P C (.ops (⟨d, .fld1 off x, none⟩ :: r) :: k) objs tm F = kFld1 P C (x.ev tm) off d r k objs tm F := by
 rw [rn_op]
 simp only [wpS, kFld1]
 cases x.ev tm <;> try rfl
 try (case agg cs => dsimp only; cases cs[off]? <;> rfl)
def kExt (P : Program) [Tabs P] (C : Cx) (v : AV) (j : Nat) (d : Option Nat) (r : List SO) (k : List IT) (objs : List OB) (tm : List AV) (F : Post) : Prop :=
 match v with
 | .tup cs => kO P C cs[j]? d r k objs tm F
 | _ => False
theorem kExt_0 (cs : List AV) (j : Nat) : kExt P C (.tup cs) j d r k objs tm F = (kO P C cs[j]? d r k objs tm F) := Eq.trans rfl rfl
theorem rn_ext (x : SV) (j : Nat) : run P C (.ops (⟨d, .ext x j, none⟩ :: r) :: k) objs tm F = kExt P C (x.ev tm) j d r k objs tm F := by
 rw [rn_op]
 simp only [wpS, kExt]
 cases x.ev tm <;> try rfl
 try (case tup cs => dsimp only; cases cs[j]? <;> rfl)
def kLr2 (P : Program) [Tabs P] (C : Cx) (c : Option OB) (gen : Nat) (d : Option Nat) (r : List SO) (k : List IT) (objs : List OB) (tm : List AV) (F : Post) : Prop :=
 match c with
 | some (.orow _ _ gen' n _) => gen' = gen ∧ run P C (.ops r :: k) objs (setd tm d (.i .i64 n)) F
 | _ => False
theorem kLr2_o (E sz gen' n gen : Nat) (xs : List AV) : kLr2 P C (some (.orow E sz gen' n xs)) gen d r k objs tm F = (gen' = gen ∧ run P C (.ops r :: k) objs (setd tm d (.i .i64 n)) F) := Eq.trans rfl rfl
def kLenr (P : Program) [Tabs P] (C : Cx) (v : AV)  (d : Option Nat) (r : List SO) (k : List IT) (objs : List OB) (tm : List AV) (F : Post) : Prop :=
 match v with
 | .row n xs => run P C (.ops r :: k) objs (setd tm d (.i .i64 n)) F
 | .nil => run P C (.ops r :: k) objs (setd tm d (.i .i64 0)) F
 | .orow b gen => kLr2 P C objs[b]? gen d r k objs tm F
 | _ => False
theorem kLenr_0 (n : Nat) (xs : List AV)  : kLenr P C (.row n xs)  d r k objs tm F = (run P C (.ops r :: k) objs (setd tm d (.i .i64 n)) F) := Eq.trans rfl rfl
theorem kLenr_1   : kLenr P C (.nil)  d r k objs tm F = (run P C (.ops r :: k) objs (setd tm d (.i .i64 0)) F) := Eq.trans rfl rfl
theorem kLenr_2 (b gen : Nat)  : kLenr P C (.orow b gen)  d r k objs tm F = (kLr2 P C objs[b]? gen d r k objs tm F) := Eq.trans rfl rfl
theorem rn_lenr (x : SV) : run P C (.ops (⟨d, .lenr x, none⟩ :: r) :: k) objs tm F = kLenr P C (x.ev tm)  d r k objs tm F := by
 rw [rn_op]
 simp only [wpS, kLenr]
 cases x.ev tm <;> try rfl
 try (case orow b gen =>
  dsimp only
  generalize objs[b]? = q
  cases q with
  | none => rfl
  | some ob => cases ob <;> rfl)
def kBeq (P : Program) [Tabs P] (C : Cx) (ne : Bool) (x y : AV) (d : Option Nat) (r : List SO) (k : List IT) (objs : List OB) (tm : List AV) (F : Post) : Prop :=
 match x, y with
 | .b l, .b m => run P C (.ops r :: k) objs (setd tm d (.b (if ne then !(l == m) else (l == m)))) F
 | _, _ => False
def kEq (P : Program) [Tabs P] (C : Cx) (ne : Bool) (x : Option Bool) (d : Option Nat) (r : List SO) (k : List IT) (objs : List OB) (tm : List AV) (F : Post) : Prop :=
 match x with
 | some q => run P C (.ops r :: k) objs (setd tm d (.b (if ne then !q else q))) F
 | none => False
def kEqs (P : Program) [Tabs P] (C : Cx) (ne : Bool) (e : ET) (x y : AV) (d : Option Nat) (r : List SO) (k : List IT) (objs : List OB) (tm : List AV) (F : Post) : Prop :=
 match x, y with
 | .agg xs, .agg ys => kEq P C ne (eqA e (.agg xs) (.agg ys)) d r k objs tm F
 | _, _ => False
theorem kBeq_true (l m : Bool) : kBeq P C true (.b l) (.b m) d r k objs tm F = run P C (.ops r :: k) objs (setd tm d (.b (!(l == m)))) F := Eq.trans rfl rfl
theorem kEq_true (q : Bool) : kEq P C true (some q) d r k objs tm F = run P C (.ops r :: k) objs (setd tm d (.b (!q))) F := Eq.trans rfl rfl
theorem kBeq_false (l m : Bool) : kBeq P C false (.b l) (.b m) d r k objs tm F = run P C (.ops r :: k) objs (setd tm d (.b (l == m))) F := Eq.trans rfl rfl
theorem kEq_false (q : Bool) : kEq P C false (some q) d r k objs tm F = run P C (.ops r :: k) objs (setd tm d (.b q)) F := Eq.trans rfl rfl
theorem kEqs_a (ne : Bool) (e : ET) (xs ys : List AV) : kEqs P C ne e (.agg xs) (.agg ys) d r k objs tm F = kEq P C ne (eqA e (.agg xs) (.agg ys)) d r k objs tm F := Eq.trans rfl rfl
theorem rn_beq (ne : Bool) (x y : SV) : run P C (.ops (⟨d, .beq ne x y, none⟩ :: r) :: k) objs tm F = kBeq P C ne (x.ev tm) (y.ev tm) d r k objs tm F := by
 rw [rn_op]
 simp only [wpS, kBeq]
 cases x.ev tm <;> try rfl
 try (cases y.ev tm <;> rfl)
theorem rn_eqs (ne : Bool) (e : ET) (x y : SV) : run P C (.ops (⟨d, .eqs ne e x y, none⟩ :: r) :: k) objs tm F = kEqs P C ne e (x.ev tm) (y.ev tm) d r k objs tm F := by
 rw [rn_op]
 simp only [wpS, kEqs]
 cases x.ev tm <;> try rfl
 try (cases y.ev tm <;> try rfl)
 try (simp only [kEq]; cases eqA e _ _ <;> rfl)
def kIad (P : Program) [Tabs P] (C : Cx) (x y : AV) (sz : Nat) (d : Option Nat) (r : List SO) (k : List IT) (objs : List OB) (tm : List AV) (F : Post) : Prop :=
 match x, y with
 | .row n xs, .i kk i => (0 ≤ i ∧ i < n ∧ n * sz ≤ xs.length) ∧ run P C (.ops r :: k) objs (setd tm d (.prow xs (i.toNat * sz))) F
 | _, _ => False
theorem kIad_0 (n : Nat) (xs : List AV) (kk : IntKind) (i : Int) (sz : Nat) : kIad P C (.row n xs) (.i kk i) sz d r k objs tm F = ((0 ≤ i ∧ i < n ∧ n * sz ≤ xs.length) ∧ run P C (.ops r :: k) objs (setd tm d (.prow xs (i.toNat * sz))) F) := Eq.trans rfl rfl
theorem rn_iad (sz : Nat) (x y : SV) : run P C (.ops (⟨d, .iad sz x y, none⟩ :: r) :: k) objs tm F = kIad P C (x.ev tm) (y.ev tm) sz d r k objs tm F := by
 rw [rn_op]
 simp only [wpS, kIad]
 cases x.ev tm <;> try rfl
 try (cases y.ev tm <;> rfl)
def kIada (P : Program) [Tabs P] (C : Cx) (x y : AV) (sz len : Nat) (d : Option Nat) (r : List SO) (k : List IT) (objs : List OB) (tm : List AV) (F : Post) : Prop :=
 match x, y with
 | .p b off, .i kk i => (0 ≤ i ∧ i < len) ∧ run P C (.ops r :: k) objs (setd tm d (.p b (off + i.toNat * sz))) F
 | _, _ => False
theorem kIada_0 (b off : Nat) (kk : IntKind) (i : Int) (sz len : Nat) : kIada P C (.p b off) (.i kk i) sz len d r k objs tm F = ((0 ≤ i ∧ i < len) ∧ run P C (.ops r :: k) objs (setd tm d (.p b (off + i.toNat * sz))) F) := Eq.trans rfl rfl
theorem rn_iada (sz len : Nat) (x y : SV) : run P C (.ops (⟨d, .iada sz len x y, none⟩ :: r) :: k) objs tm F = kIada P C (x.ev tm) (y.ev tm) sz len d r k objs tm F := by
 rw [rn_op]
 simp only [wpS, kIada]
 cases x.ev tm <;> try rfl
 try (cases y.ev tm <;> rfl)
def kIdx (P : Program) [Tabs P] (C : Cx) (x y : AV)  (d : Option Nat) (r : List SO) (k : List IT) (objs : List OB) (tm : List AV) (F : Post) : Prop :=
 match x, y with
 | .s l, .i kk i => (0 ≤ i ∧ i < l.length) ∧ run P C (.ops r :: k) objs (setd tm d (.i .u8 ((l.getD i.toNat 0).toNat : Int))) F
 | _, _ => False
theorem kIdx_0 (l : List UInt8) (kk : IntKind) (i : Int)  : kIdx P C (.s l) (.i kk i)  d r k objs tm F = ((0 ≤ i ∧ i < l.length) ∧ run P C (.ops r :: k) objs (setd tm d (.i .u8 ((l.getD i.toNat 0).toNat : Int))) F) := Eq.trans rfl rfl
theorem rn_idx (x y : SV) : run P C (.ops (⟨d, .idx x y, none⟩ :: r) :: k) objs tm F = kIdx P C (x.ev tm) (y.ev tm)  d r k objs tm F := by
 rw [rn_op]
 simp only [wpS, kIdx]
 cases x.ev tm <;> try rfl
 try (cases y.ev tm <;> rfl)
def kMks (P : Program) [Tabs P] (C : Cx) (x y : AV) (E sz by' : Nat) (d : Option Nat) (r : List SO) (k : List IT) (objs : List OB) (tm : List AV) (F : Post) : Prop :=
 match x, y with
 | .i k1 l, .i k2 c => (l = 0 ∧ 0 ≤ c ∧ (by' : Int) * c ≤ 281474976710656 ∧ c ≤ 140737488351232 + 4096) ∧ run P C (.ops r :: k) (objs ++ [.orow E sz 0 0 []]) (setd tm d (.orow objs.length 0)) F
 | _, _ => False
theorem kMks_0 (k1 : IntKind) (l : Int) (k2 : IntKind) (c : Int) (E sz by' : Nat) : kMks P C (.i k1 l) (.i k2 c) E sz by' d r k objs tm F = ((l = 0 ∧ 0 ≤ c ∧ (by' : Int) * c ≤ 281474976710656 ∧ c ≤ 140737488351232 + 4096) ∧ run P C (.ops r :: k) (objs ++ [.orow E sz 0 0 []]) (setd tm d (.orow objs.length 0)) F) := Eq.trans rfl rfl
theorem rn_mks (E sz by' : Nat) (x y : SV) : run P C (.ops (⟨d, .mks E sz by' x y, none⟩ :: r) :: k) objs tm F = kMks P C (x.ev tm) (y.ev tm) E sz by' d r k objs tm F := by
 rw [rn_op]
 simp only [wpS, kMks, show (140737488351232 + 4096 : Int) = 140737488355328 from rfl]
 cases x.ev tm <;> try rfl
 try (cases y.ev tm <;> rfl)
def kBin (P : Program) [Tabs P] (C : Cx) (op : BinOp) (x y : AV) (d : Option Nat) (r : List SO) (k : List IT) (objs : List OB) (tm : List AV) (F : Post) : Prop := binK op x y fun v => run P C (.ops r :: k) objs (setd tm d v) F
theorem rn_bin (q : BinOp) (x y : SV) : run P C (.ops (⟨d, .bin q x y, none⟩ :: r) :: k) objs tm F = kBin P C q (x.ev tm) (y.ev tm) d r k objs tm F := Eq.trans rfl rfl
theorem kBin_add (q : IntKind) (m n : Int) : kBin P C .add (.i q m) (.i q n) d r k objs tm F = kAr P C q (m + n) d r k objs tm F := propext ⟨fun h => h.2, fun h => ⟨rfl, h⟩⟩
theorem kBin_sub (q : IntKind) (m n : Int) : kBin P C .sub (.i q m) (.i q n) d r k objs tm F = kAr P C q (m - n) d r k objs tm F := propext ⟨fun h => h.2, fun h => ⟨rfl, h⟩⟩
theorem kBin_mul (q : IntKind) (m n : Int) : kBin P C .mul (.i q m) (.i q n) d r k objs tm F = kAr P C q (m * n) d r k objs tm F := propext ⟨fun h => h.2, fun h => ⟨rfl, h⟩⟩
theorem kBin_quo (q : IntKind) (m n : Int) : kBin P C .quo (.i q m) (.i q n) d r k objs tm F = (n ≠ 0 ∧ kAr P C q (m.tdiv n) d r k objs tm F) := propext ⟨fun h => h.2, fun h => ⟨rfl, h⟩⟩
theorem kBin_rem (q : IntKind) (m n : Int) : kBin P C .rem (.i q m) (.i q n) d r k objs tm F = (n ≠ 0 ∧ run P C (.ops r :: k) objs (setd tm d (.i q (m.tmod n))) F) := propext ⟨fun h => h.2, fun h => ⟨rfl, h⟩⟩
theorem kBin_eql (q : IntKind) (m n : Int) : kBin P C .eql (.i q m) (.i q n) d r k objs tm F = run P C (.ops r :: k) objs (setd tm d (.b (decide (m = n)))) F := propext ⟨fun h => h.2, fun h => ⟨rfl, h⟩⟩
theorem kBin_neq (q : IntKind) (m n : Int) : kBin P C .neq (.i q m) (.i q n) d r k objs tm F = run P C (.ops r :: k) objs (setd tm d (.b (decide (¬ m = n)))) F := propext ⟨fun h => h.2, fun h => ⟨rfl, h⟩⟩
theorem kBin_lss (q : IntKind) (m n : Int) : kBin P C .lss (.i q m) (.i q n) d r k objs tm F = run P C (.ops r :: k) objs (setd tm d (.b (decide (m < n)))) F := propext ⟨fun h => h.2, fun h => ⟨rfl, h⟩⟩
theorem kBin_leq (q : IntKind) (m n : Int) : kBin P C .leq (.i q m) (.i q n) d r k objs tm F = run P C (.ops r :: k) objs (setd tm d (.b (decide (m ≤ n)))) F := propext ⟨fun h => h.2, fun h => ⟨rfl, h⟩⟩
theorem kBin_gtr (q : IntKind) (m n : Int) : kBin P C .gtr (.i q m) (.i q n) d r k objs tm F = run P C (.ops r :: k) objs (setd tm d (.b (decide (n < m)))) F := propext ⟨fun h => h.2, fun h => ⟨rfl, h⟩⟩
theorem kBin_geq (q : IntKind) (m n : Int) : kBin P C .geq (.i q m) (.i q n) d r k objs tm F = run P C (.ops r :: k) objs (setd tm d (.b (decide (n ≤ m)))) F := propext ⟨fun h => h.2, fun h => ⟨rfl, h⟩⟩
theorem kBin_cat (l m : List UInt8) : kBin P C .add (.s l) (.s m) d r k objs tm F = (l.length + m.length ≤ 9223372036854775807 ∧ run P C (.ops r :: k) objs (setd tm d (.s (l ++ m))) F) := Eq.trans rfl rfl
theorem kBin_seq (l m : List UInt8) : kBin P C .eql (.s l) (.s m) d r k objs tm F = run P C (.ops r :: k) objs (setd tm d (.b (decide (l = m)))) F := Eq.trans rfl rfl
theorem kBin_sne (l m : List UInt8) : kBin P C .neq (.s l) (.s m) d r k objs tm F = run P C (.ops r :: k) objs (setd tm d (.b (decide (¬ l = m)))) F := Eq.trans rfl rfl
def kSl2 (P : Program) [Tabs P] (C : Cx) (l : List UInt8) (i j : Option Int) (d : Option Nat) (r : List SO) (k : List IT) (objs : List OB) (tm : List AV) (F : Post) : Prop :=
 match i, j with
 | some i, some j => (0 ≤ i ∧ i ≤ j ∧ j ≤ l.length) ∧ run P C (.ops r :: k) objs (setd tm d (.s ((l.take j.toNat).drop i.toNat))) F
 | _, _ => False
def kSl (P : Program) [Tabs P] (C : Cx) (v : AV) (lo hi : Option SV) (d : Option Nat) (r : List SO) (k : List IT) (objs : List OB) (tm : List AV) (F : Post) : Prop :=
 match v with
 | .s l => kSl2 P C l (svbS tm 0 lo) (svbS tm l.length hi) d r k objs tm F
 | _ => False
def svi : AV → Option Int
 | .i _ n => some n
 | _ => none
theorem svi_i (q : IntKind) (n : Int) : svi (.i q n) = some n := Eq.trans rfl rfl
theorem svbS_none (z : Int) : svbS tm z none = some z := Eq.trans rfl rfl
theorem svbS_some (z : Int) (x : SV) : svbS tm z (some x) = svi (x.ev tm) := by
 simp only [svbS]; cases x.ev tm <;> rfl
theorem kSl2_s (l : List UInt8) (i j : Int) : kSl2 P C l (some i) (some j) d r k objs tm F = ((0 ≤ i ∧ i ≤ j ∧ j ≤ l.length) ∧ run P C (.ops r :: k) objs (setd tm d (.s ((l.take j.toNat).drop i.toNat))) F) := Eq.trans rfl rfl
theorem kSl_s (l : List UInt8) (lo hi : Option SV) : kSl P C (.s l) lo hi d r k objs tm F = kSl2 P C l (svbS tm 0 lo) (svbS tm l.length hi) d r k objs tm F := Eq.trans rfl rfl
theorem rn_slcs (x : SV) (lo hi : Option SV) : run P C (.ops (⟨d, .slcs x lo hi, none⟩ :: r) :: k) objs tm F = kSl P C (x.ev tm) lo hi d r k objs tm F := by
 rw [rn_op]
 simp only [wpS, kSl]
 cases x.ev tm <;> try rfl
 try (case s l => dsimp only [kSl2]; cases svbS tm 0 lo <;> cases svbS tm l.length hi <;> rfl)
def kAp3 (P : Program) [Tabs P] (C : Cx) (c : Option OB) (b gen E sz by' m : Nat) (ys : List AV) (d : Option Nat) (r : List SO) (k : List IT) (objs : List OB) (tm : List AV) (F : Post) : Prop :=
 match c with
 | some (.orow E' sz' gen' n xs) => ((E' = E ∧ sz' = sz ∧ gen' = gen) ∧ ys.length = m * sz ∧ (n + m) * by' ≤ 140737488355328 ∧ n + m ≤ 140737488355328) ∧ run P C (.ops r :: k) (objs.set b (.orow E sz (gen + 1) (n + m) (xs ++ ys))) (setd tm d (.orow b (gen + 1))) F
 | _ => False
def kAp2 (P : Program) [Tabs P] (C : Cx) (v : AV) (E sz by' m : Nat) (ys : List AV) (d : Option Nat) (r : List SO) (k : List IT) (objs : List OB) (tm : List AV) (F : Post) : Prop :=
 match v with
 | .orow b gen => kAp3 P C objs[b]? b gen E sz by' m ys d r k objs tm F
 | .nil => (ys.length = m * sz ∧ m * by' ≤ 140737488355328 ∧ m ≤ 140737488355328) ∧ run P C (.ops r :: k) (objs ++ [.orow E sz 0 m ys]) (setd tm d (.orow objs.length 0)) F
 | _ => False
def kAp (P : Program) [Tabs P] (C : Cx) (v : AV) (s : Option (Nat × List AV)) (E sz by' : Nat) (d : Option Nat) (r : List SO) (k : List IT) (objs : List OB) (tm : List AV) (F : Post) : Prop :=
 match s with
 | some (m, ys) => kAp2 P C v E sz by' m ys d r k objs tm F
 | none => False
def kAs2 (P : Program) [Tabs P] (C : Cx) (c : Option OB) (b gen E : Nat) (l : List UInt8) (d : Option Nat) (r : List SO) (k : List IT) (objs : List OB) (tm : List AV) (F : Post) : Prop :=
 match c with
 | some (.orow E' sz' gen' n xs) => ((E' = E ∧ sz' = 1 ∧ gen' = gen) ∧ n + l.length ≤ 140737488355328) ∧ run P C (.ops r :: k) (objs.set b (.orow E 1 (gen + 1) (n + l.length) (xs ++ byA l))) (setd tm d (.orow b (gen + 1))) F
 | _ => False
def kAs (P : Program) [Tabs P] (C : Cx) (v y : AV) (E : Nat) (d : Option Nat) (r : List SO) (k : List IT) (objs : List OB) (tm : List AV) (F : Post) : Prop :=
 match y with
 | .s l => match v with
  | .orow b gen => kAs2 P C objs[b]? b gen E l d r k objs tm F
  | .nil => l.length ≤ 140737488355328 ∧ run P C (.ops r :: k) (objs ++ [.orow E 1 0 l.length (byA l)]) (setd tm d (.orow objs.length 0)) F
  | _ => False
 | _ => False
theorem kAp_s (v : AV) (m : Nat) (ys : List AV) (E sz by' : Nat) : kAp P C v (some (m, ys)) E sz by' d r k objs tm F = kAp2 P C v E sz by' m ys d r k objs tm F := Eq.trans rfl rfl
theorem kAp2_o (b gen E sz by' m : Nat) (ys : List AV) : kAp2 P C (.orow b gen) E sz by' m ys d r k objs tm F = kAp3 P C objs[b]? b gen E sz by' m ys d r k objs tm F := Eq.trans rfl rfl
theorem kAp2_n (E sz by' m : Nat) (ys : List AV) : kAp2 P C .nil E sz by' m ys d r k objs tm F = ((ys.length = m * sz ∧ m * by' ≤ 140737488355328 ∧ m ≤ 140737488355328) ∧ run P C (.ops r :: k) (objs ++ [.orow E sz 0 m ys]) (setd tm d (.orow objs.length 0)) F) := Eq.trans rfl rfl
theorem kAp3_o (b gen E sz by' m n : Nat) (ys xs : List AV) : kAp3 P C (some (.orow E sz gen n xs)) b gen E sz by' m ys d r k objs tm F = ((ys.length = m * sz ∧ (n + m) * by' ≤ 140737488355328 ∧ n + m ≤ 140737488355328) ∧ run P C (.ops r :: k) (objs.set b (.orow E sz (gen + 1) (n + m) (xs ++ ys))) (setd tm d (.orow b (gen + 1))) F) := propext ⟨fun h => ⟨h.1.2, h.2⟩, fun h => ⟨⟨⟨rfl, rfl, rfl⟩, h.1⟩, h.2⟩⟩
theorem kAs_o (b gen E : Nat) (l : List UInt8) : kAs P C (.orow b gen) (.s l) E d r k objs tm F = kAs2 P C objs[b]? b gen E l d r k objs tm F := Eq.trans rfl rfl
theorem kAs_n (E : Nat) (l : List UInt8) : kAs P C .nil (.s l) E d r k objs tm F = (l.length ≤ 140737488355328 ∧ run P C (.ops r :: k) (objs ++ [.orow E 1 0 l.length (byA l)]) (setd tm d (.orow objs.length 0)) F) := Eq.trans rfl rfl
theorem kAs2_o (b gen E n : Nat) (l : List UInt8) (xs : List AV) : kAs2 P C (some (.orow E 1 gen n xs)) b gen E l d r k objs tm F = (n + l.length ≤ 140737488355328 ∧ run P C (.ops r :: k) (objs.set b (.orow E 1 (gen + 1) (n + l.length) (xs ++ byA l))) (setd tm d (.orow b (gen + 1))) F) := propext ⟨fun h => ⟨h.1.2, h.2⟩, fun h => ⟨⟨⟨rfl, rfl, rfl⟩, h.1⟩, h.2⟩⟩
theorem rn_app (E sz by' : Nat) (x y : SV) : run P C (.ops (⟨d, .app E sz by' x y, none⟩ :: r) :: k) objs tm F = kAp P C (x.ev tm) (srcOf objs (y.ev tm)) E sz by' d r k objs tm F := by
 rw [rn_op]
 simp only [wpS, kAp]
 cases hs : srcOf objs (y.ev tm) with
 | none => rfl
 | some p =>
  obtain ⟨m, ys⟩ := p
  simp only [kAp2]
  cases x.ev tm <;> try rfl
  try (case orow b gen =>
   dsimp only [kAp3]
   generalize objs[b]? = q
   cases q with
   | none => rfl
   | some ob => cases ob <;> rfl)
theorem rn_apps (E : Nat) (x y : SV) : run P C (.ops (⟨d, .apps E x y, none⟩ :: r) :: k) objs tm F = kAs P C (x.ev tm) (y.ev tm) E d r k objs tm F := by
 rw [rn_op]
 simp only [wpS, kAs]
 cases y.ev tm <;> try rfl
 try (case s l =>
  cases x.ev tm <;> try rfl
  try (case orow b gen =>
   dsimp only [kAs2]
   generalize objs[b]? = q
   cases q with
   | none => rfl
   | some ob => cases ob <;> rfl))
def kCb2 (P : Program) [Tabs P] (C : Cx) (c : Option OB) (gen : Nat) (d : Option Nat) (r : List SO) (k : List IT) (objs : List OB) (tm : List AV) (F : Post) : Prop :=
 match c with
 | some (.orow _ sz gen' _ xs) => (gen' = gen ∧ sz = 1) ∧ ∃ l, xs = byA l ∧ run P C (.ops r :: k) objs (setd tm d (.s l)) F
 | _ => False
def kCb (P : Program) [Tabs P] (C : Cx) (v : AV) (d : Option Nat) (r : List SO) (k : List IT) (objs : List OB) (tm : List AV) (F : Post) : Prop :=
 match v with
 | .orow b gen => kCb2 P C objs[b]? gen d r k objs tm F
 | .row n xs => ∃ l, (xs = byA l ∧ n = l.length) ∧ run P C (.ops r :: k) objs (setd tm d (.s l)) F
 | .nil => run P C (.ops r :: k) objs (setd tm d (.s [])) F
 | _ => False
theorem kCb_o (b gen : Nat) : kCb P C (.orow b gen) d r k objs tm F = kCb2 P C objs[b]? gen d r k objs tm F := Eq.trans rfl rfl
theorem kCb_n  : kCb P C .nil d r k objs tm F = run P C (.ops r :: k) objs (setd tm d (.s [])) F := Eq.trans rfl rfl
theorem rn_cvbs (x : SV) : run P C (.ops (⟨d, .cvbs x, none⟩ :: r) :: k) objs tm F = kCb P C (x.ev tm) d r k objs tm F := by
 rw [rn_op]
 simp only [wpS, kCb]
 cases x.ev tm <;> try rfl
 try (case orow b gen =>
  dsimp only
  generalize objs[b]? = q
  cases q with
  | none => rfl
  | some ob => cases ob <;> rfl)
theorem rn_mkf (f : Nat) (fs cs : List SV) : run P C (.ops (⟨d, .mkf f fs cs, none⟩ :: r) :: k) objs tm F = run P C (.ops r :: k) objs (setd tm d (.fn f (evs tm fs) (evs tm cs))) F := by rw [evs_eq, evs_eq]; rfl
theorem kO_if (c : Prop) [Decidable c] (v : AV) : kO P C (if c then some v else none) d r k objs tm F = (c ∧ run P C (.ops r :: k) objs (setd tm d v) F) := by
 by_cases h : c
 ·simp [h, kO]
 ·simp [h, kO]
theorem pq_and (q : IntKind) (a b : Int) : pq (.bits .and) [.i q a, .i q b] = some (.i q (q.wrap (BitVec.ofInt q.bits a &&& BitVec.ofInt q.bits b).toNat)) := by simp [pq, bitsZ]
theorem pq_or (q : IntKind) (a b : Int) : pq (.bits .or) [.i q a, .i q b] = some (.i q (q.wrap (BitVec.ofInt q.bits a ||| BitVec.ofInt q.bits b).toNat)) := by simp [pq, bitsZ]
theorem pq_xor (q : IntKind) (a b : Int) : pq (.bits .xor) [.i q a, .i q b] = some (.i q (q.wrap (BitVec.ofInt q.bits a ^^^ BitVec.ofInt q.bits b).toNat)) := by simp [pq, bitsZ]
theorem pq_shl (q q' : IntKind) (a b : Int) : pq .shl [.i q a, .i q' b] = if 0 ≤ b then some (.i q (q.wrap (a * 2 ^ (min b.toNat q.bits)))) else none := Eq.trans rfl rfl
theorem pq_shr (q q' : IntKind) (a b : Int) : pq .shr [.i q a, .i q' b] = if 0 ≤ b then some (.i q (a.fdiv (2 ^ (min b.toNat q.bits)))) else none := Eq.trans rfl rfl
theorem pq_mn (q : IntKind) (a b : Int) : pq .mn [.i q a, .i q b] = some (.i q (if b < a then b else a)) := by simp [pq]
theorem pq_mx (q : IntKind) (a b : Int) : pq .mx [.i q a, .i q b] = some (.i q (if a < b then b else a)) := by simp [pq]
theorem pq_rsl (sz n : Nat) (xs : List AV) (q : IntKind) (a : Int) : pq (.rsl sz) [.row n xs, .i q a] = if 0 ≤ a ∧ a ≤ n then some (.row (n - a.toNat) ((xs.take (n * sz)).drop (a.toNat * sz))) else none := Eq.trans rfl rfl
theorem pq_rsln (sz : Nat) (q : IntKind) (a : Int) : pq (.rsl sz) [.nil, .i q a] = if a = 0 then some .nil else none := Eq.trans rfl rfl
theorem pq_rslh (sz n : Nat) (xs : List AV) (q : IntKind) (a : Int) : pq (.rslh sz) [.row n xs, .i q a] = if 0 ≤ a ∧ a ≤ n then some (.row a.toNat (xs.take (a.toNat * sz))) else none := Eq.trans rfl rfl
theorem pq_rslhn (sz : Nat) (q : IntKind) (a : Int) : pq (.rslh sz) [.nil, .i q a] = if a = 0 then some .nil else none := Eq.trans rfl rfl
theorem pq_rslb (sz n : Nat) (xs : List AV) (q q' : IntKind) (a b : Int) : pq (.rslb sz) [.row n xs, .i q a, .i q' b] = if 0 ≤ a ∧ a ≤ b ∧ b ≤ n then some (.row (b.toNat - a.toNat) ((xs.take (b.toNat * sz)).drop (a.toNat * sz))) else none := Eq.trans rfl rfl
theorem pq_lss (l m : List UInt8) : pq (.scmp .lss) [.s l, .s m] = some (.b (strLt l m)) := Eq.trans rfl rfl
theorem pq_leq (l m : List UInt8) : pq (.scmp .leq) [.s l, .s m] = some (.b (strLt l m || l == m)) := Eq.trans rfl rfl
theorem pq_gtr (l m : List UInt8) : pq (.scmp .gtr) [.s l, .s m] = some (.b (!strLt l m && !(l == m))) := Eq.trans rfl rfl
theorem pq_geq (l m : List UInt8) : pq (.scmp .geq) [.s l, .s m] = some (.b (!strLt l m)) := Eq.trans rfl rfl
theorem rn_pu (q : PQ) (xs : List SV) : run P C (.ops (⟨d, .pu q xs, none⟩ :: r) :: k) objs tm F = kO P C (pq q (evs tm xs)) d r k objs tm F := by
 rw [evs_eq]
 rw [rn_op]
 simp only [wpS]
 cases pq q (xs.map fun x => x.ev tm) <;> rfl
def kG (P : Program) [Tabs P] (C : Cx) (v : AV) (op : SOp) (t : Nat) (w : Bool) (d : Option Nat) (r : List SO) (k : List IT) (objs : List OB) (tm : List AV) (F : Post) : Prop :=
 match v with
 | .b x => (x = w → run P C (.ops (⟨d, op, none⟩ :: r) :: k) objs (tm.set t (.b w)) F) ∧ (x = !w → run P C (.ops r :: k) objs (setd (tm.set t (.b (!w))) d (.o undef)) F)
 | .o (.tuple _) => run P C (.ops r :: k) objs (setd tm d (.o undef)) F
 | _ => False
def kGD (P : Program) [Tabs P] (C : Cx) (v : AV) (op : SOp) (t : Nat) (w : Bool) (d : Option Nat) (r : List SO) (k : List IT) (objs : List OB) (tm : List AV) (F : Post) : Prop :=
 match v with
 | .b x => (x = w → run P C (.dops (⟨d, op, none⟩ :: r) :: k) objs (tm.set t (.b w)) F) ∧ (x = !w → run P C (.dops r :: k) objs (setd (tm.set t (.b (!w))) d (.o undef)) F)
 | .o (.tuple _) => run P C (.dops r :: k) objs (setd tm d (.o undef)) F
 | _ => False
theorem kG_tt (op : SOp) (t : Nat) : kG P C (.b true) op t true d r k objs tm F = run P C (.ops (⟨d, op, none⟩ :: r) :: k) objs (tm.set t (.b true)) F := propext ⟨fun h => h.1 rfl, fun h => ⟨fun _ => h, fun e => absurd e (by decide)⟩⟩
theorem kG_tf (op : SOp) (t : Nat) : kG P C (.b true) op t false d r k objs tm F = run P C (.ops r :: k) objs (setd (tm.set t (.b true)) d (.o undef)) F := propext ⟨fun h => h.2 rfl, fun h => ⟨fun e => absurd e (by decide), fun _ => h⟩⟩
theorem kG_ft (op : SOp) (t : Nat) : kG P C (.b false) op t true d r k objs tm F = run P C (.ops r :: k) objs (setd (tm.set t (.b false)) d (.o undef)) F := propext ⟨fun h => h.2 rfl, fun h => ⟨fun e => absurd e (by decide), fun _ => h⟩⟩
theorem kG_ff (op : SOp) (t : Nat) : kG P C (.b false) op t false d r k objs tm F = run P C (.ops (⟨d, op, none⟩ :: r) :: k) objs (tm.set t (.b false)) F := propext ⟨fun h => h.1 rfl, fun h => ⟨fun _ => h, fun e => absurd e (by decide)⟩⟩
theorem kG_u (op : SOp) (t : Nat) (w : Bool) : kG P C (.o undef) op t w d r k objs tm F = run P C (.ops r :: k) objs (setd tm d (.o undef)) F := Eq.trans rfl rfl
theorem kG_v (op : SOp) (t : Nat) (w : Bool) (vs : Array Value) : kG P C (.o (.tuple vs)) op t w d r k objs tm F = run P C (.ops r :: k) objs (setd tm d (.o undef)) F := Eq.trans rfl rfl
theorem kGD_tt (op : SOp) (t : Nat) : kGD P C (.b true) op t true d r k objs tm F = run P C (.dops (⟨d, op, none⟩ :: r) :: k) objs (tm.set t (.b true)) F := propext ⟨fun h => h.1 rfl, fun h => ⟨fun _ => h, fun e => absurd e (by decide)⟩⟩
theorem kGD_tf (op : SOp) (t : Nat) : kGD P C (.b true) op t false d r k objs tm F = run P C (.dops r :: k) objs (setd (tm.set t (.b true)) d (.o undef)) F := propext ⟨fun h => h.2 rfl, fun h => ⟨fun e => absurd e (by decide), fun _ => h⟩⟩
theorem kGD_ft (op : SOp) (t : Nat) : kGD P C (.b false) op t true d r k objs tm F = run P C (.dops r :: k) objs (setd (tm.set t (.b false)) d (.o undef)) F := propext ⟨fun h => h.2 rfl, fun h => ⟨fun e => absurd e (by decide), fun _ => h⟩⟩
theorem kGD_ff (op : SOp) (t : Nat) : kGD P C (.b false) op t false d r k objs tm F = run P C (.dops (⟨d, op, none⟩ :: r) :: k) objs (tm.set t (.b false)) F := propext ⟨fun h => h.1 rfl, fun h => ⟨fun _ => h, fun e => absurd e (by decide)⟩⟩
theorem kGD_u (op : SOp) (t : Nat) (w : Bool) : kGD P C (.o undef) op t w d r k objs tm F = run P C (.dops r :: k) objs (setd tm d (.o undef)) F := Eq.trans rfl rfl
theorem kGD_v (op : SOp) (t : Nat) (w : Bool) (vs : Array Value) : kGD P C (.o (.tuple vs)) op t w d r k objs tm F = run P C (.dops r :: k) objs (setd tm d (.o undef)) F := Eq.trans rfl rfl
theorem rn_guard (op : SOp) (t : Nat) (w : Bool) : run P C (.ops (⟨d, op, some (t, w)⟩ :: r) :: k) objs tm F = kG P C ((tm[t]?).getD .u) op t w d r k objs tm F := by
 show wpR P _ _ _ _ = _
 simp only [wpR, kG]
 cases (tm[t]?).getD .u <;> try rfl
 try (case o v => cases v <;> rfl)
theorem rn_dguard (op : SOp) (t : Nat) (w : Bool) : run P C (.dops (⟨d, op, some (t, w)⟩ :: r) :: k) objs tm F = kGD P C ((tm[t]?).getD .u) op t w d r k objs tm F := by
 show wpD P _ _ _ _ = _
 simp only [wpD, kGD]
 cases (tm[t]?).getD .u <;> try rfl
 try (case o v => cases v <;> rfl)
def kC (P : Program) [Tabs P] (C : Cx) (v : AV) (x y : SCode) (k : List IT) (objs : List OB) (tm : List AV) (F : Post) : Prop :=
 match v with
 | .b t => (t = true → run P C (.code x :: k) objs tm F) ∧ (t = false → run P C (.code y :: k) objs tm F)
 | _ => False
theorem kC_t (x y : SCode) : kC P C (.b true) x y k objs tm F = run P C (.code x :: k) objs tm F := propext ⟨fun h => h.1 rfl, fun h => ⟨fun _ => h, fun e => absurd e (by decide)⟩⟩
theorem kC_f (x y : SCode) : kC P C (.b false) x y k objs tm F = run P C (.code y :: k) objs tm F := propext ⟨fun h => h.2 rfl, fun h => ⟨fun e => absurd e (by decide), fun _ => h⟩⟩
theorem rn_cond (c : SV) (x y : SCode) : run P C (.code (.cond c x y) :: k) objs tm F = kC P C (c.ev tm) x y k objs tm F := by
 show wpC P C _ _ _ _ = _
 simp only [wpC, kC]
 cases c.ev tm <;> rfl
def kCall (P : Program) [Tabs P] (C : Cx) (f : Nat) (args : List AV) (d : Option Nat) (r : List SO) (k : List IT) (objs : List OB) (tm : List AV) (F : Post) : Prop := CallOk P f args objs fun o v => run P C (.ops r :: k) o (setd tm d v) F
theorem rn_call (f : Nat) (args : List SV) : run P C (.ops (⟨d, .call f args, none⟩ :: r) :: k) objs tm F = kCall P C f (evs tm args) d r k objs tm F := by
 show wpR P _ _ _ _ = _
 simp only [wpR, wpS, kCall, evs_eq]; rfl
theorem kcall {f : Nat} {args : List AV} (h : CallOk P f args objs fun o v => run P C (.ops r :: k) o (setd tm d v) F) : kCall P C f args d r k objs tm F := h
def kDCall (P : Program) [Tabs P] (C : Cx) (f : Nat) (args : List AV) (d : Option Nat) (r : List SO) (k : List IT) (objs : List OB) (tm : List AV) (F : Post) : Prop := ∃ v, (CallOk P f args objs fun o x => o = objs ∧ x = v) ∧ run P C (.dops r :: k) objs (setd tm d v) F
theorem rn_dcall (f : Nat) (args : List SV) : run P C (.dops (⟨d, .call f args, none⟩ :: r) :: k) objs tm F = kDCall P C f (evs tm args) d r k objs tm F := by
 show wpD P _ _ _ _ = _
 simp only [wpD, wpS, kDCall, evs_eq, SOp.isCall, if_true]; rfl
def kPCall (P : Program) [Tabs P] (C : Cx) (f : Nat) (args : List AV) (d : Option Nat) (r : List SO) (k : List IT) (objs : List OB) (tm : List AV) (F : Post) : Prop := ∃ v, (plains args = true ∧ CallOk P f args [] fun _ x => x.plain = true ∧ objs = objs ∧ x = v) ∧ run P C (.dops r :: k) objs (setd tm d v) F
theorem rn_pcall (f : Nat) (args : List SV) : run P C (.dops (⟨d, .pcall f args, none⟩ :: r) :: k) objs tm F = kPCall P C f (evs tm args) d r k objs tm F := by
 show wpD P (⟨d, .pcall f args, none⟩ :: r) objs tm _ = _
 simp only [wpD, wpS, kPCall, evs_eq, SOp.isCall, if_true]; rfl
theorem kdcall {f : Nat} {args : List AV} {v : AV} (h : CallOk P f args objs fun o x => o = objs ∧ x = v) (hr : run P C (.dops r :: k) objs (setd tm d v) F) : kDCall P C f args d r k objs tm F := ⟨v, h, hr⟩
def IsFn (P : Program) (f : Nat) : Prop := ∃ fn, P.funcs[f]? = some fn ∧ fn.body.isSome = true ∧ fn.name ≠ "runtime.NumGoroutine"
def kCallv (P : Program) [Tabs P] (C : Cx) (x : AV) (args : List AV) (d : Option Nat) (r : List SO) (k : List IT) (objs : List OB) (tm : List AV) (F : Post) : Prop :=
 match x with
 | .fn f fs cs => IsFn P f ∧ CallOk P f (fs ++ args ++ cs) objs fun o v => run P C (.ops r :: k) o (setd tm d v) F
 | _ => False
theorem rn_callv (x : SV) (args : List SV) : run P C (.ops (⟨d, .callv x args, none⟩ :: r) :: k) objs tm F = kCallv P C (x.ev tm) (evs tm args) d r k objs tm F := by
 show wpR P _ _ _ _ = _
 simp only [wpR, wpS, kCallv, evs_eq]
 cases x.ev tm <;> rfl
theorem kcallv {f : Nat} {fs cs args : List AV} (hf : IsFn P f) (h : CallOk P f (fs ++ args ++ cs) objs fun o v => run P C (.ops r :: k) o (setd tm d v) F) : kCallv P C (.fn f fs cs) args d r k objs tm F := ⟨hf, h⟩
theorem drn_mv (x : SV) : run P C (.dops (⟨d, .mv x, none⟩ :: r) :: k) objs tm F = run P C (.ops [⟨d, .mv x, none⟩] :: .dops r :: k) objs tm F := Eq.trans rfl rfl
theorem drn_pick (c x y : SV) : run P C (.dops (⟨d, .pick c x y, none⟩ :: r) :: k) objs tm F = run P C (.ops [⟨d, .pick c x y, none⟩] :: .dops r :: k) objs tm F := Eq.trans rfl rfl
theorem drn_build (z : List AV) (ps : List (Nat × Nat × SV)) : run P C (.dops (⟨d, .build z ps, none⟩ :: r) :: k) objs tm F = run P C (.ops [⟨d, .build z ps, none⟩] :: .dops r :: k) objs tm F := Eq.trans rfl rfl
theorem drn_bslice (n : Nat) (z : List AV) (ps : List (Nat × Nat × SV)) : run P C (.dops (⟨d, .bslice n z ps, none⟩ :: r) :: k) objs tm F = run P C (.ops [⟨d, .bslice n z ps, none⟩] :: .dops r :: k) objs tm F := Eq.trans rfl rfl
theorem drn_load1 (x : SV) : run P C (.dops (⟨d, .load1 x, none⟩ :: r) :: k) objs tm F = run P C (.ops [⟨d, .load1 x, none⟩] :: .dops r :: k) objs tm F := Eq.trans rfl rfl
theorem drn_loadn (sz : Nat) (x : SV) : run P C (.dops (⟨d, .loadn sz x, none⟩ :: r) :: k) objs tm F = run P C (.ops [⟨d, .loadn sz x, none⟩] :: .dops r :: k) objs tm F := Eq.trans rfl rfl
theorem drn_nck (x : SV) : run P C (.dops (⟨d, .nck x, none⟩ :: r) :: k) objs tm F = run P C (.ops [⟨d, .nck x, none⟩] :: .dops r :: k) objs tm F := Eq.trans rfl rfl
theorem drn_bin (q : BinOp) (x y : SV) : run P C (.dops (⟨d, .bin q x y, none⟩ :: r) :: k) objs tm F = run P C (.ops [⟨d, .bin q x y, none⟩] :: .dops r :: k) objs tm F := Eq.trans rfl rfl
theorem drn_beq (ne : Bool) (x y : SV) : run P C (.dops (⟨d, .beq ne x y, none⟩ :: r) :: k) objs tm F = run P C (.ops [⟨d, .beq ne x y, none⟩] :: .dops r :: k) objs tm F := Eq.trans rfl rfl
theorem drn_eqs (ne : Bool) (e : ET) (x y : SV) : run P C (.dops (⟨d, .eqs ne e x y, none⟩ :: r) :: k) objs tm F = run P C (.ops [⟨d, .eqs ne e x y, none⟩] :: .dops r :: k) objs tm F := Eq.trans rfl rfl
theorem drn_not (x : SV) : run P C (.dops (⟨d, .not x, none⟩ :: r) :: k) objs tm F = run P C (.ops [⟨d, .not x, none⟩] :: .dops r :: k) objs tm F := Eq.trans rfl rfl
theorem drn_neg (x : SV) : run P C (.dops (⟨d, .neg x, none⟩ :: r) :: k) objs tm F = run P C (.ops [⟨d, .neg x, none⟩] :: .dops r :: k) objs tm F := Eq.trans rfl rfl
theorem drn_iada (sz len : Nat) (x y : SV) : run P C (.dops (⟨d, .iada sz len x y, none⟩ :: r) :: k) objs tm F = run P C (.ops [⟨d, .iada sz len x y, none⟩] :: .dops r :: k) objs tm F := Eq.trans rfl rfl
theorem drn_cvi (q : IntKind) (x : SV) : run P C (.dops (⟨d, .cvi q x, none⟩ :: r) :: k) objs tm F = run P C (.ops [⟨d, .cvi q x, none⟩] :: .dops r :: k) objs tm F := Eq.trans rfl rfl
theorem drn_cvs (x : SV) : run P C (.dops (⟨d, .cvs x, none⟩ :: r) :: k) objs tm F = run P C (.ops [⟨d, .cvs x, none⟩] :: .dops r :: k) objs tm F := Eq.trans rfl rfl
theorem drn_cvbs (x : SV) : run P C (.dops (⟨d, .cvbs x, none⟩ :: r) :: k) objs tm F = run P C (.ops [⟨d, .cvbs x, none⟩] :: .dops r :: k) objs tm F := Eq.trans rfl rfl
theorem drn_slcs (x : SV) (lo hi : Option SV) : run P C (.dops (⟨d, .slcs x lo hi, none⟩ :: r) :: k) objs tm F = run P C (.ops [⟨d, .slcs x lo hi, none⟩] :: .dops r :: k) objs tm F := Eq.trans rfl rfl
theorem drn_fad (off : Nat) (x : SV) : run P C (.dops (⟨d, .fad off x, none⟩ :: r) :: k) objs tm F = run P C (.ops [⟨d, .fad off x, none⟩] :: .dops r :: k) objs tm F := Eq.trans rfl rfl
theorem drn_fld1 (off : Nat) (x : SV) : run P C (.dops (⟨d, .fld1 off x, none⟩ :: r) :: k) objs tm F = run P C (.ops [⟨d, .fld1 off x, none⟩] :: .dops r :: k) objs tm F := Eq.trans rfl rfl
theorem drn_fldn (off sz : Nat) (x : SV) : run P C (.dops (⟨d, .fldn off sz x, none⟩ :: r) :: k) objs tm F = run P C (.ops [⟨d, .fldn off sz x, none⟩] :: .dops r :: k) objs tm F := Eq.trans rfl rfl
theorem drn_iad (sz : Nat) (x y : SV) : run P C (.dops (⟨d, .iad sz x y, none⟩ :: r) :: k) objs tm F = run P C (.ops [⟨d, .iad sz x y, none⟩] :: .dops r :: k) objs tm F := Eq.trans rfl rfl
theorem drn_idx (x y : SV) : run P C (.dops (⟨d, .idx x y, none⟩ :: r) :: k) objs tm F = run P C (.ops [⟨d, .idx x y, none⟩] :: .dops r :: k) objs tm F := Eq.trans rfl rfl
theorem drn_ext (x : SV) (j : Nat) : run P C (.dops (⟨d, .ext x j, none⟩ :: r) :: k) objs tm F = run P C (.ops [⟨d, .ext x j, none⟩] :: .dops r :: k) objs tm F := Eq.trans rfl rfl
theorem drn_lens (x : SV) : run P C (.dops (⟨d, .lens x, none⟩ :: r) :: k) objs tm F = run P C (.ops [⟨d, .lens x, none⟩] :: .dops r :: k) objs tm F := Eq.trans rfl rfl
theorem drn_lenr (x : SV) : run P C (.dops (⟨d, .lenr x, none⟩ :: r) :: k) objs tm F = run P C (.ops [⟨d, .lenr x, none⟩] :: .dops r :: k) objs tm F := Eq.trans rfl rfl
theorem drn_mkf (f : Nat) (fs cs : List SV) : run P C (.dops (⟨d, .mkf f fs cs, none⟩ :: r) :: k) objs tm F = run P C (.ops [⟨d, .mkf f fs cs, none⟩] :: .dops r :: k) objs tm F := Eq.trans rfl rfl
theorem drn_alloc (T : Nat) (z : List AV) : run P C (.dops (⟨d, .alloc T z, none⟩ :: r) :: k) objs tm F = run P C (.ops [⟨d, .alloc T z, none⟩] :: .dops r :: k) objs tm F := Eq.trans rfl rfl
theorem drn_box (T : Nat) (x : SV) : run P C (.dops (⟨d, .box T x, none⟩ :: r) :: k) objs tm F = run P C (.ops [⟨d, .box T x, none⟩] :: .dops r :: k) objs tm F := Eq.trans rfl rfl
theorem drn_store (sz : Nat) (x y : SV) : run P C (.dops (⟨d, .store sz x y, none⟩ :: r) :: k) objs tm F = run P C (.ops [⟨d, .store sz x y, none⟩] :: .dops r :: k) objs tm F := Eq.trans rfl rfl
theorem drn_app (E sz by' : Nat) (x y : SV) : run P C (.dops (⟨d, .app E sz by' x y, none⟩ :: r) :: k) objs tm F = run P C (.ops [⟨d, .app E sz by' x y, none⟩] :: .dops r :: k) objs tm F := Eq.trans rfl rfl
theorem drn_apps (E : Nat) (x y : SV) : run P C (.dops (⟨d, .apps E x y, none⟩ :: r) :: k) objs tm F = run P C (.ops [⟨d, .apps E x y, none⟩] :: .dops r :: k) objs tm F := Eq.trans rfl rfl
theorem drn_mks (E sz by' : Nat) (x y : SV) : run P C (.dops (⟨d, .mks E sz by' x y, none⟩ :: r) :: k) objs tm F = run P C (.ops [⟨d, .mks E sz by' x y, none⟩] :: .dops r :: k) objs tm F := Eq.trans rfl rfl
theorem drn_pu (q : PQ) (xs : List SV) : run P C (.dops (⟨d, .pu q xs, none⟩ :: r) :: k) objs tm F = run P C (.ops [⟨d, .pu q xs, none⟩] :: .dops r :: k) objs tm F := Eq.trans rfl rfl
theorem fn_rn {f : FuncId} {n : Nat} {ss : List SRes} {sc : SCode} (hf : FnIs P f n ss sc) {args : List AV} {objs : List OB} {K : List OB → AV → Prop} (hp : plains args = true)
  (h : ∀ (C : Cx) [On P C], run P C [.code sc] [] (args ++ List.replicate (n - args.length) (.o undef)) (endK ss fun r => K objs r)) : CallOk P f args objs K :=
 fn_ok hf hp h
theorem fn_rin {f : FuncId} {n : Nat} {ss : List SRes} {sc : SCode} (hf : FnIs P f n ss sc) {args : List AV} {objs : List OB} {K : List OB → AV → Prop}
  (h : ∀ (C : Cx) [On P C], run P C [.code sc] objs (args ++ List.replicate (n - args.length) (.o undef)) (endI ss K)) : CallOk P f args objs K :=
 fn_in hf h
theorem endI_n (ss : List SRes) (K : List OB → AV → Prop) : endI ss K .normal objs tm = outI ss K objs tm := Eq.trans rfl rfl
theorem endI_r (ss : List SRes) (K : List OB → AV → Prop) : endI ss K .ret objs tm = outI ss K objs tm := Eq.trans rfl rfl
def outJ (K : List OB → AV → Prop) (objs : List OB) : Option (List AV) → Prop
 | some xs => K objs (tupA xs)
 | none => False
theorem outJ_s (K : List OB → AV → Prop) (xs : List AV) : outJ K objs (some xs) = K objs (tupA xs) := Eq.trans rfl rfl
theorem outI_eq (ss : List SRes) (K : List OB → AV → Prop) : outI ss K objs tm = outJ K objs (resAs objs tm ss) := by
 unfold outI
 cases resAs objs tm ss <;> rfl
theorem endK_n (ss : List SRes) (K : AV → Prop) : endK ss K .normal objs tm = outK ss K objs tm := Eq.trans rfl rfl
theorem endK_r (ss : List SRes) (K : AV → Prop) : endK ss K .ret objs tm = outK ss K objs tm := Eq.trans rfl rfl
def outO (K : AV → Prop) : Option AV → Prop
 | some r => K r
 | none => False
theorem outO_s (K : AV → Prop) (r : AV) : outO K (some r) = K r := Eq.trans rfl rfl
theorem outK_eq (ss : List SRes) (K : AV → Prop) : outK ss K objs tm = outO K ((resAs objs tm ss).bind fun xs => pub objs 5 (tupA xs)) := by
 unfold outK
 cases (resAs objs tm ss).bind (fun xs => pub objs 5 (tupA xs)) <;> rfl
end
end Go.Proofs.YtjkdiojicmcbaaaGreatDoor.Sx
/-
 DERIVED: THE SHELF's CONTRACTS AT THIS DUMP, IN PLAIN WORDS (tools/lay-plain.mjs out of 'TryzShelf.lean', which tools/lay-shelf.mjs wrote): THE SAME DECLARATIONS UNDER THE SAME NAMES: 'import', 'namespace', 'open', 'def', 'theorem' AND NOTHING ELSE: no command of the shelf's: FOR A HAND-IN. Each laying: the table of numbers ('.._ren') and one theorem, a field a fact of the dump's own or the kernel's comparison; each contract: ONE APPLICATION.
-/
namespace Go.Proofs
open Go.Shelf
def Tryz.lays137_ren : Go.Shelf.Ren := ⟨fun | 137 => 148 | 217 => 149 | 266 => 178 | n => n, fun | 9 => 9 | 5 => 5 | 3 => 3 | n => n, fun | n => n⟩
theorem Tryz.lays137 : Go.Proofs.Lays.n137 Tryz.prog Tryz.lays137_ren := {
 mixed := by kernel_rfl
 f137 := Tryz.func148.trans (congrArg some (by kernel_rfl))
 f217 := Tryz.func149.trans (congrArg some (by kernel_rfl))
 f266 := Tryz.func178.trans (congrArg some (by kernel_rfl))
 t3 := Tryz.underlying3
 a3 := Tryz.isAgg3
 z3 := Tryz.sizeOf3
 v3 := Tryz.zeroValue3
 t5 := Tryz.underlying5
 a5 := Tryz.isAgg5
 z5 := Tryz.sizeOf5
 v5 := Tryz.zeroValue5
 t9 := Tryz.underlying9
 a9 := Tryz.isAgg9
 z9 := Tryz.sizeOf9
 v9 := Tryz.zeroValue9 }
open Go.RowKit in
/-- strings.IndexByte: "IndexByte returns the index of the first instance of c in s, or -1 if c is not present in s.": IT RETURNS 'Lib.indexByte s c'; the world is as it was. (LAID: no walk: one application.) -/
theorem Tryz.strings_IndexByte (s : ByteArray) (c : Int) (w : World) :
  Calls Tryz.prog 148 #[.string s, .int .u8 c] w fun e w' => e = .returned (.int .i64 (Lib.indexByte s.data.toList c.toNat.toUInt8)) ∧ w' = w := Any.strings_IndexByte Tryz.lays137 s c w
def Tryz.lays103_ren : Go.Shelf.Ren := ⟨fun | 103 => 85 | 210 => 116 | 206 => 146 | n => n, fun | 9 => 9 | 4 => 4 | 24 => 109 | 3 => 3 | n => n, fun | n => n⟩
theorem Tryz.lays103 : Go.Proofs.Lays.n103 Tryz.prog Tryz.lays103_ren := {
 mixed := by kernel_rfl
 f103 := Tryz.func85.trans (congrArg some (by kernel_rfl))
 f206 := Tryz.func146.trans (congrArg some (by kernel_rfl))
 f210 := Tryz.func116.trans (congrArg some (by kernel_rfl))
 t3 := Tryz.underlying3
 a3 := Tryz.isAgg3
 z3 := Tryz.sizeOf3
 v3 := Tryz.zeroValue3
 t4 := Tryz.underlying4
 a4 := Tryz.isAgg4
 z4 := Tryz.sizeOf4
 v4 := Tryz.zeroValue4
 t9 := Tryz.underlying9
 a9 := Tryz.isAgg9
 z9 := Tryz.sizeOf9
 v9 := Tryz.zeroValue9
 t24 := Tryz.underlying109
 a24 := Tryz.isAgg109
 z24 := Tryz.sizeOf109
 v24 := Tryz.zeroValue109 }
open Go.RowKit in
/-- strings.CutPrefix: "CutPrefix returns s without the provided leading prefix string and reports whether it found the prefix. If s doesn't start with prefix, CutPrefix returns s, false. If prefix is the empty string, CutPrefix returns s, true.": IT RETURNS '(Lib.trimPrefix s p, Lib.hasPrefix s p)'; the world is as it was. (LAID: no walk: one application.) -/
theorem Tryz.strings_CutPrefix (s p : ByteArray) (w : World) :
  Calls Tryz.prog 85 #[.string s, .string p] w fun e w' => e = .returned (.tuple #[.string ⟨(Lib.trimPrefix s.data.toList p.data.toList).toArray⟩, .bool (Lib.hasPrefix s.data.toList p.data.toList)]) ∧ w' = w := Any.strings_CutPrefix Tryz.lays103 s p w
def Tryz.laysM171_ren : Go.Shelf.Ren := ⟨fun | 171 => 103 | 243 => 136 | 246 => 171 | 283 => 184 | 284 => 185 | 285 => 186 | 286 => 187 | 129 => 195 | 317 => 194 | 318 => 196 | 319 => 197 | 320 => 198 | 337 => 201 | 338 => 202 | n => n, fun | 3 => 3 | 9 => 9 | 2 => 2 | 4 => 4 | 171 => 155 | 0 => 0 | 53 => 125 | 37 => 72 | 5 => 5 | 173 => 158 | 212 => 171 | 51 => 150 | 20 => 20 | 213 => 172 | 46 => 128 | 232 => 178 | 233 => 179 | n => n, fun | 17 => 3 | 18 => 4 | 19 => 5 | n => n⟩
theorem Tryz.laysM171 : Go.Proofs.LaysM.n171 Tryz.prog Tryz.laysM171_ren := {
 mixed := by kernel_rfl
 f129 := Tryz.func195.trans (congrArg some (by kernel_rfl))
 f171 := Tryz.func103.trans (congrArg some (by kernel_rfl))
 f243 := Tryz.func136.trans (congrArg some (by kernel_rfl))
 f246 := Tryz.func171.trans (congrArg some (by kernel_rfl))
 f283 := Tryz.func184.trans (congrArg some (by kernel_rfl))
 f284 := Tryz.func185.trans (congrArg some (by kernel_rfl))
 f285 := Tryz.func186.trans (congrArg some (by kernel_rfl))
 f286 := Tryz.func187.trans (congrArg some (by kernel_rfl))
 f317 := Tryz.func194.trans (congrArg some (by kernel_rfl))
 f318 := Tryz.func196.trans (congrArg some (by kernel_rfl))
 f319 := Tryz.func197.trans (congrArg some (by kernel_rfl))
 f320 := Tryz.func198.trans (congrArg some (by kernel_rfl))
 f337 := Tryz.func201.trans (congrArg some (by kernel_rfl))
 f338 := Tryz.func202.trans (congrArg some (by kernel_rfl))
 t0 := Tryz.underlying0
 a0 := Tryz.isAgg0
 z0 := Tryz.sizeOf0
 v0 := Tryz.zeroValue0
 t2 := Tryz.underlying2
 a2 := Tryz.isAgg2
 z2 := Tryz.sizeOf2
 v2 := Tryz.zeroValue2
 t3 := Tryz.underlying3
 a3 := Tryz.isAgg3
 z3 := Tryz.sizeOf3
 v3 := Tryz.zeroValue3
 t4 := Tryz.underlying4
 a4 := Tryz.isAgg4
 z4 := Tryz.sizeOf4
 v4 := Tryz.zeroValue4
 t5 := Tryz.underlying5
 a5 := Tryz.isAgg5
 z5 := Tryz.sizeOf5
 v5 := Tryz.zeroValue5
 t9 := Tryz.underlying9
 a9 := Tryz.isAgg9
 z9 := Tryz.sizeOf9
 v9 := Tryz.zeroValue9
 t20 := Tryz.underlying20
 a20 := Tryz.isAgg20
 z20 := Tryz.sizeOf20
 v20 := Tryz.zeroValue20
 t37 := Tryz.underlying72
 a37 := Tryz.isAgg72
 z37 := Tryz.sizeOf72
 v37 := Tryz.zeroValue72
 t46 := Tryz.underlying128
 a46 := Tryz.isAgg128
 z46 := Tryz.sizeOf128
 v46 := Tryz.zeroValue128
 t51 := Tryz.underlying150
 a51 := Tryz.isAgg150
 z51 := Tryz.sizeOf150
 v51 := Tryz.zeroValue150
 t53 := Tryz.underlying125
 a53 := Tryz.isAgg125
 z53 := Tryz.sizeOf125
 v53 := Tryz.zeroValue125
 t171 := Tryz.underlying155
 a171 := Tryz.isAgg155
 z171 := Tryz.sizeOf155
 v171 := Tryz.zeroValue155
 t173 := Tryz.underlying158
 a173 := Tryz.isAgg158
 z173 := Tryz.sizeOf158
 v173 := Tryz.zeroValue158
 t212 := Tryz.underlying171
 a212 := Tryz.isAgg171
 z212 := Tryz.sizeOf171
 v212 := Tryz.zeroValue171
 t213 := Tryz.underlying172
 a213 := Tryz.isAgg172
 z213 := Tryz.sizeOf172
 t232 := Tryz.underlying178
 a232 := Tryz.isAgg178
 z232 := Tryz.sizeOf178
 v232 := Tryz.zeroValue178
 t233 := Tryz.underlying179
 a233 := Tryz.isAgg179
 z233 := Tryz.sizeOf179
 v233 := Tryz.zeroValue179
 g17 := by kernel_rfl
 g18 := by kernel_rfl
 g19 := by kernel_rfl
 i0 := by kernel_rfl
 i2 := by kernel_rfl
 i3 := by kernel_rfl
 i4 := by kernel_rfl
 i5 := by kernel_rfl
 i9 := by kernel_rfl
 i20 := by kernel_rfl
 i37 := by kernel_rfl
 i46 := by kernel_rfl
 i51 := by kernel_rfl
 i53 := by kernel_rfl
 i171 := by kernel_rfl
 i173 := by kernel_rfl
 i212 := by kernel_rfl
 i232 := by kernel_rfl
 i233 := by kernel_rfl
 m17 := by kernel_rfl
 m18 := by kernel_rfl
 m19 := by kernel_rfl }
open Go.RowKit Go.Sort Go.Lib in
/-- strconv.Itoa: "Itoa is equivalent to FormatInt(int64(i), 10).": i's DECIMAL NUMERAL ('Lib.itoa': a '-' where i is negative, then the digits), FOR EVERY int. The world behind the call: the world before it, new blocks behind the heap (the library's 'var a [24]byte'), draws. (LAID: no walk: one application.) -/
theorem Tryz.strconv_Itoa (n : Int) (h0 : -9223372036854775808 ≤ n) (h1 : n ≤ 9223372036854775807) (w : World) (htab : Lib.TabIs Tryz.prog w "internal/strconv.uint64pow10" .u64 Lib.pow10Tab) :
  Calls Tryz.prog 103 #[.int .i64 n] w fun e w' => e = .returned (.string ⟨(Lib.itoa n).toArray⟩) ∧ ∃ k os, w' = grow (w.drewN k) os := Any.strconv_Itoa Tryz.laysM171 n h0 h1 w htab
def Tryz.lays219_ren : Go.Shelf.Ren := ⟨fun | 219 => 119 | 217 => 149 | 225 => 150 | 224 => 151 | 267 => 152 | 266 => 178 | 314 => 179 | n => n, fun | 9 => 9 | 3 => 3 | 4 => 4 | 5 => 5 | 46 => 128 | 146 => 151 | 51 => 150 | n => n, fun | 1 => 0 | n => n⟩
theorem Tryz.lays219 : Go.Proofs.Lays.n219 Tryz.prog Tryz.lays219_ren := {
 mixed := by kernel_rfl
 f217 := Tryz.func149.trans (congrArg some (by kernel_rfl))
 f219 := Tryz.func119.trans (congrArg some (by kernel_rfl))
 f224 := Tryz.func151.trans (congrArg some (by kernel_rfl))
 f225 := Tryz.func150.trans (congrArg some (by kernel_rfl))
 f266 := Tryz.func178.trans (congrArg some (by kernel_rfl))
 f267 := Tryz.func152.trans (congrArg some (by kernel_rfl))
 f314 := Tryz.func179.trans (congrArg some (by kernel_rfl))
 t3 := Tryz.underlying3
 a3 := Tryz.isAgg3
 z3 := Tryz.sizeOf3
 v3 := Tryz.zeroValue3
 t4 := Tryz.underlying4
 a4 := Tryz.isAgg4
 z4 := Tryz.sizeOf4
 v4 := Tryz.zeroValue4
 t5 := Tryz.underlying5
 a5 := Tryz.isAgg5
 z5 := Tryz.sizeOf5
 v5 := Tryz.zeroValue5
 t9 := Tryz.underlying9
 a9 := Tryz.isAgg9
 z9 := Tryz.sizeOf9
 v9 := Tryz.zeroValue9
 t46 := Tryz.underlying128
 a46 := Tryz.isAgg128
 z46 := Tryz.sizeOf128
 v46 := Tryz.zeroValue128
 t51 := Tryz.underlying150
 a51 := Tryz.isAgg150
 z51 := Tryz.sizeOf150
 v51 := Tryz.zeroValue150
 t146 := Tryz.underlying151
 a146 := Tryz.isAgg151
 z146 := Tryz.sizeOf151
 v146 := Tryz.zeroValue151
 g1 := by kernel_rfl }
open Go.RowKit Go.Lib in
/-- internal/stringslite.Index (what strings.Index calls) AT A substr OF ONE BYTE c: IT RETURNS 'Lib.indexByte s c'; the world is as it was. (LAID: no walk: one application.) -/
theorem Tryz.stringslite_Index_one (s : ByteArray) (c : UInt8) (w : World) :
  Calls Tryz.prog 119 #[.string s, .string ⟨#[c]⟩] w fun e w' => e = .returned (.int .i64 (Lib.indexByte s.data.toList c)) ∧ w' = w := Any.stringslite_Index_one Tryz.lays219 s c w
def Tryz.lays144_ren : Go.Shelf.Ren := ⟨fun | 144 => 169 | 143 => 127 | 219 => 119 | 217 => 149 | 225 => 150 | 224 => 151 | 267 => 152 | 266 => 178 | 314 => 179 | n => n, fun | 9 => 9 | 4 => 4 | 3 => 3 | 5 => 5 | 46 => 128 | 146 => 151 | 51 => 150 | n => n, fun | 1 => 0 | n => n⟩
theorem Tryz.lays144 : Go.Proofs.Lays.n144 Tryz.prog Tryz.lays144_ren := {
 mixed := by kernel_rfl
 f143 := Tryz.func127.trans (congrArg some (by kernel_rfl))
 f144 := Tryz.func169.trans (congrArg some (by kernel_rfl))
 f217 := Tryz.func149.trans (congrArg some (by kernel_rfl))
 f219 := Tryz.func119.trans (congrArg some (by kernel_rfl))
 f224 := Tryz.func151.trans (congrArg some (by kernel_rfl))
 f225 := Tryz.func150.trans (congrArg some (by kernel_rfl))
 f266 := Tryz.func178.trans (congrArg some (by kernel_rfl))
 f267 := Tryz.func152.trans (congrArg some (by kernel_rfl))
 f314 := Tryz.func179.trans (congrArg some (by kernel_rfl))
 t3 := Tryz.underlying3
 a3 := Tryz.isAgg3
 z3 := Tryz.sizeOf3
 v3 := Tryz.zeroValue3
 t4 := Tryz.underlying4
 a4 := Tryz.isAgg4
 z4 := Tryz.sizeOf4
 v4 := Tryz.zeroValue4
 t5 := Tryz.underlying5
 a5 := Tryz.isAgg5
 z5 := Tryz.sizeOf5
 v5 := Tryz.zeroValue5
 t9 := Tryz.underlying9
 a9 := Tryz.isAgg9
 z9 := Tryz.sizeOf9
 v9 := Tryz.zeroValue9
 t46 := Tryz.underlying128
 a46 := Tryz.isAgg128
 z46 := Tryz.sizeOf128
 v46 := Tryz.zeroValue128
 t51 := Tryz.underlying150
 a51 := Tryz.isAgg150
 z51 := Tryz.sizeOf150
 v51 := Tryz.zeroValue150
 t146 := Tryz.underlying151
 a146 := Tryz.isAgg151
 z146 := Tryz.sizeOf151
 v146 := Tryz.zeroValue151
 g1 := by kernel_rfl }
open Go.RowKit Go.Lib in
/-- strings.Contains: "Contains reports whether substr is within s.": AT A substr OF ONE BYTE c: IT RETURNS 'decide (0 ≤ Lib.indexByte s c)'; the world is as it was. (LAID: no walk: one application.) -/
theorem Tryz.strings_Contains_one (s : ByteArray) (c : UInt8) (w : World) :
  Calls Tryz.prog 169 #[.string s, .string ⟨#[c]⟩] w fun e w' => e = .returned (.bool (decide (0 ≤ Lib.indexByte s.data.toList c))) ∧ w' = w := Any.strings_Contains_one Tryz.lays144 s c w
def Tryz.lays99_ren : Go.Shelf.Ren := ⟨fun | 99 => 182 | 206 => 146 | n => n, fun | 9 => 9 | 4 => 4 | 3 => 3 | n => n, fun | n => n⟩
theorem Tryz.lays99 : Go.Proofs.Lays.n99 Tryz.prog Tryz.lays99_ren := {
 mixed := by kernel_rfl
 f99 := Tryz.func182.trans (congrArg some (by kernel_rfl))
 f206 := Tryz.func146.trans (congrArg some (by kernel_rfl))
 t3 := Tryz.underlying3
 a3 := Tryz.isAgg3
 z3 := Tryz.sizeOf3
 v3 := Tryz.zeroValue3
 t4 := Tryz.underlying4
 a4 := Tryz.isAgg4
 z4 := Tryz.sizeOf4
 v4 := Tryz.zeroValue4
 t9 := Tryz.underlying9
 a9 := Tryz.isAgg9
 z9 := Tryz.sizeOf9
 v9 := Tryz.zeroValue9 }
open Go.RowKit Go.Lib in
/-- strings.HasPrefix: "HasPrefix reports whether the string s begins with prefix.": IT RETURNS 'Lib.hasPrefix s prefix'; the world is as it was. (LAID: no walk: one application.) -/
theorem Tryz.strings_HasPrefix (s p : ByteArray) (w : World) :
  Calls Tryz.prog 182 #[.string s, .string p] w fun e w' => e = .returned (.bool (Lib.hasPrefix s.data.toList p.data.toList)) ∧ w' = w := Any.strings_HasPrefix Tryz.lays99 s p w
def Tryz.laysM146_ren : Go.Shelf.Ren := ⟨fun | 146 => 48 | 221 => 93 | 268 => 125 | 138 => 126 | 143 => 127 | 195 => 158 | 197 => 159 | 218 => 160 | 219 => 119 | 260 => 181 | 217 => 149 | 225 => 150 | 224 => 151 | 267 => 152 | 266 => 178 | 314 => 179 | n => n, fun | 9 => 9 | 31 => 58 | 3 => 3 | 4 => 4 | 0 => 0 | 105 => 143 | 21 => 21 | 5 => 5 | 46 => 128 | 119 => 166 | 139 => 169 | 138 => 168 | 146 => 151 | 51 => 150 | n => n, fun | 1 => 0 | 3 => 1 | 4 => 2 | n => n⟩
theorem Tryz.laysM146 : Go.Proofs.LaysM.n146 Tryz.prog Tryz.laysM146_ren := {
 mixed := by kernel_rfl
 f138 := Tryz.func126.trans (congrArg some (by kernel_rfl))
 f143 := Tryz.func127.trans (congrArg some (by kernel_rfl))
 f146 := Tryz.func48.trans (congrArg some (by kernel_rfl))
 f195 := Tryz.func158.trans (congrArg some (by kernel_rfl))
 f197 := Tryz.func159.trans (congrArg some (by kernel_rfl))
 f217 := Tryz.func149.trans (congrArg some (by kernel_rfl))
 f218 := Tryz.func160.trans (congrArg some (by kernel_rfl))
 f219 := Tryz.func119.trans (congrArg some (by kernel_rfl))
 f221 := Tryz.func93.trans (congrArg some (by kernel_rfl))
 f224 := Tryz.func151.trans (congrArg some (by kernel_rfl))
 f225 := Tryz.func150.trans (congrArg some (by kernel_rfl))
 f260 := Tryz.func181.trans (congrArg some (by kernel_rfl))
 f266 := Tryz.func178.trans (congrArg some (by kernel_rfl))
 f267 := Tryz.func152.trans (congrArg some (by kernel_rfl))
 f268 := Tryz.func125.trans (congrArg some (by kernel_rfl))
 f314 := Tryz.func179.trans (congrArg some (by kernel_rfl))
 t0 := Tryz.underlying0
 a0 := Tryz.isAgg0
 z0 := Tryz.sizeOf0
 v0 := Tryz.zeroValue0
 t3 := Tryz.underlying3
 a3 := Tryz.isAgg3
 z3 := Tryz.sizeOf3
 v3 := Tryz.zeroValue3
 t4 := Tryz.underlying4
 a4 := Tryz.isAgg4
 z4 := Tryz.sizeOf4
 v4 := Tryz.zeroValue4
 t5 := Tryz.underlying5
 a5 := Tryz.isAgg5
 z5 := Tryz.sizeOf5
 v5 := Tryz.zeroValue5
 t9 := Tryz.underlying9
 a9 := Tryz.isAgg9
 z9 := Tryz.sizeOf9
 v9 := Tryz.zeroValue9
 t21 := Tryz.underlying21
 a21 := Tryz.isAgg21
 z21 := Tryz.sizeOf21
 v21 := Tryz.zeroValue21
 t31 := Tryz.underlying58
 a31 := Tryz.isAgg58
 z31 := Tryz.sizeOf58
 v31 := Tryz.zeroValue58
 t46 := Tryz.underlying128
 a46 := Tryz.isAgg128
 z46 := Tryz.sizeOf128
 v46 := Tryz.zeroValue128
 t51 := Tryz.underlying150
 a51 := Tryz.isAgg150
 z51 := Tryz.sizeOf150
 v51 := Tryz.zeroValue150
 t105 := Tryz.underlying143
 a105 := Tryz.isAgg143
 z105 := Tryz.sizeOf143
 v105 := Tryz.zeroValue143
 t119 := Tryz.underlying166
 a119 := Tryz.isAgg166
 z119 := Tryz.sizeOf166
 t138 := Tryz.underlying168
 a138 := Tryz.isAgg168
 z138 := Tryz.sizeOf168
 v138 := Tryz.zeroValue168
 t139 := Tryz.underlying169
 a139 := Tryz.isAgg169
 z139 := Tryz.sizeOf169
 v139 := Tryz.zeroValue169
 t146 := Tryz.underlying151
 a146 := Tryz.isAgg151
 z146 := Tryz.sizeOf151
 v146 := Tryz.zeroValue151
 g1 := by kernel_rfl
 g3 := by kernel_rfl
 g4 := by kernel_rfl
 i0 := by kernel_rfl
 i3 := by kernel_rfl
 i4 := by kernel_rfl
 i5 := by kernel_rfl
 i9 := by kernel_rfl
 i21 := by kernel_rfl
 i31 := by kernel_rfl
 i46 := by kernel_rfl
 i51 := by kernel_rfl
 i105 := by kernel_rfl
 i138 := by kernel_rfl
 i139 := by kernel_rfl
 i146 := by kernel_rfl
 m1 := by kernel_rfl
 s1_3 := fun w h => Go.Proofs.cell_of_shapedOpen_int (zero := #[.int .i64 0]) (t := 3) h (of_decide_eq_true (by kernel_rfl)) (by kernel_rfl) rfl (by kernel_rfl) (by kernel_rfl) Tryz.underlying3
 m3 := by kernel_rfl
 m4 := by kernel_rfl }
open Go.RowKit Go.Lib in
/-- strings.Split, sep not empty. (LAID: no walk: one application.) -/
theorem Tryz.strings_Split_shaped (s sep : ByteArray) (w : World) (h : w.ShapedOpen Tryz.prog) (hs : s.size < 4294967281) (h1 : 1 ≤ sep.size) :
  Calls Tryz.prog 48 #[.string s, .string sep] w fun e w' =>
   e = .returned (.slice (some ⟨w.heap.size, 0, none⟩) (Lib.countB s sep + 1) (Lib.countB s sep + 1)) ∧ w' = w.alloc (.cells ((Lib.splitB sep 0 (Lib.countB s sep) s).map Value.string).toArray 9) := Any.strings_Split_shaped Tryz.laysM146 s sep w h hs h1
def Tryz.laysM155_ren : Go.Shelf.Ren := ⟨fun | 155 => 105 | 154 => 139 | 138 => 126 | 165 => 174 | 143 => 127 | 166 => 94 | 197 => 159 | 169 => 51 | 195 => 158 | 218 => 160 | 240 => 128 | 241 => 188 | 219 => 119 | 260 => 181 | 276 => 161 | 277 => 199 | 217 => 149 | 225 => 150 | 224 => 151 | 267 => 152 | 266 => 178 | 314 => 179 | n => n, fun | 9 => 9 | 3 => 3 | 4 => 4 | 72 => 74 | 0 => 0 | 76 => 119 | 105 => 143 | 21 => 21 | 5 => 5 | 70 => 71 | 20 => 20 | 37 => 72 | 75 => 118 | 127 => 121 | 164 => 145 | 46 => 128 | 119 => 166 | 139 => 169 | 138 => 168 | 146 => 151 | 51 => 150 | 80 => 79 | n => n, fun | 1 => 0 | 3 => 1 | 4 => 2 | n => n⟩
theorem Tryz.laysM155 : Go.Proofs.LaysM.n155 Tryz.prog Tryz.laysM155_ren := {
 mixed := by kernel_rfl
 f138 := Tryz.func126.trans (congrArg some (by kernel_rfl))
 f143 := Tryz.func127.trans (congrArg some (by kernel_rfl))
 f154 := Tryz.func139.trans (congrArg some (by kernel_rfl))
 f155 := Tryz.func105.trans (congrArg some (by kernel_rfl))
 f165 := Tryz.func174.trans (congrArg some (by kernel_rfl))
 f166 := Tryz.func94.trans (congrArg some (by kernel_rfl))
 f169 := Tryz.func51.trans (congrArg some (by kernel_rfl))
 f195 := Tryz.func158.trans (congrArg some (by kernel_rfl))
 f197 := Tryz.func159.trans (congrArg some (by kernel_rfl))
 f217 := Tryz.func149.trans (congrArg some (by kernel_rfl))
 f218 := Tryz.func160.trans (congrArg some (by kernel_rfl))
 f219 := Tryz.func119.trans (congrArg some (by kernel_rfl))
 f224 := Tryz.func151.trans (congrArg some (by kernel_rfl))
 f225 := Tryz.func150.trans (congrArg some (by kernel_rfl))
 f240 := Tryz.func128.trans (congrArg some (by kernel_rfl))
 f241 := Tryz.func188.trans (congrArg some (by kernel_rfl))
 f260 := Tryz.func181.trans (congrArg some (by kernel_rfl))
 f266 := Tryz.func178.trans (congrArg some (by kernel_rfl))
 f267 := Tryz.func152.trans (congrArg some (by kernel_rfl))
 f276 := Tryz.func161.trans (congrArg some (by kernel_rfl))
 f277 := Tryz.func199.trans (congrArg some (by kernel_rfl))
 f314 := Tryz.func179.trans (congrArg some (by kernel_rfl))
 t0 := Tryz.underlying0
 a0 := Tryz.isAgg0
 z0 := Tryz.sizeOf0
 v0 := Tryz.zeroValue0
 t3 := Tryz.underlying3
 a3 := Tryz.isAgg3
 z3 := Tryz.sizeOf3
 v3 := Tryz.zeroValue3
 t4 := Tryz.underlying4
 a4 := Tryz.isAgg4
 z4 := Tryz.sizeOf4
 v4 := Tryz.zeroValue4
 t5 := Tryz.underlying5
 a5 := Tryz.isAgg5
 z5 := Tryz.sizeOf5
 v5 := Tryz.zeroValue5
 t9 := Tryz.underlying9
 a9 := Tryz.isAgg9
 z9 := Tryz.sizeOf9
 v9 := Tryz.zeroValue9
 t20 := Tryz.underlying20
 a20 := Tryz.isAgg20
 z20 := Tryz.sizeOf20
 v20 := Tryz.zeroValue20
 t21 := Tryz.underlying21
 a21 := Tryz.isAgg21
 z21 := Tryz.sizeOf21
 v21 := Tryz.zeroValue21
 t37 := Tryz.underlying72
 a37 := Tryz.isAgg72
 z37 := Tryz.sizeOf72
 v37 := Tryz.zeroValue72
 t46 := Tryz.underlying128
 a46 := Tryz.isAgg128
 z46 := Tryz.sizeOf128
 v46 := Tryz.zeroValue128
 t51 := Tryz.underlying150
 a51 := Tryz.isAgg150
 z51 := Tryz.sizeOf150
 v51 := Tryz.zeroValue150
 t70 := Tryz.underlying71
 a70 := Tryz.isAgg71
 z70 := Tryz.sizeOf71
 v70 := Tryz.zeroValue71
 t72 := Tryz.underlying74
 a72 := Tryz.isAgg74
 z72 := Tryz.sizeOf74
 v72 := Tryz.zeroValue74
 t75 := Tryz.underlying118
 a75 := Tryz.isAgg118
 z75 := Tryz.sizeOf118
 v75 := Tryz.zeroValue118
 t76 := Tryz.underlying119
 a76 := Tryz.isAgg119
 z76 := Tryz.sizeOf119
 v76 := Tryz.zeroValue119
 t105 := Tryz.underlying143
 a105 := Tryz.isAgg143
 z105 := Tryz.sizeOf143
 v105 := Tryz.zeroValue143
 t119 := Tryz.underlying166
 a119 := Tryz.isAgg166
 z119 := Tryz.sizeOf166
 t127 := Tryz.underlying121
 a127 := Tryz.isAgg121
 z127 := Tryz.sizeOf121
 v127 := Tryz.zeroValue121
 t138 := Tryz.underlying168
 a138 := Tryz.isAgg168
 z138 := Tryz.sizeOf168
 v138 := Tryz.zeroValue168
 t139 := Tryz.underlying169
 a139 := Tryz.isAgg169
 z139 := Tryz.sizeOf169
 v139 := Tryz.zeroValue169
 t146 := Tryz.underlying151
 a146 := Tryz.isAgg151
 z146 := Tryz.sizeOf151
 v146 := Tryz.zeroValue151
 t164 := Tryz.underlying145
 a164 := Tryz.isAgg145
 z164 := Tryz.sizeOf145
 v164 := Tryz.zeroValue145
 g1 := by kernel_rfl
 g3 := by kernel_rfl
 g4 := by kernel_rfl
 t80 := Tryz.underlying79
 a80 := Tryz.isAgg79
 z80 := Tryz.sizeOf79
 v80 := Tryz.zeroValue79
 i0 := by kernel_rfl
 i3 := by kernel_rfl
 i4 := by kernel_rfl
 i5 := by kernel_rfl
 i9 := by kernel_rfl
 i20 := by kernel_rfl
 i21 := by kernel_rfl
 i37 := by kernel_rfl
 i46 := by kernel_rfl
 i51 := by kernel_rfl
 i70 := by kernel_rfl
 i72 := by kernel_rfl
 i75 := by kernel_rfl
 i76 := by kernel_rfl
 i80 := by kernel_rfl
 i105 := by kernel_rfl
 i127 := by kernel_rfl
 i138 := by kernel_rfl
 i139 := by kernel_rfl
 i146 := by kernel_rfl
 i164 := by kernel_rfl
 m1 := by kernel_rfl
 s1_3 := fun w h => Go.Proofs.cell_of_shapedOpen_int (zero := #[.int .i64 0]) (t := 3) h (of_decide_eq_true (by kernel_rfl)) (by kernel_rfl) rfl (by kernel_rfl) (by kernel_rfl) Tryz.underlying3
 m3 := by kernel_rfl
 m4 := by kernel_rfl }
theorem Tryz.Builder_Extra_M155 : Builder.Extra Tryz.prog Tryz.laysM155_ren := {
 sizeBuilder := by kernel_rfl
 liesBuilder := by kernel_rfl
 t5 := Tryz.underlying5
 a5 := Tryz.isAgg5
 z5 := Tryz.sizeOf5
 v5 := Tryz.zeroValue5
 infoByte := by kernel_rfl
 cellsByte := by kernel_rfl
 sizeByte := by kernel_rfl
 neB5 := by decide }
open Go.RowKit Go.Lib in
/-- strings.ReplaceAll, old not empty. (LAID: no walk: one application.) -/
theorem Tryz.strings_ReplaceAll_shaped (s old new : ByteArray) (w : World) (h : w.ShapedOpen Tryz.prog) (hs : s.size < 4294967281) (h1 : 1 ≤ old.size) (hlen : s.size + Lib.countB s old * new.size ≤ 140737488355328) :
  Calls Tryz.prog 105 #[.string s, .string old, .string new] w fun e w' =>
   e = .returned (.string ⟨(Lib.replaceAll s.data.toList old.data.toList new.data.toList).toArray⟩) ∧ Below w.heap.size w w' := Any.strings_ReplaceAll_shaped Tryz.laysM155 Tryz.Builder_Extra_M155 s old new w h hs h1 hlen
def Tryz.lays153_ren : Go.Shelf.Ren := ⟨fun | 153 => 175 | 152 => 189 | 226 => 190 | 227 => 191 | 228 => 192 | 137 => 148 | 119 => 200 | 224 => 151 | 225 => 150 | 217 => 149 | 266 => 178 | n => n, fun | 9 => 9 | 3 => 3 | 4 => 4 | 5 => 5 | 21 => 21 | 117 => 164 | 116 => 163 | 0 => 0 | 46 => 128 | 124 => 176 | n => n, fun | n => n⟩
theorem Tryz.lays153 : Go.Proofs.Lays.n153 Tryz.prog Tryz.lays153_ren := {
 mixed := by kernel_rfl
 f119 := Tryz.func200.trans (congrArg some (by kernel_rfl))
 f137 := Tryz.func148.trans (congrArg some (by kernel_rfl))
 f152 := Tryz.func189.trans (congrArg some (by kernel_rfl))
 f153 := Tryz.func175.trans (congrArg some (by kernel_rfl))
 f217 := Tryz.func149.trans (congrArg some (by kernel_rfl))
 f224 := Tryz.func151.trans (congrArg some (by kernel_rfl))
 f225 := Tryz.func150.trans (congrArg some (by kernel_rfl))
 f226 := Tryz.func190.trans (congrArg some (by kernel_rfl))
 f227 := Tryz.func191.trans (congrArg some (by kernel_rfl))
 f228 := Tryz.func192.trans (congrArg some (by kernel_rfl))
 f266 := Tryz.func178.trans (congrArg some (by kernel_rfl))
 t0 := Tryz.underlying0
 a0 := Tryz.isAgg0
 z0 := Tryz.sizeOf0
 v0 := Tryz.zeroValue0
 t3 := Tryz.underlying3
 a3 := Tryz.isAgg3
 z3 := Tryz.sizeOf3
 v3 := Tryz.zeroValue3
 t4 := Tryz.underlying4
 a4 := Tryz.isAgg4
 z4 := Tryz.sizeOf4
 v4 := Tryz.zeroValue4
 t5 := Tryz.underlying5
 a5 := Tryz.isAgg5
 z5 := Tryz.sizeOf5
 v5 := Tryz.zeroValue5
 t9 := Tryz.underlying9
 a9 := Tryz.isAgg9
 z9 := Tryz.sizeOf9
 v9 := Tryz.zeroValue9
 t21 := Tryz.underlying21
 a21 := Tryz.isAgg21
 z21 := Tryz.sizeOf21
 v21 := Tryz.zeroValue21
 t46 := Tryz.underlying128
 a46 := Tryz.isAgg128
 z46 := Tryz.sizeOf128
 v46 := Tryz.zeroValue128
 t116 := Tryz.underlying163
 a116 := Tryz.isAgg163
 z116 := Tryz.sizeOf163
 t117 := Tryz.underlying164
 a117 := Tryz.isAgg164
 z117 := Tryz.sizeOf164
 v117 := Tryz.zeroValue164
 t124 := Tryz.underlying176
 a124 := Tryz.isAgg176
 z124 := Tryz.sizeOf176
 v124 := Tryz.zeroValue176 }
open Go.RowKit Go.Lib in
theorem Tryz.strings_IndexAny_long (hv116 : ∀ w, (zeroValue 163).run Tryz.prog w = .ok (.agg (Array.replicate 256 (.bool false))) w) (s chars : ByteArray) (w : World) (h2 : 2 ≤ chars.size) (h8 : 8 < s.size) (hs : s.size < 4294967281) (hcs : chars.size < 4294967281) (hascii : ∀ (j : Nat) b, chars.data.toList[j]? = some b → b.toNat < 128) :
  Calls Tryz.prog 175 #[.string s, .string chars] w fun e w' => e = .returned (.int .i64 (Lib.indexAny s.data.toList chars.data.toList)) ∧ w' = ((w.alloc (.cells (Lib.setCells chars.data.toList) 163)).alloc (.cells (Lib.setCells chars.data.toList) 163)) := Any.strings_IndexAny_long Tryz.lays153 hv116 (by kernel_rfl) s chars w h2 h8 hs hcs hascii
def Tryz.lays150_ren : Go.Shelf.Ren := ⟨fun | 150 => 142 | 153 => 175 | 152 => 189 | 226 => 190 | 227 => 191 | 228 => 192 | 137 => 148 | 119 => 200 | 224 => 151 | 225 => 150 | 217 => 149 | 266 => 178 | n => n, fun | 9 => 9 | 4 => 4 | 3 => 3 | 5 => 5 | 21 => 21 | 117 => 164 | 116 => 163 | 0 => 0 | 46 => 128 | 124 => 176 | n => n, fun | n => n⟩
theorem Tryz.lays150 : Go.Proofs.Lays.n150 Tryz.prog Tryz.lays150_ren := {
 mixed := by kernel_rfl
 f119 := Tryz.func200.trans (congrArg some (by kernel_rfl))
 f137 := Tryz.func148.trans (congrArg some (by kernel_rfl))
 f150 := Tryz.func142.trans (congrArg some (by kernel_rfl))
 f152 := Tryz.func189.trans (congrArg some (by kernel_rfl))
 f153 := Tryz.func175.trans (congrArg some (by kernel_rfl))
 f217 := Tryz.func149.trans (congrArg some (by kernel_rfl))
 f224 := Tryz.func151.trans (congrArg some (by kernel_rfl))
 f225 := Tryz.func150.trans (congrArg some (by kernel_rfl))
 f226 := Tryz.func190.trans (congrArg some (by kernel_rfl))
 f227 := Tryz.func191.trans (congrArg some (by kernel_rfl))
 f228 := Tryz.func192.trans (congrArg some (by kernel_rfl))
 f266 := Tryz.func178.trans (congrArg some (by kernel_rfl))
 t0 := Tryz.underlying0
 a0 := Tryz.isAgg0
 z0 := Tryz.sizeOf0
 v0 := Tryz.zeroValue0
 t3 := Tryz.underlying3
 a3 := Tryz.isAgg3
 z3 := Tryz.sizeOf3
 v3 := Tryz.zeroValue3
 t4 := Tryz.underlying4
 a4 := Tryz.isAgg4
 z4 := Tryz.sizeOf4
 v4 := Tryz.zeroValue4
 t5 := Tryz.underlying5
 a5 := Tryz.isAgg5
 z5 := Tryz.sizeOf5
 v5 := Tryz.zeroValue5
 t9 := Tryz.underlying9
 a9 := Tryz.isAgg9
 z9 := Tryz.sizeOf9
 v9 := Tryz.zeroValue9
 t21 := Tryz.underlying21
 a21 := Tryz.isAgg21
 z21 := Tryz.sizeOf21
 v21 := Tryz.zeroValue21
 t46 := Tryz.underlying128
 a46 := Tryz.isAgg128
 z46 := Tryz.sizeOf128
 v46 := Tryz.zeroValue128
 t116 := Tryz.underlying163
 a116 := Tryz.isAgg163
 z116 := Tryz.sizeOf163
 t117 := Tryz.underlying164
 a117 := Tryz.isAgg164
 z117 := Tryz.sizeOf164
 v117 := Tryz.zeroValue164
 t124 := Tryz.underlying176
 a124 := Tryz.isAgg176
 z124 := Tryz.sizeOf176
 v124 := Tryz.zeroValue176 }
open Go.RowKit Go.Lib in
theorem Tryz.strings_ContainsAny_laid (s chars : ByteArray) (w : World) (hs : s.size < 4294967281) (hcs : chars.size < 4294967281) (has : ∀ (j : Nat) b, s.data.toList[j]? = some b → b.toNat < 128) (hac : ∀ (j : Nat) b, chars.data.toList[j]? = some b → b.toNat < 128) :
  Calls Tryz.prog 142 #[.string s, .string chars] w fun e w' => e = .returned (.bool (Lib.containsAny s.data.toList chars.data.toList)) ∧ Below w.heap.size w w' := Any.strings_ContainsAny_laid Tryz.lays150 (by kernel_rfl) s chars w hs hcs has hac
end Go.Proofs
namespace Go.Proofs.YtjkdiojicmcbaaaGreatDoor
open Go.RowKit
theorem ret_bool {a b : Bool} (h : a = b) : Ending.returned (.bool a) = .returned (.bool b) := by rw [h]
theorem ret_int {k : IntKind} {a b : Int} (h : a = b) : Ending.returned (.int k a) = .returned (.int k b) := by rw [h]
theorem ret_str {a b : ByteArray} (h : a = b) : Ending.returned (.string a) = .returned (.string b) := by rw [h]
theorem ret_strl {a b : List UInt8} (h : a = b) : Ending.returned (.string ⟨a.toArray⟩) = .returned (.string ⟨b.toArray⟩) := by rw [h]
theorem dd {p q : Prop} [Decidable p] [Decidable q] (h : p ↔ q) : decide p = decide q := decide_eq_decide.2 h
theorem dt {q : Prop} [Decidable q] (h : q) : true = decide q := (decide_eq_true h).symm
theorem df {q : Prop} [Decidable q] (h : ¬ q) : false = decide q := (decide_eq_false h).symm
abbrev S (l : List UInt8) : ByteArray := ⟨l.toArray⟩
theorem S_size (l : List UInt8) : (S l).size = l.length := size_of_list l
theorem S_list (l : List UInt8) : (S l).data.toList = l := rfl
theorem S_of (s : ByteArray) : S s.data.toList = s := rfl
theorem size_list (s : ByteArray) : s.data.toList.length = s.size := rfl
theorem u8_toNat_int (c : UInt8) : ((c.toNat : Int)).toNat.toUInt8 = c := by rw [Int.toNat_natCast]; exact UInt8.ofNat_toNat
theorem at_list (s : ByteArray) (k : Nat) (h : k < s.size) : s.data.toList[k]'(by rw [size_list]; exact h) = s[k] := rfl
theorem getD_list (s : ByteArray) (k : Nat) (h : k < s.size) : s.data.toList.getD k 0 = s[k] := by
 rw [List.getD_eq_getElem?_getD, List.getElem?_eq_getElem (by rw [size_list]; exact h)]; rfl
theorem take_snoc (s : ByteArray) (k : Nat) (h : k < s.size) : s.data.toList.take (k + 1) = s.data.toList.take k ++ [s[k]] := by
 rw [List.take_succ_eq_append_getElem (by simpa using h)]; rfl
theorem drop_cons (s : ByteArray) (k : Nat) (h : k < s.size) : s.data.toList.drop k = s[k] :: s.data.toList.drop (k + 1) := by
 rw [List.drop_eq_getElem_cons (by simpa using h)]; rfl
theorem S_nil_of {s : ByteArray} (h : s.size = 0) : s = S [] := by
 have : s.data.toList = [] := List.eq_nil_of_length_eq_zero (by rw [size_list]; exact h)
 rw [← S_of s, this]
def Qb (w w' : World) : Prop := Below w.heap.size w w'
theorem Qb.refl (w : World) : Qb w w := Below.refl _ _
theorem Qb.trans {a b c : World} (h : Qb a b) (k : Qb b c) : Qb a c := Below.trans h (Below.mono k h.size)
theorem Qb.alloc {a b : World} (h : Qb a b) (o : Obj) : Qb a (b.alloc o) := Below.alloc h h.size o
theorem Qb.drew {a b : World} (h : Qb a b) : Qb a b.drew := Below.drew h
theorem Qb.drewN {a b : World} (h : Qb a b) (n : Nat) : Qb a (b.drewN n) := below_drewN h n
theorem Qb.set {a b : World} (h : Qb a b) {p : Addr} (hp : a.heap.size ≤ p.block) (u : Value) : Qb a (b.setCell p u) := Below.setCell h hp u
theorem Qb.grown {a b c : World} (h : Qb a b) {row : Option Nat} (hg : b.grownBy c row) (hr : ∀ k, row = some k → a.heap.size ≤ k) : Qb a c := Below.grown h hg h.size hr
theorem Qb.size {a b : World} (h : Qb a b) : a.heap.size ≤ b.heap.size := Below.size h
theorem Qb.below {a b : World} (h : Qb a b) : Below a.heap.size a b := h
def resV (r : Int × List UInt8) : Value := .tuple #[.string (S r.2), .int .i64 r.1]
def strLen : Value → Nat | .string c => c.size | _ => 0
theorem strLen_string (c : ByteArray) : strLen (.string c) = c.size := rfl
theorem size_extract (c : ByteArray) (a b : Nat) (h : b ≤ c.size) : (c.extract a b).size = b - a := by
 rw [ByteArray.size_extract]; omega
theorem quiet_left {P : Program} {f : FuncId} {args : Array Value} {w : World} {n : Nat} {v : Value}
  (h : Calls P f args (w.drewN n) fun e w' => e = .returned v ∧ w.drewN n = w') : Calls P f args (w.drewN n) fun e w'' => e = .returned v ∧ ∃ m, w'' = w.drewN m :=
 h.mono fun _ _ ⟨he, hm⟩ => ⟨he, n, hm.symm⟩
end Go.Proofs.YtjkdiojicmcbaaaGreatDoor
namespace Go.Proofs.YtjkdiojicmcbaaaGreatDoor
open Go.RowKit
def isCap (c : UInt8) : Bool := decide (65 ≤ c.toNat ∧ c.toNat ≤ 90)
def isAlpha (c : UInt8) : Bool := decide (97 ≤ c.toNat ∧ c.toNat ≤ 122 ∨ 65 ≤ c.toNat ∧ c.toNat ≤ 90)
def isDigit (c : UInt8) : Bool := decide (48 ≤ c.toNat ∧ c.toNat ≤ 57)
def isHex (c : UInt8) : Bool := decide (48 ≤ c.toNat ∧ c.toNat ≤ 57 ∨ 97 ≤ c.toNat ∧ c.toNat ≤ 102 ∨ 65 ≤ c.toNat ∧ c.toNat ≤ 70)
def hasB (c : UInt8) (l : List UInt8) : Bool := l.contains c
theorem hasB_nil (c : UInt8) : hasB c [] = false := rfl
theorem beq_u8 (c d : UInt8) : (c == d) = (d.toNat == c.toNat) := by
 by_cases h : c = d
 ·subst h; rw [beq_self_eq_true, beq_self_eq_true]
 ·rw [beq_eq_false_iff_ne.2 h, beq_eq_false_iff_ne.2 (fun e => h (UInt8.toNat_inj.1 e).symm)]
theorem hasB_snoc (l : List UInt8) (c d : UInt8) : hasB c (l ++ [d]) = (hasB c l || (d.toNat == c.toNat)) := by
 unfold hasB
 rw [← beq_u8]
 simp only [List.contains_append, List.contains_cons, List.contains_nil, Bool.or_false]
def isLD (c : UInt8) : Bool := isAlpha c || isDigit c
def isUnres (c : UInt8) : Bool := isLD c || hasB c [45, 46, 95, 126]
theorem isCapital_any (c : UInt8) (w : World) :
  Calls Tryz.prog 144 #[.int .u8 c.toNat] w fun e w' => e = .returned (.bool (isCap c)) ∧ w = w' := by
 go_enter Tryz.func144, Tryz.ntmps144
 go_wp2
 all_goals go_ret
 all_goals exact ⟨ret_bool (by unfold isCap; first | exact dt (by omega) | exact df (by omega) | (rw [Bool.eq_iff_iff]; simp only [Bool.or_eq_true, Bool.and_eq_true, decide_eq_true_eq]; omega)), rfl⟩
theorem IsAlpha_any (c : UInt8) (w : World) :
  Calls Tryz.prog 147 #[.int .u8 c.toNat] w fun e w' => e = .returned (.bool (isAlpha c)) ∧ w = w' := by
 go_enter Tryz.func147, Tryz.ntmps147
 go_wp2
 all_goals go_ret
 all_goals exact ⟨ret_bool (by unfold isAlpha; first | exact dt (by omega) | exact df (by omega) | (rw [Bool.eq_iff_iff]; simp only [Bool.or_eq_true, Bool.and_eq_true, decide_eq_true_eq]; omega)), rfl⟩
theorem IsDigit_any (c : UInt8) (w : World) :
  Calls Tryz.prog 117 #[.int .u8 c.toNat] w fun e w' => e = .returned (.bool (isDigit c)) ∧ w = w' := by
 go_enter Tryz.func117, Tryz.ntmps117
 go_wp2
 all_goals go_ret
 all_goals exact ⟨ret_bool (by unfold isDigit; first | exact dt (by omega) | exact df (by omega) | (rw [Bool.eq_iff_iff]; simp only [Bool.or_eq_true, Bool.and_eq_true, decide_eq_true_eq]; omega)), rfl⟩
theorem IsHex_any (c : UInt8) (w : World) :
  Calls Tryz.prog 153 #[.int .u8 c.toNat] w fun e w' => e = .returned (.bool (isHex c)) ∧ w = w' := by
 go_enter Tryz.func153, Tryz.ntmps153
 go_wp2
 all_goals go_ret
 all_goals exact ⟨ret_bool (by unfold isHex; first | exact dt (by omega) | exact df (by omega) | (rw [Bool.eq_iff_iff]; simp only [Bool.or_eq_true, Bool.and_eq_true, decide_eq_true_eq]; omega)), rfl⟩
theorem isOneOf_any (c : UInt8) (s : ByteArray) (w : World) :
  Calls Tryz.prog 173 #[.int .u8 c.toNat, .string s] w fun e w' => e = .returned (.bool (hasB c s.data.toList)) ∧ w = w' := by
 go_enter Tryz.func173, Tryz.ntmps173
 go_wp2_with (go_at_call 148; refine (Tryz.strings_IndexByte _ _ _).mono ?_; rintro e w' ⟨rfl, rfl⟩)
 go_ret
 exact ⟨ret_bool (by unfold hasB; rw [Lib.contains_iff_indexByte]), rfl⟩
theorem isLD_any (c : UInt8) (w : World) :
  Calls Tryz.prog 172 #[.int .u8 c.toNat] w fun e w' => e = .returned (.bool (isLD c)) ∧ w = w' := by
 go_enter Tryz.func172, Tryz.ntmps172
 go_wp2_with (first | (go_at_call 147; refine (IsAlpha_any _ _).mono ?_; rintro e w' ⟨rfl, rfl⟩) | (go_at_call 117; refine (IsDigit_any _ _).mono ?_; rintro e w' ⟨rfl, rfl⟩))
 all_goals go_ret
 all_goals exact ⟨ret_bool (by simp_all [isLD]), rfl⟩
theorem IsUnres_any (c : UInt8) (w : World) :
  Calls Tryz.prog 138 #[.int .u8 c.toNat] w fun e w' => e = .returned (.bool (isUnres c)) ∧ w = w' := by
 go_enter Tryz.func138, Tryz.ntmps138
 go_wp2_with (first | (go_at_call 172; refine (isLD_any _ _).mono ?_; rintro e w' ⟨rfl, rfl⟩) | (go_at_call 173; refine (isOneOf_any _ _ _).mono ?_; rintro e w' ⟨rfl, rfl⟩))
 all_goals go_ret
 all_goals exact ⟨ret_bool (by simp_all [isUnres]), rfl⟩
def lowB (c : UInt8) : UInt8 := if isCap c then c + 32 else c
theorem lower_any (c : UInt8) (w : World) :
  Calls Tryz.prog 111 #[.int .u8 c.toNat] w fun e w' => e = .returned (.int .u8 (lowB c).toNat) ∧ w = w' := by
 go_enter Tryz.func111, Tryz.ntmps111
 go_wp2_with (go_at_call 144; refine (isCapital_any _ _).mono ?_; rintro e w' ⟨rfl, rfl⟩)
 all_goals go_ret
 ·have h : isCap c = true := by assumption
  exact ⟨ret_int (by simp [lowB, h, UInt8.toNat_add]), rfl⟩
 ·have h : isCap c = false := by assumption
  exact ⟨ret_int (by simp [lowB, h]), rfl⟩
theorem rIsAlpha_any (c : UInt8) (w : World) :
  Calls Tryz.prog 83 #[.int .u8 c.toNat] w fun e w' => e = .returned (.bool (isAlpha c)) ∧ w = w' := by
 go_enter Tryz.func83, Tryz.ntmps83
 go_wp2
 all_goals go_ret
 all_goals exact ⟨ret_bool (by unfold isAlpha; first | exact dt (by omega) | exact df (by omega) | (rw [Bool.eq_iff_iff]; simp only [Bool.or_eq_true, Bool.and_eq_true, decide_eq_true_eq]; omega)), rfl⟩
theorem rIsDigit_any (c : UInt8) (w : World) :
  Calls Tryz.prog 81 #[.int .u8 c.toNat] w fun e w' => e = .returned (.bool (isDigit c)) ∧ w = w' := by
 go_enter Tryz.func81, Tryz.ntmps81
 go_wp2
 all_goals go_ret
 all_goals exact ⟨ret_bool (by unfold isDigit; first | exact dt (by omega) | exact df (by omega) | (rw [Bool.eq_iff_iff]; simp only [Bool.or_eq_true, Bool.and_eq_true, decide_eq_true_eq]; omega)), rfl⟩
theorem rIsHex_any (c : UInt8) (w : World) :
  Calls Tryz.prog 114 #[.int .u8 c.toNat] w fun e w' => e = .returned (.bool (isHex c)) ∧ w = w' := by
 go_enter Tryz.func114, Tryz.ntmps114
 go_wp2
 all_goals go_ret
 all_goals exact ⟨ret_bool (by unfold isHex; first | exact dt (by omega) | exact df (by omega) | (rw [Bool.eq_iff_iff]; simp only [Bool.or_eq_true, Bool.and_eq_true, decide_eq_true_eq]; omega)), rfl⟩
theorem rIn_any (c : UInt8) (s : ByteArray) (w : World) (hs : s.size ≤ maxLen) :
  Calls Tryz.prog 80 #[.int .u8 c.toNat, .string s] w fun e w' => e = .returned (.bool (hasB c s.data.toList)) ∧ w = w' := by
 unfold maxLen at hs
 go_enter Tryz.func80, Tryz.ntmps80
 go_wp2
 go_loop [5] (fun i => ∃ k : Nat, k ≤ s.size ∧ i = .int .i64 k ∧ hasB c (s.data.toList.take k) = false) (fun i => s.size - (intOf i).toNat)
 case atStart => exact ⟨0, Nat.zero_le _, rfl, hasB_nil c⟩
 case round =>
  obtain ⟨k, hk, rfl, hno⟩ := hrel
  have HN := Lib.hid hno
  clear hno
  by_cases hlt : k < s.size
  ·have HT := Lib.hid (take_snoc s k hlt)
   go_wp2
   ·have he : (↑s[k].toNat == (↑c.toNat : Int)) = true := by assumption
    go_ret
    have h : hasB c s.data.toList = true := by
     have h1 : hasB c (s.data.toList.take (k + 1)) = true := by
      rw [HT.out, hasB_snoc]
      have : s[k].toNat = c.toNat := by have := eq_of_beq he; omega
      simp [this]
     unfold hasB at h1 ⊢
     rw [List.contains_iff_mem] at h1 ⊢
     exact List.mem_of_mem_take h1
    exact ⟨ret_bool h.symm, rfl⟩
   ·have he : (↑s[k].toNat == (↑c.toNat : Int)) = false := by assumption
    go_round
    case rel =>
     refine ⟨k + 1, by omega, by go_num, ?_⟩
     rw [HT.out, hasB_snoc, HN.out]
     have : ¬ s[k].toNat = c.toNat := by intro h; simp [h] at he
     simp [this]
    case measure => simp [intOf]; omega
  ·go_wp2
   go_ret
   exact ⟨ret_bool (by have h := HN.out; rw [List.take_of_length_le (by rw [size_list]; omega)] at h; rw [h]), rfl⟩
theorem rIsUnres_any (c : UInt8) (w : World) :
  Calls Tryz.prog 64 #[.int .u8 c.toNat] w fun e w' => e = .returned (.bool (isUnres c)) ∧ w = w' := by
 go_enter Tryz.func64, Tryz.ntmps64
 go_wp2_with (first | (go_at_call 83; refine (rIsAlpha_any _ _).mono ?_; rintro e w' ⟨rfl, rfl⟩) | (go_at_call 81; refine (rIsDigit_any _ _).mono ?_; rintro e w' ⟨rfl, rfl⟩) | (go_at_call 80; refine (rIn_any _ _ _ (by decide)).mono ?_; rintro e w' ⟨rfl, rfl⟩))
 all_goals go_ret
 all_goals exact ⟨ret_bool (by simp_all [isUnres, isLD]), rfl⟩
end Go.Proofs.YtjkdiojicmcbaaaGreatDoor
namespace Go.Proofs.YtjkdiojicmcbaaaGreatDoor
open Go.RowKit
theorem infoU8 : (Tryz.prog.info? 5).map (fun i => (i.zero, i.size, i.bytes)) = some (some (.int .u8 0), 1, 1) := by kernel_rfl
def bv (l : List UInt8) : List Value := l.map fun c => .int .u8 c.toNat
theorem bv_length (l : List UInt8) : (bv l).length = l.length := by simp [bv]
theorem bv_append (a b : List UInt8) : bv (a ++ b) = bv a ++ bv b := by simp [bv]
theorem bv_set (l : List UInt8) (i : Nat) (c : UInt8) : (bv l).set i (.int .u8 c.toNat) = bv (l.set i c) := by simp [bv, List.map_set]
theorem bv_get (l : List UInt8) (i : Nat) (h : i < l.length) : (bv l)[i]? = some (.int .u8 l[i].toNat) := by simp [bv, h]
def Brow (w : World) (base : Nat) (v : Value) (l : List UInt8) : Prop := w.ownsRow base 5 1 v l.length (bv l)
theorem Brow.nil (w : World) (base : Nat) : Brow w base (.slice none 0 0) [] := World.ownsRow_nil w base _ _
theorem Brow.drew {w : World} {base : Nat} {v : Value} {l : List UInt8} (h : Brow w base v l) : Brow w.drew base v l := h
theorem Brow.drewN {w : World} {base : Nat} {v : Value} {l : List UInt8} (h : Brow w base v l) (n : Nat) : Brow (w.drewN n) base v l := h
theorem Brow.alloc {w : World} {base : Nat} {v : Value} {l : List UInt8} (h : Brow w base v l) (o : Obj) : Brow (w.alloc o) base v l := World.ownsRow.alloc h o
theorem Brow.below {w w' : World} {base : Nat} {v : Value} {l : List UInt8} (h : Brow w base v l) (hb : Qb w w') : Brow w' base v l := by
 refine World.ownsRow.kept (row := none) h ⟨hb.os, hb.tape, hb.output, Below.size hb, fun k hk _ => Below.block hb k hk⟩ ?_
 rcases h.2 with ⟨rfl, _⟩ | ⟨g, cap, cur, rfl, _⟩
 ·exact .inl rfl
 ·exact .inr (by simp [Value.ownBlock])
theorem foldl_bv : ∀ (l : List UInt8) (s : ByteArray), (l.map fun c => (c.toNat : Int)).foldl (fun r n => r.push (UInt8.ofNat n.toNat)) s = ⟨s.data ++ l.toArray⟩
 | [], s => by simp
 | n :: ns, s => by
  rw [List.map_cons, List.foldl_cons, foldl_bv ns]
  simp [ByteArray.push]
theorem row_str {w : World} {base : Nat} {v : Value} {l : List UInt8} (h : Brow w base v l) :
  (convert 72 9 v).run Tryz.prog w = .ok (.string ⟨l.toArray⟩) w := by
 rcases h.2 with ⟨rfl, hn⟩ | ⟨g, cap, cur, rfl, hb, hg, hnc, hcm, hcs, htake⟩
 ·have : l = [] := List.eq_nil_of_length_eq_zero hn
  subst this
  exact run_convert_bytes_nil w 72 5 Tryz.underlying72 Tryz.underlying5 0 0 _ Tryz.underlying9
 ·have hl : (loadCells ⟨g, 0, none⟩ l.length).run Tryz.prog w = .ok ((l.map fun c => (c.toNat : Int)).map (Value.int .u8)).toArray w := by
   have := run_loadCells_list (P := Tryz.prog) w ⟨g, 0, none⟩ (bv l) (fun j v hj => World.ownsRow.cells h (g := g) rfl j v hj)
   rw [bv_length] at this
   rw [this]
   simp [bv, Function.comp_def]
  rw [run_convert_bytes_string w _ _ 5 _ _ _ Tryz.underlying72 Tryz.underlying5 Tryz.underlying9, run_bytesToString w _ _ cap _ hl, foldl_bv]
  simp [ByteArray.empty, ByteArray.emptyWithCapacity]
  rfl
def mkB (c : Nat) : Array Value := madeCells (Value.int .u8 0).cells (c * 1)
theorem mkB_size (c : Nat) : (mkB c).size = c := by unfold mkB; rw [size_madeCells]; omega
theorem mkB_list (c : Nat) : (mkB c).toList = bv (List.replicate c 0) := by
 show (madeCells #[.int .u8 0] (c * 1)).toList = _
 rw [toList_madeCells_one]; simp [bv]
theorem mk_bytes (n c : Nat) (hn : n ≤ c) (hc : c ≤ 281474976710656) (w : World) :
  (Instr.makeSlice 72 (.int .i64 (n : Int)) (.int .i64 (c : Int))).run Tryz.prog w = .ok (.slice (some ⟨w.heap.size, 0, none⟩) n c) (w.alloc (.cells (mkB c) 5)) := by
 obtain ⟨i0, hi, hz0, hz1, hz2⟩ := info_parts infoU8
 have hb : (i0.bytes : Int) * (c : Int) ≤ 281474976710656 := by rw [hz2]; omega
 have hr := run_make (P := Tryz.prog) w 72 5 i0 (.int .u8 0) Tryz.underlying72 hi hz0 .i64 .i64 n c (by omega) (by omega) hb (by omega)
 simp only [Int.toNat_natCast, hz1] at hr
 exact hr
theorem mk_bytes0 (c : Nat) (hc : c ≤ 281474976710656) (w : World) :
  (Instr.makeSlice 72 (.int .i64 0) (.int .i64 (c : Int))).run Tryz.prog w = .ok (.slice (some ⟨w.heap.size, 0, none⟩) 0 c) (w.alloc (.cells (mkB c) 5)) :=
 mk_bytes 0 c (Nat.zero_le _) hc w
theorem brow_made (w : World) (B n c : Nat) (hB : B ≤ w.heap.size) (hn : n ≤ c) (hc : c ≤ 281474976710656) :
  Brow (w.alloc (.cells (mkB c) 5)) B (.slice (some ⟨w.heap.size, 0, none⟩) n c) (List.replicate n 0) := by
 refine ⟨by simp [bv_length], .inr ⟨w.heap.size, c, mkB c, by simp, hB, heap_alloc_new w _, by simpa using hn, by simp only [maxLen]; omega, by rw [mkB_size]; omega, ?_⟩⟩
 rw [mkB_list, List.length_replicate]
 simp [bv, List.take_replicate, Nat.min_eq_left hn]
theorem Brow.cell {w : World} {B g n cap : Nat} {l : List UInt8} (h : Brow w B (.slice (some ⟨g, 0, none⟩) n cap) l) (j : Nat) (hj : j < l.length) : w.cell? ⟨g, j, none⟩ = some (.int .u8 l[j].toNat) := by
 have h' := h
 rcases h'.2 with ⟨e, _⟩ | ⟨g', cap', cur, e, _⟩
 ·simp at e
 ·simp only [Value.slice.injEq] at e
  obtain ⟨_, rfl, _⟩ := e
  rw [World.ownsRow.cellAt (h : World.ownsRow _ _ _ _ _ _ _) j (by omega), bv_get l j hj]
theorem Brow.frozen {w : World} {B g n cap : Nat} {l : List UInt8} (h : Brow w B (.slice (some ⟨g, 0, none⟩) n cap) l) (j : Nat) : w.frozen? ⟨g, j, none⟩ = false := by
 have h' := h
 rcases h'.2 with ⟨e, _⟩ | ⟨g', cap', cur, e, _⟩
 ·simp at e
 ·simp only [Value.slice.injEq] at e
  obtain ⟨_, rfl, _⟩ := e
  exact World.ownsRow.frozenAt (h : World.ownsRow _ _ _ _ _ _ _) j
theorem Brow.stored {w : World} {B g n cap : Nat} {l : List UInt8} (h : Brow w B (.slice (some ⟨g, 0, none⟩) n cap) l) (j : Nat) (c : UInt8) :
  Brow (w.setCell ⟨g, j, none⟩ (.int .u8 c.toNat)) B (.slice (some ⟨g, 0, none⟩) n cap) (l.set j c) := by
 have h' := h
 rcases h'.2 with ⟨e, _⟩ | ⟨g', cap', cur, e, _⟩
 ·simp at e
 ·simp only [Value.slice.injEq] at e
  obtain ⟨_, rfl, _⟩ := e
  have := (World.ownsRow.stored (h : World.ownsRow _ _ _ _ _ _ _) j (.int .u8 c.toNat)).1
  unfold Brow
  rw [← bv_set, List.length_set]
  exact this
def Crow (w : World) (g : Nat) (l : List UInt8) : Prop := ∀ j (h : j < l.length), w.cell? ⟨g, j, none⟩ = some (.int .u8 l[j].toNat) ∧ w.frozen? ⟨g, j, none⟩ = false
theorem add_plain (g j : Nat) : (⟨g, 0, none⟩ : Addr).add j = ⟨g, j, none⟩ := by unfold Addr.add; split <;> simp_all
theorem Crow.str {w : World} {g : Nat} {l : List UInt8} (h : Crow w g l) (n cap : Nat) (hn : n = l.length) :
  (convert 72 9 (.slice (some ⟨g, 0, none⟩) n cap)).run Tryz.prog w = .ok (.string ⟨l.toArray⟩) w := by
 subst hn
 exact run_convert_bytes_back w _ _ 5 _ cap l Tryz.underlying72 Tryz.underlying5 Tryz.underlying9 (fun j hj => by rw [add_plain]; exact (h j hj).1)
theorem Crow.stored {w : World} {g : Nat} {l : List UInt8} (h : Crow w g l) (k : Nat) (hk : k < l.length) (c : UInt8) :
  Crow (w.setCell ⟨g, k, none⟩ (.int .u8 c.toNat)) g (l.set k c) := by
 intro j hj
 rw [List.length_set] at hj
 refine ⟨?_, (World.frozen?_setCell _ _ _ _).trans (h j hj).2⟩
 by_cases e : k = j
 ·subst e
  rw [World.cell?_setCell_same _ _ _ (h k hj).1]
  simp
 ·rw [World.cell?_setCell_other _ _ _ _ (fun e2 => e (by injection e2)), (h j hj).1]
  simp [e]
theorem crow_string (w : World) (s : ByteArray) : Crow (Lib.bytesWorld w 5 s) w.heap.size s.data.toList := by
 intro j hj
 rw [size_list] at hj
 refine ⟨?_, ?_⟩
 ·rw [Lib.bytesWorld_cell w _ s j hj, getD_list s j hj]; rfl
 ·have hs : (Lib.bytesCells w 5 s).size ≠ j := by
   have : s.size ≤ (Lib.bytesCells w 5 s).size := by
    simp only [Lib.bytesCells, Array.size_append, Array.size_map]
    exact Nat.le_add_right _ _
   omega
  simp [World.frozen?, Lib.bytesWorld_at_new]
  omega
theorem qb_bytesWorld (w : World) (e : TypeId) (s : ByteArray) : Qb w (Lib.bytesWorld w e s) := by
 refine ⟨rfl, rfl, rfl, by rw [Lib.bytesWorld_size]; omega, fun k hk => Lib.bytesWorld_at_old w e s k hk⟩
theorem conv_bytes (s : ByteArray) (w : World) :
  (convert 9 72 (.string s)).run Tryz.prog w = .ok (.slice (some ⟨w.heap.size, 0, none⟩) s.size (grownCap w s.size 0 5)) (Lib.bytesWorld w 5 s) :=
 Lib.run_convert_string_bytes w _ _ _ s Tryz.underlying9 Tryz.underlying72 Tryz.underlying5
theorem Brow.appended {w' : World} {B : Nat} {v' : Value} {l m : List UInt8} {xs : List Value} {n : Nat} (h : w'.ownsRow B 5 1 v' n xs) (hx : xs = bv (l ++ m)) (hn : n = (l ++ m).length) : Brow w' B v' (l ++ m) := by
 subst hx hn; exact h
theorem bv_one (vs : List UInt8) : ∀ u ∈ bv vs, u.oneCell' = true := by
 intro u hu
 obtain ⟨c, _, rfl⟩ := List.mem_map.1 hu
 rfl
theorem below_append {w w' : World} {B : Nat} {v : Value} {l : List UInt8} (h : Brow w B v l) (hB : B ≤ w.heap.size) (hg : w.grownBy w' v.ownBlock) : Below B w w' :=
 (Below.refl B w).grown hg hB (fun k hk => (World.ownsRow.lt h k hk).1)
theorem wpList_append_row {w : World} {ops : Array Oper} {rest : List Oper} {o : Oper} {a : Act} {Q : Exit → Act → World → Prop} (hgd : o.guard = none) (s x : Operand)
  (ho : o.op = .call { callee := .builtin .append, args := #[s, x], argTypes := #[72, 72] })
  (B : Nat) (v : Value) (l m : List UInt8) (hs : a.eval s = v) (hrow : Brow w B v l) (ad : Addr) (n c : Nat) (hx : a.eval x = .slice (some ad) n c) (hn : n = m.length)
  (hnews : ∀ j u, (bv m)[j]? = some u → w.cell? (ad.add j) = some u) (hlen : l.length + m.length ≤ 140737488355328) (hB : B ≤ w.heap.size)
  (h : ∀ v' w', Brow w' B v' (l ++ m) → Below B w w' → wpList Tryz.prog ops Q rest (a.put o.dst v') w') : wpList Tryz.prog ops Q (o :: rest) a w := by
 obtain ⟨i0, hi, hz0, hz1, hz2⟩ := info_parts infoU8
 subst hn
 exact wpList_append_own w hgd s x _ ho B 5 i0 _ 1 1 Tryz.underlying72 hi hz0 hz1 hz2 rfl (by omega) v l.length (bv l) hs hrow ad m.length c (bv m) hx (by rw [bv_length]; omega) hnews (bv_one m)
  (by simp only [maxLen]; omega) (by omega) hB fun v' w' h1 h2 _ => h v' w' (Brow.appended h1 (bv_append l m).symm (by simp)) (below_append hrow hB h2)
theorem step_append_row {w : World} {ops : Array Oper} {o : Oper} {a : Act} {K : Act → World → Prop} {Q : Exit → Act → World → Prop} {E : Prop} (hgd : o.guard = none) (s x : Operand)
  (ho : o.op = .call { callee := .builtin .append, args := #[s, x], argTypes := #[72, 72] })
  (B : Nat) (v : Value) (l m : List UInt8) (hs : a.eval s = v) (hrow : Brow w B v l) (ad : Addr) (n c : Nat) (hx : a.eval x = .slice (some ad) n c) (hn : n = m.length)
  (hnews : ∀ j u, (bv m)[j]? = some u → w.cell? (ad.add j) = some u) (hlen : l.length + m.length ≤ 140737488355328) (hB : B ≤ w.heap.size)
  (h : ∀ v' w', Brow w' B v' (l ++ m) → Below B w w' → K (a.put o.dst v') w') : if Region.wanted o (yielded ops a.tmps) = true then Oper.wp Tryz.prog o a w K Q else E := by
 have hw : Region.wanted o (yielded ops a.tmps) = true := by simp [Region.wanted, hgd]
 rw [if_pos hw]
 obtain ⟨i0, hi, hz0, hz1, hz2⟩ := info_parts infoU8
 subst hn
 exact wp_append_own w s x _ ho B 5 i0 _ 1 1 Tryz.underlying72 hi hz0 hz1 hz2 rfl (by omega) v l.length (bv l) hs hrow ad m.length c (bv m) hx (by rw [bv_length]; omega) hnews (bv_one m)
  (by simp only [maxLen]; omega) (by omega) hB fun v' w' h1 h2 _ => h v' w' (Brow.appended h1 (bv_append l m).symm (by simp)) (below_append hrow hB h2)
theorem strCells_bv (s : ByteArray) : Lib.strCells s = bv s.data.toList := by simp [Lib.strCells, bv]
theorem wpList_append_str {w : World} {ops : Array Oper} {rest : List Oper} {o : Oper} {a : Act} {Q : Exit → Act → World → Prop} (hgd : o.guard = none) (sl x : Operand)
  (ho : o.op = .call { callee := .builtin .append, args := #[sl, x], argTypes := #[72, 9] })
  (B : Nat) (v : Value) (l : List UInt8) (hs : a.eval sl = v) (hrow : Brow w B v l) (s : ByteArray) (hx : a.eval x = .string s)
  (hlen : l.length + s.size ≤ 140737488355328) (hB : B ≤ w.heap.size)
  (h : ∀ v' w', Brow w' B v' (l ++ s.data.toList) → Below B w w' → wpList Tryz.prog ops Q rest (a.put o.dst v') w') : wpList Tryz.prog ops Q (o :: rest) a w := by
 obtain ⟨i0, hi, hz0, hz1, hz2⟩ := info_parts infoU8
 exact Lib.wpList_append_own_string w hgd sl x _ _ ho B 5 i0 Tryz.underlying72 Tryz.underlying9 hi hz0 hz1 hz2 v l.length (bv l) hs hrow s hx
  (by simp only [maxLen]; omega) hlen hB fun v' w' h1 h2 _ => h v' w' (Brow.appended h1 (by rw [strCells_bv, bv_append]) (by rw [List.length_append, size_list])) (below_append hrow hB h2)
theorem conv_new (W : World) (xs : List Int) (n : Nat) (hn : n = xs.length) :
  (convert 72 9 (.slice (some ⟨W.heap.size, 0, none⟩) n n)).run Tryz.prog (W.alloc (.cells (xs.map (Value.int .u8)).toArray 5)) = .ok (.string (strOfNums xs)) (W.alloc (.cells (xs.map (Value.int .u8)).toArray 5)) := by
 refine run_convert_bytes_arg _ 72 5 Tryz.underlying72 Tryz.underlying5 W.heap.size 0 n n xs hn.symm ?_ _ Tryz.underlying9
 intro i hi
 rw [World.cell?_alloc_at _ _ _ _ rfl]
 have h : i < xs.length := by omega
 simp [List.getD, List.getElem?_eq_getElem h]
end Go.Proofs.YtjkdiojicmcbaaaGreatDoor
namespace Go.Proofs.YtjkdiojicmcbaaaGreatDoor
open Go.RowKit
def lowL (l : List UInt8) : List UInt8 := l.map lowB
theorem low_set (l : List UInt8) (k n : Nat) (hn : l.length = n) (hk : k < n) :
  (lowL (l.take k) ++ List.replicate (n - k) 0).set k (lowB (l[k]'(by omega))) = lowL (l.take (k + 1)) ++ List.replicate (n - (k + 1)) 0 := by
 have h1 : (lowL (l.take k)).length = k := by simp [lowL]; omega
 rw [List.set_append_right _ _ (by omega), h1, Nat.sub_self, show n - k = (n - (k + 1)) + 1 from by omega, List.replicate_succ, List.set_cons_zero, List.take_succ_eq_append_getElem (by omega)]
 simp only [lowL, List.map_append, List.map_cons, List.map_nil, List.append_assoc, List.singleton_append]
theorem Lower_any (s : ByteArray) (w : World) (hs : s.size ≤ 140737488351232) :
  Calls Tryz.prog 70 #[.string s] w fun e w' => e = .returned (.string (S (lowL s.data.toList))) ∧ Qb w w' := by
 have hmk := fun W => mk_bytes s.size s.size (Nat.le_refl _) (by omega) W
 go_enter Tryz.func70, Tryz.ntmps70
 go_wp2_with fail
 clear hmk
 go_loopw [4, 10] (fun _ i wr => ∃ k : Nat, k ≤ s.size ∧ i = .int .i64 k ∧ Brow wr w.heap.size (.slice (some ⟨w.heap.size, 0, none⟩) s.size s.size) (lowL (s.data.toList.take k) ++ List.replicate (s.size - k) 0) ∧ Qb w wr) (fun _ i _ => s.size - (intOf i).toNat)
 case atStart => exact ⟨0, Nat.zero_le _, rfl, brow_made w _ _ _ (Nat.le_refl _) (Nat.le_refl _) (by omega), (Qb.refl w).alloc _⟩
 case round =>
  obtain ⟨k, hk, rfl, hrow, hq⟩ := hrel
  by_cases hlt : k < s.size
  ·have hlen : (lowL (s.data.toList.take k) ++ List.replicate (s.size - k) 0).length = s.size := by simp [lowL, size_list]; omega
   obtain ⟨u, hc⟩ : ∃ u, wr.cell? ⟨w.heap.size, k, none⟩ = some u := ⟨_, hrow.cell k (by omega)⟩
   have hf : wr.frozen? ⟨w.heap.size, k, none⟩ = false := hrow.frozen k
   have hrow' := hrow.stored k (lowB s[k])
   have hset := low_set s.data.toList k s.size (size_list s) hlt
   rw [at_list s k hlt] at hset
   rw [hset] at hrow'
   clear hset hrow hlen
   have HR := Lib.hid hrow'
   clear hrow'
   go_wp2_with (go_at_call 111; refine (lower_any _ _).mono ?_; rintro e w' ⟨rfl, rfl⟩)
   go_roundw
   case rel => exact ⟨k + 1, by omega, by go_num, HR.out, hq.set (Nat.le_refl _) _⟩
   case measure => simp [intOf]; omega
  ·obtain rfl : k = s.size := by omega
   have hl : lowL (s.data.toList.take s.size) ++ List.replicate (s.size - s.size) 0 = lowL s.data.toList := by
    rw [List.take_of_length_le (by rw [size_list]; omega)]; simp
   rw [hl] at hrow
   have hst := row_str hrow
   clear hl
   go_wp2
   go_ret
   exact ⟨rfl, hq⟩
def digitsL (l : List UInt8) : Bool := l.all isDigit && !l.isEmpty
def eqL (a b : List UInt8) : Bool := lowL a == lowL b
theorem all_snoc (p : UInt8 → Bool) (s : ByteArray) (k : Nat) (h : k < s.size) : (s.data.toList.take (k + 1)).all p = ((s.data.toList.take k).all p && p s[k]) := by
 rw [take_snoc s k h, List.all_append]; simp
theorem all_take_false (p : UInt8 → Bool) (l : List UInt8) (k : Nat) (h : (l.take k).all p = false) : l.all p = false := by
 rw [← List.take_append_drop k l, List.all_append, h, Bool.false_and]
theorem take_all (s : ByteArray) (k : Nat) (h : ¬ k < s.size) : s.data.toList.take k = s.data.toList := List.take_of_length_le (by rw [size_list]; omega)
theorem Digits_any (s : ByteArray) (w : World) (hs : s.size ≤ maxLen) :
  Calls Tryz.prog 155 #[.string s] w fun e w' => e = .returned (.bool (digitsL s.data.toList)) ∧ w = w' := by
 unfold maxLen at hs
 go_enter Tryz.func155, Tryz.ntmps155
 go_wp2_with fail
 go_loop [3, 6] (fun _ i => ∃ k : Nat, k ≤ s.size ∧ i = .int .i64 k ∧ Hid ((s.data.toList.take k).all isDigit = true)) (fun _ i => s.size - (intOf i).toNat)
 case atStart => exact ⟨0, Nat.zero_le _, rfl, Lib.hid rfl⟩
 case round =>
  obtain ⟨k, hk, rfl, HA⟩ := hrel
  by_cases hlt : k < s.size
  ·have HT := Lib.hid (all_snoc isDigit s k hlt)
   go_wp2_with (go_at_call 117; refine (IsDigit_any _ _).mono ?_; rintro e w' ⟨rfl, rfl⟩)
   ·have hd : (!isDigit s[k]) = true := by assumption
    go_ret
    exact ⟨ret_bool (by
     unfold digitsL
     rw [all_take_false isDigit _ (k + 1) (by rw [HT.out]; simpa using fun _ => hd)]; rfl), rfl⟩
   ·have hd : (!isDigit s[k]) = false := by assumption
    go_round
    case rel => exact ⟨k + 1, by omega, by go_num, Lib.hid (by rw [HT.out, HA.out]; simpa using hd)⟩
    case measure => simp [intOf]; omega
  ·have HF : Hid ((s.data.toList).all isDigit = true) := Lib.hid (by rw [← take_all s k hlt]; exact HA.out)
   go_wp2_with fail
   go_ret
   exact ⟨ret_bool (by rw [ByteArray.toList_eq]; unfold digitsL; rw [HF.out]; rfl), rfl⟩
theorem eqL_len {a b : List UInt8} (h : a.length ≠ b.length) : eqL a b = false := by
 unfold eqL lowL
 rw [beq_eq_false_iff_ne]
 intro e
 exact h (by have := congrArg List.length e; simpa using this)
theorem low_snoc (s : ByteArray) (k : Nat) (h : k < s.size) : lowL (s.data.toList.take (k + 1)) = lowL (s.data.toList.take k) ++ [lowB s[k]] := by
 rw [take_snoc s k h]; simp [lowL]
theorem eqL_ne {a b : List UInt8} {k : Nat} (h : lowL (a.take k) ≠ lowL (b.take k)) : eqL a b = false := by
 unfold eqL
 rw [beq_eq_false_iff_ne]
 intro e
 apply h
 simp only [lowL, List.map_take] at e ⊢
 rw [e]
theorem Equal_any (a b : ByteArray) (w : World) (ha : a.size ≤ maxLen) (hb : b.size ≤ maxLen) :
  Calls Tryz.prog 140 #[.string a, .string b] w fun e w' => e = .returned (.bool (eqL a.data.toList b.data.toList)) ∧ Qb w w' := by
 unfold maxLen at ha hb
 go_enter Tryz.func140, Tryz.ntmps140
 by_cases hl : a.size = b.size
 ·have HL := Lib.hid hl
  have hl1 : a.size ≤ b.size := by omega
  have hb1 : ((a.size : Int) != (b.size : Int)) = false := by simp [hl]
  clear hl
  go_wp2_with fail
  go_loopw [5, 13] (fun _ i wr => ∃ k : Nat, k ≤ a.size ∧ i = .int .i64 k ∧ Hid (lowL (a.data.toList.take k) = lowL (b.data.toList.take k)) ∧ Qb w wr) (fun _ i _ => a.size - (intOf i).toNat)
  case atStart => exact ⟨0, Nat.zero_le _, rfl, Lib.hid rfl, Qb.refl w⟩
  case round =>
   obtain ⟨k, hk, rfl, HA, hq⟩ := hrel
   by_cases hlt : k < a.size
   ·have hlt2 : k < b.size := by omega
    have HT := Lib.hid (low_snoc a k hlt)
    have HU := Lib.hid (low_snoc b k hlt2)
    go_wp2_with fail
    go_quiet ((go_at_call 111; exact quiet_left (lower_any _ _)))
    go_wp2_with fail
    ·have hd : ((lowB a[k]).toNat : Int) != ((lowB b[k]).toNat : Int) := by assumption
     go_ret
     refine ⟨ret_bool (eqL_ne (k := k + 1) ?_).symm, hq.drewN _⟩
     rw [HT.out, HU.out, HA.out]
     intro e
     have e1 := List.append_cancel_left e
     injection e1 with e1
     rw [e1] at hd
     simp at hd
    ·have hd : (((lowB a[k]).toNat : Int) != ((lowB b[k]).toNat : Int)) = false := by assumption
     go_roundw
     case rel =>
      refine ⟨k + 1, by omega, by go_num, Lib.hid ?_, hq.drewN _⟩
      rw [HT.out, HU.out, HA.out]
      have e1 : (lowB a[k]).toNat = (lowB b[k]).toNat := by simp only [bne_eq_false_iff_eq] at hd; omega
      rw [UInt8.toNat_inj.1 e1]
     case measure => simp [intOf]; omega
   ·go_wp2_with fail
    go_ret
    refine ⟨ret_bool ?_, hq⟩
    have h := HA.out
    rw [take_all a k hlt, take_all b k (by have := HL.out; omega)] at h
    unfold eqL
    rw [h, beq_self_eq_true]
 ·have hb1 : ((a.size : Int) != (b.size : Int)) = true := by simp; omega
  have HL := Lib.hid hl
  clear hl
  go_wp2_with fail
  go_ret
  exact ⟨ret_bool (eqL_len (by rw [size_list, size_list]; exact HL.out)).symm, Qb.refl w⟩
theorem low_set2 (s : ByteArray) (k : Nat) (hk : k < s.size) :
  (lowL (s.data.toList.take k) ++ s.data.toList.drop k).set k (lowB s[k]) = lowL (s.data.toList.take (k + 1)) ++ s.data.toList.drop (k + 1) := by
 have h1 : (lowL (s.data.toList.take k)).length = k := by simp only [lowL, List.length_map, List.length_take, size_list]; omega
 rw [List.set_append_right _ _ (by omega), h1, Nat.sub_self, drop_cons s k hk, List.set_cons_zero, take_snoc s k hk]
 simp only [lowL, List.map_append, List.map_cons, List.map_nil, List.append_assoc, List.singleton_append]
theorem low_get2 (s : ByteArray) (k : Nat) (hk : k < s.size) (h : k < (lowL (s.data.toList.take k) ++ s.data.toList.drop k).length) :
  (lowL (s.data.toList.take k) ++ s.data.toList.drop k)[k]'h = s[k] := by
 have h1 : (lowL (s.data.toList.take k)).length = k := by simp only [lowL, List.length_map, List.length_take, size_list]; omega
 rw [List.getElem_append_right (by omega)]
 simp only [h1, Nat.sub_self]
 simp only [drop_cons s k hk, List.getElem_cons_zero]
theorem lowB_cap {c : UInt8} (h1 : 65 ≤ (c.toNat : Int)) (h2 : (c.toNat : Int) ≤ 90) : ((c.toNat : Int) + 32) % 256 = ((lowB c).toNat : Int) := by
 have : isCap c = true := by unfold isCap; exact decide_eq_true (by omega)
 simp [lowB, this, UInt8.toNat_add]
theorem lowB_cap' {c : UInt8} (h1 : 65 ≤ (c.toNat : Int)) (h2 : (c.toNat : Int) ≤ 90) : ((c.toNat : Int) + 32) = ((lowB c).toNat : Int) := by
 rw [← lowB_cap h1 h2]; omega
theorem lowB_not {c : UInt8} (h : ¬ (65 ≤ (c.toNat : Int) ∧ (c.toNat : Int) ≤ 90)) : lowB c = c := by
 have : isCap c = false := by unfold isCap; exact decide_eq_false (by omega)
 simp [lowB, this]
theorem rLower_any (s : ByteArray) (w : World) (hs : s.size ≤ 140737488351232) :
  Calls Tryz.prog 71 #[.string s] w fun e w' => e = .returned (.string (S (lowL s.data.toList))) ∧ Qb w w' := by
 have hcv := conv_bytes s
 go_enter Tryz.func71, Tryz.ntmps71
 go_wp2_with fail
 clear hcv
 go_loopw [4, 9] (fun _ i wr => ∃ k : Nat, k ≤ s.size ∧ i = .int .i64 k ∧ Crow wr w.heap.size (lowL (s.data.toList.take k) ++ s.data.toList.drop k) ∧ Qb w wr) (fun _ i _ => s.size - (intOf i).toNat)
 case atStart => exact ⟨0, Nat.zero_le _, rfl, crow_string w s, qb_bytesWorld w _ s⟩
 case round =>
  obtain ⟨k, hk, rfl, hrow, hq⟩ := hrel
  by_cases hlt : k < s.size
  ·have hlen : k < (lowL (s.data.toList.take k) ++ s.data.toList.drop k).length := by simp only [lowL, List.length_append, List.length_map, List.length_take, List.length_drop, size_list]; omega
   obtain ⟨hc, hf⟩ := hrow k hlen
   rw [low_get2 s k hlt] at hc
   have hrow' := hrow.stored k hlen (lowB s[k])
   rw [low_set2 s k hlt] at hrow'
   have hsame : lowB s[k] = s[k] → Crow wr w.heap.size (lowL (s.data.toList.take (k + 1)) ++ s.data.toList.drop (k + 1)) := fun e => by
    rw [← low_set2 s k hlt, e, ← low_get2 s k hlt hlen, List.set_getElem_self]
    exact hrow
   clear hrow hlen
   have HR := Lib.hid (And.intro hrow' hsame)
   clear hsame
   clear hrow'
   go_wp2_with fail
   ·have h1 : 65 ≤ (s[k].toNat : Int) := by assumption
    have h2 : (s[k].toNat : Int) ≤ 90 := by assumption
    go_roundw
    case rel =>
     refine ⟨k + 1, by omega, by go_num, ?_, hq.set (Nat.le_refl _) _⟩
     rw [lowB_cap' h1 h2]
     exact HR.out.1
    case measure => simp [intOf]; omega
   ·have h2 : 90 < (s[k].toNat : Int) := by assumption
    go_roundw
    case rel => exact ⟨k + 1, by omega, by go_num, HR.out.2 (lowB_not (by omega)), hq⟩
    case measure => simp [intOf]; omega
   ·have h2 : ¬ 65 ≤ (s[k].toNat : Int) := by assumption
    go_roundw
    case rel => exact ⟨k + 1, by omega, by go_num, HR.out.2 (lowB_not (by omega)), hq⟩
    case measure => simp [intOf]; omega
  ·obtain rfl : k = s.size := by omega
   have hl : lowL (s.data.toList.take s.size) ++ s.data.toList.drop s.size = lowL s.data.toList := by
    rw [take_all s _ (by omega), List.drop_of_length_le (by rw [size_list]; omega), List.append_nil]
   rw [hl] at hrow
   have hst := hrow.str s.size (grownCap w s.size 0 5) (by simp [lowL, size_list])
   clear hl hrow
   go_wp2
   go_ret
   exact ⟨rfl, hq⟩
theorem rDigits_any (s : ByteArray) (w : World) (hs : s.size ≤ maxLen) :
  Calls Tryz.prog 163 #[.string s] w fun e w' => e = .returned (.bool (digitsL s.data.toList)) ∧ w = w' := by
 unfold maxLen at hs
 go_enter Tryz.func163, Tryz.ntmps163
 go_wp2_with fail
 go_loop [3] (fun i => ∃ k : Nat, k ≤ s.size ∧ i = .int .i64 k ∧ Hid ((s.data.toList.take k).all isDigit = true)) (fun i => s.size - (intOf i).toNat)
 case atStart => exact ⟨0, Nat.zero_le _, rfl, Lib.hid rfl⟩
 case round =>
  obtain ⟨k, hk, rfl, HA⟩ := hrel
  by_cases hlt : k < s.size
  ·have HT := Lib.hid (all_snoc isDigit s k hlt)
   go_wp2_with (go_at_call 81; refine (rIsDigit_any _ _).mono ?_; rintro e w' ⟨rfl, rfl⟩)
   ·have hd : (!isDigit s[k]) = true := by assumption
    go_ret
    exact ⟨ret_bool (by
     unfold digitsL
     rw [all_take_false isDigit _ (k + 1) (by rw [HT.out]; simpa using fun _ => hd)]; rfl), rfl⟩
   ·have hd : (!isDigit s[k]) = false := by assumption
    go_round
    case rel => exact ⟨k + 1, by omega, by go_num, Lib.hid (by rw [HT.out, HA.out]; simpa using hd)⟩
    case measure => simp [intOf]; omega
  ·have HF : Hid ((s.data.toList).all isDigit = true) := Lib.hid (by rw [← take_all s k hlt]; exact HA.out)
   go_wp2_with fail
   go_ret
   exact ⟨ret_bool (by rw [ByteArray.toList_eq]; unfold digitsL; rw [HF.out]; rfl), rfl⟩
def blank (c : UInt8) : Bool := decide (c.toNat = 32 ∨ c.toNat = 9)
def rdw (l : List UInt8) : List UInt8 := (l.reverse.dropWhile blank).reverse
def trimL (l : List UInt8) : List UInt8 := rdw (l.dropWhile blank)
theorem rdw_snoc (l : List UInt8) (x : UInt8) : rdw (l ++ [x]) = if blank x = true then rdw l else l ++ [x] := by
 unfold rdw
 rw [List.reverse_append, List.reverse_singleton, List.singleton_append, List.dropWhile_cons]
 split <;> simp
theorem S_eq {a : ByteArray} {l : List UInt8} (h : a.data.toList = l) : a = S l := by rw [← h]
def TP (n : Nat) (l : List UInt8) (f t : Nat) : Prop :=
 ∃ A M B, l = A ++ M ++ B ∧ (∀ a ∈ A, blank a = true) ∧ (∀ b ∈ B, blank b = true) ∧ M.dropWhile blank = M ∧ rdw M = M ∧
  ((M = [] ∧ f = n ∧ t = 0) ∨ (M ≠ [] ∧ f = A.length ∧ t = A.length + M.length))
theorem TP.other {n : Nat} {l : List UInt8} {f t : Nat} {c : UInt8} (h : TP n l f t) (hc : blank c = false) (hl : l.length < n) : TP n (l ++ [c]) (min f l.length) (l.length + 1) := by
 obtain ⟨A, M, B, rfl, hA, hB, h1, h2, h3⟩ := h
 rcases h3 with ⟨rfl, rfl, rfl⟩ | ⟨h3, rfl, rfl⟩
 ·refine ⟨A ++ B, [c], [], by simp, ?_, by simp, by simp [hc], by simp [rdw, hc], .inr ⟨by simp, ?_, ?_⟩⟩
  ·intro a ha
   rcases List.mem_append.1 ha with ha | ha
   ·exact hA a ha
   ·exact hB a ha
  ·simp at hl ⊢; omega
  ·simp
 ·refine ⟨A, M ++ B ++ [c], [], by simp, hA, by simp, ?_, ?_, .inr ⟨by simp, ?_, ?_⟩⟩
  ·cases M with
   | nil => exact absurd rfl h3
   | cons x M =>
    have hx : ¬ blank x = true := by
     intro hx
     rw [List.dropWhile_cons, if_pos hx] at h1
     have := congrArg List.length h1
     have h4 := (List.dropWhile_sublist (p := blank) (l := M)).length_le
     simp at this
     omega
    simp only [List.cons_append]
    rw [List.dropWhile_cons, if_neg hx]
  ·rw [rdw_snoc, if_neg (by rw [hc]; exact Bool.false_ne_true)]
  ·simp
  ·simp; omega
theorem rdw_append {B : List UInt8} (hB : ∀ b ∈ B, blank b = true) (l : List UInt8) : rdw (l ++ B) = rdw l := by
 unfold rdw
 rw [List.reverse_append, List.dropWhile_append_of_pos]
 intro a ha
 exact hB a (List.mem_reverse.1 ha)
theorem TP.done {l : List UInt8} {f t : Nat} (h : TP l.length l f t) : (t ≤ f ∧ trimL l = []) ∨ (f < t ∧ t ≤ l.length ∧ trimL l = (l.drop f).take (t - f)) := by
 obtain ⟨A, M, B, rfl, hA, hB, h1, h2, h3⟩ := h
 have ht : trimL (A ++ M ++ B) = rdw ((M ++ B).dropWhile blank) := by
  unfold trimL
  rw [List.append_assoc, List.dropWhile_append_of_pos hA]
 rcases h3 with ⟨rfl, rfl, rfl⟩ | ⟨h3, rfl, rfl⟩
 ·refine .inl ⟨Nat.zero_le _, ?_⟩
  rw [ht, List.nil_append, ← List.append_nil B, List.dropWhile_append_of_pos hB]
  rfl
 ·have hp : 0 < M.length := List.length_pos_iff.2 h3
  refine .inr ⟨by omega, by simp, ?_⟩
  have hm : (M ++ B).dropWhile blank = M ++ B := by
   cases M with
   | nil => exact absurd rfl h3
   | cons x M =>
    have hx : ¬ blank x = true := by
     intro hx
     rw [List.dropWhile_cons, if_pos hx] at h1
     have := congrArg List.length h1
     have h4 := (List.dropWhile_sublist (p := blank) (l := M)).length_le
     simp at this
     omega
    simp only [List.cons_append]
    rw [List.dropWhile_cons, if_neg hx]
  rw [ht, hm, rdw_append hB, h2, List.append_assoc, List.drop_left, Nat.add_sub_cancel_left, List.take_left]
theorem rEqual_any (a b : ByteArray) (w : World) (ha : a.size ≤ 140737488351232) (hb : b.size ≤ 140737488351232) :
  Calls Tryz.prog 55 #[.string a, .string b] w fun e w' => e = .returned (.bool (eqL a.data.toList b.data.toList)) ∧ Qb w w' := by
 go_enter Tryz.func55, Tryz.ntmps55
 go_wp2_with fail
 refine (rLower_any a _ ha).mono ?_
 rintro e w1 ⟨rfl, hq1⟩
 go_wp2_with fail
 refine (rLower_any b _ hb).mono ?_
 rintro e w2 ⟨rfl, hq2⟩
 go_wp2_with fail
 go_ret
 exact ⟨rfl, hq1.trans hq2⟩
end Go.Proofs.YtjkdiojicmcbaaaGreatDoor
namespace Go.Proofs.YtjkdiojicmcbaaaGreatDoor.Sx
open Go.RowKit
theorem sxA : type_of% (And.intro @rn_nil (And.intro @rn_seq (And.intro @rn_skip (And.intro @rn_reg (And.intro @rn_drw (And.intro @rn_blk (And.intro @rn_inblk (And.intro @rn_ops_nil (And.intro @rn_dops_nil (And.intro @rn_ret (And.intro @rn_exit (And.intro @xit_nil (And.intro @xit_code (And.intro @xit_ops (And.intro @xit_dops (And.intro @xit_blk (And.intro @xit_ap (And.intro @rn_ap (And.intro @apOk_n (And.intro @apOk_c (And.intro @apOne_p (And.intro @loopF_normal (And.intro @loopF_exit (And.intro @loopF_ret (And.intro @kO_some (And.intro @bxs_box (And.intro @endK_n (And.intro @endK_r (And.intro @outO_s (And.intro @outK_eq (And.intro @endI_n (And.intro @endI_r (And.intro @outJ_s (And.intro @outI_eq (And.intro @rn_mv (And.intro @kPick_t (And.intro @kPick_f (And.intro @rn_pick (And.intro @rn_alloc (@rn_box)))))))))))))))))))))))))))))))))))))))) := And.intro @rn_nil (And.intro @rn_seq (And.intro @rn_skip (And.intro @rn_reg (And.intro @rn_drw (And.intro @rn_blk (And.intro @rn_inblk (And.intro @rn_ops_nil (And.intro @rn_dops_nil (And.intro @rn_ret (And.intro @rn_exit (And.intro @xit_nil (And.intro @xit_code (And.intro @xit_ops (And.intro @xit_dops (And.intro @xit_blk (And.intro @xit_ap (And.intro @rn_ap (And.intro @apOk_n (And.intro @apOk_c (And.intro @apOne_p (And.intro @loopF_normal (And.intro @loopF_exit (And.intro @loopF_ret (And.intro @kO_some (And.intro @bxs_box (And.intro @endK_n (And.intro @endK_r (And.intro @outO_s (And.intro @outK_eq (And.intro @endI_n (And.intro @endI_r (And.intro @outJ_s (And.intro @outI_eq (And.intro @rn_mv (And.intro @kPick_t (And.intro @kPick_f (And.intro @rn_pick (And.intro @rn_alloc (@rn_box)))))))))))))))))))))))))))))))))))))))
theorem sxB : type_of% (And.intro @rn_build (And.intro @rn_bslice (And.intro @kLd1_p (And.intro @kLd1_r (And.intro @rn_load1 (And.intro @kLdn_s (And.intro @kLdv_p (And.intro @kLdv_r (And.intro @rn_loadn (And.intro @kSt2_b (And.intro @kSt_p (And.intro @rn_store (And.intro @kNck_0 (And.intro @kNck_1 (And.intro @kNck_2 (And.intro @rn_nck (And.intro @kNot_0 (And.intro @rn_not (And.intro @kAr_i64 (And.intro @kAr_i8 (And.intro @kAr_i16 (And.intro @kAr_i32 (And.intro @kAr_u8 (And.intro @kAr_u16 (And.intro @kAr_u32 (And.intro @kAr_u64 (And.intro @kNeg_0 (And.intro @rn_neg (And.intro @kCvi_0 (And.intro @rn_cvi (And.intro @kCvs_0 (And.intro @rn_cvs (And.intro @kLens_0 (And.intro @rn_lens (And.intro @kFldn_0 (And.intro @rn_fldn (And.intro @kFad_0 (And.intro @kFad_1 (And.intro @rn_fad (@kFld1_0)))))))))))))))))))))))))))))))))))))))) := And.intro @rn_build (And.intro @rn_bslice (And.intro @kLd1_p (And.intro @kLd1_r (And.intro @rn_load1 (And.intro @kLdn_s (And.intro @kLdv_p (And.intro @kLdv_r (And.intro @rn_loadn (And.intro @kSt2_b (And.intro @kSt_p (And.intro @rn_store (And.intro @kNck_0 (And.intro @kNck_1 (And.intro @kNck_2 (And.intro @rn_nck (And.intro @kNot_0 (And.intro @rn_not (And.intro @kAr_i64 (And.intro @kAr_i8 (And.intro @kAr_i16 (And.intro @kAr_i32 (And.intro @kAr_u8 (And.intro @kAr_u16 (And.intro @kAr_u32 (And.intro @kAr_u64 (And.intro @kNeg_0 (And.intro @rn_neg (And.intro @kCvi_0 (And.intro @rn_cvi (And.intro @kCvs_0 (And.intro @rn_cvs (And.intro @kLens_0 (And.intro @rn_lens (And.intro @kFldn_0 (And.intro @rn_fldn (And.intro @kFad_0 (And.intro @kFad_1 (And.intro @rn_fad (@kFld1_0)))))))))))))))))))))))))))))))))))))))
theorem sxC : type_of% (And.intro @rn_fld1 (And.intro @kExt_0 (And.intro @rn_ext (And.intro @kLr2_o (And.intro @kLenr_0 (And.intro @kLenr_1 (And.intro @kLenr_2 (And.intro @rn_lenr (And.intro @kBeq_true (And.intro @kEq_true (And.intro @kBeq_false (And.intro @kEq_false (And.intro @kEqs_a (And.intro @rn_beq (And.intro @rn_eqs (And.intro @kIad_0 (And.intro @rn_iad (And.intro @kIada_0 (And.intro @rn_iada (And.intro @kIdx_0 (And.intro @rn_idx (And.intro @kMks_0 (And.intro @rn_mks (And.intro @rn_bin (And.intro @kBin_add (And.intro @kBin_sub (And.intro @kBin_mul (And.intro @kBin_quo (And.intro @kBin_rem (And.intro @kBin_eql (And.intro @kBin_neq (And.intro @kBin_lss (And.intro @kBin_leq (And.intro @kBin_gtr (And.intro @kBin_geq (And.intro @kBin_cat (And.intro @kBin_seq (And.intro @kBin_sne (And.intro @svi_i (@svbS_none)))))))))))))))))))))))))))))))))))))))) := And.intro @rn_fld1 (And.intro @kExt_0 (And.intro @rn_ext (And.intro @kLr2_o (And.intro @kLenr_0 (And.intro @kLenr_1 (And.intro @kLenr_2 (And.intro @rn_lenr (And.intro @kBeq_true (And.intro @kEq_true (And.intro @kBeq_false (And.intro @kEq_false (And.intro @kEqs_a (And.intro @rn_beq (And.intro @rn_eqs (And.intro @kIad_0 (And.intro @rn_iad (And.intro @kIada_0 (And.intro @rn_iada (And.intro @kIdx_0 (And.intro @rn_idx (And.intro @kMks_0 (And.intro @rn_mks (And.intro @rn_bin (And.intro @kBin_add (And.intro @kBin_sub (And.intro @kBin_mul (And.intro @kBin_quo (And.intro @kBin_rem (And.intro @kBin_eql (And.intro @kBin_neq (And.intro @kBin_lss (And.intro @kBin_leq (And.intro @kBin_gtr (And.intro @kBin_geq (And.intro @kBin_cat (And.intro @kBin_seq (And.intro @kBin_sne (And.intro @svi_i (@svbS_none)))))))))))))))))))))))))))))))))))))))
theorem sxD : type_of% (And.intro @svbS_some (And.intro @kSl2_s (And.intro @kSl_s (And.intro @rn_slcs (And.intro @kAp_s (And.intro @kAp2_o (And.intro @kAp2_n (And.intro @kAp3_o (And.intro @kAs_o (And.intro @kAs_n (And.intro @kAs2_o (And.intro @rn_app (And.intro @rn_apps (And.intro @kCb_o (And.intro @kCb_n (And.intro @rn_cvbs (And.intro @rn_mkf (And.intro @kG_tt (And.intro @kG_tf (And.intro @kG_ft (And.intro @kG_ff (And.intro @kG_u (And.intro @kG_v (And.intro @kGD_tt (And.intro @kGD_tf (And.intro @kGD_ft (And.intro @kGD_ff (And.intro @kGD_u (And.intro @kGD_v (And.intro @rn_guard (And.intro @rn_dguard (And.intro @kC_t (And.intro @kC_f (And.intro @rn_cond (And.intro @rn_call (And.intro @rn_dcall (And.intro @rn_callv (And.intro @drn_mv (And.intro @drn_pick (@drn_build)))))))))))))))))))))))))))))))))))))))) := And.intro @svbS_some (And.intro @kSl2_s (And.intro @kSl_s (And.intro @rn_slcs (And.intro @kAp_s (And.intro @kAp2_o (And.intro @kAp2_n (And.intro @kAp3_o (And.intro @kAs_o (And.intro @kAs_n (And.intro @kAs2_o (And.intro @rn_app (And.intro @rn_apps (And.intro @kCb_o (And.intro @kCb_n (And.intro @rn_cvbs (And.intro @rn_mkf (And.intro @kG_tt (And.intro @kG_tf (And.intro @kG_ft (And.intro @kG_ff (And.intro @kG_u (And.intro @kG_v (And.intro @kGD_tt (And.intro @kGD_tf (And.intro @kGD_ft (And.intro @kGD_ff (And.intro @kGD_u (And.intro @kGD_v (And.intro @rn_guard (And.intro @rn_dguard (And.intro @kC_t (And.intro @kC_f (And.intro @rn_cond (And.intro @rn_call (And.intro @rn_dcall (And.intro @rn_callv (And.intro @drn_mv (And.intro @drn_pick (@drn_build)))))))))))))))))))))))))))))))))))))))
theorem sxE : type_of% (And.intro @drn_bslice (And.intro @drn_load1 (And.intro @drn_loadn (And.intro @drn_nck (And.intro @drn_bin (And.intro @drn_beq (And.intro @drn_eqs (And.intro @drn_not (And.intro @drn_neg (And.intro @drn_iada (And.intro @drn_cvi (And.intro @drn_cvs (And.intro @drn_cvbs (And.intro @drn_slcs (And.intro @drn_fad (And.intro @drn_fld1 (And.intro @drn_fldn (And.intro @drn_iad (And.intro @drn_idx (And.intro @drn_ext (And.intro @drn_lens (And.intro @drn_lenr (And.intro @drn_mkf (And.intro @drn_alloc (And.intro @drn_box (And.intro @drn_store (And.intro @drn_app (And.intro @drn_apps (@drn_mks))))))))))))))))))))))))))))) := And.intro @drn_bslice (And.intro @drn_load1 (And.intro @drn_loadn (And.intro @drn_nck (And.intro @drn_bin (And.intro @drn_beq (And.intro @drn_eqs (And.intro @drn_not (And.intro @drn_neg (And.intro @drn_iada (And.intro @drn_cvi (And.intro @drn_cvs (And.intro @drn_cvbs (And.intro @drn_slcs (And.intro @drn_fad (And.intro @drn_fld1 (And.intro @drn_fldn (And.intro @drn_iad (And.intro @drn_idx (And.intro @drn_ext (And.intro @drn_lens (And.intro @drn_lenr (And.intro @drn_mkf (And.intro @drn_alloc (And.intro @drn_box (And.intro @drn_store (And.intro @drn_app (And.intro @drn_apps (@drn_mks))))))))))))))))))))))))))))
theorem sxF : type_of% (And.intro @kO_if (And.intro @pq_and (And.intro @pq_or (And.intro @pq_xor (And.intro @pq_shl (And.intro @pq_shr (And.intro @pq_mn (And.intro @pq_mx (And.intro @pq_rsl (And.intro @pq_rsln (And.intro @pq_rslh (And.intro @pq_rslhn (And.intro @pq_rslb (And.intro @pq_lss (And.intro @pq_leq (And.intro @pq_gtr (And.intro @pq_geq (And.intro @rn_pu (@drn_pu))))))))))))))))))) := And.intro @kO_if (And.intro @pq_and (And.intro @pq_or (And.intro @pq_xor (And.intro @pq_shl (And.intro @pq_shr (And.intro @pq_mn (And.intro @pq_mx (And.intro @pq_rsl (And.intro @pq_rsln (And.intro @pq_rslh (And.intro @pq_rslhn (And.intro @pq_rslb (And.intro @pq_lss (And.intro @pq_leq (And.intro @pq_gtr (And.intro @pq_geq (And.intro @rn_pu (@drn_pu))))))))))))))))))
theorem sxL : type_of% (And.intro @List.length_cons.{0} (And.intro @List.length_nil.{0} (And.intro @List.length_append.{0} (And.intro @List.length_replicate.{0} (And.intro @List.length_set.{0} (And.intro @List.cons_append.{0} (And.intro @List.nil_append.{0} (And.intro @List.append_nil.{0} (And.intro @List.getElem?_cons_zero.{0} (And.intro @List.getElem?_cons_succ.{0} (And.intro @List.getElem?_nil.{0} (And.intro @Option.getD_some.{0} (And.intro @Option.getD_none.{0} (And.intro @List.set_cons_zero.{0} (And.intro @List.set_cons_succ.{0} (And.intro @List.set_nil.{0} (And.intro @List.map_cons.{0, 0} (And.intro @List.map_nil.{0, 0} (And.intro @List.take_succ_cons.{0} (And.intro @List.take_zero.{0} (And.intro @List.drop_succ_cons.{0} (And.intro @List.drop_zero.{0} (And.intro @List.take_nil.{0} (And.intro @List.drop_nil.{0} (And.intro @List.take_length.{0} (And.intro @Int.toNat_natCast (And.intro @Int.toNat_natCast_add_one (And.intro @Bool.not_true (And.intro @Bool.not_false (And.intro @Bool.and_true (And.intro @Bool.true_and (And.intro @Bool.and_false (And.intro @Bool.false_and (And.intro @true_and (And.intro @and_true (And.intro @true_implies (And.intro @false_implies (And.intro @Option.bind_some.{0, 0} (And.intro @Option.map_some.{0, 0} (And.intro @Bool.false_eq_true (And.intro @Bool.true_eq_false (And.intro @decide_true (And.intro @decide_false (And.intro @not_true_eq_false (And.intro @not_false_eq_true (@beq_self_eq_true.{0})))))))))))))))))))))))))))))))))))))))))))))) := And.intro @List.length_cons.{0} (And.intro @List.length_nil.{0} (And.intro @List.length_append.{0} (And.intro @List.length_replicate.{0} (And.intro @List.length_set.{0} (And.intro @List.cons_append.{0} (And.intro @List.nil_append.{0} (And.intro @List.append_nil.{0} (And.intro @List.getElem?_cons_zero.{0} (And.intro @List.getElem?_cons_succ.{0} (And.intro @List.getElem?_nil.{0} (And.intro @Option.getD_some.{0} (And.intro @Option.getD_none.{0} (And.intro @List.set_cons_zero.{0} (And.intro @List.set_cons_succ.{0} (And.intro @List.set_nil.{0} (And.intro @List.map_cons.{0, 0} (And.intro @List.map_nil.{0, 0} (And.intro @List.take_succ_cons.{0} (And.intro @List.take_zero.{0} (And.intro @List.drop_succ_cons.{0} (And.intro @List.drop_zero.{0} (And.intro @List.take_nil.{0} (And.intro @List.drop_nil.{0} (And.intro @List.take_length.{0} (And.intro @Int.toNat_natCast (And.intro @Int.toNat_natCast_add_one (And.intro @Bool.not_true (And.intro @Bool.not_false (And.intro @Bool.and_true (And.intro @Bool.true_and (And.intro @Bool.and_false (And.intro @Bool.false_and (And.intro @true_and (And.intro @and_true (And.intro @true_implies (And.intro @false_implies (And.intro @Option.bind_some.{0, 0} (And.intro @Option.map_some.{0, 0} (And.intro @Bool.false_eq_true (And.intro @Bool.true_eq_false (And.intro @decide_true (And.intro @decide_false (And.intro @not_true_eq_false (And.intro @not_false_eq_true (@beq_self_eq_true.{0})))))))))))))))))))))))))))))))))))))))))))))
theorem sxZ : type_of% (And.intro @rn_pcall (And.intro sxA (And.intro sxB (And.intro sxC (And.intro sxD (And.intro sxE (And.intro sxF (And.intro sxL (And.intro @forall_const.{1} (And.intro @implies_true.{1} (And.intro @implies_true.{0} (And.intro @if_true.{1} (And.intro @if_false.{1} (And.intro @ite_true.{1} (And.intro @ite_false.{1} (And.intro @exists_eq_left'.{1} (And.intro @exists_eq'.{1} (@ne_eq.{1})))))))))))))))))) := And.intro @rn_pcall (And.intro sxA (And.intro sxB (And.intro sxC (And.intro sxD (And.intro sxE (And.intro sxF (And.intro sxL (And.intro @forall_const.{1} (And.intro @implies_true.{1} (And.intro @implies_true.{0} (And.intro @if_true.{1} (And.intro @if_false.{1} (And.intro @ite_true.{1} (And.intro @ite_false.{1} (And.intro @exists_eq_left'.{1} (And.intro @exists_eq'.{1} (@ne_eq.{1})))))))))))))))))
end Go.Proofs.YtjkdiojicmcbaaaGreatDoor.Sx
namespace Go.Proofs.YtjkdiojicmcbaaaGreatDoor
open Go.RowKit Sx
class Shp (P : Program) [Tabs P] : Prop where
 sh : ∀ w : World, Tabs.T (P := P) w → w.ShapedOpen P
class Pow (P : Program) [Tabs P] : Prop where
 pw : ∀ w : World, Tabs.T (P := P) w → Lib.TabIs P w "internal/strconv.uint64pow10" .u64 Lib.pow10Tab
theorem shaped_keep {P : Program} {w w' : World} (h : w.ShapedOpen P) (hk : ∀ k, k < w.heap.size → w'.heap[k]? = w.heap[k]?) : w'.ShapedOpen P := by
 have lt : ∀ {k : Nat} {o : Obj}, w.heap[k]? = some o → k < w.heap.size := fun {k o} e => by
  rcases Nat.lt_or_ge k w.heap.size with h1 | h1
  ·exact h1
  ·rw [Array.getElem?_eq_none h1] at e; cases e
 refine ⟨fun g zero t hg hz => ?_, fun k hk1 hk2 => ?_⟩
 ·obtain ⟨cs, h1, h2, h3⟩ := h.1 g zero t hg hz
  refine ⟨cs, (hk g (lt h1)).trans h1, h2, fun hb => Row.ok_of_shape (fun b x hx => ?_) (h3 hb)⟩
  rcases Nat.lt_or_ge b w.heap.size with h4 | h4
  ·simpa [World.shape?, hk b h4] using hx
  ·simp [World.shape?, Array.getElem?_eq_none h4] at hx
 ·obtain ⟨o, o₀, h1, h2, h3⟩ := h.2 k hk1 hk2
  exact ⟨o, o₀, (hk k (lt h1)).trans h1, h2, h3⟩
mutual
/-- a value without memory, as it is -/
def val : AV → Option Value
 | .s l => some (.string ⟨l.toArray⟩)
 | .i k n => some (.int k n)
 | .b x => some (.bool x)
 | .agg cs => match vals cs with
  | some vs => if vs.all (·.oneCell') = true then some (.agg vs.toArray) else none
  | none => none
 | .tup cs => (vals cs).map fun vs => .tuple vs.toArray
 | _ => none
def vals : List AV → Option (List Value)
 | [] => some []
 | x :: xs => match val x, vals xs with
  | some v, some vs => some (v :: vs)
  | _, _ => none
end
mutual
theorem val_den (G : Gh) (I : Imm) : ∀ (x : AV) (v : Value), val x = some v → ∀ y, Den G I x y ↔ y = v
 | .s l, v, h, y => by simp only [val, Option.some.injEq] at h; subst h; simp [Den]
 | .i k n, v, h, y => by simp only [val, Option.some.injEq] at h; subst h; simp [Den]
 | .b x, v, h, y => by simp only [val, Option.some.injEq] at h; subst h; simp [Den]
 | .agg cs, v, h, y => by
  simp only [val] at h
  split at h
  ·rename_i vs h1
   split at h
   ·rename_i h2
    injection h with h; subst h
    simp only [Den]
    constructor
    ·rintro ⟨ys, rfl, k1, _⟩
     rw [(vals_den G I cs vs h1 ys).1 k1]
    ·rintro rfl
     exact ⟨vs, rfl, (vals_den G I cs vs h1 vs).2 rfl, fun u hu => (List.all_eq_true.1 h2) u hu⟩
   ·cases h
  ·cases h
 | .tup cs, v, h, y => by
  simp only [val, Option.map_eq_some_iff] at h
  obtain ⟨vs, h1, rfl⟩ := h
  simp only [Den]
  constructor
  ·rintro ⟨ys, rfl, k1⟩
   rw [(vals_den G I cs vs h1 ys).1 k1]
  ·rintro rfl
   exact ⟨vs, rfl, (vals_den G I cs vs h1 vs).2 rfl⟩
 | .p _ _, v, h, y => by simp [val] at h
 | .row _ _, v, h, y => by simp [val] at h
 | .prow _ _, v, h, y => by simp [val] at h
 | .orow _ _, v, h, y => by simp [val] at h
 | .porow _ _ _, v, h, y => by simp [val] at h
 | .nil, v, h, y => by simp [val] at h
 | .fn _ _ _, v, h, y => by simp [val] at h
 | .o _, v, h, y => by simp [val] at h
 | .u, v, h, y => by simp [val] at h
theorem vals_den (G : Gh) (I : Imm) : ∀ (xs : List AV) (vs : List Value), vals xs = some vs → ∀ ys, Dens G I xs ys ↔ ys = vs
 | [], vs, h, ys => by simp only [vals, Option.some.injEq] at h; subst h; simp [Dens]
 | x :: xs, vs, h, ys => by
  simp only [vals] at h
  split at h
  ·rename_i v vs' h1 h2
   injection h with h; subst h
   simp only [Dens]
   constructor
   ·rintro ⟨y, ys', rfl, k1, k2⟩
    rw [(val_den G I x v h1 y).1 k1, (vals_den G I xs vs' h2 ys').1 k2]
   ·rintro rfl
    exact ⟨v, vs', rfl, (val_den G I x v h1 v).2 rfl, (vals_den G I xs vs' h2 vs').2 rfl⟩
  ·cases h
end
section
variable {P : Program} [Tabs P] {f : FuncId} {args : List AV} {vs : List Value} {r : AV} {v : Value} {objs : List OB} {K : List OB → AV → Prop}
theorem conv (ha : vals args = some vs) (hr : val r = some v) (h : ∀ w, Calls P f vs.toArray w fun e w' => e = .returned v ∧ Qb w w') (hk : K objs r) : CallOk P f args objs K :=
 callok_pure r hk fun G I w ys hm hd => by
  rw [(vals_den G I args vs ha ys).1 hd]
  exact ⟨v, h w, (val_den G I r v hr v).2 rfl⟩
theorem convs (ha : vals args = some vs) (hr : val r = some v) (h : ∀ w, Calls P f vs.toArray w fun e w' => e = .returned v ∧ w = w') (hk : K objs r) : CallOk P f args objs K :=
 conv ha hr (fun w => (h w).mono (by rintro e w' ⟨rfl, rfl⟩; exact ⟨rfl, Qb.refl _⟩)) hk
theorem convT (ha : vals args = some vs) (hr : val r = some v) (h : ∀ w, Tabs.T (P := P) w → Calls P f vs.toArray w fun e w' => e = .returned v ∧ Qb w w') (hk : K objs r) : CallOk P f args objs K :=
 callok_tab r hk fun G I w ys hT hm hd => by
  rw [(vals_den G I args vs ha ys).1 hd]
  exact ⟨v, h w hT, (val_den G I r v hr v).2 rfl⟩
end
end Go.Proofs.YtjkdiojicmcbaaaGreatDoor
namespace Go.Proofs.YtjkdiojicmcbaaaGreatDoor
open Sx
theorem gn1 (l : List OB) (x : OB) : (l ++ [x])[l.length]? = some x := by simp
theorem sn1 (l : List OB) (x y : OB) : (l ++ [x]).set l.length y = l ++ [y] := by simp
end Go.Proofs.YtjkdiojicmcbaaaGreatDoor
namespace Go.Proofs.YtjkdiojicmcbaaaGreatDoor
open Go.RowKit
theorem infoStr : (Tryz.prog.info? 9).map (fun i => (i.zero, i.size, i.bytes)) = some (some (.string ByteArray.empty), 1, 16) := by kernel_rfl
def sv (ls : List (List UInt8)) : List Value := ls.map fun l => .string (S l)
theorem sv_length (ls : List (List UInt8)) : (sv ls).length = ls.length := by simp [sv]
theorem sv_append (a b : List (List UInt8)) : sv (a ++ b) = sv a ++ sv b := by simp [sv]
theorem sv_get (ls : List (List UInt8)) (i : Nat) (h : i < ls.length) : (sv ls)[i]? = some (.string (S ls[i])) := by simp [sv, h]
theorem sv_one (ls : List (List UInt8)) : ∀ u ∈ sv ls, u.oneCell' = true := by
 intro u hu
 obtain ⟨c, _, rfl⟩ := List.mem_map.1 hu
 rfl
def Srow (w : World) (base : Nat) (v : Value) (ls : List (List UInt8)) : Prop := w.ownsRow base 9 1 v ls.length (sv ls)
theorem Srow.nil (w : World) (base : Nat) : Srow w base (.slice none 0 0) [] := World.ownsRow_nil w base _ _
theorem Srow.drew {w : World} {base : Nat} {v : Value} {l : List (List UInt8)} (h : Srow w base v l) : Srow w.drew base v l := h
theorem Srow.drewN {w : World} {base : Nat} {v : Value} {l : List (List UInt8)} (h : Srow w base v l) (n : Nat) : Srow (w.drewN n) base v l := h
theorem Srow.alloc {w : World} {base : Nat} {v : Value} {l : List (List UInt8)} (h : Srow w base v l) (o : Obj) : Srow (w.alloc o) base v l := World.ownsRow.alloc h o
theorem Srow.below {w w' : World} {base : Nat} {v : Value} {l : List (List UInt8)} (h : Srow w base v l) (hb : Qb w w') : Srow w' base v l := by
 refine World.ownsRow.kept (row := none) h ⟨hb.os, hb.tape, hb.output, Below.size hb, fun k hk _ => Below.block hb k hk⟩ ?_
 rcases h.2 with ⟨rfl, _⟩ | ⟨g, cap, cur, rfl, _⟩
 ·exact .inl rfl
 ·exact .inr (by simp [Value.ownBlock])
theorem Srow.form {w : World} {base : Nat} {v : Value} {l : List (List UInt8)} (h : Srow w base v l) (hl : 0 < l.length) : ∃ g cap, v = .slice (some ⟨g, 0, none⟩) l.length cap ∧ base ≤ g ∧ g < w.heap.size ∧ l.length ≤ cap := by
 rcases h.2 with ⟨rfl, hn⟩ | ⟨g, cap, cur, rfl, hb, hg, hnc, _⟩
 ·omega
 ·refine ⟨g, cap, rfl, hb, ?_, hnc⟩
  rcases Nat.lt_or_ge g w.heap.size with h1 | h1
  ·exact h1
  ·rw [Array.getElem?_eq_none h1] at hg; cases hg
theorem Srow.cell {w : World} {B g n cap : Nat} {l : List (List UInt8)} (h : Srow w B (.slice (some ⟨g, 0, none⟩) n cap) l) (j : Nat) (hj : j < l.length) : w.cell? ⟨g, j, none⟩ = some (.string (S l[j])) := by
 have h' := h
 rcases h'.2 with ⟨e, _⟩ | ⟨g', cap', cur, e, _⟩
 ·simp at e
 ·simp only [Value.slice.injEq] at e
  obtain ⟨_, rfl, _⟩ := e
  rw [World.ownsRow.cellAt (h : World.ownsRow _ _ _ _ _ _ _) j (by omega), sv_get l j hj]
theorem below_appendS {w w' : World} {B : Nat} {v : Value} {l : List (List UInt8)} (h : Srow w B v l) (hB : B ≤ w.heap.size) (hg : w.grownBy w' v.ownBlock) : Below B w w' :=
 (Below.refl B w).grown hg hB (fun k hk => (World.ownsRow.lt h k hk).1)
theorem Srow.appended {w' : World} {B : Nat} {v' : Value} {l m : List (List UInt8)} {xs : List Value} {n : Nat} (h : w'.ownsRow B 9 1 v' n xs) (hx : xs = sv (l ++ m)) (hn : n = (l ++ m).length) : Srow w' B v' (l ++ m) := by
 subst hx hn; exact h
theorem wpList_append_srow {w : World} {ops : Array Oper} {rest : List Oper} {o : Oper} {a : Act} {Q : Exit → Act → World → Prop} (hgd : o.guard = none) (s x : Operand)
  (ho : o.op = .call { callee := .builtin .append, args := #[s, x], argTypes := #[58, 58] })
  (B : Nat) (v : Value) (l m : List (List UInt8)) (hs : a.eval s = v) (hrow : Srow w B v l) (ad : Addr) (n c : Nat) (hx : a.eval x = .slice (some ad) n c) (hn : n = m.length)
  (hnews : ∀ j u, (sv m)[j]? = some u → w.cell? (ad.add j) = some u) (hlen : l.length + m.length ≤ 1000000000) (hB : B ≤ w.heap.size)
  (h : ∀ v' w', Srow w' B v' (l ++ m) → Below B w w' → wpList Tryz.prog ops Q rest (a.put o.dst v') w') : wpList Tryz.prog ops Q (o :: rest) a w := by
 obtain ⟨i0, hi, hz0, hz1, hz2⟩ := info_parts infoStr
 subst hn
 exact wpList_append_own w hgd s x _ ho B 9 i0 _ 1 16 Tryz.underlying58 hi hz0 hz1 hz2 rfl (by omega) v l.length (sv l) hs hrow ad m.length c (sv m) hx (by rw [sv_length]; omega) hnews (sv_one m)
  (by simp only [maxLen]; omega) (by omega) hB fun v' w' h1 h2 _ => h v' w' (Srow.appended h1 (sv_append l m).symm (by simp)) (below_appendS hrow hB h2)
theorem news1S (W : World) (a : ByteArray) : ∀ j u, (sv [a.data.toList])[j]? = some u → (W.alloc (.cells #[.string a] 9)).cell? ((⟨W.heap.size, 0, none⟩ : Addr).add j) = some u := by
 intro j u hj
 rw [add_plain, World.cell?_alloc_at _ _ _ _ rfl]
 have : sv [a.data.toList] = [.string a] := by simp [sv]
 rw [this] at hj
 simpa using hj
end Go.Proofs.YtjkdiojicmcbaaaGreatDoor
namespace Go.Proofs.YtjkdiojicmcbaaaGreatDoor
open Go.RowKit
def cutL (c : UInt8) : List UInt8 → List UInt8 × List UInt8 × Bool
 | [] => ([], [], false)
 | x :: t => if x = c then ([], t, true) else (x :: (cutL c t).1, (cutL c t).2.1, (cutL c t).2.2)
theorem cutL_idx (c : UInt8) : ∀ l : List UInt8, (Lib.indexByte l c = -1 ∧ cutL c l = (l, [], false) ∧ c ∉ l) ∨ ∃ k : Nat, Lib.indexByte l c = k ∧ k < l.length ∧ cutL c l = (l.take k, l.drop (k + 1), true) ∧ l[k]? = some c
 | [] => .inl ⟨rfl, rfl, by simp⟩
 | x :: t => by
  unfold Lib.indexByte cutL
  by_cases h : x = c
  ·subst h
   exact .inr ⟨0, by simp, by simp, by simp, by simp⟩
  ·rw [if_neg (by simpa using h), if_neg h]
   rcases cutL_idx c t with ⟨h1, h2, h3⟩ | ⟨k, h1, h2, h3, h4⟩
   ·refine .inl ⟨by rw [h1]; rfl, by rw [h2], ?_⟩
    simp only [List.mem_cons, not_or]
    exact ⟨fun e => h e.symm, h3⟩
   ·refine .inr ⟨k + 1, ?_, by simpa using h2, ?_, by simpa using h4⟩
    ·rw [h1, if_neg (by simp only [beq_iff_eq]; omega)]; omega
    ·rw [h3]; simp
theorem cutL_len (c : UInt8) (l : List UInt8) : (cutL c l).1.length ≤ l.length ∧ ((cutL c l).2.2 = true → (cutL c l).1.length + (cutL c l).2.1.length + 1 = l.length) ∧ ((cutL c l).2.2 = false → (cutL c l).1 = l ∧ (cutL c l).2.1 = []) := by
 rcases cutL_idx c l with ⟨h1, h2, h3⟩ | ⟨k, h1, h2, h3, h4⟩
 ·rw [h2]; simp
 ·rw [h3]; simp; omega
theorem cutL_lens (c : UInt8) (l : List UInt8) : (cutL c l).1.length ≤ l.length ∧ (cutL c l).2.1.length ≤ l.length := by
 rcases cutL_idx c l with ⟨h1, h2, h3⟩ | ⟨k, h1, h2, h3, h4⟩
 ·rw [h2]; simp
 ·rw [h3]; simp; omega
def splitL (c : UInt8) : List UInt8 → List (List UInt8)
 | [] => [[]]
 | x :: t => if x = c then [] :: splitL c t else match splitL c t with
  | p :: ps => (x :: p) :: ps
  | [] => [[x]]
theorem splitL_ne (c : UInt8) : ∀ l, ∃ p ps, splitL c l = p :: ps
 | [] => ⟨_, _, rfl⟩
 | x :: t => by
  unfold splitL
  by_cases h : x = c
  ·rw [if_pos h]; exact ⟨_, _, rfl⟩
  ·rw [if_neg h]
   obtain ⟨p, ps, e⟩ := splitL_ne c t
   rw [e]; exact ⟨_, _, rfl⟩
theorem splitL_pos (c : UInt8) (l : List UInt8) : 0 < (splitL c l).length := by obtain ⟨p, ps, e⟩ := splitL_ne c l; rw [e]; simp
theorem splitL_len (c : UInt8) : ∀ l, (splitL c l).length ≤ l.length + 1
 | [] => by simp [splitL]
 | x :: t => by
  have := splitL_len c t
  unfold splitL
  by_cases h : x = c
  ·rw [if_pos h]; simp; omega
  ·rw [if_neg h]
   obtain ⟨p, ps, e⟩ := splitL_ne c t
   rw [e] at this ⊢
   simp at this ⊢; omega
theorem splitL_cons (c x : UInt8) (t : List UInt8) : splitL c (x :: t) = if x = c then [] :: splitL c t else match splitL c t with
  | p :: ps => (x :: p) :: ps
  | [] => [[x]] := rfl
theorem cutL_cons (c x : UInt8) (t : List UInt8) : cutL c (x :: t) = if x = c then ([], t, true) else (x :: (cutL c t).1, (cutL c t).2.1, (cutL c t).2.2) := rfl
theorem splitL_cut (c : UInt8) : ∀ l, splitL c l = if (cutL c l).2.2 = true then (cutL c l).1 :: splitL c (cutL c l).2.1 else [l]
 | [] => rfl
 | x :: t => by
  have ih := splitL_cut c t
  rw [splitL_cons, cutL_cons]
  by_cases h : x = c
  ·rw [if_pos h, if_pos h, if_pos rfl]
  ·rw [if_neg h, if_neg h, ih]
   by_cases h2 : (cutL c t).2.2 = true
   ·rw [if_pos h2, if_pos h2]
   ·rw [if_neg h2, if_neg h2]
def scanStep (c : UInt8) (r : List (List UInt8) × List UInt8) (x : UInt8) : List (List UInt8) × List UInt8 := if x = c then (r.1 ++ [r.2], []) else (r.1, r.2 ++ [x])
def scanL (c : UInt8) (l : List UInt8) : List (List UInt8) × List UInt8 := l.foldl (scanStep c) ([], [])
theorem scanL_snoc (c x : UInt8) (l : List UInt8) : scanL c (l ++ [x]) = scanStep c (scanL c l) x := by unfold scanL; rw [List.foldl_append]; rfl
theorem scan_split (c : UInt8) : ∀ (l : List UInt8) (d : List (List UInt8)) (cur p : List UInt8) (ps : List (List UInt8)), splitL c l = p :: ps → (l.foldl (scanStep c) (d, cur)).1 ++ [(l.foldl (scanStep c) (d, cur)).2] = d ++ (cur ++ p) :: ps
 | [], d, cur, p, ps, h => by
  rw [splitL] at h; injection h with h1 h2; subst h1 h2; simp
 | x :: t, d, cur, p, ps, h => by
  rw [splitL_cons] at h
  obtain ⟨q, qs, e⟩ := splitL_ne c t
  rw [List.foldl_cons]
  by_cases hx : x = c
  ·rw [if_pos hx] at h
   injection h with h1 h2
   subst h1
   rw [show scanStep c (d, cur) x = (d ++ [cur], []) from if_pos hx, scan_split c t _ _ q qs e, ← h2, e]
   simp
  ·rw [if_neg hx, e] at h
   injection h with h1 h2
   subst h1 h2
   rw [show scanStep c (d, cur) x = (d, cur ++ [x]) from if_neg hx, scan_split c t _ _ q qs e]
   simp
theorem splitL_scan (c : UInt8) (l : List UInt8) : splitL c l = (scanL c l).1 ++ [(scanL c l).2] := by
 obtain ⟨p, ps, e⟩ := splitL_ne c l
 unfold scanL
 rw [scan_split c l [] [] p ps e, e]; rfl
def cutV (x : List UInt8 × List UInt8 × Bool) : Value := .tuple #[.string (S x.1), .string (S x.2.1), .bool x.2.2]
theorem lCut_any (s : ByteArray) (c : UInt8) (w : World) (hs : s.size ≤ maxLen) :
  Calls Tryz.prog 88 #[.string s, .string ⟨#[c]⟩] w fun e w' => e = .returned (cutV (cutL c s.data.toList)) ∧ Qb w w' := by
 unfold maxLen at hs
 rcases cutL_idx c s.data.toList with ⟨h1, h2, _⟩ | ⟨k, h1, h2, h3, _⟩
 ·have HI := Lib.hid h1
  have HC := Lib.hid h2
  clear h1 h2
  go_enter Tryz.func88, Tryz.ntmps88
  go_wp2_with fail
  refine (Tryz.stringslite_Index_one _ _ _).mono ?_
  rintro e w' ⟨rfl, rfl⟩
  rw [HI.out]
  go_wp2_with fail
  go_ret3
  exact ⟨by rw [HC.out]; rfl, Qb.refl _⟩
 ·rw [size_list] at h2
  have HI := Lib.hid h1
  have HC := Lib.hid h3
  clear h1 h3
  have i0 : (0 : Int) ≤ (k : Int) := by omega
  have i1 : (k : Int) < (s.size : Int) := by omega
  have q1 : IntKind.i64.wrap ((k : Int) + 1) = (k : Int) + 1 := IntWalk.i64_in _ (by omega)
  have q2 : (0 : Int) ≤ (k : Int) + 1 := by omega
  have q3 : ((k : Int) + 1).toNat = k + 1 := by omega
  have q4 : (k : Int) + 1 ≤ (s.size : Int) := by omega
  go_enter Tryz.func88, Tryz.ntmps88
  go_wp2_with fail
  refine (Tryz.stringslite_Index_one _ _ _).mono ?_
  rintro e w' ⟨rfl, rfl⟩
  rw [HI.out]
  go_wp2_with fail
  go_quiet (fail)
  go_wp2_with fail
  go_ret3
  refine ⟨?_, (Qb.refl _).drewN _⟩
  rw [HC.out]
  refine congrArg Ending.returned (congrArg Value.tuple ?_)
  rw [show S (s.data.toList.take k) = s.extract 0 k from by rw [← S_of (s.extract 0 k), Lib.extract_data]; simp, show S (s.data.toList.drop (k + 1)) = s.extract (k + 1) s.size from by
   rw [← S_of (s.extract (k + 1) s.size), Lib.extract_data]; congr 2; rw [List.take_of_length_le]; rw [List.length_drop, size_list]; omega]
  try rfl
theorem Cut_any (s : ByteArray) (c : UInt8) (w : World) (hs : s.size ≤ maxLen) :
  Calls Tryz.prog 44 #[.string s, .string ⟨#[c]⟩] w fun e w' => e = .returned (cutV (cutL c s.data.toList)) ∧ Qb w w' := by
 go_enter Tryz.func44, Tryz.ntmps44
 go_wp2_with fail
 refine (lCut_any _ _ _ hs).mono ?_
 rintro e w' ⟨rfl, hq⟩
 unfold cutV
 go_wp2_with fail
 go_ret3
 exact ⟨rfl, hq⟩
theorem extract_pre (s : ByteArray) (k : Nat) : s.extract 0 k = S (s.data.toList.take k) := by rw [← S_of (s.extract 0 k), Lib.extract_data]; simp
theorem extract_mid (s : ByteArray) (i j : Nat) : s.extract i j = S ((s.data.toList.drop i).take (j - i)) := by rw [← S_of (s.extract i j), Lib.extract_data]
theorem extract_suf (s : ByteArray) (k : Nat) : s.extract k s.size = S (s.data.toList.drop k) := by
 rw [extract_mid, List.take_of_length_le (by rw [List.length_drop, size_list]; omega)]
def SplitPost (l : List UInt8) (c : UInt8) (w : World) (e : Ending) (w' : World) : Prop := ∃ v, e = .returned v ∧ Srow w' w.heap.size v (splitL c l) ∧ Qb w w'
theorem rSplit_any (s : ByteArray) (c : UInt8) (w : World) (hs : s.size ≤ 1000000) :
  Calls Tryz.prog 38 #[.string s, .int .u8 c.toNat] w (SplitPost s.data.toList c w) := by
 go_enter Tryz.func38, Tryz.ntmps38
 go_wp2_with fail
 go_loopw [5, 6, 7] (fun v f i wr => ∃ (k j : Nat) (ls : List (List UInt8)), k ≤ s.size ∧ j ≤ k ∧ ls.length ≤ k ∧ i = .int .i64 k ∧ f = .int .i64 j ∧ Srow wr w.heap.size v ls ∧ Hid (scanL c (s.data.toList.take k) = (ls, (s.data.toList.drop j).take (k - j))) ∧ Qb w wr) (fun _ _ i _ => s.size - (intOf i).toNat)
 case atStart => exact ⟨0, 0, [], Nat.zero_le _, Nat.le_refl _, Nat.le_refl _, rfl, rfl, Srow.nil _ _, Lib.hid (by simp [scanL]), Qb.refl w⟩
 case round =>
  obtain ⟨k, j, ls, hk, hj, hls, rfl, rfl, hrow, HL, hq⟩ := hrel
  have hB : w.heap.size ≤ wr.heap.size := hq.size
  have HX := Lib.hid (extract_mid s j k)
  by_cases hlt : k < s.size
  ·have HS := Lib.hid ((congrArg (scanL c) (take_snoc s k hlt)).trans (scanL_snoc c s[k] (s.data.toList.take k)))
   by_cases hc : s[k] = c
   ·have hb : ((s[k].toNat : Int) == (c.toNat : Int)) = true := by rw [hc]; exact beq_self_eq_true _
    have HN : Hid (scanL c (s.data.toList.take (k + 1)) = (ls ++ [(s.extract j k).data.toList], (s.data.toList.drop (k + 1)).take (k + 1 - (k + 1)))) := Lib.hid (by
     rw [HS.out, HL.out]; unfold scanStep; rw [if_pos hc, HX.out]; simp)
    clear hc HS HL
    go_wp2_with (at_builtin; refine wpList_append_srow rfl (.tmp 19) (.tmp 24) rfl w.heap.size _ ls [(s.extract j k).data.toList] rfl (hrow.alloc _) _ _ _ rfl rfl (news1S _ _) (by simp; omega) (by simp; omega) ?_; intro v1 w1 hr1 hb1)
    go_roundw
    case rel => exact ⟨k + 1, k + 1, _, by omega, by omega, by simp; omega, by go_num, by go_num, hr1, HN, Below.trans (hq.alloc _) hb1⟩
    case measure => simp [intOf]; omega
   ·have hb : ((s[k].toNat : Int) == (c.toNat : Int)) = false := by
     rw [beq_eq_false_iff_ne]; intro e; exact hc (UInt8.toNat_inj.1 (by omega))
    have HN : Hid (scanL c (s.data.toList.take (k + 1)) = (ls, (s.data.toList.drop j).take (k + 1 - j))) := Lib.hid (by
     rw [HS.out, HL.out]; unfold scanStep; rw [if_neg hc]
     have e1 : (s.data.toList.drop j).take (k + 1 - j) = (s.data.toList.drop j).take (k - j) ++ [s[k]] := by
      rw [show k + 1 - j = (k - j) + 1 from by omega, List.take_succ_eq_append_getElem (by rw [List.length_drop, size_list]; omega), List.getElem_drop]
      congr 2
      rw [← at_list s k hlt]
      congr 1; omega
     rw [e1])
    clear hc HS HL
    go_wp2_with fail
    go_roundw
    case rel => exact ⟨k + 1, j, ls, by omega, by omega, by omega, by go_num, rfl, hrow, HN, hq⟩
    case measure => simp [intOf]; omega
  ·obtain rfl : k = s.size := by omega
   have HN : Hid (splitL c s.data.toList = ls ++ [(s.extract j s.size).data.toList]) := Lib.hid (by
    rw [splitL_scan, ← take_all s s.size hlt, HL.out, HX.out])
   clear HL
   go_wp2_with (at_builtin; refine wpList_append_srow rfl (.tmp 28) (.tmp 32) rfl w.heap.size _ ls [(s.extract j s.size).data.toList] rfl (hrow.alloc _) _ _ _ rfl rfl (news1S _ _) (by simp; omega) (by simp; omega) ?_; intro v1 w1 hr1 hb1)
   go_ret
   exact ⟨v1, rfl, by rw [HN.out]; exact hr1, Below.trans (hq.alloc _) hb1⟩
end Go.Proofs.YtjkdiojicmcbaaaGreatDoor
namespace Go.Proofs.YtjkdiojicmcbaaaGreatDoor
structure UriP where
 scheme : List UInt8
 auth : List UInt8
 path : List UInt8
 query : List UInt8
 frag : List UInt8
 hs : Bool
 ha : Bool
 hq : Bool
 hf : Bool
def uriZ : UriP := ⟨[], [], [], [], [], false, false, false, false⟩
def uriCells (u : UriP) : Array Value := #[.string (S u.scheme), .string (S u.auth), .string (S u.path), .string (S u.query), .string (S u.frag), .bool u.hs, .bool u.ha, .bool u.hq, .bool u.hf]
def uriA (u : UriP) : Value := .agg (uriCells u)
def uriV (r : Int × UriP) : Value := .tuple #[uriA r.2, .int .i64 r.1]
def firstL (l : List UInt8) : List UInt8 := (cutL 47 l).1
def scB (c : UInt8) : Bool := isAlpha c || isDigit c || hasB c [43, 45, 46]
def schemeB : List UInt8 → Bool
 | [] => false
 | c :: t => isAlpha c && t.all scB
def twoSl (l : List UInt8) : Bool := Lib.hasPrefix l [47, 47]
theorem twoSl_drop {l : List UInt8} (h : twoSl l = true) : Lib.trimPrefix l [47, 47] = l.drop 2 := by unfold Lib.trimPrefix; rw [if_pos (show Lib.hasPrefix l [47, 47] = true from h)]; rfl
theorem twoSl_len {l : List UInt8} (h : twoSl l = true) : 2 ≤ l.length := by
 have := (List.isPrefixOf_iff_prefix.1 h).length_le
 simpa using this
def bodyL (l : List UInt8) : List UInt8 := (cutL 63 (cutL 35 l).1).1
def schCut (l : List UInt8) : List UInt8 × List UInt8 × Bool := cutL 58 (firstL (bodyL l))
def hierL (l : List UInt8) : List UInt8 := if (schCut l).2.2 = true then (bodyL l).drop ((schCut l).1.length + 1) else bodyL l
def authL (r : List UInt8) : List UInt8 := if twoSl r = true then firstL (r.drop 2) else []
def pathL (r : List UInt8) : List UInt8 := if twoSl r = true then (r.drop 2).drop (authL r).length else r
def splitE (l : List UInt8) : Int × UriP :=
 if 16384 < l.length then (5, uriZ)
 else if ((schCut l).2.2 && !schemeB (schCut l).1) = true then (6, uriZ)
 else (0, { scheme := if (schCut l).2.2 = true then (schCut l).1 else [], auth := authL (hierL l), path := pathL (hierL l), query := (cutL 63 (cutL 35 l).1).2.1, frag := (cutL 35 l).2.1, hs := (schCut l).2.2, ha := twoSl (hierL l), hq := (cutL 63 (cutL 35 l).1).2.2, hf := (cutL 35 l).2.2 })
theorem firstL_pre (l : List UInt8) : firstL l = l.take (firstL l).length ∧ (firstL l).length ≤ l.length := by
 unfold firstL
 rcases cutL_idx 47 l with ⟨h1, h2, h3⟩ | ⟨k, h1, h2, h3, h4⟩
 ·rw [h2]; simp
 ·rw [h3]; simp; omega
end Go.Proofs.YtjkdiojicmcbaaaGreatDoor
namespace Go.Proofs.YtjkdiojicmcbaaaGreatDoor
open Go.RowKit
def Obk (w : World) (g : Nat) (t : TypeId) (cs : Array Value) : Prop := w.heap[g]? = some (.cells cs t (0, 0))
theorem Obk.lt {w : World} {g : Nat} {t : TypeId} {cs : Array Value} (h : Obk w g t cs) : g < w.heap.size := by
 rcases Nat.lt_or_ge g w.heap.size with h1 | h1
 ·exact h1
 ·unfold Obk at h; rw [Array.getElem?_eq_none h1] at h; cases h
theorem Obk.cell {w : World} {g : Nat} {t : TypeId} {cs : Array Value} (h : Obk w g t cs) (i : Nat) : w.cell? ⟨g, i, none⟩ = cs[i]? := cell_of_row w g i cs t (0, 0) h
theorem Obk.frozen {w : World} {g : Nat} {t : TypeId} {cs : Array Value} (h : Obk w g t cs) (i : Nat) : w.frozen? ⟨g, i, none⟩ = false := by
 unfold Obk at h; simp [World.frozen?, h]
theorem Obk.new (w : World) (t : TypeId) (cs : Array Value) : Obk (w.alloc (.cells cs t)) w.heap.size t cs := heap_alloc_new w _
theorem Obk.qb {w w' : World} {g : Nat} {t : TypeId} {cs : Array Value} (h : Obk w g t cs) (hq : Qb w w') : Obk w' g t cs := (hq.block g h.lt).trans h
theorem Obk.alloc {w : World} {g : Nat} {t : TypeId} {cs : Array Value} (h : Obk w g t cs) (o : Obj) : Obk (w.alloc o) g t cs := (Below.heap_alloc w o g h.lt).trans h
theorem Obk.drew {w : World} {g : Nat} {t : TypeId} {cs : Array Value} (h : Obk w g t cs) : Obk w.drew g t cs := h
theorem Obk.drewN {w : World} {g : Nat} {t : TypeId} {cs : Array Value} (h : Obk w g t cs) (n : Nat) : Obk (w.drewN n) g t cs := h
theorem Obk.put {w : World} {g : Nat} {t : TypeId} {cs : Array Value} (h : Obk w g t cs) (i : Nat) (u : Value) : Obk (w.setCell ⟨g, i, none⟩ u) g t (cs.setIfInBounds i u) := by
 unfold Obk at h ⊢
 simp [World.setCell, Array.getElem?_modify, h]
theorem Obk.far {w : World} {g : Nat} {t : TypeId} {cs : Array Value} (h : Obk w g t cs) {p : Addr} (hp : g ≠ p.block) (u : Value) : Obk (w.setCell p u) g t cs := (Below.heap_setCell w p u g hp).trans h
theorem Obk.at_ (w : World) (t : TypeId) (cs : Array Value) (g : Nat) (h : w.heap.size = g) : Obk (w.alloc (.cells cs t)) g t cs := by subst h; exact Obk.new w t cs
theorem Obk.st {w : World} {g : Nat} {t : TypeId} {cs : Array Value} (h : Obk w g t cs) (b o : Nat) (u : Value) (hne : g ≠ b) : Obk (w.setCell ⟨b, o, none⟩ u) g t cs := h.far (p := ⟨b, o, none⟩) hne u
theorem Qb.st {a c : World} (h : Qb a c) (b o : Nat) (u : Value) (hb : a.heap.size ≤ b) : Qb a (c.setCell ⟨b, o, none⟩ u) := h.set (p := ⟨b, o, none⟩) hb u
theorem Obk.other {w w' : World} {g b : Nat} {t : TypeId} {cs : Array Value} (h : Obk w g t cs) (hg : w.grownBy w' (some b)) (hne : g ≠ b) : Obk w' g t cs := (hg.block g h.lt (fun e => hne (Option.some.inj e))).trans h
theorem grown_set (w : World) (g i : Nat) (u : Value) : w.grownBy (w.setCell ⟨g, i, none⟩ u) (some g) :=
 ⟨rfl, rfl, rfl, by simp [World.setCell], fun k hk hne => Below.heap_setCell w _ u k (by intro e; exact hne (by rw [e]))⟩
theorem Qb.turned {a b c : World} {g : Nat} (h : Qb a b) (hg : b.grownBy c (some g)) (hr : a.heap.size ≤ g) : Qb a c := h.grown hg (fun k hk => by rw [← Option.some.inj hk]; exact hr)
end Go.Proofs.YtjkdiojicmcbaaaGreatDoor
namespace Go.Proofs.YtjkdiojicmcbaaaGreatDoor
open Go.RowKit
theorem firstPart_any (s : ByteArray) (w : World) (hs : s.size ≤ maxLen) :
  Calls Tryz.prog 168 #[.string s] w fun e w' => e = .returned (.string (S (firstL s.data.toList))) ∧ Qb w w' := by
 obtain ⟨p, q, b, hcut⟩ : ∃ p q b, cutL 47 s.data.toList = (p, q, b) := ⟨_, _, _, rfl⟩
 have HC := Lib.hid hcut
 clear hcut
 go_enter Tryz.func168, Tryz.ntmps168
 go_wp2_with fail
 refine (Cut_any s 47 _ hs).mono ?_
 rintro e w1 ⟨rfl, hq1⟩
 rw [HC.out]
 unfold cutV
 go_wp2_with fail
 go_ret
 exact ⟨ret_strl (by unfold firstL; rw [HC.out]), hq1⟩
theorem schemeEnd_any (s : ByteArray) (w : World) (hs : s.size ≤ maxLen) :
  Calls Tryz.prog 166 #[.string s] w fun e w' => e = .returned (.int .i64 (Lib.indexByte (firstL s.data.toList) 58)) ∧ Qb w w' := by
 go_enter Tryz.func166, Tryz.ntmps166
 go_wp2_with fail
 refine (firstPart_any s _ hs).mono ?_
 rintro e w1 ⟨rfl, hq1⟩
 go_wp2_with fail
 refine (Tryz.strings_IndexByte _ _ _).mono ?_
 rintro e w2 ⟨rfl, rfl⟩
 go_wp2_with fail
 go_ret
 exact ⟨rfl, hq1⟩
def schT (l : List UInt8) : Bool := match l with | [] => true | c :: t => isAlpha c && t.all scB
theorem schT_snoc (l : List UInt8) (x : UInt8) : schT (l ++ [x]) = (schT l && (if l = [] then isAlpha x else scB x)) := by
 rcases l with _ | ⟨c, t⟩
 ·simp [schT]
 ·simp [schT, Bool.and_assoc]
theorem schT_pre {l : List UInt8} {k : Nat} (h : schT (l.take k) = false) : schT l = false := by
 rcases l with _ | ⟨c, t⟩
 ·simp [schT] at h
 ·rcases k with _ | k
  ·simp [schT] at h
  ·rw [List.take_succ_cons] at h
   have h' : (isAlpha c && (t.take k).all scB) = false := h
   show (isAlpha c && t.all scB) = false
   rcases hc : isAlpha c with _ | _
   ·rfl
   ·rw [hc, Bool.true_and] at h'
    rw [all_take_false scB t k h']; rfl
theorem schemeB_T {l : List UInt8} (h : l ≠ []) : schemeB l = schT l := by
 rcases l with _ | ⟨c, t⟩
 ·exact absurd rfl h
 ·rfl
theorem idx_neg {l : List UInt8} {c : UInt8} : Lib.indexByte l c < 0 ↔ hasB c l = false := by
 unfold hasB
 rcases cutL_idx c l with ⟨h1, h2, h3⟩ | ⟨k, h1, h2, h3, h4⟩
 ·rw [h1]; simp [h3]
 ·rw [h1]
  have := List.mem_of_getElem? h4
  simp [this]
theorem isScheme_any (s : ByteArray) (w : World) (hs : s.size ≤ maxLen) :
  Calls Tryz.prog 167 #[.string s] w fun e w' => e = .returned (.bool (schemeB s.data.toList)) ∧ w = w' := by
 unfold maxLen at hs
 go_enter Tryz.func167, Tryz.ntmps167
 go_wp2_with fail
 go_loop [6] (fun i => ∃ k : Nat, k ≤ s.size ∧ i = .int .i64 k ∧ Hid (schT (s.data.toList.take k) = true)) (fun i => s.size - (intOf i).toNat)
 case atStart => exact ⟨0, Nat.zero_le _, rfl, Lib.hid rfl⟩
 case round =>
  obtain ⟨k, hk, rfl, HT⟩ := hrel
  by_cases hlt : k < s.size
  ·have hne : Hid (s.data.toList ≠ []) := Lib.hid (fun e => by have := size_list s; rw [e] at this; simp at this; omega)
   have hstep : schT (s.data.toList.take (k + 1)) = (if s.data.toList.take k = [] then isAlpha s[k] else scB s[k]) := by
    rw [take_snoc s k hlt, schT_snoc, HT.out, Bool.true_and]
   have hbad : schT (s.data.toList.take (k + 1)) = false → Hid (schemeB s.data.toList = false) := fun h => Lib.hid (by rw [schemeB_T hne.out, schT_pre h])
   rcases ha : isAlpha s[k] with _ | _
   ·by_cases hk0 : k = 0
    ·subst hk0
     have HB := hbad (by rw [hstep, List.take_zero, if_pos rfl, ha])
     have H1 := Lib.hid ha
     clear ha hstep hbad
     go_wp2_with fail
     refine (IsAlpha_any _ _).mono ?_
     rintro e w' ⟨rfl, rfl⟩
     rw [H1.out]
     go_wp2_with fail
     go_ret
     exact ⟨ret_bool (by rw [HB.out]), rfl⟩
    ·have hkb : ((k : Int) == 0) = false := by rw [beq_eq_false_iff_ne]; omega
     have htk : s.data.toList.take k ≠ [] := fun e => by have := congrArg List.length e; rw [List.length_take, size_list, List.length_nil] at this; omega
     rw [if_neg htk] at hstep
     rcases hd : isDigit s[k] with _ | _
     ·rcases hi : hasB s[k] [43, 45, 46] with _ | _
      ·have HB := hbad (by rw [hstep]; unfold scB; rw [ha, hd, hi]; rfl)
       have hidx : Lib.indexByte [43, 45, 46] s[k] < 0 := idx_neg.2 hi
       have H1 := Lib.hid ha
       have H2 := Lib.hid hd
       clear ha hd hi hstep hbad hk0 htk
       go_wp2_with fail
       refine (IsAlpha_any _ _).mono ?_
       rintro e w' ⟨rfl, rfl⟩
       rw [H1.out]
       go_wp2_with fail
       refine (IsDigit_any _ _).mono ?_
       rintro e w' ⟨rfl, rfl⟩
       rw [H2.out]
       go_wp2_with fail
       refine (Tryz.strings_IndexByte _ _ _).mono ?_
       rintro e w2 ⟨rfl, rfl⟩
       rw [S_list, u8_toNat_int]
       go_wp2_with fail
       go_ret
       exact ⟨ret_bool (by rw [HB.out]), rfl⟩
      ·have HB : Hid (schT (s.data.toList.take (k + 1)) = true) := Lib.hid (by rw [hstep]; unfold scB; rw [ha, hd, hi]; rfl)
       have hidx : 0 ≤ Lib.indexByte [43, 45, 46] s[k] := by
        by_cases h : Lib.indexByte [43, 45, 46] s[k] < 0
        ·rw [idx_neg.1 h] at hi; cases hi
        ·omega
       have H1 := Lib.hid ha
       have H2 := Lib.hid hd
       clear ha hd hi hstep hbad hk0 htk
       go_wp2_with fail
       refine (IsAlpha_any _ _).mono ?_
       rintro e w' ⟨rfl, rfl⟩
       rw [H1.out]
       go_wp2_with fail
       refine (IsDigit_any _ _).mono ?_
       rintro e w' ⟨rfl, rfl⟩
       rw [H2.out]
       go_wp2_with fail
       refine (Tryz.strings_IndexByte _ _ _).mono ?_
       rintro e w2 ⟨rfl, rfl⟩
       rw [S_list, u8_toNat_int]
       go_wp2_with fail
       go_round
       case rel => exact ⟨k + 1, by omega, by go_num, HB⟩
       case measure => simp [intOf]; omega
     ·have HB : Hid (schT (s.data.toList.take (k + 1)) = true) := Lib.hid (by rw [hstep]; unfold scB; rw [ha, hd]; rfl)
      have H1 := Lib.hid ha
      have H2 := Lib.hid hd
      clear ha hd hstep hbad hk0 htk
      go_wp2_with fail
      refine (IsAlpha_any _ _).mono ?_
      rintro e w' ⟨rfl, rfl⟩
      rw [H1.out]
      go_wp2_with fail
      refine (IsDigit_any _ _).mono ?_
      rintro e w' ⟨rfl, rfl⟩
      rw [H2.out]
      go_wp2_with fail
      go_round
      case rel => exact ⟨k + 1, by omega, by go_num, HB⟩
      case measure => simp [intOf]; omega
   ·have HB : Hid (schT (s.data.toList.take (k + 1)) = true) := Lib.hid (by rw [hstep]; unfold scB; rw [ha]; split <;> rfl)
    have H1 := Lib.hid ha
    clear ha hstep hbad
    go_wp2_with fail
    refine (IsAlpha_any _ _).mono ?_
    rintro e w' ⟨rfl, rfl⟩
    rw [H1.out]
    go_wp2_with fail
    go_round
    case rel => exact ⟨k + 1, by omega, by go_num, HB⟩
    case measure => simp [intOf]; omega
  ·have HE := Lib.hid (take_all s k hlt)
   by_cases h0 : s.size = 0
   ·obtain rfl : s = S [] := S_nil_of h0
    clear h0 hs hk hlt HE HT
    go_wp2_with fail
    go_ret
    exact ⟨rfl, rfl⟩
   ·have hne : s.data.toList ≠ [] := fun e => by have := size_list s; rw [e] at this; simp at this; omega
    have he1 : s.toList.isEmpty = false := by rw [ByteArray.toList_eq]; simpa using hne
    have HB : Hid (schemeB s.data.toList = true) := Lib.hid (by rw [schemeB_T hne, ← HE.out, HT.out])
    clear hne h0
    go_wp2_with fail
    go_ret
    exact ⟨ret_bool (by rw [HB.out]), rfl⟩
def CutPost (c : UInt8) (l : List UInt8) (g : Nat) (w : World) (e : Ending) (w' : World) : Prop :=
 e = .returned (.tuple #[.string (S (cutL c l).2.1), .bool (cutL c l).2.2]) ∧ Obk w' g 9 #[.string (S (cutL c l).1)] ∧ w.grownBy w' (some g)
theorem cutAfter_any (l : List UInt8) (c : UInt8) (g : Nat) (w : World) (hl : l.length ≤ 9223372036854775806) (hk : Obk w g 9 #[.string (S l)]) :
  Calls Tryz.prog 165 #[.int .u8 c.toNat, .pointer (some ⟨g, 0, none⟩)] w (CutPost c l g w) := by
 have hc0 : w.cell? ⟨g, 0, none⟩ = some (.string (S l)) := hk.cell 0
 have hf0 := hk.frozen 0
 have hp := hk.put 0
 have hz := S_size l
 rcases cutL_idx c l with ⟨h1, h2, _⟩ | ⟨k, h1, h2, h3, _⟩
 ·have HI := Lib.hid h1
  have HC := Lib.hid h2
  have HK := Lib.hid hk
  clear h1 h2 hk hp hz
  go_enter Tryz.func165, Tryz.ntmps165
  go_wp2_with fail
  refine (Tryz.strings_IndexByte _ _ _).mono ?_
  rintro e w2 ⟨rfl, rfl⟩
  rw [S_list, u8_toNat_int, HI.out]
  go_wp2_with fail
  go_ret2
  exact ⟨by rw [HC.out]; rfl, by rw [HC.out]; exact HK.out, World.grownBy.refl _ _⟩
 ·have HI := Lib.hid h1
  have HC := Lib.hid h3
  have HP := Lib.hid hp
  have i1 : (k : Int) < (l.length : Int) := by omega
  clear h1 h3 hk hp hz
  go_enter Tryz.func165, Tryz.ntmps165
  go_wp2_with fail
  refine (Tryz.strings_IndexByte _ _ _).mono ?_
  rintro e w2 ⟨rfl, rfl⟩
  rw [S_list, u8_toNat_int, HI.out]
  go_wp2_with fail
  go_ret2
  have e1 : (S l).extract (k + 1) l.length = S (l.drop (k + 1)) := by
   have := extract_suf (S l) (k + 1)
   rw [S_size, S_list] at this; exact this
  have e2 : (S l).extract 0 k = S (l.take k) := extract_pre (S l) k
  refine ⟨?_, ?_, ?_⟩
  ·rw [HC.out]
   show Ending.returned (.tuple #[.string ((S l).extract (k + 1) l.length), .bool true]) = _
   rw [e1]
  ·rw [HC.out]
   show Obk _ _ _ #[.string (S (l.take k))]
   rw [← e2]
   exact HP.out _
  ·exact grown_set _ _ _ _
end Go.Proofs.YtjkdiojicmcbaaaGreatDoor
namespace Go.Proofs.YtjkdiojicmcbaaaGreatDoor
open Go.RowKit
theorem Split_long (s : ByteArray) (w : World) (h : 16384 < s.size) :
  Calls Tryz.prog 133 #[.string s] w fun e w' => e = .returned (uriV (splitE s.data.toList)) ∧ Qb w w' := by
 have HE : Hid (splitE s.data.toList = (5, uriZ)) := Lib.hid (by unfold splitE; rw [if_pos (by rw [size_list]; exact h)])
 go_enter Tryz.func133, Tryz.ntmps133
 go_wp2_with fail
 exact bodyPost_ret (v := uriV (5, uriZ)) (by simp [results, Tryz.results133, go_sem, uriV, uriA, uriCells, uriZ]) rfl ⟨by rw [HE.out], (Qb.refl w).alloc _⟩
set_option maxHeartbeats 2000000 in
theorem Split_short (s : ByteArray) (w : World) (h : s.size ≤ 16384) :
  Calls Tryz.prog 133 #[.string s] w fun e w' => e = .returned (uriV (splitE s.data.toList)) ∧ Qb w w' := by
 obtain ⟨l1, fr, bf, h35⟩ : ∃ l1 fr bf, cutL 35 s.data.toList = (l1, fr, bf) := ⟨_, _, _, rfl⟩
 obtain ⟨l2, qu, bq, h63⟩ : ∃ l2 qu bq, cutL 63 l1 = (l2, qu, bq) := ⟨_, _, _, rfl⟩
 have hl1 : l1.length ≤ 16384 := by have := (cutL_lens 35 s.data.toList).1; rw [h35, size_list] at this; simp at this; omega
 have hl2 : l2.length ≤ 16384 := by have := (cutL_lens 63 l1).1; rw [h63] at this; simp at this; omega
 have HB : Hid (bodyL s.data.toList = l2) := Lib.hid (by unfold bodyL; rw [h35]; simp only; rw [h63])
 have HS : Hid (schCut s.data.toList = cutL 58 (firstL l2)) := Lib.hid (by unfold schCut; rw [HB.out])
 have HE : Hid (splitE s.data.toList = if ((schCut s.data.toList).2.2 && !schemeB (schCut s.data.toList).1) = true then (6, uriZ) else (0, { scheme := if (schCut s.data.toList).2.2 = true then (schCut s.data.toList).1 else [], auth := authL (hierL s.data.toList), path := pathL (hierL s.data.toList), query := qu, frag := fr, hs := (schCut s.data.toList).2.2, ha := twoSl (hierL s.data.toList), hq := bq, hf := bf })) := Lib.hid (by
  unfold splitE; rw [if_neg (by rw [size_list]; omega), h35]; simp only; rw [h63])
 have H35 := Lib.hid h35
 have H63 := Lib.hid h63
 have hfl := (firstL_pre l2).2
 clear h35 h63
 go_enter Tryz.func133, Tryz.ntmps133
 go_wp2_with fail
 refine (cutAfter_any s.data.toList 35 (w.heap.size + 1) _ (by rw [size_list]; omega) (Obk.alloc (Obk.at_ (w.alloc _) _ _ _ (by simp)) _)).mono ?_
 rintro e w1 ⟨he, hC1, hg1⟩
 rw [H35.out] at he hC1
 subst he
 have hU1 := (Obk.at_ ((w.alloc (.cells (uriCells uriZ) 82)).alloc (.cells #[.string s] 9)) 82 (uriCells uriZ) (w.heap.size + 2) (by simp)).other hg1 (by omega)
 have hR1 := (Obk.alloc (Obk.alloc (Obk.new w 82 (uriCells uriZ)) (.cells #[.string s] 9)) (.cells (uriCells uriZ) 82)).other hg1 (by omega)
 have hq1 : Qb w w1 := ((((Qb.refl w).alloc (.cells (uriCells uriZ) 82)).alloc (.cells #[.string s] 9)).alloc (.cells (uriCells uriZ) 82)).turned hg1 (by omega)
 have hz1 : w.heap.size + 3 ≤ w1.heap.size := by have := hg1.size; simp at this; omega
 have c4 : w1.cell? ⟨w.heap.size + 2, 4, none⟩ = some (.string (S [])) := hU1.cell 4
 have c8 : w1.cell? ⟨w.heap.size + 2, 8, none⟩ = some (.bool false) := hU1.cell 8
 have f4 := hU1.frozen 4
 have f8 := hU1.frozen 8
 have HU1 := Lib.hid hU1
 have HR1 := Lib.hid hR1
 have HC1 := Lib.hid hC1
 clear hU1 hR1 hC1
 go_wp2_with fail
 refine (cutAfter_any l1 63 (w.heap.size + 1) _ (by omega) ((HC1.out.st (w.heap.size + 2) 4 _ (by omega)).st (w.heap.size + 2) 8 _ (by omega))).mono ?_
 rintro e w2 ⟨he, hC2, hg2⟩
 rw [H63.out] at he hC2
 subst he
 have hU2 : Obk w2 (w.heap.size + 2) 82 (uriCells { uriZ with frag := fr, hf := bf }) := ((HU1.out.put 4 _).put 8 _).other hg2 (by omega)
 have hR2 := ((HR1.out.st (w.heap.size + 2) 4 _ (by omega)).st (w.heap.size + 2) 8 _ (by omega)).other hg2 (by omega)
 have hq2 : Qb w w2 := ((hq1.st (w.heap.size + 2) 4 _ (by omega)).st (w.heap.size + 2) 8 _ (by omega)).turned hg2 (by omega)
 have hz2 : w.heap.size + 3 ≤ w2.heap.size := by have := hg2.size; simp [World.setCell] at this; omega
 have c3 : w2.cell? ⟨w.heap.size + 2, 3, none⟩ = some (.string (S [])) := hU2.cell 3
 have c7 : w2.cell? ⟨w.heap.size + 2, 7, none⟩ = some (.bool false) := hU2.cell 7
 have cc : w2.cell? ⟨w.heap.size + 1, 0, none⟩ = some (.string (S l2)) := hC2.cell 0
 have f3 := hU2.frozen 3
 have f7 := hU2.frozen 7
 have HU2 := Lib.hid hU2
 have HR2 := Lib.hid hR2
 have HC2 := Lib.hid hC2
 clear hU2 hR2 hC2 hg1 c4 c8 f4 f8
 go_wp2_with fail
 refine (schemeEnd_any (S l2) _ (by unfold maxLen; rw [S_size]; omega)).mono ?_
 rintro e w3 ⟨rfl, hq3⟩
 rw [S_list]
 have hU3 : Obk w3 (w.heap.size + 2) 82 (uriCells { uriZ with frag := fr, hf := bf, query := qu, hq := bq }) := ((HU2.out.put 3 _).put 7 _).qb hq3
 have hR3 : Obk w3 w.heap.size 82 (uriCells uriZ) := ((HR2.out.st (w.heap.size + 2) 3 _ (by omega)).st (w.heap.size + 2) 7 _ (by omega)).qb hq3
 have hC3 : Obk w3 (w.heap.size + 1) 9 #[.string (S l2)] := ((HC2.out.st (w.heap.size + 2) 3 _ (by omega)).st (w.heap.size + 2) 7 _ (by omega)).qb hq3
 have hqw : Qb w w3 := ((hq2.st (w.heap.size + 2) 3 _ (by omega)).st (w.heap.size + 2) 7 _ (by omega)).trans hq3
 have hz3 : w.heap.size + 3 ≤ w3.heap.size := by have := hq3.size; simp [World.setCell] at this; omega
 clear hg2 c3 c7 cc f3 f7 hq1 hq2 hq3 HU1 HR1 HC1 HU2 HR2 HC2 hz1 hz2
 rcases cutL_idx 58 (firstL l2) with ⟨i1, i2, _⟩ | ⟨k, i1, i2, i3, _⟩
 ·have HI := Lib.hid i1
  have hcut : schCut s.data.toList = (firstL l2, [], false) := by rw [HS.out, i2]
  have hhier : hierL s.data.toList = l2 := by unfold hierL; rw [hcut, HB.out]; rfl
  have HF0 : ∀ b, twoSl l2 = b → splitE s.data.toList = (0, { scheme := [], auth := authL l2, path := pathL l2, query := qu, frag := fr, hs := false, ha := b, hq := bq, hf := bf }) := fun b hb => by
   rw [HE.out, hcut, hhier, hb]; rfl
  have HFH := Lib.hid HF0
  rw [HI.out]
  clear i1 i2 hcut hhier HF0
  have hU := hU3
  have hR := hR3
  have hC := hC3
  clear hU3 hR3 hC3
  have cc : w3.cell? ⟨w.heap.size + 1, 0, none⟩ = some (.string (S l2)) := hC.cell 0
  rcases h2 : twoSl l2 with _ | _
  ·have HF := Lib.hid (HFH.out false h2)
   have hau : authL l2 = [] := by unfold authL; rw [h2]; rfl
   have hpa : pathL l2 = l2 := by unfold pathL; rw [h2]; rfl
   rw [hau, hpa] at HF
   have H2 := Lib.hid h2
   have u0 : w3.cell? ⟨w.heap.size + 2, 0, none⟩ = some (.string (S [])) := hU.cell 0
   have uf0 : w3.frozen? ⟨w.heap.size + 2, 0, none⟩ = false := hU.frozen 0
   have u1 : w3.cell? ⟨w.heap.size + 2, 1, none⟩ = some (.string (S [])) := hU.cell 1
   have uf1 : w3.frozen? ⟨w.heap.size + 2, 1, none⟩ = false := hU.frozen 1
   have u2 : w3.cell? ⟨w.heap.size + 2, 2, none⟩ = some (.string (S [])) := hU.cell 2
   have uf2 : w3.frozen? ⟨w.heap.size + 2, 2, none⟩ = false := hU.frozen 2
   have u3 : w3.cell? ⟨w.heap.size + 2, 3, none⟩ = some (.string (S qu)) := hU.cell 3
   have uf3 : w3.frozen? ⟨w.heap.size + 2, 3, none⟩ = false := hU.frozen 3
   have u4 : w3.cell? ⟨w.heap.size + 2, 4, none⟩ = some (.string (S fr)) := hU.cell 4
   have uf4 : w3.frozen? ⟨w.heap.size + 2, 4, none⟩ = false := hU.frozen 4
   have u5 : w3.cell? ⟨w.heap.size + 2, 5, none⟩ = some (.bool false) := hU.cell 5
   have uf5 : w3.frozen? ⟨w.heap.size + 2, 5, none⟩ = false := hU.frozen 5
   have u6 : w3.cell? ⟨w.heap.size + 2, 6, none⟩ = some (.bool false) := hU.cell 6
   have uf6 : w3.frozen? ⟨w.heap.size + 2, 6, none⟩ = false := hU.frozen 6
   have u7 : w3.cell? ⟨w.heap.size + 2, 7, none⟩ = some (.bool bq) := hU.cell 7
   have uf7 : w3.frozen? ⟨w.heap.size + 2, 7, none⟩ = false := hU.frozen 7
   have u8 : w3.cell? ⟨w.heap.size + 2, 8, none⟩ = some (.bool bf) := hU.cell 8
   have uf8 : w3.frozen? ⟨w.heap.size + 2, 8, none⟩ = false := hU.frozen 8
   have r0 : w3.cell? ⟨w.heap.size, 0, none⟩ = some (.string (S [])) := hR.cell 0
   have rf0 : w3.frozen? ⟨w.heap.size, 0, none⟩ = false := hR.frozen 0
   have r1 : w3.cell? ⟨w.heap.size, 1, none⟩ = some (.string (S [])) := hR.cell 1
   have rf1 : w3.frozen? ⟨w.heap.size, 1, none⟩ = false := hR.frozen 1
   have r2 : w3.cell? ⟨w.heap.size, 2, none⟩ = some (.string (S [])) := hR.cell 2
   have rf2 : w3.frozen? ⟨w.heap.size, 2, none⟩ = false := hR.frozen 2
   have r3 : w3.cell? ⟨w.heap.size, 3, none⟩ = some (.string (S [])) := hR.cell 3
   have rf3 : w3.frozen? ⟨w.heap.size, 3, none⟩ = false := hR.frozen 3
   have r4 : w3.cell? ⟨w.heap.size, 4, none⟩ = some (.string (S [])) := hR.cell 4
   have rf4 : w3.frozen? ⟨w.heap.size, 4, none⟩ = false := hR.frozen 4
   have r5 : w3.cell? ⟨w.heap.size, 5, none⟩ = some (.bool false) := hR.cell 5
   have rf5 : w3.frozen? ⟨w.heap.size, 5, none⟩ = false := hR.frozen 5
   have r6 : w3.cell? ⟨w.heap.size, 6, none⟩ = some (.bool false) := hR.cell 6
   have rf6 : w3.frozen? ⟨w.heap.size, 6, none⟩ = false := hR.frozen 6
   have r7 : w3.cell? ⟨w.heap.size, 7, none⟩ = some (.bool false) := hR.cell 7
   have rf7 : w3.frozen? ⟨w.heap.size, 7, none⟩ = false := hR.frozen 7
   have r8 : w3.cell? ⟨w.heap.size, 8, none⟩ = some (.bool false) := hR.cell 8
   have rf8 : w3.frozen? ⟨w.heap.size, 8, none⟩ = false := hR.frozen 8
   have HU := Lib.hid hU
   have HR := Lib.hid hR
   clear h2 hau hpa hU hR
   go_wp2_with fail
   refine (Tryz.strings_CutPrefix _ _ _).mono ?_
   rintro e w4 ⟨rfl, rfl⟩
   rw [S_list, show Lib.hasPrefix l2 [47, 47] = false from H2.out]
   go_wp2_with fail
   exact bodyPost_ret (v := uriV (0, ⟨[], [], l2, qu, fr, false, false, bq, bf⟩)) (by simp [results, Tryz.results133, go_sem, uriV, uriA, uriCells, r0, r1, r2, r3, r4, r5, r6, r7, r8, rf0, rf1, rf2, rf3, rf4, rf5, rf6, rf7, rf8]) rfl ⟨by rw [HF.out], ((((((((((hqw.st (w.heap.size + 2) 2 _ (by omega)).st w.heap.size 0 _ (by omega)).st w.heap.size 1 _ (by omega)).st w.heap.size 2 _ (by omega)).st w.heap.size 3 _ (by omega)).st w.heap.size 4 _ (by omega)).st w.heap.size 5 _ (by omega)).st w.heap.size 6 _ (by omega)).st w.heap.size 7 _ (by omega)).st w.heap.size 8 _ (by omega))⟩
  ·have hln := twoSl_len h2
   have htp := Lib.hid (twoSl_drop h2)
   have HF := Lib.hid (HFH.out true h2)
   have hau : authL l2 = firstL (l2.drop 2) := by unfold authL; rw [h2]; rfl
   have hpa : pathL l2 = (l2.drop 2).drop (firstL (l2.drop 2)).length := by unfold pathL; rw [h2, hau]; rfl
   rw [hau, hpa] at HF
   have hfp := (firstL_pre (l2.drop 2)).2
   have hdl : (l2.drop 2).length ≤ 16384 := by rw [List.length_drop]; omega
   have H2 := Lib.hid h2
   have HX1 := extract_suf (S (l2.drop 2)) (firstL (l2.drop 2)).length
   rw [S_size, S_list] at HX1
   have HX := Lib.hid HX1
   clear h2 hau hpa HX1
   generalize l2.drop 2 = d at *
   generalize hga : firstL d = a at *
   have HA := Lib.hid hga
   clear hga
   have HU := Lib.hid hU
   have HR := Lib.hid hR
   have HC := Lib.hid hC
   clear hU hR hC
   go_wp2_with fail
   refine (Tryz.strings_CutPrefix _ _ _).mono ?_
   rintro e w4 ⟨rfl, rfl⟩
   rw [S_list, show Lib.hasPrefix l2 [47, 47] = true from H2.out, show Lib.trimPrefix l2 [47, 47] = d from htp.out]
   go_wp2_with fail
   refine (firstPart_any (S d) _ (by unfold maxLen; rw [S_size]; omega)).mono ?_
   rintro e w5 ⟨rfl, hq5⟩
   rw [S_list, HA.out]
   have hU := HU.out.qb hq5
   have hR := HR.out.qb hq5
   have hC := HC.out.qb hq5
   have hqv := hqw.trans hq5
   have cc5 : w5.cell? ⟨w.heap.size + 1, 0, none⟩ = some (.string (S l2)) := hC.cell 0
   have cf5 : w5.frozen? ⟨w.heap.size + 1, 0, none⟩ = false := hC.frozen 0
   have u0 : w5.cell? ⟨w.heap.size + 2, 0, none⟩ = some (.string (S [])) := hU.cell 0
   have uf0 : w5.frozen? ⟨w.heap.size + 2, 0, none⟩ = false := hU.frozen 0
   have u1 : w5.cell? ⟨w.heap.size + 2, 1, none⟩ = some (.string (S [])) := hU.cell 1
   have uf1 : w5.frozen? ⟨w.heap.size + 2, 1, none⟩ = false := hU.frozen 1
   have u2 : w5.cell? ⟨w.heap.size + 2, 2, none⟩ = some (.string (S [])) := hU.cell 2
   have uf2 : w5.frozen? ⟨w.heap.size + 2, 2, none⟩ = false := hU.frozen 2
   have u3 : w5.cell? ⟨w.heap.size + 2, 3, none⟩ = some (.string (S qu)) := hU.cell 3
   have uf3 : w5.frozen? ⟨w.heap.size + 2, 3, none⟩ = false := hU.frozen 3
   have u4 : w5.cell? ⟨w.heap.size + 2, 4, none⟩ = some (.string (S fr)) := hU.cell 4
   have uf4 : w5.frozen? ⟨w.heap.size + 2, 4, none⟩ = false := hU.frozen 4
   have u5 : w5.cell? ⟨w.heap.size + 2, 5, none⟩ = some (.bool false) := hU.cell 5
   have uf5 : w5.frozen? ⟨w.heap.size + 2, 5, none⟩ = false := hU.frozen 5
   have u6 : w5.cell? ⟨w.heap.size + 2, 6, none⟩ = some (.bool false) := hU.cell 6
   have uf6 : w5.frozen? ⟨w.heap.size + 2, 6, none⟩ = false := hU.frozen 6
   have u7 : w5.cell? ⟨w.heap.size + 2, 7, none⟩ = some (.bool bq) := hU.cell 7
   have uf7 : w5.frozen? ⟨w.heap.size + 2, 7, none⟩ = false := hU.frozen 7
   have u8 : w5.cell? ⟨w.heap.size + 2, 8, none⟩ = some (.bool bf) := hU.cell 8
   have uf8 : w5.frozen? ⟨w.heap.size + 2, 8, none⟩ = false := hU.frozen 8
   have r0 : w5.cell? ⟨w.heap.size, 0, none⟩ = some (.string (S [])) := hR.cell 0
   have rf0 : w5.frozen? ⟨w.heap.size, 0, none⟩ = false := hR.frozen 0
   have r1 : w5.cell? ⟨w.heap.size, 1, none⟩ = some (.string (S [])) := hR.cell 1
   have rf1 : w5.frozen? ⟨w.heap.size, 1, none⟩ = false := hR.frozen 1
   have r2 : w5.cell? ⟨w.heap.size, 2, none⟩ = some (.string (S [])) := hR.cell 2
   have rf2 : w5.frozen? ⟨w.heap.size, 2, none⟩ = false := hR.frozen 2
   have r3 : w5.cell? ⟨w.heap.size, 3, none⟩ = some (.string (S [])) := hR.cell 3
   have rf3 : w5.frozen? ⟨w.heap.size, 3, none⟩ = false := hR.frozen 3
   have r4 : w5.cell? ⟨w.heap.size, 4, none⟩ = some (.string (S [])) := hR.cell 4
   have rf4 : w5.frozen? ⟨w.heap.size, 4, none⟩ = false := hR.frozen 4
   have r5 : w5.cell? ⟨w.heap.size, 5, none⟩ = some (.bool false) := hR.cell 5
   have rf5 : w5.frozen? ⟨w.heap.size, 5, none⟩ = false := hR.frozen 5
   have r6 : w5.cell? ⟨w.heap.size, 6, none⟩ = some (.bool false) := hR.cell 6
   have rf6 : w5.frozen? ⟨w.heap.size, 6, none⟩ = false := hR.frozen 6
   have r7 : w5.cell? ⟨w.heap.size, 7, none⟩ = some (.bool false) := hR.cell 7
   have rf7 : w5.frozen? ⟨w.heap.size, 7, none⟩ = false := hR.frozen 7
   have r8 : w5.cell? ⟨w.heap.size, 8, none⟩ = some (.bool false) := hR.cell 8
   have rf8 : w5.frozen? ⟨w.heap.size, 8, none⟩ = false := hR.frozen 8
   clear HU HR HC hU hR hC cc hq5
   have e1 : (S d).extract a.length d.length = S (d.drop a.length) := HX.out
   go_wp2_with fail
   exact bodyPost_ret (v := uriV (0, ⟨[], a, (d.drop a.length), qu, fr, false, true, bq, bf⟩)) (by simp [results, Tryz.results133, go_sem, uriV, uriA, uriCells, r0, r1, r2, r3, r4, r5, r6, r7, r8, rf0, rf1, rf2, rf3, rf4, rf5, rf6, rf7, rf8]) rfl ⟨by rw [HF.out], (((((((((((((hqv.st (w.heap.size + 2) 1 _ (by omega)).st (w.heap.size + 2) 6 _ (by omega)).st (w.heap.size + 1) 0 _ (by omega)).st (w.heap.size + 2) 2 _ (by omega)).st w.heap.size 0 _ (by omega)).st w.heap.size 1 _ (by omega)).st w.heap.size 2 _ (by omega)).st w.heap.size 3 _ (by omega)).st w.heap.size 4 _ (by omega)).st w.heap.size 5 _ (by omega)).st w.heap.size 6 _ (by omega)).st w.heap.size 7 _ (by omega)).st w.heap.size 8 _ (by omega))⟩
 ·have hk2 : k < l2.length := by omega
  have hkf : (firstL l2).take k = l2.take k := by
   have h1 := (firstL_pre l2).1
   rw [h1, List.take_take, Nat.min_eq_left (by omega)]
  rw [hkf] at i3
  have hcut : schCut s.data.toList = (l2.take k, (firstL l2).drop (k + 1), true) := by rw [HS.out, i3]
  have hE1 := extract_pre (S l2) k
  rw [S_list] at hE1
  have E1 := Lib.hid hE1
  have HI := Lib.hid i1
  rw [HI.out]
  rcases hsb : schemeB (l2.take k) with _ | _
  ·have HF : Hid (splitE s.data.toList = (6, uriZ)) := Lib.hid (by rw [HE.out, hcut]; simp only; rw [hsb]; rfl)
   have HSB := Lib.hid hsb
   have cc : w3.cell? ⟨w.heap.size + 1, 0, none⟩ = some (.string (S l2)) := hC3.cell 0
   have r0 : w3.cell? ⟨w.heap.size, 0, none⟩ = some (.string (S [])) := hR3.cell 0
   have rf0 : w3.frozen? ⟨w.heap.size, 0, none⟩ = false := hR3.frozen 0
   have r1 : w3.cell? ⟨w.heap.size, 1, none⟩ = some (.string (S [])) := hR3.cell 1
   have rf1 : w3.frozen? ⟨w.heap.size, 1, none⟩ = false := hR3.frozen 1
   have r2 : w3.cell? ⟨w.heap.size, 2, none⟩ = some (.string (S [])) := hR3.cell 2
   have rf2 : w3.frozen? ⟨w.heap.size, 2, none⟩ = false := hR3.frozen 2
   have r3 : w3.cell? ⟨w.heap.size, 3, none⟩ = some (.string (S [])) := hR3.cell 3
   have rf3 : w3.frozen? ⟨w.heap.size, 3, none⟩ = false := hR3.frozen 3
   have r4 : w3.cell? ⟨w.heap.size, 4, none⟩ = some (.string (S [])) := hR3.cell 4
   have rf4 : w3.frozen? ⟨w.heap.size, 4, none⟩ = false := hR3.frozen 4
   have r5 : w3.cell? ⟨w.heap.size, 5, none⟩ = some (.bool false) := hR3.cell 5
   have rf5 : w3.frozen? ⟨w.heap.size, 5, none⟩ = false := hR3.frozen 5
   have r6 : w3.cell? ⟨w.heap.size, 6, none⟩ = some (.bool false) := hR3.cell 6
   have rf6 : w3.frozen? ⟨w.heap.size, 6, none⟩ = false := hR3.frozen 6
   have r7 : w3.cell? ⟨w.heap.size, 7, none⟩ = some (.bool false) := hR3.cell 7
   have rf7 : w3.frozen? ⟨w.heap.size, 7, none⟩ = false := hR3.frozen 7
   have r8 : w3.cell? ⟨w.heap.size, 8, none⟩ = some (.bool false) := hR3.cell 8
   have rf8 : w3.frozen? ⟨w.heap.size, 8, none⟩ = false := hR3.frozen 8
   clear i1 i3 hcut hkf hE1 hsb hU3 hR3 hC3
   go_wp2_with fail
   rw [E1.out]
   refine (isScheme_any _ _ (by unfold maxLen; rw [S_size, List.length_take]; omega)).mono ?_
   rintro e w4 ⟨rfl, rfl⟩
   rw [S_list, HSB.out]
   go_wp2_with fail
   exact bodyPost_ret (v := uriV (6, uriZ)) (by simp [results, Tryz.results133, go_sem, uriV, uriA, uriCells, uriZ, r0, r1, r2, r3, r4, r5, r6, r7, r8, rf0, rf1, rf2, rf3, rf4, rf5, rf6, rf7, rf8]) rfl ⟨by rw [HF.out], (((((((((hqw.st w.heap.size 0 _ (by omega)).st w.heap.size 1 _ (by omega)).st w.heap.size 2 _ (by omega)).st w.heap.size 3 _ (by omega)).st w.heap.size 4 _ (by omega)).st w.heap.size 5 _ (by omega)).st w.heap.size 6 _ (by omega)).st w.heap.size 7 _ (by omega)).st w.heap.size 8 _ (by omega))⟩
  ·have HSB := Lib.hid hsb
   have hlt : (l2.take k).length = k := by rw [List.length_take]; omega
   have hhier : hierL s.data.toList = l2.drop (k + 1) := by unfold hierL; rw [hcut, HB.out, if_pos rfl, hlt]
   have HF0 : ∀ b, twoSl (l2.drop (k + 1)) = b → splitE s.data.toList = (0, { scheme := l2.take k, auth := authL (l2.drop (k + 1)), path := pathL (l2.drop (k + 1)), query := qu, frag := fr, hs := true, ha := b, hq := bq, hf := bf }) := fun b hb => by
    rw [HE.out, hcut, hhier, hb]; simp only; rw [hsb]; rfl
   have HFH := Lib.hid HF0
   have hE2 := extract_suf (S l2) (k + 1)
   rw [S_list, S_size] at hE2
   have E2 := Lib.hid hE2
   have cc : w3.cell? ⟨w.heap.size + 1, 0, none⟩ = some (.string (S l2)) := hC3.cell 0
   have cf : w3.frozen? ⟨w.heap.size + 1, 0, none⟩ = false := hC3.frozen 0
   have u0 : w3.cell? ⟨w.heap.size + 2, 0, none⟩ = some (.string (S [])) := hU3.cell 0
   have u5 : w3.cell? ⟨w.heap.size + 2, 5, none⟩ = some (.bool false) := hU3.cell 5
   have uf0 := hU3.frozen 0
   have uf5 := hU3.frozen 5
   have HU3 := Lib.hid hU3
   have HR3 := Lib.hid hR3
   have HC3 := Lib.hid hC3
   have q0 : (0 : Int) ≤ (k : Int) := by omega
   have q1 : IntKind.i64.wrap ((k : Int) + 1) = (k : Int) + 1 := IntWalk.i64_in _ (by omega)
   have q2 : (0 : Int) ≤ (k : Int) + 1 := by omega
   have q3 : ((k : Int) + 1).toNat = k + 1 := by omega
   have q4 : (k : Int) + 1 ≤ (l2.length : Int) := by omega
   have q5 : (k : Int) ≤ (l2.length : Int) := by omega
   clear i1 i3 hcut hkf hE1 hE2 hsb hU3 hR3 hC3 HF0 hhier hlt
   go_wp2_with fail
   rw [E1.out]
   refine (isScheme_any _ _ (by unfold maxLen; rw [S_size, List.length_take]; omega)).mono ?_
   rintro e w4 ⟨rfl, rfl⟩
   rw [S_list, HSB.out]
   go_wp2_with fail
   go_region
   rw [E1.out, E2.out]
   have hU5 : Obk ((((w3.setCell ⟨w.heap.size + 1 + 1, 0, none⟩ (.string (S (l2.take k)))).setCell ⟨w.heap.size + 1 + 1, 5, none⟩ (.bool true)).setCell ⟨w.heap.size + 1, 0, none⟩ (.string (S (l2.drop (k + 1))))).drew) (w.heap.size + 2) 82 (uriCells { uriZ with frag := fr, hf := bf, query := qu, hq := bq, scheme := l2.take k, hs := true }) := (((HU3.out.put 0 _).put 5 _).st (w.heap.size + 1) 0 _ (by omega)).drew
   have hR5 : Obk ((((w3.setCell ⟨w.heap.size + 1 + 1, 0, none⟩ (.string (S (l2.take k)))).setCell ⟨w.heap.size + 1 + 1, 5, none⟩ (.bool true)).setCell ⟨w.heap.size + 1, 0, none⟩ (.string (S (l2.drop (k + 1))))).drew) w.heap.size 82 (uriCells uriZ) := (((HR3.out.st (w.heap.size + 2) 0 _ (by omega)).st (w.heap.size + 2) 5 _ (by omega)).st (w.heap.size + 1) 0 _ (by omega)).drew
   have hC5 : Obk ((((w3.setCell ⟨w.heap.size + 1 + 1, 0, none⟩ (.string (S (l2.take k)))).setCell ⟨w.heap.size + 1 + 1, 5, none⟩ (.bool true)).setCell ⟨w.heap.size + 1, 0, none⟩ (.string (S (l2.drop (k + 1))))).drew) (w.heap.size + 1) 9 #[.string (S (l2.drop (k + 1)))] := (((HC3.out.st (w.heap.size + 2) 0 _ (by omega)).st (w.heap.size + 2) 5 _ (by omega)).put 0 _).drew
   have hqx : Qb w ((((w3.setCell ⟨w.heap.size + 1 + 1, 0, none⟩ (.string (S (l2.take k)))).setCell ⟨w.heap.size + 1 + 1, 5, none⟩ (.bool true)).setCell ⟨w.heap.size + 1, 0, none⟩ (.string (S (l2.drop (k + 1))))).drew) := (((hqw.st (w.heap.size + 2) 0 _ (by omega)).st (w.heap.size + 2) 5 _ (by omega)).st (w.heap.size + 1) 0 _ (by omega)).drew
   clear cc cf u0 u5 uf0 uf5 HU3 HR3 HC3 hqw q0 q1 q2 q3 q4 q5
   generalize ((((w3.setCell ⟨w.heap.size + 1 + 1, 0, none⟩ (.string (S (l2.take k)))).setCell ⟨w.heap.size + 1 + 1, 5, none⟩ (.bool true)).setCell ⟨w.heap.size + 1, 0, none⟩ (.string (S (l2.drop (k + 1))))).drew) = W5 at hU5 hR5 hC5 hqx ⊢
   have hqw := hqx
   have hU := hU5
   have hR := hR5
   have hC := hC5
   have hln5 : (l2.drop (k + 1)).length ≤ 16384 := by rw [List.length_drop]; omega
   generalize l2.drop (k + 1) = rr at *
   clear hU5 hR5 hC5 hqx E1 E2 HI HSB
   generalize l2.take k = sc at *
   have cc : W5.cell? ⟨w.heap.size + 1, 0, none⟩ = some (.string (S rr)) := hC.cell 0
   rcases h2 : twoSl rr with _ | _
   ·have HF := Lib.hid (HFH.out false h2)
    have hau : authL rr = [] := by unfold authL; rw [h2]; rfl
    have hpa : pathL rr = rr := by unfold pathL; rw [h2]; rfl
    rw [hau, hpa] at HF
    have H2 := Lib.hid h2
    have u0 : W5.cell? ⟨w.heap.size + 2, 0, none⟩ = some (.string (S sc)) := hU.cell 0
    have uf0 : W5.frozen? ⟨w.heap.size + 2, 0, none⟩ = false := hU.frozen 0
    have u1 : W5.cell? ⟨w.heap.size + 2, 1, none⟩ = some (.string (S [])) := hU.cell 1
    have uf1 : W5.frozen? ⟨w.heap.size + 2, 1, none⟩ = false := hU.frozen 1
    have u2 : W5.cell? ⟨w.heap.size + 2, 2, none⟩ = some (.string (S [])) := hU.cell 2
    have uf2 : W5.frozen? ⟨w.heap.size + 2, 2, none⟩ = false := hU.frozen 2
    have u3 : W5.cell? ⟨w.heap.size + 2, 3, none⟩ = some (.string (S qu)) := hU.cell 3
    have uf3 : W5.frozen? ⟨w.heap.size + 2, 3, none⟩ = false := hU.frozen 3
    have u4 : W5.cell? ⟨w.heap.size + 2, 4, none⟩ = some (.string (S fr)) := hU.cell 4
    have uf4 : W5.frozen? ⟨w.heap.size + 2, 4, none⟩ = false := hU.frozen 4
    have u5 : W5.cell? ⟨w.heap.size + 2, 5, none⟩ = some (.bool true) := hU.cell 5
    have uf5 : W5.frozen? ⟨w.heap.size + 2, 5, none⟩ = false := hU.frozen 5
    have u6 : W5.cell? ⟨w.heap.size + 2, 6, none⟩ = some (.bool false) := hU.cell 6
    have uf6 : W5.frozen? ⟨w.heap.size + 2, 6, none⟩ = false := hU.frozen 6
    have u7 : W5.cell? ⟨w.heap.size + 2, 7, none⟩ = some (.bool bq) := hU.cell 7
    have uf7 : W5.frozen? ⟨w.heap.size + 2, 7, none⟩ = false := hU.frozen 7
    have u8 : W5.cell? ⟨w.heap.size + 2, 8, none⟩ = some (.bool bf) := hU.cell 8
    have uf8 : W5.frozen? ⟨w.heap.size + 2, 8, none⟩ = false := hU.frozen 8
    have r0 : W5.cell? ⟨w.heap.size, 0, none⟩ = some (.string (S [])) := hR.cell 0
    have rf0 : W5.frozen? ⟨w.heap.size, 0, none⟩ = false := hR.frozen 0
    have r1 : W5.cell? ⟨w.heap.size, 1, none⟩ = some (.string (S [])) := hR.cell 1
    have rf1 : W5.frozen? ⟨w.heap.size, 1, none⟩ = false := hR.frozen 1
    have r2 : W5.cell? ⟨w.heap.size, 2, none⟩ = some (.string (S [])) := hR.cell 2
    have rf2 : W5.frozen? ⟨w.heap.size, 2, none⟩ = false := hR.frozen 2
    have r3 : W5.cell? ⟨w.heap.size, 3, none⟩ = some (.string (S [])) := hR.cell 3
    have rf3 : W5.frozen? ⟨w.heap.size, 3, none⟩ = false := hR.frozen 3
    have r4 : W5.cell? ⟨w.heap.size, 4, none⟩ = some (.string (S [])) := hR.cell 4
    have rf4 : W5.frozen? ⟨w.heap.size, 4, none⟩ = false := hR.frozen 4
    have r5 : W5.cell? ⟨w.heap.size, 5, none⟩ = some (.bool false) := hR.cell 5
    have rf5 : W5.frozen? ⟨w.heap.size, 5, none⟩ = false := hR.frozen 5
    have r6 : W5.cell? ⟨w.heap.size, 6, none⟩ = some (.bool false) := hR.cell 6
    have rf6 : W5.frozen? ⟨w.heap.size, 6, none⟩ = false := hR.frozen 6
    have r7 : W5.cell? ⟨w.heap.size, 7, none⟩ = some (.bool false) := hR.cell 7
    have rf7 : W5.frozen? ⟨w.heap.size, 7, none⟩ = false := hR.frozen 7
    have r8 : W5.cell? ⟨w.heap.size, 8, none⟩ = some (.bool false) := hR.cell 8
    have rf8 : W5.frozen? ⟨w.heap.size, 8, none⟩ = false := hR.frozen 8
    have HU := Lib.hid hU
    have HR := Lib.hid hR
    clear h2 hau hpa hU hR
    go_wp2_with fail
    refine (Tryz.strings_CutPrefix _ _ _).mono ?_
    rintro e w4 ⟨rfl, rfl⟩
    rw [S_list, show Lib.hasPrefix rr [47, 47] = false from H2.out]
    go_wp2_with fail
    exact bodyPost_ret (v := uriV (0, ⟨sc, [], rr, qu, fr, true, false, bq, bf⟩)) (by simp [results, Tryz.results133, go_sem, uriV, uriA, uriCells, r0, r1, r2, r3, r4, r5, r6, r7, r8, rf0, rf1, rf2, rf3, rf4, rf5, rf6, rf7, rf8]) rfl ⟨by rw [HF.out], ((((((((((hqw.st (w.heap.size + 2) 2 _ (by omega)).st w.heap.size 0 _ (by omega)).st w.heap.size 1 _ (by omega)).st w.heap.size 2 _ (by omega)).st w.heap.size 3 _ (by omega)).st w.heap.size 4 _ (by omega)).st w.heap.size 5 _ (by omega)).st w.heap.size 6 _ (by omega)).st w.heap.size 7 _ (by omega)).st w.heap.size 8 _ (by omega))⟩
   ·have hln := twoSl_len h2
    have htp := Lib.hid (twoSl_drop h2)
    have HF := Lib.hid (HFH.out true h2)
    have hau : authL rr = firstL (rr.drop 2) := by unfold authL; rw [h2]; rfl
    have hpa : pathL rr = (rr.drop 2).drop (firstL (rr.drop 2)).length := by unfold pathL; rw [h2, hau]; rfl
    rw [hau, hpa] at HF
    have hfp := (firstL_pre (rr.drop 2)).2
    have hdl : (rr.drop 2).length ≤ 16384 := by rw [List.length_drop]; omega
    have H2 := Lib.hid h2
    have HX1 := extract_suf (S (rr.drop 2)) (firstL (rr.drop 2)).length
    rw [S_size, S_list] at HX1
    have HX := Lib.hid HX1
    clear h2 hau hpa HX1
    generalize rr.drop 2 = d at *
    generalize hga : firstL d = a at *
    have HA := Lib.hid hga
    clear hga
    have HU := Lib.hid hU
    have HR := Lib.hid hR
    have HC := Lib.hid hC
    clear hU hR hC
    go_wp2_with fail
    refine (Tryz.strings_CutPrefix _ _ _).mono ?_
    rintro e w4 ⟨rfl, rfl⟩
    rw [S_list, show Lib.hasPrefix rr [47, 47] = true from H2.out, show Lib.trimPrefix rr [47, 47] = d from htp.out]
    go_wp2_with fail
    refine (firstPart_any (S d) _ (by unfold maxLen; rw [S_size]; omega)).mono ?_
    rintro e w5 ⟨rfl, hq5⟩
    rw [S_list, HA.out]
    have hU := HU.out.qb hq5
    have hR := HR.out.qb hq5
    have hC := HC.out.qb hq5
    have hqv := hqw.trans hq5
    have cc5 : w5.cell? ⟨w.heap.size + 1, 0, none⟩ = some (.string (S rr)) := hC.cell 0
    have cf5 : w5.frozen? ⟨w.heap.size + 1, 0, none⟩ = false := hC.frozen 0
    have u0 : w5.cell? ⟨w.heap.size + 2, 0, none⟩ = some (.string (S sc)) := hU.cell 0
    have uf0 : w5.frozen? ⟨w.heap.size + 2, 0, none⟩ = false := hU.frozen 0
    have u1 : w5.cell? ⟨w.heap.size + 2, 1, none⟩ = some (.string (S [])) := hU.cell 1
    have uf1 : w5.frozen? ⟨w.heap.size + 2, 1, none⟩ = false := hU.frozen 1
    have u2 : w5.cell? ⟨w.heap.size + 2, 2, none⟩ = some (.string (S [])) := hU.cell 2
    have uf2 : w5.frozen? ⟨w.heap.size + 2, 2, none⟩ = false := hU.frozen 2
    have u3 : w5.cell? ⟨w.heap.size + 2, 3, none⟩ = some (.string (S qu)) := hU.cell 3
    have uf3 : w5.frozen? ⟨w.heap.size + 2, 3, none⟩ = false := hU.frozen 3
    have u4 : w5.cell? ⟨w.heap.size + 2, 4, none⟩ = some (.string (S fr)) := hU.cell 4
    have uf4 : w5.frozen? ⟨w.heap.size + 2, 4, none⟩ = false := hU.frozen 4
    have u5 : w5.cell? ⟨w.heap.size + 2, 5, none⟩ = some (.bool true) := hU.cell 5
    have uf5 : w5.frozen? ⟨w.heap.size + 2, 5, none⟩ = false := hU.frozen 5
    have u6 : w5.cell? ⟨w.heap.size + 2, 6, none⟩ = some (.bool false) := hU.cell 6
    have uf6 : w5.frozen? ⟨w.heap.size + 2, 6, none⟩ = false := hU.frozen 6
    have u7 : w5.cell? ⟨w.heap.size + 2, 7, none⟩ = some (.bool bq) := hU.cell 7
    have uf7 : w5.frozen? ⟨w.heap.size + 2, 7, none⟩ = false := hU.frozen 7
    have u8 : w5.cell? ⟨w.heap.size + 2, 8, none⟩ = some (.bool bf) := hU.cell 8
    have uf8 : w5.frozen? ⟨w.heap.size + 2, 8, none⟩ = false := hU.frozen 8
    have r0 : w5.cell? ⟨w.heap.size, 0, none⟩ = some (.string (S [])) := hR.cell 0
    have rf0 : w5.frozen? ⟨w.heap.size, 0, none⟩ = false := hR.frozen 0
    have r1 : w5.cell? ⟨w.heap.size, 1, none⟩ = some (.string (S [])) := hR.cell 1
    have rf1 : w5.frozen? ⟨w.heap.size, 1, none⟩ = false := hR.frozen 1
    have r2 : w5.cell? ⟨w.heap.size, 2, none⟩ = some (.string (S [])) := hR.cell 2
    have rf2 : w5.frozen? ⟨w.heap.size, 2, none⟩ = false := hR.frozen 2
    have r3 : w5.cell? ⟨w.heap.size, 3, none⟩ = some (.string (S [])) := hR.cell 3
    have rf3 : w5.frozen? ⟨w.heap.size, 3, none⟩ = false := hR.frozen 3
    have r4 : w5.cell? ⟨w.heap.size, 4, none⟩ = some (.string (S [])) := hR.cell 4
    have rf4 : w5.frozen? ⟨w.heap.size, 4, none⟩ = false := hR.frozen 4
    have r5 : w5.cell? ⟨w.heap.size, 5, none⟩ = some (.bool false) := hR.cell 5
    have rf5 : w5.frozen? ⟨w.heap.size, 5, none⟩ = false := hR.frozen 5
    have r6 : w5.cell? ⟨w.heap.size, 6, none⟩ = some (.bool false) := hR.cell 6
    have rf6 : w5.frozen? ⟨w.heap.size, 6, none⟩ = false := hR.frozen 6
    have r7 : w5.cell? ⟨w.heap.size, 7, none⟩ = some (.bool false) := hR.cell 7
    have rf7 : w5.frozen? ⟨w.heap.size, 7, none⟩ = false := hR.frozen 7
    have r8 : w5.cell? ⟨w.heap.size, 8, none⟩ = some (.bool false) := hR.cell 8
    have rf8 : w5.frozen? ⟨w.heap.size, 8, none⟩ = false := hR.frozen 8
    clear HU HR HC hU hR hC cc hq5
    have e1 : (S d).extract a.length d.length = S (d.drop a.length) := HX.out
    go_wp2_with fail
    exact bodyPost_ret (v := uriV (0, ⟨sc, a, (d.drop a.length), qu, fr, true, true, bq, bf⟩)) (by simp [results, Tryz.results133, go_sem, uriV, uriA, uriCells, r0, r1, r2, r3, r4, r5, r6, r7, r8, rf0, rf1, rf2, rf3, rf4, rf5, rf6, rf7, rf8]) rfl ⟨by rw [HF.out], (((((((((((((hqv.st (w.heap.size + 2) 1 _ (by omega)).st (w.heap.size + 2) 6 _ (by omega)).st (w.heap.size + 1) 0 _ (by omega)).st (w.heap.size + 2) 2 _ (by omega)).st w.heap.size 0 _ (by omega)).st w.heap.size 1 _ (by omega)).st w.heap.size 2 _ (by omega)).st w.heap.size 3 _ (by omega)).st w.heap.size 4 _ (by omega)).st w.heap.size 5 _ (by omega)).st w.heap.size 6 _ (by omega)).st w.heap.size 7 _ (by omega)).st w.heap.size 8 _ (by omega))⟩
end Go.Proofs.YtjkdiojicmcbaaaGreatDoor
namespace Go.Proofs.YtjkdiojicmcbaaaGreatDoor
open Go.RowKit
def idxS (l set : List UInt8) : Nat := l.findIdx fun c => hasB c set
theorem idxS_le (l set : List UInt8) : idxS l set ≤ l.length := List.findIdx_le_length
theorem idxS_at {l set : List UInt8} {k : Nat} (h : k < l.length) (h1 : ∀ j (hj : j < k), hasB (l[j]'(by omega)) set = false) (h2 : hasB l[k] set = true) : idxS l set = k := by
 unfold idxS
 rw [List.findIdx_eq h]
 exact ⟨h2, fun j hj => by rw [h1 j hj]⟩
theorem idxS_none {l set : List UInt8} (h1 : ∀ j (hj : j < l.length), hasB l[j] set = false) : idxS l set = l.length := by
 unfold idxS
 rw [List.findIdx_eq_length]
 intro x hx
 obtain ⟨j, hj, rfl⟩ := List.getElem_of_mem hx
 rw [h1 j hj]
theorem idxS_one (c : UInt8) : ∀ l, idxS l [c] = (cutL c l).1.length
 | [] => rfl
 | x :: t => by
  have ih := idxS_one c t
  unfold idxS at ih ⊢
  rw [List.findIdx_cons, cutL_cons, ih]
  by_cases h : x = c
  ·subst h; simp [hasB]
  ·rw [if_neg h]
   have : hasB x [c] = false := by simp [hasB, h]
   rw [this]; rfl
theorem rIndex_any (s set : ByteArray) (w : World) (hs : s.size ≤ maxLen) (ha : set.size ≤ maxLen) :
  Calls Tryz.prog 36 #[.string s, .string set] w fun e w' => e = .returned (.int .i64 (idxS s.data.toList set.data.toList)) ∧ w = w' := by
 have hm := hs
 unfold maxLen at hm
 go_enter Tryz.func36, Tryz.ntmps36
 go_wp2_with fail
 go_loop [5] (fun i => ∃ k : Nat, k ≤ s.size ∧ i = .int .i64 k ∧ Hid (∀ j (hj : j < s.size), j < k → hasB s[j] set.data.toList = false)) (fun i => s.size - (intOf i).toNat)
 case atStart => exact ⟨0, Nat.zero_le _, rfl, Lib.hid (fun j hj h => absurd h (Nat.not_lt_zero _))⟩
 case round =>
  obtain ⟨k, hk, rfl, HT⟩ := hrel
  by_cases hlt : k < s.size
  ·rcases hb : hasB s[k] set.data.toList with _ | _
   ·have HB := Lib.hid hb
    have HN : Hid (∀ j (hj : j < s.size), j < k + 1 → hasB s[j] set.data.toList = false) := Lib.hid fun j hj h => by
     by_cases e : j = k
     ·subst e; exact HB.out
     ·exact HT.out j hj (by omega)
    clear hb
    go_wp2_with fail
    refine (rIn_any _ _ _ ha).mono ?_
    rintro e w' ⟨rfl, rfl⟩
    rw [HB.out]
    go_wp2_with fail
    go_round
    case rel => exact ⟨k + 1, by omega, by go_num, HN⟩
    case measure => simp [intOf]; omega
   ·have HB := Lib.hid hb
    have HN : Hid (idxS s.data.toList set.data.toList = k) := Lib.hid (idxS_at (by rw [size_list]; exact hlt) (fun j hj => HT.out j (by omega) hj) hb)
    clear hb
    go_wp2_with fail
    refine (rIn_any _ _ _ ha).mono ?_
    rintro e w' ⟨rfl, rfl⟩
    rw [HB.out]
    go_wp2_with fail
    go_ret
    exact ⟨ret_int (by rw [HN.out]), rfl⟩
  ·have HN : Hid (idxS s.data.toList set.data.toList = s.size) := Lib.hid (by
    rw [idxS_none (fun j hj => HT.out j (by rw [size_list] at hj; exact hj) (by rw [size_list] at hj; omega)), size_list])
   go_wp2_with fail
   go_ret
   exact ⟨ret_int (by rw [HN.out]), rfl⟩
theorem pre_take (s p : List UInt8) : Lib.hasPrefix s p = (s.take p.length == p) := by
 unfold Lib.hasPrefix
 rw [Bool.eq_iff_iff, List.isPrefixOf_iff_prefix, beq_iff_eq]
 constructor
 ·rintro ⟨t, rfl⟩; simp
 ·intro h; exact ⟨s.drop p.length, by have := List.take_append_drop p.length s; rw [h] at this; exact this⟩
theorem rPrefix_any (s p : ByteArray) (w : World) (hs : s.size ≤ maxLen) :
  Calls Tryz.prog 35 #[.string s, .string p] w fun e w' => e = .returned (.bool (Lib.hasPrefix s.data.toList p.data.toList)) ∧ w = w' := by
 unfold maxLen at hs
 by_cases h : p.size ≤ s.size
 ·have HP : Hid (Lib.hasPrefix s.data.toList p.data.toList = ((s.extract 0 p.size).toList == p.toList)) := Lib.hid (by
   rw [pre_take, ByteArray.toList_eq, ByteArray.toList_eq, extract_pre, S_list, size_list])
  go_enter Tryz.func35, Tryz.ntmps35
  go_wp2_with fail
  go_ret
  exact ⟨ret_bool (by rw [HP.out]), rfl⟩
 ·have HP : Hid (Lib.hasPrefix s.data.toList p.data.toList = false) := Lib.hid (by
   rw [pre_take, beq_eq_false_iff_ne]
   intro e
   have := congrArg List.length e
   rw [List.length_take, size_list, size_list] at this
   omega)
  have h2 : s.size < p.size := by omega
  clear h
  go_enter Tryz.func35, Tryz.ntmps35
  go_wp2_with fail
  go_ret
  exact ⟨ret_bool (by rw [HP.out]), rfl⟩
theorem rscheme_any (s : ByteArray) (w : World) (hs : s.size ≤ maxLen) :
  Calls Tryz.prog 98 #[.string s] w fun e w' => e = .returned (.bool (schemeB s.data.toList)) ∧ w = w' := by
 unfold maxLen at hs
 go_enter Tryz.func98, Tryz.ntmps98
 go_wp2_with fail
 go_loop [3] (fun i => ∃ k : Nat, k ≤ s.size ∧ i = .int .i64 k ∧ Hid (schT (s.data.toList.take k) = true)) (fun i => s.size - (intOf i).toNat)
 case atStart => exact ⟨0, Nat.zero_le _, rfl, Lib.hid rfl⟩
 case round =>
  obtain ⟨k, hk, rfl, HT⟩ := hrel
  by_cases hlt : k < s.size
  ·have hne : Hid (s.data.toList ≠ []) := Lib.hid (fun e => by have := size_list s; rw [e] at this; simp at this; omega)
   have hstep : schT (s.data.toList.take (k + 1)) = (if s.data.toList.take k = [] then isAlpha s[k] else scB s[k]) := by
    rw [take_snoc s k hlt, schT_snoc, HT.out, Bool.true_and]
   have hbad : schT (s.data.toList.take (k + 1)) = false → Hid (schemeB s.data.toList = false) := fun h => Lib.hid (by rw [schemeB_T hne.out, schT_pre h])
   rcases ha : isAlpha s[k] with _ | _
   ·by_cases hk0 : k = 0
    ·subst hk0
     have HB := hbad (by rw [hstep, List.take_zero, if_pos rfl, ha])
     have H1 := Lib.hid ha
     clear ha hstep hbad
     go_wp2_with fail
     refine (rIsAlpha_any _ _).mono ?_
     rintro e w' ⟨rfl, rfl⟩
     rw [H1.out]
     go_wp2_with fail
     go_ret
     exact ⟨ret_bool (by rw [HB.out]), rfl⟩
    ·have hkb : ((k : Int) == 0) = false := by rw [beq_eq_false_iff_ne]; omega
     have htk : s.data.toList.take k ≠ [] := fun e => by have := congrArg List.length e; rw [List.length_take, size_list, List.length_nil] at this; omega
     rw [if_neg htk] at hstep
     rcases hd : isDigit s[k] with _ | _
     ·rcases hi : hasB s[k] [43, 45, 46] with _ | _
      ·have HB := hbad (by rw [hstep]; unfold scB; rw [ha, hd, hi]; rfl)
       have H1 := Lib.hid ha
       have H2 := Lib.hid hd
       have H3 := Lib.hid hi
       clear ha hd hi hstep hbad hk0 htk
       go_wp2_with fail
       refine (rIsAlpha_any _ _).mono ?_
       rintro e w' ⟨rfl, rfl⟩
       rw [H1.out]
       go_wp2_with fail
       refine (rIsDigit_any _ _).mono ?_
       rintro e w' ⟨rfl, rfl⟩
       rw [H2.out]
       go_wp2_with fail
       refine (rIn_any _ _ _ (by decide)).mono ?_
       rintro e w2 ⟨rfl, rfl⟩
       rw [S_list, H3.out]
       go_wp2_with fail
       go_ret
       exact ⟨ret_bool (by rw [HB.out]), rfl⟩
      ·have HB : Hid (schT (s.data.toList.take (k + 1)) = true) := Lib.hid (by rw [hstep]; unfold scB; rw [ha, hd, hi]; rfl)
       have H1 := Lib.hid ha
       have H2 := Lib.hid hd
       have H3 := Lib.hid hi
       clear ha hd hi hstep hbad hk0 htk
       go_wp2_with fail
       refine (rIsAlpha_any _ _).mono ?_
       rintro e w' ⟨rfl, rfl⟩
       rw [H1.out]
       go_wp2_with fail
       refine (rIsDigit_any _ _).mono ?_
       rintro e w' ⟨rfl, rfl⟩
       rw [H2.out]
       go_wp2_with fail
       refine (rIn_any _ _ _ (by decide)).mono ?_
       rintro e w2 ⟨rfl, rfl⟩
       rw [S_list, H3.out]
       go_wp2_with fail
       go_round
       case rel => exact ⟨k + 1, by omega, by go_num, HB⟩
       case measure => simp [intOf]; omega
     ·have HB : Hid (schT (s.data.toList.take (k + 1)) = true) := Lib.hid (by rw [hstep]; unfold scB; rw [ha, hd]; rfl)
      have H1 := Lib.hid ha
      have H2 := Lib.hid hd
      clear ha hd hstep hbad hk0 htk
      go_wp2_with fail
      refine (rIsAlpha_any _ _).mono ?_
      rintro e w' ⟨rfl, rfl⟩
      rw [H1.out]
      go_wp2_with fail
      refine (rIsDigit_any _ _).mono ?_
      rintro e w' ⟨rfl, rfl⟩
      rw [H2.out]
      go_wp2_with fail
      go_round
      case rel => exact ⟨k + 1, by omega, by go_num, HB⟩
      case measure => simp [intOf]; omega
   ·have HB : Hid (schT (s.data.toList.take (k + 1)) = true) := Lib.hid (by rw [hstep]; unfold scB; rw [ha]; split <;> rfl)
    have H1 := Lib.hid ha
    clear ha hstep hbad
    go_wp2_with fail
    refine (rIsAlpha_any _ _).mono ?_
    rintro e w' ⟨rfl, rfl⟩
    rw [H1.out]
    go_wp2_with fail
    go_round
    case rel => exact ⟨k + 1, by omega, by go_num, HB⟩
    case measure => simp [intOf]; omega
  ·have HE := Lib.hid (take_all s k hlt)
   by_cases h0 : s.size = 0
   ·obtain rfl : s = S [] := S_nil_of h0
    clear h0 hs hk hlt HE HT
    go_wp2_with fail
    go_ret
    exact ⟨rfl, rfl⟩
   ·have hne : s.data.toList ≠ [] := fun e => by have := size_list s; rw [e] at this; simp at this; omega
    have he1 : s.toList.isEmpty = false := by rw [ByteArray.toList_eq]; simpa using hne
    have HB : Hid (schemeB s.data.toList = true) := Lib.hid (by rw [schemeB_T hne, ← HE.out, HT.out])
    clear hne h0
    go_wp2_with fail
    go_ret
    exact ⟨ret_bool (by rw [HB.out]), rfl⟩
end Go.Proofs.YtjkdiojicmcbaaaGreatDoor
namespace Go.Proofs.YtjkdiojicmcbaaaGreatDoor
open Go.RowKit
def shortR : List UInt8 → List UInt8
 | [] => []
 | x :: t => if x = 47 then t else shortR t
def shortL (l : List UInt8) : List UInt8 := (shortR l.reverse).reverse
theorem shortL_snoc (l : List UInt8) (x : UInt8) : shortL (l ++ [x]) = if x = 47 then l else shortL l := by
 unfold shortL
 rw [List.reverse_append, List.reverse_singleton, List.singleton_append, shortR]
 split
 ·simp
 ·rfl
theorem shortL_len (l : List UInt8) : (shortL l).length ≤ l.length := by
 have : ∀ m : List UInt8, (shortR m).length ≤ m.length := by
  intro m
  induction m with
  | nil => exact Nat.le_refl _
  | cons x t ih => rw [shortR]; split <;> simp <;> omega
 unfold shortL
 rw [List.length_reverse]
 have := this l.reverse
 rw [List.length_reverse] at this; exact this
def segN (l : List UInt8) : Nat := 1 + (firstL (l.drop 1)).length
def dotStep (i o : List UInt8) : List UInt8 × List UInt8 :=
 if Lib.hasPrefix i [46, 46, 47] = true then (i.drop 3, o)
 else if Lib.hasPrefix i [46, 47] = true then (i.drop 2, o)
 else if Lib.hasPrefix i [47, 46, 47] = true then (i.drop 2, o)
 else if i = [47, 46] then ([47], o)
 else if Lib.hasPrefix i [47, 46, 46, 47] = true then (i.drop 3, shortL o)
 else if i = [47, 46, 46] then ([47], shortL o)
 else if i = [46] ∨ i = [46, 46] then ([], o)
 else (i.drop (segN i), o ++ i.take (segN i))
def dotsN : Nat → List UInt8 → List UInt8 → List UInt8
 | 0, i, o => o
 | n + 1, i, o => if i = [] then o else dotsN n (dotStep i o).1 (dotStep i o).2
def dotsL (i o : List UInt8) : List UInt8 := dotsN i.length i o
def rdotsL (l : List UInt8) : List UInt8 := dotsL l []
theorem pre_len {s p : List UInt8} (h : Lib.hasPrefix s p = true) : p.length ≤ s.length := (List.isPrefixOf_iff_prefix.1 h).length_le
theorem segN_le {l : List UInt8} (h : l ≠ []) : segN l ≤ l.length ∧ 1 ≤ segN l := by
 have := (firstL_pre (l.drop 1)).2
 rw [List.length_drop] at this
 have h2 : l.length ≠ 0 := fun e => h (List.eq_nil_of_length_eq_zero e)
 unfold segN; omega
theorem dotStep_lt {i o : List UInt8} (h : i ≠ []) : (dotStep i o).1.length < i.length := by
 have h0 : i.length ≠ 0 := fun e => h (List.eq_nil_of_length_eq_zero e)
 have hs := segN_le h
 unfold dotStep
 split
 ·simp; omega
 ·split
  ·simp; omega
  ·split
   ·simp; omega
   ·split
    ·rename_i h4; rw [h4]; simp
    ·split
     ·simp; omega
     ·split
      ·rename_i h6; rw [h6]; simp
      ·split
       ·simp; omega
       ·simp; omega
theorem dotStep_out {i o : List UInt8} : (dotStep i o).2.length + (dotStep i o).1.length ≤ o.length + i.length := by
 have h1 := shortL_len o
 unfold dotStep
 split
 ·simp
 ·split
  ·simp
  ·split
   ·simp
   ·split
    ·rename_i h4; rw [h4]; simp
    ·split
     ·simp; omega
     ·split
      ·rename_i h6; rw [h6]; simp; omega
      ·split
       ·simp
       ·simp; omega
theorem dotsN_fuel : ∀ (n : Nat) (i o : List UInt8), i.length ≤ n → dotsN n i o = dotsN i.length i o := by
 intro n
 induction n using Nat.strongRecOn with
 | _ n ih =>
  intro i o hi
  rcases i with _ | ⟨c, t⟩
  ·cases n with
   | zero => rfl
   | succ n => rfl
  ·cases n with
   | zero => simp at hi
   | succ n =>
    have hl := dotStep_lt (i := c :: t) (o := o) (by simp)
    simp only [List.length_cons] at hi hl ⊢
    rw [dotsN, dotsN, if_neg (by simp), if_neg (by simp), ih n (by omega) _ _ (by omega)]
    by_cases e : t.length = n
    ·subst e
     rw [ih t.length (by omega) _ _ (by omega)]
    ·rw [ih t.length (by omega) _ _ (by omega)]
theorem dotsL_nil (o : List UInt8) : dotsL [] o = o := rfl
theorem dotsL_step {i o : List UInt8} (h : i ≠ []) : dotsL i o = dotsL (dotStep i o).1 (dotStep i o).2 := by
 have hl := dotStep_lt (o := o) h
 unfold dotsL
 rcases i with _ | ⟨c, t⟩
 ·exact absurd rfl h
 ·simp only [List.length_cons] at hl
  rw [List.length_cons, dotsN, if_neg h, dotsN_fuel t.length _ _ (by omega)]
theorem rshorten_any (s : ByteArray) (w : World) (hs : s.size ≤ maxLen) :
  Calls Tryz.prog 101 #[.string s] w fun e w' => e = .returned (.string (S (shortL s.data.toList))) ∧ w = w' := by
 unfold maxLen at hs
 go_enter Tryz.func101, Tryz.ntmps101
 go_wp2_with fail
 go_loop [3] (fun i => ∃ k : Nat, k ≤ s.size ∧ i = .int .i64 ((k : Int) - 1) ∧ Hid (shortL s.data.toList = shortL (s.data.toList.take k))) (fun i => (intOf i + 1).toNat)
 case atStart => exact ⟨s.size, Nat.le_refl _, rfl, Lib.hid (by rw [List.take_of_length_le (by rw [size_list]; omega)])⟩
 case round =>
  obtain ⟨k, hk, rfl, HT⟩ := hrel
  rcases k with _ | k
  ·go_wp2_with fail
   go_ret
   exact ⟨ret_strl (by rw [HT.out]; rfl), rfl⟩
  ·have hlt : k < s.size := by omega
   have hst := shortL_snoc (s.data.toList.take k) s[k]
   rw [← take_snoc s k hlt] at hst
   have e1 : (((k + 1 : Nat) : Int) - 1) = (k : Int) := by omega
   by_cases hc : s[k] = 47
   ·have hb : ((s[k].toNat : Int) == 47) = true := by rw [hc]; rfl
    have HN : Hid (shortL s.data.toList = s.data.toList.take k) := Lib.hid (by rw [HT.out, hst, if_pos hc])
    have HX := Lib.hid (extract_pre s k)
    clear hst hc
    rw [e1]
    clear e1
    go_wp2_with fail
    go_ret
    exact ⟨ret_str (by rw [HX.out, HN.out]), rfl⟩
   ·have hb : ((s[k].toNat : Int) == 47) = false := by
     rw [beq_eq_false_iff_ne]; intro e; exact hc (UInt8.toNat_inj.1 (by show s[k].toNat = 47; omega))
    have HN : Hid (shortL s.data.toList = shortL (s.data.toList.take k)) := Lib.hid (by rw [HT.out, hst, if_neg hc])
    clear hst hc
    rw [e1]
    clear e1
    go_wp2_with fail
    go_round
    case rel => exact ⟨k, by omega, rfl, HN⟩
    case measure => simp [intOf]
end Go.Proofs.YtjkdiojicmcbaaaGreatDoor
namespace Go.Proofs.YtjkdiojicmcbaaaGreatDoor
open Go.RowKit
theorem step_append_str {w : World} {ops : Array Oper} {o : Oper} {a : Act} {K : Act → World → Prop} {Q : Exit → Act → World → Prop} {E : Prop} (hgd : o.guard = none) (sl x : Operand)
  (ho : o.op = .call { callee := .builtin .append, args := #[sl, x], argTypes := #[72, 9] })
  (B : Nat) (v : Value) (l : List UInt8) (hs : a.eval sl = v) (hrow : Brow w B v l) (s : ByteArray) (hx : a.eval x = .string s)
  (hlen : l.length + s.size ≤ 140737488355328) (hB : B ≤ w.heap.size)
  (h : ∀ v' w', Brow w' B v' (l ++ s.data.toList) → Below B w w' → K (a.put o.dst v') w') : if Region.wanted o (yielded ops a.tmps) = true then Oper.wp Tryz.prog o a w K Q else E := by
 have hw : Region.wanted o (yielded ops a.tmps) = true := by simp [Region.wanted, hgd]
 rw [if_pos hw]
 obtain ⟨i0, hi, hz0, hz1, hz2⟩ := info_parts infoU8
 obtain ⟨v', w', hrun, h1, h2, _⟩ := Lib.run_append_own_string (P := Tryz.prog) w B 72 9 o.type 5 i0 Tryz.underlying72 Tryz.underlying9 hi hz0 hz1 hz2 v l.length (bv l) hrow s (by simp only [maxLen]; omega) hlen hB
 unfold Oper.wp execOp
 simp only [ho, resolve, invoke, builtin, Sem.run_bind, Sem.run_pure, Result.andThen_ok, List.map_toArray, List.map_cons, List.map_nil, hs, hx, hrun]
 exact h v' w' (Brow.appended h1 (by rw [strCells_bv, bv_append]) (by rw [List.length_append, size_list])) (below_append hrow hB h2)
theorem Brow.form {w : World} {B : Nat} {v : Value} {l : List UInt8} (h : Brow w B v l) (hl : 0 < l.length) : ∃ g cap, v = .slice (some ⟨g, 0, none⟩) l.length cap ∧ B ≤ g ∧ g < w.heap.size ∧ l.length ≤ cap := by
 rcases h.2 with ⟨rfl, hn⟩ | ⟨g, cap, cur, rfl, hb, hg, hnc, _⟩
 ·omega
 ·refine ⟨g, cap, rfl, hb, ?_, hnc⟩
  rcases Nat.lt_or_ge g w.heap.size with h1 | h1
  ·exact h1
  ·rw [Array.getElem?_eq_none h1] at hg; cases hg
theorem Brow.cap {w : World} {B g n cap : Nat} {l : List UInt8} (h : Brow w B (.slice (some ⟨g, 0, none⟩) n cap) l) : n = l.length ∧ n ≤ cap ∧ cap ≤ maxLen := by
 rcases h.2 with ⟨e, _⟩ | ⟨g', cap', cur, e, hb, hg, hnc, hcm, _⟩
 ·simp at e
 ·simp only [Value.slice.injEq] at e
  obtain ⟨_, rfl, rfl⟩ := e
  exact ⟨rfl, hnc, hcm⟩
theorem Brow.pre {w : World} {B g n cap : Nat} {l : List UInt8} (h : Brow w B (.slice (some ⟨g, 0, none⟩) n cap) l) (k : Nat) (hk : k ≤ l.length) : Brow w B (.slice (some ⟨g, 0, none⟩) k cap) (l.take k) := by
 rcases h.2 with ⟨e, _⟩ | ⟨g', cap', cur, e, hb, hg, hnc, hcm, hcs, ht⟩
 ·simp at e
 ·simp only [Value.slice.injEq] at e
  obtain ⟨hgg, rfl, rfl⟩ := e
  obtain rfl : g = g' := by simpa using hgg
  have hlen : (l.take k).length = k := by rw [List.length_take]; omega
  refine ⟨by rw [bv_length]; simp, .inr ⟨g, cap, cur, by rw [hlen], hb, hg, by rw [hlen]; omega, hcm, hcs, ?_⟩⟩
  rw [hlen]
  have := congrArg (List.take k) ht
  rw [Nat.mul_one] at this ⊢
  rw [List.take_take, Nat.min_eq_left hk] at this
  rw [this]
  simp [bv, List.map_take]
theorem shortL_take (l : List UInt8) : shortL l = l.take (shortL l).length := by
 have : ∀ (n : Nat) (l : List UInt8), l.length ≤ n → shortL l = l.take (shortL l).length := by
  intro n
  induction n with
  | zero =>
   intro l hl
   obtain rfl : l = [] := List.eq_nil_of_length_eq_zero (by omega)
   rfl
  | succ n ih =>
   intro l hl
   rcases List.eq_nil_or_concat l with rfl | ⟨t, x, rfl⟩
   ·rfl
   ·rw [List.concat_eq_append] at hl ⊢
    rw [shortL_snoc]
    by_cases hx : x = 47
    ·rw [if_pos hx]; simp
    ·rw [if_neg hx]
     have h1 := ih t (by simp at hl; omega)
     have h2 := shortL_len t
     rw [List.take_append_of_le_length h2]
     exact h1
 exact this _ l (Nat.le_refl _)
theorem withoutLast_any (g cap B : Nat) (l : List UInt8) (w : World) (hrow : Brow w B (.slice (some ⟨g, 0, none⟩) l.length cap) l) (hl : l.length ≤ 1000000) :
  Calls Tryz.prog 183 #[.slice (some ⟨g, 0, none⟩) l.length cap] w fun e w' => e = .returned (.slice (some ⟨g, 0, none⟩) (shortL l).length cap) ∧ w = w' := by
 obtain ⟨_, hc1, hc2⟩ := hrow.cap
 unfold maxLen at hc2
 have HR := Lib.hid hrow
 clear hrow
 go_enter Tryz.func183, Tryz.ntmps183
 go_wp2_with fail
 go_loop [3] (fun i => ∃ k : Nat, k ≤ l.length ∧ i = .int .i64 ((k : Int) - 1) ∧ Hid (shortL l = shortL (l.take k))) (fun i => (intOf i + 1).toNat)
 case atStart => exact ⟨l.length, Nat.le_refl _, rfl, Lib.hid (by rw [List.take_length])⟩
 case round =>
  obtain ⟨k, hk, rfl, HT⟩ := hrel
  rcases k with _ | k
  ·go_wp2_with fail
   go_ret
   exact ⟨by rw [HT.out]; rfl, rfl⟩
  ·have hlt : k < l.length := by omega
   have hst := shortL_snoc (l.take k) l[k]
   rw [← List.take_succ_eq_append_getElem hlt] at hst
   have hcell := HR.out.cell k hlt
   have e1 : (((k + 1 : Nat) : Int) - 1) = (k : Int) := by omega
   have hkl : (l.take k).length = k := by rw [List.length_take]; omega
   generalize l[k] = x at *
   by_cases hc : x = 47
   ·have hb : ((x.toNat : Int) == 47) = true := by rw [hc]; rfl
    have HN : Hid ((shortL l).length = k) := Lib.hid (by rw [HT.out, hst, if_pos hc, hkl])
    clear hst hc hkl
    rw [e1]
    clear e1
    go_wp2_with fail
    go_ret
    exact ⟨by rw [HN.out]; rfl, rfl⟩
   ·have hb : ((x.toNat : Int) == 47) = false := by
     rw [beq_eq_false_iff_ne]; intro e; exact hc (UInt8.toNat_inj.1 (by show x.toNat = 47; omega))
    have HN : Hid (shortL l = shortL (l.take k)) := Lib.hid (by rw [HT.out, hst, if_neg hc])
    clear hst hc hkl
    rw [e1]
    clear e1
    go_wp2_with fail
    go_round
    case rel => exact ⟨k, by omega, rfl, HN⟩
    case measure => simp [intOf]
end Go.Proofs.YtjkdiojicmcbaaaGreatDoor
namespace Go.Proofs.YtjkdiojicmcbaaaGreatDoor
open Go.RowKit
theorem ne_of_beq_false {l m : List UInt8} (h : (l == m) = false) : ¬ l = m := by rw [beq_eq_false_iff_ne] at h; exact h
set_option maxHeartbeats 8000000 in
theorem rDots_any (s : ByteArray) (w : World) (hs : s.size ≤ 1000000) :
  Calls Tryz.prog 58 #[.string s] w fun e w' => e = .returned (.string (S (rdotsL s.data.toList))) ∧ Qb w w' := by
 go_enter Tryz.func58, Tryz.ntmps58
 go_wp2_with fail
 go_loopw [3, 4, 5] (fun x y _ wr => ∃ i o : List UInt8, o.length + i.length ≤ s.size ∧ x = .string (S i) ∧ y = .string (S o) ∧ Hid (rdotsL s.data.toList = dotsL i o) ∧ Qb w wr) (fun x _ _ _ => strLen x)
 case atStart => exact ⟨s.data.toList, [], by rw [size_list]; simp, rfl, rfl, Lib.hid rfl, Qb.refl w⟩
 case round =>
  obtain ⟨i, o, hl, rfl, rfl, HD, hq⟩ := hrel
  rcases i with _ | ⟨c, t⟩
  ·go_wp2_with fail
   go_ret
   exact ⟨ret_strl (by rw [HD.out, dotsL_nil]), hq⟩
  ·generalize hi : c :: t = i at *
   have hi0 : i ≠ [] := by rw [← hi]; simp
   have hne : i.isEmpty = false := by rw [← hi]; rfl
   clear hi
   have hml : (S i).size ≤ maxLen := by unfold maxLen; rw [S_size]; omega
   have hil : i.length ≤ 1000000 := by omega
   have hol : o.length ≤ 1000000 := by omega
   rcases p1 : Lib.hasPrefix i [46, 46, 47] with _ | _
   ·rcases p2 : Lib.hasPrefix i [46, 47] with _ | _
    ·rcases p3 : Lib.hasPrefix i [47, 46, 47] with _ | _
     ·rcases e4 : (i == [47, 46]) with _ | _
      ·rcases p5 : Lib.hasPrefix i [47, 46, 46, 47] with _ | _
       ·rcases e6 : (i == [47, 46, 46]) with _ | _
        ·rcases e7 : (i == [46]) with _ | _
         ·rcases e8 : (i == [46, 46]) with _ | _
          ·have HS : Hid (dotStep i o = (i.drop (segN i), o ++ i.take (segN i))) := Lib.hid (by unfold dotStep; rw [if_neg (by rw [p1]; exact Bool.false_ne_true), if_neg (by rw [p2]; exact Bool.false_ne_true), if_neg (by rw [p3]; exact Bool.false_ne_true), if_neg (ne_of_beq_false e4), if_neg (by rw [p5]; exact Bool.false_ne_true), if_neg (ne_of_beq_false e6), if_neg (fun h => h.elim (ne_of_beq_false e7) (ne_of_beq_false e8))])
           have hlt := dotStep_lt (o := o) hi0
           have hout := dotStep_out (i := i) (o := o)
           rw [HS.out] at hlt hout
           simp only at hlt hout
           have HN : Hid (rdotsL s.data.toList = dotsL (i.drop (segN i)) (o ++ i.take (segN i))) := Lib.hid (by rw [HD.out, dotsL_step hi0, HS.out])
           have hseg := segN_le hi0
           have hx1 := extract_suf (S i) 1
           rw [S_size, S_list] at hx1
           have HX1 := Lib.hid hx1
           have hx2 := extract_suf (S i) (segN i)
           rw [S_size, S_list] at hx2
           have hx3 := extract_pre (S i) (segN i)
           rw [S_list] at hx3
           have HXS := Lib.hid hx2
           have HXP := Lib.hid hx3
           have hdl : (i.drop 1).length ≤ 1000000 := by rw [List.length_drop]; omega
           have hsg : (1 : Int) + ((firstL (i.drop 1)).length : Int) = (segN i : Int) := by unfold segN; omega
           have HSG := Lib.hid hsg
           have HIX : Hid (idxS (i.drop 1) [47] = (firstL (i.drop 1)).length) := Lib.hid (idxS_one 47 _)
           clear hx1 hx2 hx3 hsg
           have Hp1 := Lib.hid p1
           have Hp2 := Lib.hid p2
           have Hp3 := Lib.hid p3
           have Hp5 := Lib.hid p5
           clear p1 p2 p3 p5
           go_wp2_with fail
           refine (rPrefix_any _ _ _ hml).mono ?_
           rintro e w1 ⟨rfl, rfl⟩
           rw [S_list, show Lib.hasPrefix i ({ data := #[46, 46, 47] } : ByteArray).data.toList = false from Hp1.out]
           go_wp2_with fail
           refine (rPrefix_any _ _ _ hml).mono ?_
           rintro e w1 ⟨rfl, rfl⟩
           rw [S_list, show Lib.hasPrefix i ({ data := #[46, 47] } : ByteArray).data.toList = false from Hp2.out]
           go_wp2_with fail
           refine (rPrefix_any _ _ _ hml).mono ?_
           rintro e w1 ⟨rfl, rfl⟩
           rw [S_list, show Lib.hasPrefix i ({ data := #[47, 46, 47] } : ByteArray).data.toList = false from Hp3.out]
           go_wp2_with fail
           refine (rPrefix_any _ _ _ hml).mono ?_
           rintro e w1 ⟨rfl, rfl⟩
           rw [S_list, show Lib.hasPrefix i ({ data := #[47, 46, 46, 47] } : ByteArray).data.toList = false from Hp5.out]
           go_wp2_with fail
           rw [HX1.out]
           refine (rIndex_any _ _ _ (by unfold maxLen; rw [S_size]; omega) (by decide)).mono ?_
           rintro e w1 ⟨rfl, rfl⟩
           rw [S_list, show idxS (i.drop 1) ({ data := #[47] } : ByteArray).data.toList = (firstL (i.drop 1)).length from HIX.out]
           have hfl := (firstL_pre (i.drop 1)).2
           generalize hfn : (firstL (i.drop 1)).length = fn at *
           clear hfn
           have q0 : (1 : Int) + (fn : Int) = (segN i : Int) := HSG.out
           generalize hsn : segN i = sg at *
           clear hsn
           have q1 : (0 : Int) ≤ (sg : Int) := by omega
           have q2 : (sg : Int) ≤ (i.length : Int) := by omega
           have q3 : (i.take sg).length ≤ sg := List.length_take_le _ _
           go_wp2_with fail
           go_quiet (fail)
           go_wp2_with fail
           go_roundw
           case rel => exact ⟨_, _, by omega, congrArg Value.string HXS.out, congrArg Value.string (by rw [HXP.out, ← S_of (S o ++ S (i.take sg)), ByteArray.data_append, Array.toList_append]), HN, hq.drewN _⟩
           case measure => rw [HXS.out, strLen_string, strLen_string, S_size, S_size]; exact hlt
          ·have HS : Hid (dotStep i o = ([], o)) := Lib.hid (by unfold dotStep; rw [if_neg (by rw [p1]; exact Bool.false_ne_true), if_neg (by rw [p2]; exact Bool.false_ne_true), if_neg (by rw [p3]; exact Bool.false_ne_true), if_neg (ne_of_beq_false e4), if_neg (by rw [p5]; exact Bool.false_ne_true), if_neg (ne_of_beq_false e6), if_pos (.inr (eq_of_beq e8))])
           have hlt := dotStep_lt (o := o) hi0
           have hout := dotStep_out (i := i) (o := o)
           rw [HS.out] at hlt hout
           simp only at hlt hout
           have HN : Hid (rdotsL s.data.toList = dotsL ([]) (o)) := Lib.hid (by rw [HD.out, dotsL_step hi0, HS.out])
           have Hp1 := Lib.hid p1
           have Hp2 := Lib.hid p2
           have Hp3 := Lib.hid p3
           have Hp5 := Lib.hid p5
           clear p1 p2 p3 p5
           go_wp2_with fail
           refine (rPrefix_any _ _ _ hml).mono ?_
           rintro e w1 ⟨rfl, rfl⟩
           rw [S_list, show Lib.hasPrefix i ({ data := #[46, 46, 47] } : ByteArray).data.toList = false from Hp1.out]
           go_wp2_with fail
           refine (rPrefix_any _ _ _ hml).mono ?_
           rintro e w1 ⟨rfl, rfl⟩
           rw [S_list, show Lib.hasPrefix i ({ data := #[46, 47] } : ByteArray).data.toList = false from Hp2.out]
           go_wp2_with fail
           refine (rPrefix_any _ _ _ hml).mono ?_
           rintro e w1 ⟨rfl, rfl⟩
           rw [S_list, show Lib.hasPrefix i ({ data := #[47, 46, 47] } : ByteArray).data.toList = false from Hp3.out]
           go_wp2_with fail
           refine (rPrefix_any _ _ _ hml).mono ?_
           rintro e w1 ⟨rfl, rfl⟩
           rw [S_list, show Lib.hasPrefix i ({ data := #[47, 46, 46, 47] } : ByteArray).data.toList = false from Hp5.out]
           go_wp2_with fail
           go_roundw
           case rel => exact ⟨_, _, by omega, rfl, rfl, HN, hq⟩
           case measure => rw [strLen_string, strLen_string, S_size]; exact hlt
         ·have HS : Hid (dotStep i o = ([], o)) := Lib.hid (by unfold dotStep; rw [if_neg (by rw [p1]; exact Bool.false_ne_true), if_neg (by rw [p2]; exact Bool.false_ne_true), if_neg (by rw [p3]; exact Bool.false_ne_true), if_neg (ne_of_beq_false e4), if_neg (by rw [p5]; exact Bool.false_ne_true), if_neg (ne_of_beq_false e6), if_pos (.inl (eq_of_beq e7))])
          have hlt := dotStep_lt (o := o) hi0
          have hout := dotStep_out (i := i) (o := o)
          rw [HS.out] at hlt hout
          simp only at hlt hout
          have HN : Hid (rdotsL s.data.toList = dotsL ([]) (o)) := Lib.hid (by rw [HD.out, dotsL_step hi0, HS.out])
          have Hp1 := Lib.hid p1
          have Hp2 := Lib.hid p2
          have Hp3 := Lib.hid p3
          have Hp5 := Lib.hid p5
          clear p1 p2 p3 p5
          go_wp2_with fail
          refine (rPrefix_any _ _ _ hml).mono ?_
          rintro e w1 ⟨rfl, rfl⟩
          rw [S_list, show Lib.hasPrefix i ({ data := #[46, 46, 47] } : ByteArray).data.toList = false from Hp1.out]
          go_wp2_with fail
          refine (rPrefix_any _ _ _ hml).mono ?_
          rintro e w1 ⟨rfl, rfl⟩
          rw [S_list, show Lib.hasPrefix i ({ data := #[46, 47] } : ByteArray).data.toList = false from Hp2.out]
          go_wp2_with fail
          refine (rPrefix_any _ _ _ hml).mono ?_
          rintro e w1 ⟨rfl, rfl⟩
          rw [S_list, show Lib.hasPrefix i ({ data := #[47, 46, 47] } : ByteArray).data.toList = false from Hp3.out]
          go_wp2_with fail
          refine (rPrefix_any _ _ _ hml).mono ?_
          rintro e w1 ⟨rfl, rfl⟩
          rw [S_list, show Lib.hasPrefix i ({ data := #[47, 46, 46, 47] } : ByteArray).data.toList = false from Hp5.out]
          go_wp2_with fail
          go_roundw
          case rel => exact ⟨_, _, by omega, rfl, rfl, HN, hq⟩
          case measure => rw [strLen_string, strLen_string, S_size]; exact hlt
        ·have HS : Hid (dotStep i o = ([47], shortL o)) := Lib.hid (by unfold dotStep; rw [if_neg (by rw [p1]; exact Bool.false_ne_true), if_neg (by rw [p2]; exact Bool.false_ne_true), if_neg (by rw [p3]; exact Bool.false_ne_true), if_neg (ne_of_beq_false e4), if_neg (by rw [p5]; exact Bool.false_ne_true), if_pos (eq_of_beq e6)])
         have hlt := dotStep_lt (o := o) hi0
         have hout := dotStep_out (i := i) (o := o)
         rw [HS.out] at hlt hout
         simp only at hlt hout
         have HN : Hid (rdotsL s.data.toList = dotsL ([47]) (shortL o)) := Lib.hid (by rw [HD.out, dotsL_step hi0, HS.out])
         have Hp1 := Lib.hid p1
         have Hp2 := Lib.hid p2
         have Hp3 := Lib.hid p3
         have Hp5 := Lib.hid p5
         clear p1 p2 p3 p5
         go_wp2_with fail
         refine (rPrefix_any _ _ _ hml).mono ?_
         rintro e w1 ⟨rfl, rfl⟩
         rw [S_list, show Lib.hasPrefix i ({ data := #[46, 46, 47] } : ByteArray).data.toList = false from Hp1.out]
         go_wp2_with fail
         refine (rPrefix_any _ _ _ hml).mono ?_
         rintro e w1 ⟨rfl, rfl⟩
         rw [S_list, show Lib.hasPrefix i ({ data := #[46, 47] } : ByteArray).data.toList = false from Hp2.out]
         go_wp2_with fail
         refine (rPrefix_any _ _ _ hml).mono ?_
         rintro e w1 ⟨rfl, rfl⟩
         rw [S_list, show Lib.hasPrefix i ({ data := #[47, 46, 47] } : ByteArray).data.toList = false from Hp3.out]
         go_wp2_with fail
         refine (rPrefix_any _ _ _ hml).mono ?_
         rintro e w1 ⟨rfl, rfl⟩
         rw [S_list, show Lib.hasPrefix i ({ data := #[47, 46, 46, 47] } : ByteArray).data.toList = false from Hp5.out]
         go_wp2_with fail
         refine (rshorten_any _ _ (by unfold maxLen; rw [S_size]; omega)).mono ?_
         rintro e w1 ⟨rfl, rfl⟩
         go_wp2_with fail
         go_roundw
         case rel => exact ⟨_, _, by omega, rfl, rfl, HN, hq⟩
         case measure => rw [strLen_string, strLen_string, S_size]; exact hlt
       ·have HS : Hid (dotStep i o = (i.drop 3, shortL o)) := Lib.hid (by unfold dotStep; rw [if_neg (by rw [p1]; exact Bool.false_ne_true), if_neg (by rw [p2]; exact Bool.false_ne_true), if_neg (by rw [p3]; exact Bool.false_ne_true), if_neg (ne_of_beq_false e4), if_pos p5])
        have hlt := dotStep_lt (o := o) hi0
        have hout := dotStep_out (i := i) (o := o)
        rw [HS.out] at hlt hout
        simp only at hlt hout
        have HN : Hid (rdotsL s.data.toList = dotsL (i.drop 3) (shortL o)) := Lib.hid (by rw [HD.out, dotsL_step hi0, HS.out])
        have hp3 : 3 ≤ i.length := by have := pre_len p5; simp at this; omega
        have hx := extract_suf (S i) 3
        rw [S_size, S_list] at hx
        have HX := Lib.hid hx
        clear hx
        have Hp1 := Lib.hid p1
        have Hp2 := Lib.hid p2
        have Hp3 := Lib.hid p3
        have Hp5 := Lib.hid p5
        clear p1 p2 p3 p5
        go_wp2_with fail
        refine (rPrefix_any _ _ _ hml).mono ?_
        rintro e w1 ⟨rfl, rfl⟩
        rw [S_list, show Lib.hasPrefix i ({ data := #[46, 46, 47] } : ByteArray).data.toList = false from Hp1.out]
        go_wp2_with fail
        refine (rPrefix_any _ _ _ hml).mono ?_
        rintro e w1 ⟨rfl, rfl⟩
        rw [S_list, show Lib.hasPrefix i ({ data := #[46, 47] } : ByteArray).data.toList = false from Hp2.out]
        go_wp2_with fail
        refine (rPrefix_any _ _ _ hml).mono ?_
        rintro e w1 ⟨rfl, rfl⟩
        rw [S_list, show Lib.hasPrefix i ({ data := #[47, 46, 47] } : ByteArray).data.toList = false from Hp3.out]
        go_wp2_with fail
        refine (rPrefix_any _ _ _ hml).mono ?_
        rintro e w1 ⟨rfl, rfl⟩
        rw [S_list, show Lib.hasPrefix i ({ data := #[47, 46, 46, 47] } : ByteArray).data.toList = true from Hp5.out]
        go_wp2_with fail
        go_quiet ((go_at_call 101; exact quiet_left (rshorten_any _ _ (by unfold maxLen; rw [S_size]; omega))))
        go_wp2_with fail
        go_roundw
        case rel => exact ⟨_, _, by omega, congrArg Value.string HX.out, rfl, HN, hq.drewN _⟩
        case measure => rw [HX.out, strLen_string, strLen_string, S_size, S_size]; exact hlt
      ·have HS : Hid (dotStep i o = ([47], o)) := Lib.hid (by unfold dotStep; rw [if_neg (by rw [p1]; exact Bool.false_ne_true), if_neg (by rw [p2]; exact Bool.false_ne_true), if_neg (by rw [p3]; exact Bool.false_ne_true), if_pos (eq_of_beq e4)])
       have hlt := dotStep_lt (o := o) hi0
       have hout := dotStep_out (i := i) (o := o)
       rw [HS.out] at hlt hout
       simp only at hlt hout
       have HN : Hid (rdotsL s.data.toList = dotsL ([47]) (o)) := Lib.hid (by rw [HD.out, dotsL_step hi0, HS.out])
       have Hp1 := Lib.hid p1
       have Hp2 := Lib.hid p2
       have Hp3 := Lib.hid p3
       clear p1 p2 p3
       go_wp2_with fail
       refine (rPrefix_any _ _ _ hml).mono ?_
       rintro e w1 ⟨rfl, rfl⟩
       rw [S_list, show Lib.hasPrefix i ({ data := #[46, 46, 47] } : ByteArray).data.toList = false from Hp1.out]
       go_wp2_with fail
       refine (rPrefix_any _ _ _ hml).mono ?_
       rintro e w1 ⟨rfl, rfl⟩
       rw [S_list, show Lib.hasPrefix i ({ data := #[46, 47] } : ByteArray).data.toList = false from Hp2.out]
       go_wp2_with fail
       refine (rPrefix_any _ _ _ hml).mono ?_
       rintro e w1 ⟨rfl, rfl⟩
       rw [S_list, show Lib.hasPrefix i ({ data := #[47, 46, 47] } : ByteArray).data.toList = false from Hp3.out]
       go_wp2_with fail
       go_roundw
       case rel => exact ⟨_, _, by omega, rfl, rfl, HN, hq⟩
       case measure => rw [strLen_string, strLen_string, S_size]; exact hlt
     ·have HS : Hid (dotStep i o = (i.drop 2, o)) := Lib.hid (by unfold dotStep; rw [if_neg (by rw [p1]; exact Bool.false_ne_true), if_neg (by rw [p2]; exact Bool.false_ne_true), if_pos p3])
      have hlt := dotStep_lt (o := o) hi0
      have hout := dotStep_out (i := i) (o := o)
      rw [HS.out] at hlt hout
      simp only at hlt hout
      have HN : Hid (rdotsL s.data.toList = dotsL (i.drop 2) (o)) := Lib.hid (by rw [HD.out, dotsL_step hi0, HS.out])
      have hp2 : 2 ≤ i.length := by have := pre_len p3; simp at this; omega
      have hx := extract_suf (S i) 2
      rw [S_size, S_list] at hx
      have HX := Lib.hid hx
      clear hx
      have Hp1 := Lib.hid p1
      have Hp2 := Lib.hid p2
      have Hp3 := Lib.hid p3
      clear p1 p2 p3
      go_wp2_with fail
      refine (rPrefix_any _ _ _ hml).mono ?_
      rintro e w1 ⟨rfl, rfl⟩
      rw [S_list, show Lib.hasPrefix i ({ data := #[46, 46, 47] } : ByteArray).data.toList = false from Hp1.out]
      go_wp2_with fail
      refine (rPrefix_any _ _ _ hml).mono ?_
      rintro e w1 ⟨rfl, rfl⟩
      rw [S_list, show Lib.hasPrefix i ({ data := #[46, 47] } : ByteArray).data.toList = false from Hp2.out]
      go_wp2_with fail
      refine (rPrefix_any _ _ _ hml).mono ?_
      rintro e w1 ⟨rfl, rfl⟩
      rw [S_list, show Lib.hasPrefix i ({ data := #[47, 46, 47] } : ByteArray).data.toList = true from Hp3.out]
      go_wp2_with fail
      go_roundw
      case rel => exact ⟨_, _, by omega, congrArg Value.string HX.out, rfl, HN, hq⟩
      case measure => rw [HX.out, strLen_string, strLen_string, S_size, S_size]; exact hlt
    ·have HS : Hid (dotStep i o = (i.drop 2, o)) := Lib.hid (by unfold dotStep; rw [if_neg (by rw [p1]; exact Bool.false_ne_true), if_pos p2])
     have hlt := dotStep_lt (o := o) hi0
     have hout := dotStep_out (i := i) (o := o)
     rw [HS.out] at hlt hout
     simp only at hlt hout
     have HN : Hid (rdotsL s.data.toList = dotsL (i.drop 2) (o)) := Lib.hid (by rw [HD.out, dotsL_step hi0, HS.out])
     have hp2 : 2 ≤ i.length := by have := pre_len p2; simp at this; omega
     have hx := extract_suf (S i) 2
     rw [S_size, S_list] at hx
     have HX := Lib.hid hx
     clear hx
     have Hp1 := Lib.hid p1
     have Hp2 := Lib.hid p2
     clear p1 p2
     go_wp2_with fail
     refine (rPrefix_any _ _ _ hml).mono ?_
     rintro e w1 ⟨rfl, rfl⟩
     rw [S_list, show Lib.hasPrefix i ({ data := #[46, 46, 47] } : ByteArray).data.toList = false from Hp1.out]
     go_wp2_with fail
     refine (rPrefix_any _ _ _ hml).mono ?_
     rintro e w1 ⟨rfl, rfl⟩
     rw [S_list, show Lib.hasPrefix i ({ data := #[46, 47] } : ByteArray).data.toList = true from Hp2.out]
     go_wp2_with fail
     go_roundw
     case rel => exact ⟨_, _, by omega, congrArg Value.string HX.out, rfl, HN, hq⟩
     case measure => rw [HX.out, strLen_string, strLen_string, S_size, S_size]; exact hlt
   ·have HS : Hid (dotStep i o = (i.drop 3, o)) := Lib.hid (by unfold dotStep; rw [if_pos p1])
    have hlt := dotStep_lt (o := o) hi0
    have hout := dotStep_out (i := i) (o := o)
    rw [HS.out] at hlt hout
    simp only at hlt hout
    have HN : Hid (rdotsL s.data.toList = dotsL (i.drop 3) (o)) := Lib.hid (by rw [HD.out, dotsL_step hi0, HS.out])
    have hp3 : 3 ≤ i.length := by have := pre_len p1; simp at this; omega
    have hx := extract_suf (S i) 3
    rw [S_size, S_list] at hx
    have HX := Lib.hid hx
    clear hx
    have Hp1 := Lib.hid p1
    clear p1
    go_wp2_with fail
    refine (rPrefix_any _ _ _ hml).mono ?_
    rintro e w1 ⟨rfl, rfl⟩
    rw [S_list, show Lib.hasPrefix i ({ data := #[46, 46, 47] } : ByteArray).data.toList = true from Hp1.out]
    go_wp2_with fail
    go_roundw
    case rel => exact ⟨_, _, by omega, congrArg Value.string HX.out, rfl, HN, hq⟩
    case measure => rw [HX.out, strLen_string, strLen_string, S_size, S_size]; exact hlt
end Go.Proofs.YtjkdiojicmcbaaaGreatDoor
namespace Go.Proofs.YtjkdiojicmcbaaaGreatDoor
open Go.RowKit
attribute [local go_sem ↓] Go.wp_at_zero Go.wp_at_succ
set_option maxHeartbeats 8000000 in
theorem pDots_any (s : ByteArray) (w : World) (hs : s.size ≤ 1000000) :
  Calls Tryz.prog 170 #[.string s] w fun e w' => e = .returned (.string (S (rdotsL s.data.toList))) ∧ Qb w w' := by
 have hmk := fun W => mk_bytes0 s.size (by omega) W
 go_enter Tryz.func170, Tryz.ntmps170
 go_wp2_with fail
 go_region
 go_wp2_with fail
 clear hmk
 go_loopw [3, 4, 5] (fun x y _ wr => ∃ (i o : List UInt8) (g cap : Nat), o.length + i.length ≤ s.size ∧ x = .string (S i) ∧ y = .slice (some ⟨g, 0, none⟩) o.length cap ∧ Brow wr w.heap.size (.slice (some ⟨g, 0, none⟩) o.length cap) o ∧ Hid (rdotsL s.data.toList = dotsL i o) ∧ Qb w wr) (fun x _ _ _ => strLen x)
 case atStart => exact ⟨s.data.toList, [], w.heap.size, s.size, by rw [size_list]; simp, rfl, rfl, (brow_made w _ 0 _ (Nat.le_refl _) (Nat.zero_le _) (by omega)).drew, Lib.hid rfl, ((Qb.refl w).alloc _).drew⟩
 case round =>
  obtain ⟨i, o, g, cap, hl, rfl, rfl, hrow, HD, hq⟩ := hrel
  have hB : w.heap.size ≤ wr.heap.size := hq.size
  rcases i with _ | ⟨c, t⟩
  ·have hst := row_str hrow
   clear hrow
   go_wp2_with fail
   go_ret
   exact ⟨ret_strl (by rw [HD.out, dotsL_nil]), hq⟩
  ·generalize hi : c :: t = i at *
   have hi0 : i ≠ [] := by rw [← hi]; simp
   have hne : i.isEmpty = false := by rw [← hi]; rfl
   clear hi
   have hml : (S i).size ≤ maxLen := by unfold maxLen; rw [S_size]; omega
   have hil : i.length ≤ 1000000 := by omega
   have hol : o.length ≤ 1000000 := by omega
   rcases p1 : Lib.hasPrefix i [46, 46, 47] with _ | _
   ·rcases p2 : Lib.hasPrefix i [46, 47] with _ | _
    ·rcases p3 : Lib.hasPrefix i [47, 46, 47] with _ | _
     ·rcases e4 : (i == [47, 46]) with _ | _
      ·rcases p5 : Lib.hasPrefix i [47, 46, 46, 47] with _ | _
       ·rcases e6 : (i == [47, 46, 46]) with _ | _
        ·rcases e7 : (i == [46]) with _ | _
         ·rcases e8 : (i == [46, 46]) with _ | _
          ·have HS : Hid (dotStep i o = (i.drop (segN i), o ++ i.take (segN i))) := Lib.hid (by unfold dotStep; rw [if_neg (by rw [p1]; exact Bool.false_ne_true), if_neg (by rw [p2]; exact Bool.false_ne_true), if_neg (by rw [p3]; exact Bool.false_ne_true), if_neg (ne_of_beq_false e4), if_neg (by rw [p5]; exact Bool.false_ne_true), if_neg (ne_of_beq_false e6), if_neg (fun h => h.elim (ne_of_beq_false e7) (ne_of_beq_false e8))])
           have hlt := dotStep_lt (o := o) hi0
           have hout := dotStep_out (i := i) (o := o)
           rw [HS.out] at hlt hout
           simp only at hlt hout
           have HN : Hid (rdotsL s.data.toList = dotsL (i.drop (segN i)) (o ++ i.take (segN i))) := Lib.hid (by rw [HD.out, dotsL_step hi0, HS.out])
           have hseg := segN_le hi0
           have hx1 := extract_suf (S i) 1
           rw [S_size, S_list] at hx1
           have HX1 := Lib.hid hx1
           have hx2 := extract_suf (S i) (segN i)
           rw [S_size, S_list] at hx2
           have hx3 := extract_pre (S i) (segN i)
           rw [S_list] at hx3
           have HXS := Lib.hid hx2
           have HXP := Lib.hid hx3
           have hdl : (i.drop 1).length ≤ 1000000 := by rw [List.length_drop]; omega
           have hsg : (1 : Int) + ((firstL (i.drop 1)).length : Int) = (segN i : Int) := by unfold segN; omega
           have HSG := Lib.hid hsg
           clear hx1 hx2 hx3 hsg
           have Hp1 := Lib.hid p1
           have Hp2 := Lib.hid p2
           have Hp3 := Lib.hid p3
           have Hp5 := Lib.hid p5
           clear p1 p2 p3 p5
           go_wp2_with fail
           refine (Tryz.strings_HasPrefix _ _ _).mono ?_
           rintro e w1 ⟨rfl, rfl⟩
           rw [S_list, show Lib.hasPrefix i ({ data := #[46, 46, 47] } : ByteArray).data.toList = false from Hp1.out]
           go_wp2_with fail
           refine (Tryz.strings_HasPrefix _ _ _).mono ?_
           rintro e w1 ⟨rfl, rfl⟩
           rw [S_list, show Lib.hasPrefix i ({ data := #[46, 47] } : ByteArray).data.toList = false from Hp2.out]
           go_wp2_with fail
           refine (Tryz.strings_HasPrefix _ _ _).mono ?_
           rintro e w1 ⟨rfl, rfl⟩
           rw [S_list, show Lib.hasPrefix i ({ data := #[47, 46, 47] } : ByteArray).data.toList = false from Hp3.out]
           go_wp2_with fail
           refine (Tryz.strings_HasPrefix _ _ _).mono ?_
           rintro e w1 ⟨rfl, rfl⟩
           rw [S_list, show Lib.hasPrefix i ({ data := #[47, 46, 46, 47] } : ByteArray).data.toList = false from Hp5.out]
           go_wp2_with fail
           rw [HX1.out]
           refine (firstPart_any _ _ (by unfold maxLen; rw [S_size]; omega)).mono ?_
           rintro e w1 ⟨rfl, hq1⟩
           rw [S_list]
           have hrow1 := hrow.below hq1
           have hB1 : w.heap.size ≤ w1.heap.size := Nat.le_trans hB hq1.size
           have hfl := (firstL_pre (i.drop 1)).2
           generalize hfa : firstL (i.drop 1) = fa at *
           have HFA := Lib.hid hfa
           clear hfa
           have q0 : (1 : Int) + (fa.length : Int) = (segN i : Int) := HSG.out
           generalize hsn : segN i = sg at *
           clear hsn
           have q1 : (0 : Int) ≤ (sg : Int) := by omega
           have q2 : (sg : Int) ≤ (i.length : Int) := by omega
           have q3 : (i.take sg).length ≤ sg := List.length_take_le _ _
           go_wp2_with fail
           go_region_held_law (fun w' => True) (first | trivial | go_keep) ((refine step_append_str (o := ⟨some 24, _, _, _, _, _⟩) (by rfl) (.tmp 20) (.tmp 23) (by rfl) w.heap.size _ o (by rfl) (Brow.drew hrow1) _ (by rfl) (by rw [HXP.out, S_size]; omega) (by simp; omega) ?_; intro v1 w2 hr1 hb1))
           rw [HXP.out, S_list] at hr1
           obtain ⟨oo, hoo⟩ : ∃ oo, oo = o ++ i.take sg := ⟨_, rfl⟩
           rw [← hoo] at hr1
           have HN2 : Hid (rdotsL s.data.toList = dotsL (i.drop sg) oo) := Lib.hid (by rw [hoo]; exact HN.out)
           have hoo1 : oo.length + (i.drop sg).length ≤ s.size := by rw [hoo]; omega
           have hoo2 : 0 < oo.length := by rw [hoo, List.length_append, List.length_take]; omega
           clear hoo HN hout
           obtain ⟨g1, cap1, rfl, _⟩ := hr1.form hoo2
           go_wp2_with fail
           go_roundw
           case rel => exact ⟨_, _, _, _, hoo1, congrArg Value.string HXS.out, rfl, hr1, HN2, Below.trans ((hq.trans hq1).drew) hb1⟩
           case measure => rw [HXS.out, strLen_string, strLen_string, S_size, S_size]; exact hlt
          ·have HS : Hid (dotStep i o = ([], o)) := Lib.hid (by unfold dotStep; rw [if_neg (by rw [p1]; exact Bool.false_ne_true), if_neg (by rw [p2]; exact Bool.false_ne_true), if_neg (by rw [p3]; exact Bool.false_ne_true), if_neg (ne_of_beq_false e4), if_neg (by rw [p5]; exact Bool.false_ne_true), if_neg (ne_of_beq_false e6), if_pos (.inr (eq_of_beq e8))])
           have hlt := dotStep_lt (o := o) hi0
           have hout := dotStep_out (i := i) (o := o)
           rw [HS.out] at hlt hout
           simp only at hlt hout
           have HN : Hid (rdotsL s.data.toList = dotsL ([]) (o)) := Lib.hid (by rw [HD.out, dotsL_step hi0, HS.out])
           have Hp1 := Lib.hid p1
           have Hp2 := Lib.hid p2
           have Hp3 := Lib.hid p3
           have Hp5 := Lib.hid p5
           clear p1 p2 p3 p5
           go_wp2_with fail
           refine (Tryz.strings_HasPrefix _ _ _).mono ?_
           rintro e w1 ⟨rfl, rfl⟩
           rw [S_list, show Lib.hasPrefix i ({ data := #[46, 46, 47] } : ByteArray).data.toList = false from Hp1.out]
           go_wp2_with fail
           refine (Tryz.strings_HasPrefix _ _ _).mono ?_
           rintro e w1 ⟨rfl, rfl⟩
           rw [S_list, show Lib.hasPrefix i ({ data := #[46, 47] } : ByteArray).data.toList = false from Hp2.out]
           go_wp2_with fail
           refine (Tryz.strings_HasPrefix _ _ _).mono ?_
           rintro e w1 ⟨rfl, rfl⟩
           rw [S_list, show Lib.hasPrefix i ({ data := #[47, 46, 47] } : ByteArray).data.toList = false from Hp3.out]
           go_wp2_with fail
           refine (Tryz.strings_HasPrefix _ _ _).mono ?_
           rintro e w1 ⟨rfl, rfl⟩
           rw [S_list, show Lib.hasPrefix i ({ data := #[47, 46, 46, 47] } : ByteArray).data.toList = false from Hp5.out]
           go_wp2_with fail
           go_roundw
           case rel => exact ⟨_, _, _, _, by omega, rfl, rfl, hrow, HN, hq⟩
           case measure => rw [strLen_string, strLen_string, S_size]; exact hlt
         ·have HS : Hid (dotStep i o = ([], o)) := Lib.hid (by unfold dotStep; rw [if_neg (by rw [p1]; exact Bool.false_ne_true), if_neg (by rw [p2]; exact Bool.false_ne_true), if_neg (by rw [p3]; exact Bool.false_ne_true), if_neg (ne_of_beq_false e4), if_neg (by rw [p5]; exact Bool.false_ne_true), if_neg (ne_of_beq_false e6), if_pos (.inl (eq_of_beq e7))])
          have hlt := dotStep_lt (o := o) hi0
          have hout := dotStep_out (i := i) (o := o)
          rw [HS.out] at hlt hout
          simp only at hlt hout
          have HN : Hid (rdotsL s.data.toList = dotsL ([]) (o)) := Lib.hid (by rw [HD.out, dotsL_step hi0, HS.out])
          have Hp1 := Lib.hid p1
          have Hp2 := Lib.hid p2
          have Hp3 := Lib.hid p3
          have Hp5 := Lib.hid p5
          clear p1 p2 p3 p5
          go_wp2_with fail
          refine (Tryz.strings_HasPrefix _ _ _).mono ?_
          rintro e w1 ⟨rfl, rfl⟩
          rw [S_list, show Lib.hasPrefix i ({ data := #[46, 46, 47] } : ByteArray).data.toList = false from Hp1.out]
          go_wp2_with fail
          refine (Tryz.strings_HasPrefix _ _ _).mono ?_
          rintro e w1 ⟨rfl, rfl⟩
          rw [S_list, show Lib.hasPrefix i ({ data := #[46, 47] } : ByteArray).data.toList = false from Hp2.out]
          go_wp2_with fail
          refine (Tryz.strings_HasPrefix _ _ _).mono ?_
          rintro e w1 ⟨rfl, rfl⟩
          rw [S_list, show Lib.hasPrefix i ({ data := #[47, 46, 47] } : ByteArray).data.toList = false from Hp3.out]
          go_wp2_with fail
          refine (Tryz.strings_HasPrefix _ _ _).mono ?_
          rintro e w1 ⟨rfl, rfl⟩
          rw [S_list, show Lib.hasPrefix i ({ data := #[47, 46, 46, 47] } : ByteArray).data.toList = false from Hp5.out]
          go_wp2_with fail
          go_roundw
          case rel => exact ⟨_, _, _, _, by omega, rfl, rfl, hrow, HN, hq⟩
          case measure => rw [strLen_string, strLen_string, S_size]; exact hlt
        ·have HS : Hid (dotStep i o = ([47], shortL o)) := Lib.hid (by unfold dotStep; rw [if_neg (by rw [p1]; exact Bool.false_ne_true), if_neg (by rw [p2]; exact Bool.false_ne_true), if_neg (by rw [p3]; exact Bool.false_ne_true), if_neg (ne_of_beq_false e4), if_neg (by rw [p5]; exact Bool.false_ne_true), if_pos (eq_of_beq e6)])
         have hlt := dotStep_lt (o := o) hi0
         have hout := dotStep_out (i := i) (o := o)
         rw [HS.out] at hlt hout
         simp only at hlt hout
         have HN : Hid (rdotsL s.data.toList = dotsL ([47]) (shortL o)) := Lib.hid (by rw [HD.out, dotsL_step hi0, HS.out])
         have Hp1 := Lib.hid p1
         have Hp2 := Lib.hid p2
         have Hp3 := Lib.hid p3
         have Hp5 := Lib.hid p5
         clear p1 p2 p3 p5
         go_wp2_with fail
         refine (Tryz.strings_HasPrefix _ _ _).mono ?_
         rintro e w1 ⟨rfl, rfl⟩
         rw [S_list, show Lib.hasPrefix i ({ data := #[46, 46, 47] } : ByteArray).data.toList = false from Hp1.out]
         go_wp2_with fail
         refine (Tryz.strings_HasPrefix _ _ _).mono ?_
         rintro e w1 ⟨rfl, rfl⟩
         rw [S_list, show Lib.hasPrefix i ({ data := #[46, 47] } : ByteArray).data.toList = false from Hp2.out]
         go_wp2_with fail
         refine (Tryz.strings_HasPrefix _ _ _).mono ?_
         rintro e w1 ⟨rfl, rfl⟩
         rw [S_list, show Lib.hasPrefix i ({ data := #[47, 46, 47] } : ByteArray).data.toList = false from Hp3.out]
         go_wp2_with fail
         refine (Tryz.strings_HasPrefix _ _ _).mono ?_
         rintro e w1 ⟨rfl, rfl⟩
         rw [S_list, show Lib.hasPrefix i ({ data := #[47, 46, 46, 47] } : ByteArray).data.toList = false from Hp5.out]
         have hrow1 := hrow.pre (shortL o).length (shortL_len o)
         rw [← shortL_take] at hrow1
         go_wp2_with fail
         refine (withoutLast_any g cap _ o _ hrow (by omega)).mono ?_
         rintro e w1 ⟨rfl, rfl⟩
         go_wp2_with fail
         go_roundw
         case rel => exact ⟨_, _, _, _, by omega, rfl, rfl, hrow1, HN, hq⟩
         case measure => rw [strLen_string, strLen_string, S_size]; exact hlt
       ·have HS : Hid (dotStep i o = (i.drop 3, shortL o)) := Lib.hid (by unfold dotStep; rw [if_neg (by rw [p1]; exact Bool.false_ne_true), if_neg (by rw [p2]; exact Bool.false_ne_true), if_neg (by rw [p3]; exact Bool.false_ne_true), if_neg (ne_of_beq_false e4), if_pos p5])
        have hlt := dotStep_lt (o := o) hi0
        have hout := dotStep_out (i := i) (o := o)
        rw [HS.out] at hlt hout
        simp only at hlt hout
        have HN : Hid (rdotsL s.data.toList = dotsL (i.drop 3) (shortL o)) := Lib.hid (by rw [HD.out, dotsL_step hi0, HS.out])
        have hp3 : 3 ≤ i.length := by have := pre_len p5; simp at this; omega
        have hx := extract_suf (S i) 3
        rw [S_size, S_list] at hx
        have HX := Lib.hid hx
        clear hx
        have Hp1 := Lib.hid p1
        have Hp2 := Lib.hid p2
        have Hp3 := Lib.hid p3
        have Hp5 := Lib.hid p5
        clear p1 p2 p3 p5
        go_wp2_with fail
        refine (Tryz.strings_HasPrefix _ _ _).mono ?_
        rintro e w1 ⟨rfl, rfl⟩
        rw [S_list, show Lib.hasPrefix i ({ data := #[46, 46, 47] } : ByteArray).data.toList = false from Hp1.out]
        go_wp2_with fail
        refine (Tryz.strings_HasPrefix _ _ _).mono ?_
        rintro e w1 ⟨rfl, rfl⟩
        rw [S_list, show Lib.hasPrefix i ({ data := #[46, 47] } : ByteArray).data.toList = false from Hp2.out]
        go_wp2_with fail
        refine (Tryz.strings_HasPrefix _ _ _).mono ?_
        rintro e w1 ⟨rfl, rfl⟩
        rw [S_list, show Lib.hasPrefix i ({ data := #[47, 46, 47] } : ByteArray).data.toList = false from Hp3.out]
        go_wp2_with fail
        refine (Tryz.strings_HasPrefix _ _ _).mono ?_
        rintro e w1 ⟨rfl, rfl⟩
        rw [S_list, show Lib.hasPrefix i ({ data := #[47, 46, 46, 47] } : ByteArray).data.toList = true from Hp5.out]
        have hrow1 := hrow.pre (shortL o).length (shortL_len o)
        rw [← shortL_take] at hrow1
        go_wp2_with fail
        go_quiet ((go_at_call 183; exact quiet_left (withoutLast_any g cap _ o _ (hrow.drewN _) (by omega))))
        go_wp2_with fail
        go_roundw
        case rel => exact ⟨_, _, _, _, by omega, congrArg Value.string HX.out, rfl, hrow1.drewN _, HN, hq.drewN _⟩
        case measure => rw [HX.out, strLen_string, strLen_string, S_size, S_size]; exact hlt
      ·have HS : Hid (dotStep i o = ([47], o)) := Lib.hid (by unfold dotStep; rw [if_neg (by rw [p1]; exact Bool.false_ne_true), if_neg (by rw [p2]; exact Bool.false_ne_true), if_neg (by rw [p3]; exact Bool.false_ne_true), if_pos (eq_of_beq e4)])
       have hlt := dotStep_lt (o := o) hi0
       have hout := dotStep_out (i := i) (o := o)
       rw [HS.out] at hlt hout
       simp only at hlt hout
       have HN : Hid (rdotsL s.data.toList = dotsL ([47]) (o)) := Lib.hid (by rw [HD.out, dotsL_step hi0, HS.out])
       have Hp1 := Lib.hid p1
       have Hp2 := Lib.hid p2
       have Hp3 := Lib.hid p3
       clear p1 p2 p3
       go_wp2_with fail
       refine (Tryz.strings_HasPrefix _ _ _).mono ?_
       rintro e w1 ⟨rfl, rfl⟩
       rw [S_list, show Lib.hasPrefix i ({ data := #[46, 46, 47] } : ByteArray).data.toList = false from Hp1.out]
       go_wp2_with fail
       refine (Tryz.strings_HasPrefix _ _ _).mono ?_
       rintro e w1 ⟨rfl, rfl⟩
       rw [S_list, show Lib.hasPrefix i ({ data := #[46, 47] } : ByteArray).data.toList = false from Hp2.out]
       go_wp2_with fail
       refine (Tryz.strings_HasPrefix _ _ _).mono ?_
       rintro e w1 ⟨rfl, rfl⟩
       rw [S_list, show Lib.hasPrefix i ({ data := #[47, 46, 47] } : ByteArray).data.toList = false from Hp3.out]
       go_wp2_with fail
       go_roundw
       case rel => exact ⟨_, _, _, _, by omega, rfl, rfl, hrow, HN, hq⟩
       case measure => rw [strLen_string, strLen_string, S_size]; exact hlt
     ·have HS : Hid (dotStep i o = (i.drop 2, o)) := Lib.hid (by unfold dotStep; rw [if_neg (by rw [p1]; exact Bool.false_ne_true), if_neg (by rw [p2]; exact Bool.false_ne_true), if_pos p3])
      have hlt := dotStep_lt (o := o) hi0
      have hout := dotStep_out (i := i) (o := o)
      rw [HS.out] at hlt hout
      simp only at hlt hout
      have HN : Hid (rdotsL s.data.toList = dotsL (i.drop 2) (o)) := Lib.hid (by rw [HD.out, dotsL_step hi0, HS.out])
      have hp2 : 2 ≤ i.length := by have := pre_len p3; simp at this; omega
      have hx := extract_suf (S i) 2
      rw [S_size, S_list] at hx
      have HX := Lib.hid hx
      clear hx
      have Hp1 := Lib.hid p1
      have Hp2 := Lib.hid p2
      have Hp3 := Lib.hid p3
      clear p1 p2 p3
      go_wp2_with fail
      refine (Tryz.strings_HasPrefix _ _ _).mono ?_
      rintro e w1 ⟨rfl, rfl⟩
      rw [S_list, show Lib.hasPrefix i ({ data := #[46, 46, 47] } : ByteArray).data.toList = false from Hp1.out]
      go_wp2_with fail
      refine (Tryz.strings_HasPrefix _ _ _).mono ?_
      rintro e w1 ⟨rfl, rfl⟩
      rw [S_list, show Lib.hasPrefix i ({ data := #[46, 47] } : ByteArray).data.toList = false from Hp2.out]
      go_wp2_with fail
      refine (Tryz.strings_HasPrefix _ _ _).mono ?_
      rintro e w1 ⟨rfl, rfl⟩
      rw [S_list, show Lib.hasPrefix i ({ data := #[47, 46, 47] } : ByteArray).data.toList = true from Hp3.out]
      go_wp2_with fail
      go_roundw
      case rel => exact ⟨_, _, _, _, by omega, congrArg Value.string HX.out, rfl, hrow, HN, hq⟩
      case measure => rw [HX.out, strLen_string, strLen_string, S_size, S_size]; exact hlt
    ·have HS : Hid (dotStep i o = (i.drop 2, o)) := Lib.hid (by unfold dotStep; rw [if_neg (by rw [p1]; exact Bool.false_ne_true), if_pos p2])
     have hlt := dotStep_lt (o := o) hi0
     have hout := dotStep_out (i := i) (o := o)
     rw [HS.out] at hlt hout
     simp only at hlt hout
     have HN : Hid (rdotsL s.data.toList = dotsL (i.drop 2) (o)) := Lib.hid (by rw [HD.out, dotsL_step hi0, HS.out])
     have hp2 : 2 ≤ i.length := by have := pre_len p2; simp at this; omega
     have hx := extract_suf (S i) 2
     rw [S_size, S_list] at hx
     have HX := Lib.hid hx
     clear hx
     have Hp1 := Lib.hid p1
     have Hp2 := Lib.hid p2
     clear p1 p2
     go_wp2_with fail
     refine (Tryz.strings_HasPrefix _ _ _).mono ?_
     rintro e w1 ⟨rfl, rfl⟩
     rw [S_list, show Lib.hasPrefix i ({ data := #[46, 46, 47] } : ByteArray).data.toList = false from Hp1.out]
     go_wp2_with fail
     refine (Tryz.strings_HasPrefix _ _ _).mono ?_
     rintro e w1 ⟨rfl, rfl⟩
     rw [S_list, show Lib.hasPrefix i ({ data := #[46, 47] } : ByteArray).data.toList = true from Hp2.out]
     go_wp2_with fail
     go_roundw
     case rel => exact ⟨_, _, _, _, by omega, congrArg Value.string HX.out, rfl, hrow, HN, hq⟩
     case measure => rw [HX.out, strLen_string, strLen_string, S_size, S_size]; exact hlt
   ·have HS : Hid (dotStep i o = (i.drop 3, o)) := Lib.hid (by unfold dotStep; rw [if_pos p1])
    have hlt := dotStep_lt (o := o) hi0
    have hout := dotStep_out (i := i) (o := o)
    rw [HS.out] at hlt hout
    simp only at hlt hout
    have HN : Hid (rdotsL s.data.toList = dotsL (i.drop 3) (o)) := Lib.hid (by rw [HD.out, dotsL_step hi0, HS.out])
    have hp3 : 3 ≤ i.length := by have := pre_len p1; simp at this; omega
    have hx := extract_suf (S i) 3
    rw [S_size, S_list] at hx
    have HX := Lib.hid hx
    clear hx
    have Hp1 := Lib.hid p1
    clear p1
    go_wp2_with fail
    refine (Tryz.strings_HasPrefix _ _ _).mono ?_
    rintro e w1 ⟨rfl, rfl⟩
    rw [S_list, show Lib.hasPrefix i ({ data := #[46, 46, 47] } : ByteArray).data.toList = true from Hp1.out]
    go_wp2_with fail
    go_roundw
    case rel => exact ⟨_, _, _, _, by omega, congrArg Value.string HX.out, rfl, hrow, HN, hq⟩
    case measure => rw [HX.out, strLen_string, strLen_string, S_size, S_size]; exact hlt
end Go.Proofs.YtjkdiojicmcbaaaGreatDoor
namespace Go.Proofs.YtjkdiojicmcbaaaGreatDoor
open Go.RowKit Sx
theorem Qb.rev {w w' : World} (h : w' = w) : Qb w w' := by subst h; exact Qb.refl _
def uriAV (u : UriP) : AV := .agg [.s u.scheme, .s u.auth, .s u.path, .s u.query, .s u.frag, .b u.hs, .b u.ha, .b u.hq, .b u.hf]
section
variable [Tabs Tryz.prog] {objs : List OB} {K : List OB → AV → Prop}
theorem uSplit_k (s : List UInt8) (hk : K objs (.tup [uriAV (splitE s).2, .i .i64 (splitE s).1])) : CallOk Tryz.prog 133 [.s s] objs K := by
 refine conv (vs := [.string (S s)]) rfl rfl (fun w => ?_) hk
 rcases Nat.lt_or_ge 16384 s.length with h | h
 ·exact Split_long (S s) w (by rw [S_size]; exact h)
 ·exact Split_short (S s) w (by rw [S_size]; exact h)
theorem uDots_k (s : List UInt8) (hs : s.length ≤ 1000000) (hk : K objs (.s (rdotsL s))) : CallOk Tryz.prog 170 [.s s] objs K :=
 conv (vs := [.string (S s)]) rfl rfl (fun w => pDots_any (S s) w (by rw [S_size]; exact hs)) hk
theorem ruDots_k (s : List UInt8) (hs : s.length ≤ 1000000) (hk : K objs (.s (rdotsL s))) : CallOk Tryz.prog 58 [.s s] objs K :=
 conv (vs := [.string (S s)]) rfl rfl (fun w => rDots_any (S s) w (by rw [S_size]; exact hs)) hk
theorem rIndex_k (s set : List UInt8) (hs : s.length ≤ maxLen) (ha : set.length ≤ maxLen) (hk : K objs (.i .i64 (idxS s set))) : CallOk Tryz.prog 36 [.s s, .s set] objs K :=
 convs (vs := [.string (S s), .string (S set)]) rfl rfl (fun w => rIndex_any (S s) (S set) w (by rw [S_size]; exact hs) (by rw [S_size]; exact ha)) hk
theorem rPrefix_k (s p : List UInt8) (hs : s.length ≤ maxLen) (hk : K objs (.b (Lib.hasPrefix s p))) : CallOk Tryz.prog 35 [.s s, .s p] objs K :=
 convs (vs := [.string (S s), .string (S p)]) rfl rfl (fun w => rPrefix_any (S s) (S p) w (by rw [S_size]; exact hs)) hk
theorem rscheme_k (s : List UInt8) (hs : s.length ≤ maxLen) (hk : K objs (.b (schemeB s))) : CallOk Tryz.prog 98 [.s s] objs K :=
 convs (vs := [.string (S s)]) rfl rfl (fun w => rscheme_any (S s) w (by rw [S_size]; exact hs)) hk
end
end Go.Proofs.YtjkdiojicmcbaaaGreatDoor
