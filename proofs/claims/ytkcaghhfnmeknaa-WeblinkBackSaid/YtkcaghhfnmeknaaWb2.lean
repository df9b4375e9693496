/- The texts that the proofs of these statements reach, in their order, as few files. -/
import Derived.Shelf.Strings.Builder1
import Derived.Shelf.Strings.Builder2
import Derived.Shelf.Strings.OnBuilder
import Derived.Shelf.Small.Strs
import Derived.Shelf.Strings.BuilderF
import Derived.Shelf.Strings.BuilderK
import Derived.Shelf.Strings.Builder2Cap
import Derived.Shelf.Strings.Search1
import Derived.Shelf.Strings.Search2
import Derived.Shelf.Strings.Cut
import Derived.Shelf.LaysM
import Derived.Shelf.Strings.Shaped
import Derived.Shelf.Strings.BuilderCap
import Derived.Shelf.Slices.Turned
import Derived.Test.YtkcaghhfnmeknaaProg
import Derived.WalkKit
import Derived.WalkLawsBesides
import Derived.WalkSmall
import Derived.WalkSpells
import Derived.Lib.Hide
import Derived.Lib.IndexAny
import Derived.ShutString
import Derived.Lib.Strings
import Derived.Deep.QuietTactic
import Derived.BigQuiet
import Derived.Laws.BytesArg
import Derived.Laws.IdiomStrings
import Derived.Lib.ConvBytes
import Derived.Lib.AppendStr
import Derived.Lib.LaidTab
import Derived.Lib.ItoaNum
import Derived.ChangeAgain
import Derived.Laws.Rows
import Derived.Lib.ItoaMem
import Derived.Lib.ItoaLen
import Derived.Lib.Walk
import Derived.Lib.ItoaWalk
import Derived.Lib.AppendIntMem
import Derived.BigCall
import Derived.BigGuard
import Derived.Lib.Split
import Derived.Lib.IndexMore
import Derived.Lib.Builder
import Derived.Lib.UnsafeStr
import Derived.Shelf.RegionOpenPlain
import Derived.Laws.Externs
import Derived.Lib.SplitLaws
import Derived.BigRegion
import Derived.Deep.RegionLaw
import Derived.Deep.RegionHeldLaw
import Derived.Deep.DrawnRows
import Derived.Lib.Join
import Derived.Test.YtkcaghhfnmeknaaWb1
set_option linter.unusedVariables false
set_option linter.unusedSimpArgs false
namespace Go.Proofs.Ytkcaghhfnmeknaa.Sx
open Go.RowKit
inductive IT where
 | code (c : SCode)
 | ops (l : List SO)
 | dops (l : List SO)
 | ap (l : List (Nat × Nat))
 | blk (id : Nat)
def cont (P : Program) [Tabs P] (C : Cx) (F : Post) : List IT → Post
 | [] => F
 | .code c :: k => thenK (fun o t => wpC P C c (cont P C F k) o t) (cont P C F k)
 | .ops l :: k => thenK (fun o t => wpR P l o t fun o t => cont P C F k .normal o t) (cont P C F k)
 | .dops l :: k => thenK (fun o t => wpD P l o t fun o t => cont P C F k .normal o t) (cont P C F k)
 | .ap l :: k => thenK (fun o t => apOk l t ∧ cont P C F k .normal o t) (cont P C F k)
 | .blk id :: k => blkK id (cont P C F k)
def run (P : Program) [Tabs P] (C : Cx) (k : List IT) (objs : List OB) (tm : List AV) (F : Post) : Prop := cont P C F k .normal objs tm
def xit (P : Program) [Tabs P] (C : Cx) (id : Nat) (k : List IT) (objs : List OB) (tm : List AV) (F : Post) : Prop := cont P C F k (.exit id) objs tm
def loopF (P : Program) [Tabs P] (C : Cx) (J : Nat → List OB → List AV → Prop) (n : Nat) (k : List IT) (F : Post) : Post := thenK (fun o t => ∃ m, m < n ∧ J m o t) (cont P C F k)
def evs (tm : List AV) : List SV → List AV
 | [] => []
 | x :: xs => x.ev tm :: evs tm xs
theorem evs_eq (tm : List AV) : ∀ l : List SV, evs tm l = l.map fun x => x.ev tm
 | [] => rfl
 | x :: l => by rw [evs, evs_eq tm l]; rfl
def evp (tm : List AV) : List (Nat × Nat × SV) → List (Nat × Nat × AV)
 | [] => []
 | (o, s, x) :: xs => (o, s, x.ev tm) :: evp tm xs
theorem evp_eq (tm : List AV) : ∀ l : List (Nat × Nat × SV), evp tm l = l.map fun p => (p.1, p.2.1, p.2.2.ev tm)
 | [] => rfl
 | (o, s, x) :: l => by rw [evp, evp_eq tm l]; rfl
def bxs : Option OB → Option (List AV)
 | some (.box _ cs) => some cs
 | _ => none
theorem bxs_box (T : TypeId) (cs : List AV) : bxs (some (.box T cs)) = some cs := Eq.trans rfl rfl
section
variable {P : Program} [Tabs P] {C : Cx} {F : Post} {k : List IT} {r : List SO} {objs : List OB} {tm : List AV} {d : Option Nat}
theorem rn_nil : run P C [] objs tm F = F .normal objs tm := Eq.trans rfl rfl
theorem rn_seq (x y : SCode) : run P C (.code (.seq x y) :: k) objs tm F = run P C (.code x :: .code y :: k) objs tm F := Eq.trans rfl rfl
theorem rn_skip : run P C (.code .skip :: k) objs tm F = run P C k objs tm F := Eq.trans rfl rfl
theorem rn_reg (l : List SO) : run P C (.code (.reg l) :: k) objs tm F = run P C (.ops l :: k) objs tm F := Eq.trans rfl rfl
theorem rn_ap (l : List (Nat × Nat)) : run P C (.ap l :: k) objs tm F = (apOk l tm ∧ run P C k objs tm F) := Eq.trans rfl rfl
theorem apOk_n : apOk [] tm = True := Eq.trans rfl rfl
theorem apOk_c (s s' : Nat) (l : List (Nat × Nat)) : apOk ((s, s') :: l) tm = (apOne tm[s]? tm[s']? ∧ apOk l tm) := Eq.trans rfl rfl
theorem apOne_p (b o b' o' : Nat) : apOne (some (.p b o)) (some (.p b' o')) = (¬ b = b') := Eq.trans rfl rfl
theorem rn_drw (l : List SO) (n : Nat) (ap : List (Nat × Nat)) : run P C (.code (.drw l n ap) :: k) objs tm F = run P C (.dops (l.take n) :: .ap ap :: .ops (l.drop n) :: k) objs tm F := Eq.trans rfl rfl
theorem rn_blk (id : Nat) (c : SCode) : run P C (.code (.blk id c) :: k) objs tm F = run P C (.code c :: .blk id :: k) objs tm F := Eq.trans rfl rfl
theorem rn_inblk (id : Nat) : run P C (.blk id :: k) objs tm F = run P C k objs tm F := Eq.trans rfl rfl
theorem rn_ops_nil : run P C (.ops [] :: k) objs tm F = run P C k objs tm F := Eq.trans rfl rfl
theorem rn_dops_nil : run P C (.dops [] :: k) objs tm F = run P C k objs tm F := Eq.trans rfl rfl
theorem cont_ret : ∀ (k : List IT), cont P C F k .ret objs tm = F .ret objs tm
 | [] => rfl
 | .code c :: k => cont_ret k
 | .ops l :: k => cont_ret k
 | .dops l :: k => cont_ret k
 | .ap l :: k => cont_ret k
 | .blk id :: k => cont_ret k
theorem rn_ret : run P C (.code .ret :: k) objs tm F = F .ret objs tm := cont_ret k
theorem rn_exit (id : Nat) : run P C (.code (.exit id) :: k) objs tm F = xit P C id k objs tm F := Eq.trans rfl rfl
theorem xit_nil (id : Nat) : xit P C id [] objs tm F = F (.exit id) objs tm := Eq.trans rfl rfl
theorem xit_code (id : Nat) (c : SCode) : xit P C id (.code c :: k) objs tm F = xit P C id k objs tm F := Eq.trans rfl rfl
theorem xit_ops (id : Nat) (l : List SO) : xit P C id (.ops l :: k) objs tm F = xit P C id k objs tm F := Eq.trans rfl rfl
theorem xit_dops (id : Nat) (l : List SO) : xit P C id (.dops l :: k) objs tm F = xit P C id k objs tm F := Eq.trans rfl rfl
theorem xit_ap (id : Nat) (l : List (Nat × Nat)) : xit P C id (.ap l :: k) objs tm F = xit P C id k objs tm F := Eq.trans rfl rfl
theorem xit_blk (id id' : Nat) : xit P C id (.blk id' :: k) objs tm F = if id = id' then run P C k objs tm F else xit P C id k objs tm F := Eq.trans rfl rfl
theorem loopF_normal (J : Nat → List OB → List AV → Prop) (n : Nat) : loopF P C J n k F .normal objs tm = ∃ m, m < n ∧ J m objs tm := Eq.trans rfl rfl
theorem loopF_exit (J : Nat → List OB → List AV → Prop) (n id : Nat) : loopF P C J n k F (.exit id) objs tm = xit P C id k objs tm F := Eq.trans rfl rfl
theorem loopF_ret (J : Nat → List OB → List AV → Prop) (n : Nat) : loopF P C J n k F .ret objs tm = F .ret objs tm := cont_ret k
theorem rn_loop [On P C] {c : SCode} (J : Nat → List OB → List AV → Prop) (n : Nat) (h0 : J n objs tm) (round : ∀ n objs tm, J n objs tm → run P C [.code c] objs tm (loopF P C J n k F)) : run P C (.code (.loop c) :: k) objs tm F :=
 wps_loop J n h0 round
def kO (P : Program) [Tabs P] (C : Cx) (v : Option AV) (d : Option Nat) (r : List SO) (k : List IT) (objs : List OB) (tm : List AV) (F : Post) : Prop :=
 match v with
 | some v => run P C (.ops r :: k) objs (setd tm d v) F
 | none => False
theorem rn_op (op : SOp) : run P C (.ops (⟨d, op, none⟩ :: r) :: k) objs tm F = wpS P op objs tm fun o v => run P C (.ops r :: k) o (setd tm d v) F := Eq.trans rfl rfl
theorem kO_some (v : AV) : kO P C (some v) d r k objs tm F = run P C (.ops r :: k) objs (setd tm d v) F := Eq.trans rfl rfl
theorem rn_mv (x : SV) : run P C (.ops (⟨d, .mv x, none⟩ :: r) :: k) objs tm F = run P C (.ops r :: k) objs (setd tm d (x.ev tm)) F := Eq.trans rfl rfl
def kPick (P : Program) [Tabs P] (C : Cx) (c x y : AV) (d : Option Nat) (r : List SO) (k : List IT) (objs : List OB) (tm : List AV) (F : Post) : Prop :=
 match c with
 | .b t => (t = true → run P C (.ops r :: k) objs (setd tm d x) F) ∧ (t = false → run P C (.ops r :: k) objs (setd tm d y) F)
 | _ => False
theorem kPick_t (x y : AV) : kPick P C (.b true) x y d r k objs tm F = run P C (.ops r :: k) objs (setd tm d x) F := propext ⟨fun h => h.1 rfl, fun h => ⟨fun _ => h, fun e => absurd e.symm Bool.false_ne_true⟩⟩
theorem kPick_f (x y : AV) : kPick P C (.b false) x y d r k objs tm F = run P C (.ops r :: k) objs (setd tm d y) F := propext ⟨fun h => h.2 rfl, fun h => ⟨fun e => absurd e Bool.false_ne_true, fun _ => h⟩⟩
theorem rn_pick (c x y : SV) : run P C (.ops (⟨d, .pick c x y, none⟩ :: r) :: k) objs tm F = kPick P C (c.ev tm) (x.ev tm) (y.ev tm) d r k objs tm F := Eq.trans rfl rfl
theorem rn_alloc (T : Nat) (z : List AV) : run P C (.ops (⟨d, .alloc T z, none⟩ :: r) :: k) objs tm F = run P C (.ops r :: k) (objs ++ [.box T z]) (setd tm d (.p objs.length 0)) F := Eq.trans rfl rfl
theorem rn_box (T : Nat) (x : SV) : run P C (.ops (⟨d, .box T x, none⟩ :: r) :: k) objs tm F = ((x.ev tm).flat = true ∧ run P C (.ops r :: k) (objs ++ [.box T (x.ev tm).cells]) (setd tm d (.p objs.length 0)) F) := Eq.trans rfl rfl
theorem rn_build (z : List AV) (ps : List (Nat × Nat × SV)) : run P C (.ops (⟨d, .build z ps, none⟩ :: r) :: k) objs tm F = kO P C ((fillA z (evp tm ps)).map .agg) d r k objs tm F := by
 rw [evp_eq]
 rw [rn_op]
 simp only [wpS]
 cases fillA z (ps.map fun p => (p.1, p.2.1, p.2.2.ev tm)) <;> rfl
theorem rn_bslice (n : Nat) (z : List AV) (ps : List (Nat × Nat × SV)) : run P C (.ops (⟨d, .bslice n z ps, none⟩ :: r) :: k) objs tm F = kO P C ((fillA z (evp tm ps)).map (.row n)) d r k objs tm F := by
 rw [evp_eq]
 rw [rn_op]
 simp only [wpS]
 cases fillA z (ps.map fun p => (p.1, p.2.1, p.2.2.ev tm)) <;> rfl
def kLit (P : Program) [Tabs P] (C : Cx) (c : Option (List AV)) (E sz n : Nat) (d : Option Nat) (r : List SO) (k : List IT) (objs : List OB) (tm : List AV) (F : Post) : Prop :=
 match c with
 | some cs => cs.length = n * sz ∧ run P C (.ops r :: k) (objs ++ [.orow E sz 0 n cs]) (setd tm d (.orow objs.length 0)) F
 | none => False
theorem kLit_s (cs : List AV) (E sz n : Nat) : kLit P C (some cs) E sz n d r k objs tm F = (cs.length = n * sz ∧ run P C (.ops r :: k) (objs ++ [.orow E sz 0 n cs]) (setd tm d (.orow objs.length 0)) F) := Eq.trans rfl rfl
theorem rn_bslo (E sz n : Nat) (z : List AV) (ps : List (Nat × Nat × SV)) : run P C (.ops (⟨d, .bslo E sz n z ps, none⟩ :: r) :: k) objs tm F = kLit P C (fillA z (evp tm ps)) E sz n d r k objs tm F := by
 rw [evp_eq]
 rw [rn_op]
 simp only [wpS]
 cases fillA z (ps.map fun p => (p.1, p.2.1, p.2.2.ev tm)) <;> rfl
def kLd1 (P : Program) [Tabs P] (C : Cx) (v : AV) (d : Option Nat) (r : List SO) (k : List IT) (objs : List OB) (tm : List AV) (F : Post) : Prop :=
 match v with
 | .p b off => kO P C ((bxs objs[b]?).bind fun cs => cs[off]?) d r k objs tm F
 | .prow xs j => kO P C xs[j]? d r k objs tm F
 | _ => False
theorem kLd1_p (b off : Nat) : kLd1 P C (.p b off) d r k objs tm F = kO P C ((bxs objs[b]?).bind fun cs => cs[off]?) d r k objs tm F := Eq.trans rfl rfl
theorem kLd1_r (xs : List AV) (j : Nat) : kLd1 P C (.prow xs j) d r k objs tm F = kO P C xs[j]? d r k objs tm F := Eq.trans rfl rfl
theorem rn_load1 (x : SV) : run P C (.ops (⟨d, .load1 x, none⟩ :: r) :: k) objs tm F = kLd1 P C (x.ev tm) d r k objs tm F := by
 rw [rn_op]
 simp only [wpS, kLd1]
 cases x.ev tm <;> try rfl
 case p b off =>
  dsimp only
  generalize objs[b]? = q
  cases q with
  | none => rfl
  | some ob =>
   cases ob <;> try rfl
   all_goals (dsimp only [bxs, Option.bind]; split <;> rfl)
 case prow xs j =>
  dsimp only
  cases hx : xs[j]? with
  | none => simp [kO]
  | some v => simp [kO]
def kLdn (P : Program) [Tabs P] (C : Cx) (c : Option (List AV)) (off sz : Nat) (d : Option Nat) (r : List SO) (k : List IT) (objs : List OB) (tm : List AV) (F : Post) : Prop :=
 match c with
 | some cs => off + sz ≤ cs.length ∧ run P C (.ops r :: k) objs (setd tm d (.agg ((cs.drop off).take sz))) F
 | none => False
def kLdv (P : Program) [Tabs P] (C : Cx) (v : AV) (sz : Nat) (d : Option Nat) (r : List SO) (k : List IT) (objs : List OB) (tm : List AV) (F : Post) : Prop :=
 match v with
 | .p b off => kLdn P C (bxs objs[b]?) off sz d r k objs tm F
 | .prow xs j => kLdn P C (some xs) j sz d r k objs tm F
 | _ => False
theorem kLdn_s (cs : List AV) (off sz : Nat) : kLdn P C (some cs) off sz d r k objs tm F = (off + sz ≤ cs.length ∧ run P C (.ops r :: k) objs (setd tm d (.agg ((cs.drop off).take sz))) F) := Eq.trans rfl rfl
theorem kLdv_p (b off sz : Nat) : kLdv P C (.p b off) sz d r k objs tm F = kLdn P C (bxs objs[b]?) off sz d r k objs tm F := Eq.trans rfl rfl
theorem kLdv_r (xs : List AV) (j sz : Nat) : kLdv P C (.prow xs j) sz d r k objs tm F = kLdn P C (some xs) j sz d r k objs tm F := Eq.trans rfl rfl
theorem rn_loadn (sz : Nat) (x : SV) : run P C (.ops (⟨d, .loadn sz x, none⟩ :: r) :: k) objs tm F = kLdv P C (x.ev tm) sz d r k objs tm F := by
 rw [rn_op]
 simp only [wpS, kLdv]
 cases x.ev tm <;> try rfl
 try (case p b off =>
  dsimp only
  generalize objs[b]? = q
  cases q with
  | none => rfl
  | some ob => cases ob <;> rfl)
def kSt2 (P : Program) [Tabs P] (C : Cx) (c : Option OB) (b off sz : Nat) (v : AV) (d : Option Nat) (r : List SO) (k : List IT) (objs : List OB) (tm : List AV) (F : Post) : Prop :=
 match c with
 | some (.box T cs) => (v.flat = true ∧ v.cells.length = sz ∧ off + sz ≤ cs.length) ∧ run P C (.ops r :: k) (objs.set b (.box T (splice cs off v.cells))) (setd tm d .u) F
 | _ => False
def kSt (P : Program) [Tabs P] (C : Cx) (p v : AV) (sz : Nat) (d : Option Nat) (r : List SO) (k : List IT) (objs : List OB) (tm : List AV) (F : Post) : Prop :=
 match p with
 | .p b off => kSt2 P C objs[b]? b off sz v d r k objs tm F
 | _ => False
theorem kSt2_b (T : TypeId) (cs : List AV) (b off sz : Nat) (v : AV) : kSt2 P C (some (.box T cs)) b off sz v d r k objs tm F = ((v.flat = true ∧ v.cells.length = sz ∧ off + sz ≤ cs.length) ∧ run P C (.ops r :: k) (objs.set b (.box T (splice cs off v.cells))) (setd tm d .u) F) := Eq.trans rfl rfl
theorem kSt_p (b off sz : Nat) (v : AV) : kSt P C (.p b off) v sz d r k objs tm F = kSt2 P C objs[b]? b off sz v d r k objs tm F := Eq.trans rfl rfl
theorem rn_store (sz : Nat) (x y : SV) : run P C (.ops (⟨d, .store sz x y, none⟩ :: r) :: k) objs tm F = kSt P C (x.ev tm) (y.ev tm) sz d r k objs tm F := by
 rw [rn_op]
 simp only [wpS, kSt]
 cases x.ev tm <;> try rfl
 try (case p b off =>
  dsimp only
  generalize objs[b]? = q
  cases q with
  | none => rfl
  | some ob => cases ob <;> rfl)
def kNck (P : Program) [Tabs P] (C : Cx) (v : AV)  (d : Option Nat) (r : List SO) (k : List IT) (objs : List OB) (tm : List AV) (F : Post) : Prop :=
 match v with
 | .p b o => run P C (.ops r :: k) objs (setd tm d (.p b o)) F
 | .prow xs j => run P C (.ops r :: k) objs (setd tm d (.prow xs j)) F
 | .fn f fs cs => run P C (.ops r :: k) objs (setd tm d (.fn f fs cs)) F
 | _ => False
theorem kNck_0 (b o : Nat)  : kNck P C (.p b o)  d r k objs tm F = (run P C (.ops r :: k) objs (setd tm d (.p b o)) F) := Eq.trans rfl rfl
theorem kNck_1 (xs : List AV) (j : Nat)  : kNck P C (.prow xs j)  d r k objs tm F = (run P C (.ops r :: k) objs (setd tm d (.prow xs j)) F) := Eq.trans rfl rfl
theorem kNck_2 (f : Nat) (fs cs : List AV)  : kNck P C (.fn f fs cs)  d r k objs tm F = (run P C (.ops r :: k) objs (setd tm d (.fn f fs cs)) F) := Eq.trans rfl rfl
theorem rn_nck (x : SV) : run P C (.ops (⟨d, .nck x, none⟩ :: r) :: k) objs tm F = kNck P C (x.ev tm)  d r k objs tm F := by
 rw [rn_op]
 simp only [wpS, kNck]
 cases (x.ev tm) <;> rfl
def kNot (P : Program) [Tabs P] (C : Cx) (v : AV)  (d : Option Nat) (r : List SO) (k : List IT) (objs : List OB) (tm : List AV) (F : Post) : Prop :=
 match v with
 | .b t => run P C (.ops r :: k) objs (setd tm d (.b (!t))) F
 | _ => False
theorem kNot_0 (t : Bool)  : kNot P C (.b t)  d r k objs tm F = (run P C (.ops r :: k) objs (setd tm d (.b (!t))) F) := Eq.trans rfl rfl
theorem rn_not (x : SV) : run P C (.ops (⟨d, .not x, none⟩ :: r) :: k) objs tm F = kNot P C (x.ev tm)  d r k objs tm F := by
 rw [rn_op]
 simp only [wpS, kNot]
 cases (x.ev tm) <;> rfl
def kAr (P : Program) [Tabs P] (C : Cx) (q : IntKind) (z : Int) (d : Option Nat) (r : List SO) (k : List IT) (objs : List OB) (tm : List AV) (F : Post) : Prop := arK q z fun z => run P C (.ops r :: k) objs (setd tm d (.i q z)) F
theorem kAr_i64 (z : Int) : kAr P C .i64 z d r k objs tm F = ((-9223372036854775808 ≤ z ∧ z ≤ 9223372036854775807) ∧ run P C (.ops r :: k) objs (setd tm d (.i .i64 z)) F) := Eq.trans rfl rfl
theorem kAr_i8 (z : Int) : kAr P C .i8 z d r k objs tm F = run P C (.ops r :: k) objs (setd tm d (.i .i8 (IntKind.wrap .i8 z))) F := Eq.trans rfl rfl
theorem kAr_i16 (z : Int) : kAr P C .i16 z d r k objs tm F = run P C (.ops r :: k) objs (setd tm d (.i .i16 (IntKind.wrap .i16 z))) F := Eq.trans rfl rfl
theorem kAr_i32 (z : Int) : kAr P C .i32 z d r k objs tm F = run P C (.ops r :: k) objs (setd tm d (.i .i32 (IntKind.wrap .i32 z))) F := Eq.trans rfl rfl
theorem kAr_u8 (z : Int) : kAr P C .u8 z d r k objs tm F = run P C (.ops r :: k) objs (setd tm d (.i .u8 (IntKind.wrap .u8 z))) F := Eq.trans rfl rfl
theorem kAr_u16 (z : Int) : kAr P C .u16 z d r k objs tm F = run P C (.ops r :: k) objs (setd tm d (.i .u16 (IntKind.wrap .u16 z))) F := Eq.trans rfl rfl
theorem kAr_u32 (z : Int) : kAr P C .u32 z d r k objs tm F = run P C (.ops r :: k) objs (setd tm d (.i .u32 (IntKind.wrap .u32 z))) F := Eq.trans rfl rfl
theorem kAr_u64 (z : Int) : kAr P C .u64 z d r k objs tm F = run P C (.ops r :: k) objs (setd tm d (.i .u64 (IntKind.wrap .u64 z))) F := Eq.trans rfl rfl
def kNeg (P : Program) [Tabs P] (C : Cx) (v : AV)  (d : Option Nat) (r : List SO) (k : List IT) (objs : List OB) (tm : List AV) (F : Post) : Prop :=
 match v with
 | .i q n => kAr P C q (0 - n) d r k objs tm F
 | _ => False
theorem kNeg_0 (q : IntKind) (n : Int)  : kNeg P C (.i q n)  d r k objs tm F = (kAr P C q (0 - n) d r k objs tm F) := Eq.trans rfl rfl
theorem rn_neg (x : SV) : run P C (.ops (⟨d, .neg x, none⟩ :: r) :: k) objs tm F = kNeg P C (x.ev tm)  d r k objs tm F := by
 rw [rn_op]
 simp only [wpS, kNeg, kAr]
 cases x.ev tm <;> rfl
def kCvi (P : Program) [Tabs P] (C : Cx) (v : AV) (q : IntKind) (d : Option Nat) (r : List SO) (k : List IT) (objs : List OB) (tm : List AV) (F : Post) : Prop :=
 match v with
 | .i kk n => run P C (.ops r :: k) objs (setd tm d (.i q (q.wrap n))) F
 | _ => False
theorem kCvi_0 (kk : IntKind) (n : Int) (q : IntKind) : kCvi P C (.i kk n) q d r k objs tm F = (run P C (.ops r :: k) objs (setd tm d (.i q (q.wrap n))) F) := Eq.trans rfl rfl
theorem rn_cvi (q : IntKind) (x : SV) : run P C (.ops (⟨d, .cvi q x, none⟩ :: r) :: k) objs tm F = kCvi P C (x.ev tm) q d r k objs tm F := by
 rw [rn_op]
 simp only [wpS, kCvi]
 cases (x.ev tm) <;> rfl
def kCvs (P : Program) [Tabs P] (C : Cx) (v : AV)  (d : Option Nat) (r : List SO) (k : List IT) (objs : List OB) (tm : List AV) (F : Post) : Prop :=
 match v with
 | .s l => run P C (.ops r :: k) objs (setd tm d (.s l)) F
 | _ => False
theorem kCvs_0 (l : List UInt8)  : kCvs P C (.s l)  d r k objs tm F = (run P C (.ops r :: k) objs (setd tm d (.s l)) F) := Eq.trans rfl rfl
theorem rn_cvs (x : SV) : run P C (.ops (⟨d, .cvs x, none⟩ :: r) :: k) objs tm F = kCvs P C (x.ev tm)  d r k objs tm F := by
 rw [rn_op]
 simp only [wpS, kCvs]
 cases (x.ev tm) <;> rfl
def kLens (P : Program) [Tabs P] (C : Cx) (v : AV)  (d : Option Nat) (r : List SO) (k : List IT) (objs : List OB) (tm : List AV) (F : Post) : Prop :=
 match v with
 | .s l => run P C (.ops r :: k) objs (setd tm d (.i .i64 l.length)) F
 | _ => False
theorem kLens_0 (l : List UInt8)  : kLens P C (.s l)  d r k objs tm F = (run P C (.ops r :: k) objs (setd tm d (.i .i64 l.length)) F) := Eq.trans rfl rfl
theorem rn_lens (x : SV) : run P C (.ops (⟨d, .lens x, none⟩ :: r) :: k) objs tm F = kLens P C (x.ev tm)  d r k objs tm F := by
 rw [rn_op]
 simp only [wpS, kLens]
 cases (x.ev tm) <;> rfl
def kFldn (P : Program) [Tabs P] (C : Cx) (v : AV) (off sz : Nat) (d : Option Nat) (r : List SO) (k : List IT) (objs : List OB) (tm : List AV) (F : Post) : Prop :=
 match v with
 | .agg cs => run P C (.ops r :: k) objs (setd tm d (.agg ((cs.drop off).take sz))) F
 | _ => False
theorem kFldn_0 (cs : List AV) (off sz : Nat) : kFldn P C (.agg cs) off sz d r k objs tm F = (run P C (.ops r :: k) objs (setd tm d (.agg ((cs.drop off).take sz))) F) := Eq.trans rfl rfl
theorem rn_fldn (off sz : Nat) (x : SV) : run P C (.ops (⟨d, .fldn off sz x, none⟩ :: r) :: k) objs tm F = kFldn P C (x.ev tm) off sz d r k objs tm F := by
 rw [rn_op]
 simp only [wpS, kFldn]
 cases (x.ev tm) <;> rfl
def kFad (P : Program) [Tabs P] (C : Cx) (v : AV) (off : Nat) (d : Option Nat) (r : List SO) (k : List IT) (objs : List OB) (tm : List AV) (F : Post) : Prop :=
 match v with
 | .p b o => run P C (.ops r :: k) objs (setd tm d (.p b (o + off))) F
 | .prow xs j => run P C (.ops r :: k) objs (setd tm d (.prow xs (j + off))) F
 | _ => False
theorem kFad_0 (b o : Nat) (off : Nat) : kFad P C (.p b o) off d r k objs tm F = (run P C (.ops r :: k) objs (setd tm d (.p b (o + off))) F) := Eq.trans rfl rfl
theorem kFad_1 (xs : List AV) (j : Nat) (off : Nat) : kFad P C (.prow xs j) off d r k objs tm F = (run P C (.ops r :: k) objs (setd tm d (.prow xs (j + off))) F) := Eq.trans rfl rfl
theorem rn_fad (off : Nat) (x : SV) : run P C (.ops (⟨d, .fad off x, none⟩ :: r) :: k) objs tm F = kFad P C (x.ev tm) off d r k objs tm F := by
 rw [rn_op]
 simp only [wpS, kFad]
 cases (x.ev tm) <;> rfl
def kFld1 (P : Program) [Tabs P] (C : Cx) (v : AV) (off : Nat) (d : Option Nat) (r : List SO) (k : List IT) (objs : List OB) (tm : List AV) (F : Post) : Prop :=
 match v with
 | .agg cs => kO P C cs[off]? d r k objs tm F
 | _ => False
theorem kFld1_0 (cs : List AV) (off : Nat) : kFld1 P C (.agg cs) off d r k objs tm F = (kO P C cs[off]? d r k objs tm F) := Eq.trans rfl rfl
theorem rn_fld1 (off : Nat) (x : SV) : run P C (.ops (⟨d, .fld1 off x, none⟩ :: r) :: k) objs tm F = kFld1 P C (x.ev tm) off d r k objs tm F := by
 rw [rn_op]
 simp only [wpS, kFld1]
 cases x.ev tm <;> try rfl
 try (case agg cs => dsimp only; cases cs[off]? <;> rfl)
def kExt (P : Program) [Tabs P] (C : Cx) (v : AV) (j : Nat) (d : Option Nat) (r : List SO) (k : List IT) (objs : List OB) (tm : List AV) (F : Post) : Prop :=
 match v with
 | .tup cs => kO P C cs[j]? d r k objs tm F
 | _ => False
theorem kExt_0 (cs : List AV) (j : Nat) : kExt P C (.tup cs) j d r k objs tm F = (kO P C cs[j]? d r k objs tm F) := Eq.trans rfl rfl
theorem rn_ext (x : SV) (j : Nat) : run P C (.ops (⟨d, .ext x j, none⟩ :: r) :: k) objs tm F = kExt P C (x.ev tm) j d r k objs tm F := by
 rw [rn_op]
 simp only [wpS, kExt]
 cases x.ev tm <;> try rfl
 try (case tup cs => dsimp only; cases cs[j]? <;> rfl)
def kLr2 (P : Program) [Tabs P] (C : Cx) (c : Option OB) (gen : Nat) (d : Option Nat) (r : List SO) (k : List IT) (objs : List OB) (tm : List AV) (F : Post) : Prop :=
 match c with
 | some (.orow _ _ gen' n _) => gen' = gen ∧ run P C (.ops r :: k) objs (setd tm d (.i .i64 n)) F
 | _ => False
theorem kLr2_o (E sz gen' n gen : Nat) (xs : List AV) : kLr2 P C (some (.orow E sz gen' n xs)) gen d r k objs tm F = (gen' = gen ∧ run P C (.ops r :: k) objs (setd tm d (.i .i64 n)) F) := Eq.trans rfl rfl
def kLenr (P : Program) [Tabs P] (C : Cx) (v : AV)  (d : Option Nat) (r : List SO) (k : List IT) (objs : List OB) (tm : List AV) (F : Post) : Prop :=
 match v with
 | .row n xs => run P C (.ops r :: k) objs (setd tm d (.i .i64 n)) F
 | .nil => run P C (.ops r :: k) objs (setd tm d (.i .i64 0)) F
 | .orow b gen => kLr2 P C objs[b]? gen d r k objs tm F
 | _ => False
theorem kLenr_0 (n : Nat) (xs : List AV)  : kLenr P C (.row n xs)  d r k objs tm F = (run P C (.ops r :: k) objs (setd tm d (.i .i64 n)) F) := Eq.trans rfl rfl
theorem kLenr_1   : kLenr P C (.nil)  d r k objs tm F = (run P C (.ops r :: k) objs (setd tm d (.i .i64 0)) F) := Eq.trans rfl rfl
theorem kLenr_2 (b gen : Nat)  : kLenr P C (.orow b gen)  d r k objs tm F = (kLr2 P C objs[b]? gen d r k objs tm F) := Eq.trans rfl rfl
theorem rn_lenr (x : SV) : run P C (.ops (⟨d, .lenr x, none⟩ :: r) :: k) objs tm F = kLenr P C (x.ev tm)  d r k objs tm F := by
 rw [rn_op]
 simp only [wpS, kLenr]
 cases x.ev tm <;> try rfl
 try (case orow b gen =>
  dsimp only
  generalize objs[b]? = q
  cases q with
  | none => rfl
  | some ob => cases ob <;> rfl)
def kBeq (P : Program) [Tabs P] (C : Cx) (ne : Bool) (x y : AV) (d : Option Nat) (r : List SO) (k : List IT) (objs : List OB) (tm : List AV) (F : Post) : Prop :=
 match x, y with
 | .b l, .b m => run P C (.ops r :: k) objs (setd tm d (.b (if ne then !(l == m) else (l == m)))) F
 | _, _ => False
def kEq (P : Program) [Tabs P] (C : Cx) (ne : Bool) (x : Option Bool) (d : Option Nat) (r : List SO) (k : List IT) (objs : List OB) (tm : List AV) (F : Post) : Prop :=
 match x with
 | some q => run P C (.ops r :: k) objs (setd tm d (.b (if ne then !q else q))) F
 | none => False
def kEqs (P : Program) [Tabs P] (C : Cx) (ne : Bool) (e : ET) (x y : AV) (d : Option Nat) (r : List SO) (k : List IT) (objs : List OB) (tm : List AV) (F : Post) : Prop :=
 match x, y with
 | .agg xs, .agg ys => kEq P C ne (eqA e (.agg xs) (.agg ys)) d r k objs tm F
 | _, _ => False
theorem kBeq_true (l m : Bool) : kBeq P C true (.b l) (.b m) d r k objs tm F = run P C (.ops r :: k) objs (setd tm d (.b (!(l == m)))) F := Eq.trans rfl rfl
theorem kEq_true (q : Bool) : kEq P C true (some q) d r k objs tm F = run P C (.ops r :: k) objs (setd tm d (.b (!q))) F := Eq.trans rfl rfl
theorem kBeq_false (l m : Bool) : kBeq P C false (.b l) (.b m) d r k objs tm F = run P C (.ops r :: k) objs (setd tm d (.b (l == m))) F := Eq.trans rfl rfl
theorem kEq_false (q : Bool) : kEq P C false (some q) d r k objs tm F = run P C (.ops r :: k) objs (setd tm d (.b q)) F := Eq.trans rfl rfl
theorem kEqs_a (ne : Bool) (e : ET) (xs ys : List AV) : kEqs P C ne e (.agg xs) (.agg ys) d r k objs tm F = kEq P C ne (eqA e (.agg xs) (.agg ys)) d r k objs tm F := Eq.trans rfl rfl
theorem rn_beq (ne : Bool) (x y : SV) : run P C (.ops (⟨d, .beq ne x y, none⟩ :: r) :: k) objs tm F = kBeq P C ne (x.ev tm) (y.ev tm) d r k objs tm F := by
 rw [rn_op]
 simp only [wpS, kBeq]
 cases x.ev tm <;> try rfl
 try (cases y.ev tm <;> rfl)
theorem rn_eqs (ne : Bool) (e : ET) (x y : SV) : run P C (.ops (⟨d, .eqs ne e x y, none⟩ :: r) :: k) objs tm F = kEqs P C ne e (x.ev tm) (y.ev tm) d r k objs tm F := by
 rw [rn_op]
 simp only [wpS, kEqs]
 cases x.ev tm <;> try rfl
 try (cases y.ev tm <;> try rfl)
 try (simp only [kEq]; cases eqA e _ _ <;> rfl)
def kIad (P : Program) [Tabs P] (C : Cx) (x y : AV) (sz : Nat) (d : Option Nat) (r : List SO) (k : List IT) (objs : List OB) (tm : List AV) (F : Post) : Prop :=
 match x, y with
 | .row n xs, .i kk i => (0 ≤ i ∧ i < n ∧ n * sz ≤ xs.length) ∧ run P C (.ops r :: k) objs (setd tm d (.prow xs (i.toNat * sz))) F
 | _, _ => False
theorem kIad_0 (n : Nat) (xs : List AV) (kk : IntKind) (i : Int) (sz : Nat) : kIad P C (.row n xs) (.i kk i) sz d r k objs tm F = ((0 ≤ i ∧ i < n ∧ n * sz ≤ xs.length) ∧ run P C (.ops r :: k) objs (setd tm d (.prow xs (i.toNat * sz))) F) := Eq.trans rfl rfl
theorem rn_iad (sz : Nat) (x y : SV) : run P C (.ops (⟨d, .iad sz x y, none⟩ :: r) :: k) objs tm F = kIad P C (x.ev tm) (y.ev tm) sz d r k objs tm F := by
 rw [rn_op]
 simp only [wpS, kIad]
 cases x.ev tm <;> try rfl
 try (cases y.ev tm <;> rfl)
def kIada (P : Program) [Tabs P] (C : Cx) (x y : AV) (sz len : Nat) (d : Option Nat) (r : List SO) (k : List IT) (objs : List OB) (tm : List AV) (F : Post) : Prop :=
 match x, y with
 | .p b off, .i kk i => (0 ≤ i ∧ i < len) ∧ run P C (.ops r :: k) objs (setd tm d (.p b (off + i.toNat * sz))) F
 | _, _ => False
theorem kIada_0 (b off : Nat) (kk : IntKind) (i : Int) (sz len : Nat) : kIada P C (.p b off) (.i kk i) sz len d r k objs tm F = ((0 ≤ i ∧ i < len) ∧ run P C (.ops r :: k) objs (setd tm d (.p b (off + i.toNat * sz))) F) := Eq.trans rfl rfl
theorem rn_iada (sz len : Nat) (x y : SV) : run P C (.ops (⟨d, .iada sz len x y, none⟩ :: r) :: k) objs tm F = kIada P C (x.ev tm) (y.ev tm) sz len d r k objs tm F := by
 rw [rn_op]
 simp only [wpS, kIada]
 cases x.ev tm <;> try rfl
 try (cases y.ev tm <;> rfl)
def kIdx (P : Program) [Tabs P] (C : Cx) (x y : AV)  (d : Option Nat) (r : List SO) (k : List IT) (objs : List OB) (tm : List AV) (F : Post) : Prop :=
 match x, y with
 | .s l, .i kk i => (0 ≤ i ∧ i < l.length) ∧ run P C (.ops r :: k) objs (setd tm d (.i .u8 ((l.getD i.toNat 0).toNat : Int))) F
 | _, _ => False
theorem kIdx_0 (l : List UInt8) (kk : IntKind) (i : Int)  : kIdx P C (.s l) (.i kk i)  d r k objs tm F = ((0 ≤ i ∧ i < l.length) ∧ run P C (.ops r :: k) objs (setd tm d (.i .u8 ((l.getD i.toNat 0).toNat : Int))) F) := Eq.trans rfl rfl
theorem rn_idx (x y : SV) : run P C (.ops (⟨d, .idx x y, none⟩ :: r) :: k) objs tm F = kIdx P C (x.ev tm) (y.ev tm)  d r k objs tm F := by
 rw [rn_op]
 simp only [wpS, kIdx]
 cases x.ev tm <;> try rfl
 try (cases y.ev tm <;> rfl)
def kMks (P : Program) [Tabs P] (C : Cx) (x y : AV) (E sz by' : Nat) (d : Option Nat) (r : List SO) (k : List IT) (objs : List OB) (tm : List AV) (F : Post) : Prop :=
 match x, y with
 | .i k1 l, .i k2 c => (l = 0 ∧ 0 ≤ c ∧ (by' : Int) * c ≤ 281474976710656 ∧ c ≤ 140737488351232 + 4096) ∧ run P C (.ops r :: k) (objs ++ [.orow E sz 0 0 []]) (setd tm d (.orow objs.length 0)) F
 | _, _ => False
theorem kMks_0 (k1 : IntKind) (l : Int) (k2 : IntKind) (c : Int) (E sz by' : Nat) : kMks P C (.i k1 l) (.i k2 c) E sz by' d r k objs tm F = ((l = 0 ∧ 0 ≤ c ∧ (by' : Int) * c ≤ 281474976710656 ∧ c ≤ 140737488351232 + 4096) ∧ run P C (.ops r :: k) (objs ++ [.orow E sz 0 0 []]) (setd tm d (.orow objs.length 0)) F) := Eq.trans rfl rfl
theorem rn_mks (E sz by' : Nat) (x y : SV) : run P C (.ops (⟨d, .mks E sz by' x y, none⟩ :: r) :: k) objs tm F = kMks P C (x.ev tm) (y.ev tm) E sz by' d r k objs tm F := by
 rw [rn_op]
 simp only [wpS, kMks, show (140737488351232 + 4096 : Int) = 140737488355328 from rfl]
 cases x.ev tm <;> try rfl
 try (cases y.ev tm <;> rfl)
def kBin (P : Program) [Tabs P] (C : Cx) (op : BinOp) (x y : AV) (d : Option Nat) (r : List SO) (k : List IT) (objs : List OB) (tm : List AV) (F : Post) : Prop := binK op x y fun v => run P C (.ops r :: k) objs (setd tm d v) F
theorem rn_bin (q : BinOp) (x y : SV) : run P C (.ops (⟨d, .bin q x y, none⟩ :: r) :: k) objs tm F = kBin P C q (x.ev tm) (y.ev tm) d r k objs tm F := Eq.trans rfl rfl
theorem kBin_add (q : IntKind) (m n : Int) : kBin P C .add (.i q m) (.i q n) d r k objs tm F = kAr P C q (m + n) d r k objs tm F := propext ⟨fun h => h.2, fun h => ⟨rfl, h⟩⟩
theorem kBin_sub (q : IntKind) (m n : Int) : kBin P C .sub (.i q m) (.i q n) d r k objs tm F = kAr P C q (m - n) d r k objs tm F := propext ⟨fun h => h.2, fun h => ⟨rfl, h⟩⟩
theorem kBin_mul (q : IntKind) (m n : Int) : kBin P C .mul (.i q m) (.i q n) d r k objs tm F = kAr P C q (m * n) d r k objs tm F := propext ⟨fun h => h.2, fun h => ⟨rfl, h⟩⟩
theorem kBin_quo (q : IntKind) (m n : Int) : kBin P C .quo (.i q m) (.i q n) d r k objs tm F = (n ≠ 0 ∧ kAr P C q (m.tdiv n) d r k objs tm F) := propext ⟨fun h => h.2, fun h => ⟨rfl, h⟩⟩
theorem kBin_rem (q : IntKind) (m n : Int) : kBin P C .rem (.i q m) (.i q n) d r k objs tm F = (n ≠ 0 ∧ run P C (.ops r :: k) objs (setd tm d (.i q (m.tmod n))) F) := propext ⟨fun h => h.2, fun h => ⟨rfl, h⟩⟩
theorem kBin_eql (q : IntKind) (m n : Int) : kBin P C .eql (.i q m) (.i q n) d r k objs tm F = run P C (.ops r :: k) objs (setd tm d (.b (decide (m = n)))) F := propext ⟨fun h => h.2, fun h => ⟨rfl, h⟩⟩
theorem kBin_neq (q : IntKind) (m n : Int) : kBin P C .neq (.i q m) (.i q n) d r k objs tm F = run P C (.ops r :: k) objs (setd tm d (.b (decide (¬ m = n)))) F := propext ⟨fun h => h.2, fun h => ⟨rfl, h⟩⟩
theorem kBin_lss (q : IntKind) (m n : Int) : kBin P C .lss (.i q m) (.i q n) d r k objs tm F = run P C (.ops r :: k) objs (setd tm d (.b (decide (m < n)))) F := propext ⟨fun h => h.2, fun h => ⟨rfl, h⟩⟩
theorem kBin_leq (q : IntKind) (m n : Int) : kBin P C .leq (.i q m) (.i q n) d r k objs tm F = run P C (.ops r :: k) objs (setd tm d (.b (decide (m ≤ n)))) F := propext ⟨fun h => h.2, fun h => ⟨rfl, h⟩⟩
theorem kBin_gtr (q : IntKind) (m n : Int) : kBin P C .gtr (.i q m) (.i q n) d r k objs tm F = run P C (.ops r :: k) objs (setd tm d (.b (decide (n < m)))) F := propext ⟨fun h => h.2, fun h => ⟨rfl, h⟩⟩
theorem kBin_geq (q : IntKind) (m n : Int) : kBin P C .geq (.i q m) (.i q n) d r k objs tm F = run P C (.ops r :: k) objs (setd tm d (.b (decide (n ≤ m)))) F := propext ⟨fun h => h.2, fun h => ⟨rfl, h⟩⟩
theorem kBin_cat (l m : List UInt8) : kBin P C .add (.s l) (.s m) d r k objs tm F = (l.length + m.length ≤ 9223372036854775807 ∧ run P C (.ops r :: k) objs (setd tm d (.s (l ++ m))) F) := Eq.trans rfl rfl
theorem kBin_seq (l m : List UInt8) : kBin P C .eql (.s l) (.s m) d r k objs tm F = run P C (.ops r :: k) objs (setd tm d (.b (decide (l = m)))) F := Eq.trans rfl rfl
theorem kBin_sne (l m : List UInt8) : kBin P C .neq (.s l) (.s m) d r k objs tm F = run P C (.ops r :: k) objs (setd tm d (.b (decide (¬ l = m)))) F := Eq.trans rfl rfl
def kSl2 (P : Program) [Tabs P] (C : Cx) (l : List UInt8) (i j : Option Int) (d : Option Nat) (r : List SO) (k : List IT) (objs : List OB) (tm : List AV) (F : Post) : Prop :=
 match i, j with
 | some i, some j => (0 ≤ i ∧ i ≤ j ∧ j ≤ l.length) ∧ run P C (.ops r :: k) objs (setd tm d (.s ((l.take j.toNat).drop i.toNat))) F
 | _, _ => False
def kSl (P : Program) [Tabs P] (C : Cx) (v : AV) (lo hi : Option SV) (d : Option Nat) (r : List SO) (k : List IT) (objs : List OB) (tm : List AV) (F : Post) : Prop :=
 match v with
 | .s l => kSl2 P C l (svbS tm 0 lo) (svbS tm l.length hi) d r k objs tm F
 | _ => False
def svi : AV → Option Int
 | .i _ n => some n
 | _ => none
theorem svi_i (q : IntKind) (n : Int) : svi (.i q n) = some n := Eq.trans rfl rfl
theorem svbS_none (z : Int) : svbS tm z none = some z := Eq.trans rfl rfl
theorem svbS_some (z : Int) (x : SV) : svbS tm z (some x) = svi (x.ev tm) := by
 simp only [svbS]; cases x.ev tm <;> rfl
theorem kSl2_s (l : List UInt8) (i j : Int) : kSl2 P C l (some i) (some j) d r k objs tm F = ((0 ≤ i ∧ i ≤ j ∧ j ≤ l.length) ∧ run P C (.ops r :: k) objs (setd tm d (.s ((l.take j.toNat).drop i.toNat))) F) := Eq.trans rfl rfl
theorem kSl_s (l : List UInt8) (lo hi : Option SV) : kSl P C (.s l) lo hi d r k objs tm F = kSl2 P C l (svbS tm 0 lo) (svbS tm l.length hi) d r k objs tm F := Eq.trans rfl rfl
theorem rn_slcs (x : SV) (lo hi : Option SV) : run P C (.ops (⟨d, .slcs x lo hi, none⟩ :: r) :: k) objs tm F = kSl P C (x.ev tm) lo hi d r k objs tm F := by
 rw [rn_op]
 simp only [wpS, kSl]
 cases x.ev tm <;> try rfl
 try (case s l => dsimp only [kSl2]; cases svbS tm 0 lo <;> cases svbS tm l.length hi <;> rfl)
def kAp3 (P : Program) [Tabs P] (C : Cx) (c : Option OB) (b gen E sz by' m : Nat) (ys : List AV) (d : Option Nat) (r : List SO) (k : List IT) (objs : List OB) (tm : List AV) (F : Post) : Prop :=
 match c with
 | some (.orow E' sz' gen' n xs) => ((E' = E ∧ sz' = sz ∧ gen' = gen) ∧ ys.length = m * sz ∧ (n + m) * by' ≤ 140737488355328 ∧ n + m ≤ 140737488355328) ∧ run P C (.ops r :: k) (objs.set b (.orow E sz (gen + 1) (n + m) (xs ++ ys))) (setd tm d (.orow b (gen + 1))) F
 | _ => False
def kAp2 (P : Program) [Tabs P] (C : Cx) (v : AV) (E sz by' m : Nat) (ys : List AV) (d : Option Nat) (r : List SO) (k : List IT) (objs : List OB) (tm : List AV) (F : Post) : Prop :=
 match v with
 | .orow b gen => kAp3 P C objs[b]? b gen E sz by' m ys d r k objs tm F
 | .nil => (ys.length = m * sz ∧ m * by' ≤ 140737488355328 ∧ m ≤ 140737488355328) ∧ run P C (.ops r :: k) (objs ++ [.orow E sz 0 m ys]) (setd tm d (.orow objs.length 0)) F
 | _ => False
def kAp (P : Program) [Tabs P] (C : Cx) (v : AV) (s : Option (Nat × List AV)) (E sz by' : Nat) (d : Option Nat) (r : List SO) (k : List IT) (objs : List OB) (tm : List AV) (F : Post) : Prop :=
 match s with
 | some (m, ys) => kAp2 P C v E sz by' m ys d r k objs tm F
 | none => False
def kAs2 (P : Program) [Tabs P] (C : Cx) (c : Option OB) (b gen E : Nat) (l : List UInt8) (d : Option Nat) (r : List SO) (k : List IT) (objs : List OB) (tm : List AV) (F : Post) : Prop :=
 match c with
 | some (.orow E' sz' gen' n xs) => ((E' = E ∧ sz' = 1 ∧ gen' = gen) ∧ n + l.length ≤ 140737488355328) ∧ run P C (.ops r :: k) (objs.set b (.orow E 1 (gen + 1) (n + l.length) (xs ++ byA l))) (setd tm d (.orow b (gen + 1))) F
 | _ => False
def kAs (P : Program) [Tabs P] (C : Cx) (v y : AV) (E : Nat) (d : Option Nat) (r : List SO) (k : List IT) (objs : List OB) (tm : List AV) (F : Post) : Prop :=
 match y with
 | .s l => match v with
  | .orow b gen => kAs2 P C objs[b]? b gen E l d r k objs tm F
  | .nil => l.length ≤ 140737488355328 ∧ run P C (.ops r :: k) (objs ++ [.orow E 1 0 l.length (byA l)]) (setd tm d (.orow objs.length 0)) F
  | _ => False
 | _ => False
theorem kAp_s (v : AV) (m : Nat) (ys : List AV) (E sz by' : Nat) : kAp P C v (some (m, ys)) E sz by' d r k objs tm F = kAp2 P C v E sz by' m ys d r k objs tm F := Eq.trans rfl rfl
theorem kAp2_o (b gen E sz by' m : Nat) (ys : List AV) : kAp2 P C (.orow b gen) E sz by' m ys d r k objs tm F = kAp3 P C objs[b]? b gen E sz by' m ys d r k objs tm F := Eq.trans rfl rfl
theorem kAp2_n (E sz by' m : Nat) (ys : List AV) : kAp2 P C .nil E sz by' m ys d r k objs tm F = ((ys.length = m * sz ∧ m * by' ≤ 140737488355328 ∧ m ≤ 140737488355328) ∧ run P C (.ops r :: k) (objs ++ [.orow E sz 0 m ys]) (setd tm d (.orow objs.length 0)) F) := Eq.trans rfl rfl
theorem kAp3_o (b gen E sz by' m n : Nat) (ys xs : List AV) : kAp3 P C (some (.orow E sz gen n xs)) b gen E sz by' m ys d r k objs tm F = ((ys.length = m * sz ∧ (n + m) * by' ≤ 140737488355328 ∧ n + m ≤ 140737488355328) ∧ run P C (.ops r :: k) (objs.set b (.orow E sz (gen + 1) (n + m) (xs ++ ys))) (setd tm d (.orow b (gen + 1))) F) := propext ⟨fun h => ⟨h.1.2, h.2⟩, fun h => ⟨⟨⟨rfl, rfl, rfl⟩, h.1⟩, h.2⟩⟩
theorem kAs_o (b gen E : Nat) (l : List UInt8) : kAs P C (.orow b gen) (.s l) E d r k objs tm F = kAs2 P C objs[b]? b gen E l d r k objs tm F := Eq.trans rfl rfl
theorem kAs_n (E : Nat) (l : List UInt8) : kAs P C .nil (.s l) E d r k objs tm F = (l.length ≤ 140737488355328 ∧ run P C (.ops r :: k) (objs ++ [.orow E 1 0 l.length (byA l)]) (setd tm d (.orow objs.length 0)) F) := Eq.trans rfl rfl
theorem kAs2_o (b gen E n : Nat) (l : List UInt8) (xs : List AV) : kAs2 P C (some (.orow E 1 gen n xs)) b gen E l d r k objs tm F = (n + l.length ≤ 140737488355328 ∧ run P C (.ops r :: k) (objs.set b (.orow E 1 (gen + 1) (n + l.length) (xs ++ byA l))) (setd tm d (.orow b (gen + 1))) F) := propext ⟨fun h => ⟨h.1.2, h.2⟩, fun h => ⟨⟨⟨rfl, rfl, rfl⟩, h.1⟩, h.2⟩⟩
theorem rn_app (E sz by' : Nat) (x y : SV) : run P C (.ops (⟨d, .app E sz by' x y, none⟩ :: r) :: k) objs tm F = kAp P C (x.ev tm) (srcOf objs (y.ev tm)) E sz by' d r k objs tm F := by
 rw [rn_op]
 simp only [wpS, kAp]
 cases hs : srcOf objs (y.ev tm) with
 | none => rfl
 | some p =>
  obtain ⟨m, ys⟩ := p
  simp only [kAp2]
  cases x.ev tm <;> try rfl
  try (case orow b gen =>
   dsimp only [kAp3]
   generalize objs[b]? = q
   cases q with
   | none => rfl
   | some ob => cases ob <;> rfl)
theorem rn_apps (E : Nat) (x y : SV) : run P C (.ops (⟨d, .apps E x y, none⟩ :: r) :: k) objs tm F = kAs P C (x.ev tm) (y.ev tm) E d r k objs tm F := by
 rw [rn_op]
 simp only [wpS, kAs]
 cases y.ev tm <;> try rfl
 try (case s l =>
  cases x.ev tm <;> try rfl
  try (case orow b gen =>
   dsimp only [kAs2]
   generalize objs[b]? = q
   cases q with
   | none => rfl
   | some ob => cases ob <;> rfl))
def kCb2 (P : Program) [Tabs P] (C : Cx) (c : Option OB) (gen : Nat) (d : Option Nat) (r : List SO) (k : List IT) (objs : List OB) (tm : List AV) (F : Post) : Prop :=
 match c with
 | some (.orow _ sz gen' _ xs) => (gen' = gen ∧ sz = 1) ∧ ∃ l, xs = byA l ∧ run P C (.ops r :: k) objs (setd tm d (.s l)) F
 | _ => False
def kCb (P : Program) [Tabs P] (C : Cx) (v : AV) (d : Option Nat) (r : List SO) (k : List IT) (objs : List OB) (tm : List AV) (F : Post) : Prop :=
 match v with
 | .orow b gen => kCb2 P C objs[b]? gen d r k objs tm F
 | .row n xs => ∃ l, (xs = byA l ∧ n = l.length) ∧ run P C (.ops r :: k) objs (setd tm d (.s l)) F
 | .nil => run P C (.ops r :: k) objs (setd tm d (.s [])) F
 | _ => False
theorem kCb2_o (E n gen : Nat) (l : List UInt8) (h : run P C (.ops r :: k) objs (setd tm d (.s l)) F) : kCb2 P C (some (.orow E 1 gen n (byA l))) gen d r k objs tm F := ⟨⟨rfl, rfl⟩, l, rfl, h⟩
theorem kCb_o (b gen : Nat) : kCb P C (.orow b gen) d r k objs tm F = kCb2 P C objs[b]? gen d r k objs tm F := Eq.trans rfl rfl
theorem kCb_n  : kCb P C .nil d r k objs tm F = run P C (.ops r :: k) objs (setd tm d (.s [])) F := Eq.trans rfl rfl
theorem rn_cvbs (x : SV) : run P C (.ops (⟨d, .cvbs x, none⟩ :: r) :: k) objs tm F = kCb P C (x.ev tm) d r k objs tm F := by
 rw [rn_op]
 simp only [wpS, kCb]
 cases x.ev tm <;> try rfl
 try (case orow b gen =>
  dsimp only
  generalize objs[b]? = q
  cases q with
  | none => rfl
  | some ob => cases ob <;> rfl)
theorem rn_mkf (f : Nat) (fs cs : List SV) : run P C (.ops (⟨d, .mkf f fs cs, none⟩ :: r) :: k) objs tm F = run P C (.ops r :: k) objs (setd tm d (.fn f (evs tm fs) (evs tm cs))) F := by rw [evs_eq, evs_eq]; rfl
theorem kO_if (c : Prop) [Decidable c] (v : AV) : kO P C (if c then some v else none) d r k objs tm F = (c ∧ run P C (.ops r :: k) objs (setd tm d v) F) := by
 by_cases h : c
 ·simp [h, kO]
 ·simp [h, kO]
theorem pq_and (q : IntKind) (a b : Int) : pq (.bits .and) [.i q a, .i q b] = some (.i q (q.wrap (BitVec.ofInt q.bits a &&& BitVec.ofInt q.bits b).toNat)) := by simp [pq, bitsZ]
theorem pq_or (q : IntKind) (a b : Int) : pq (.bits .or) [.i q a, .i q b] = some (.i q (q.wrap (BitVec.ofInt q.bits a ||| BitVec.ofInt q.bits b).toNat)) := by simp [pq, bitsZ]
theorem pq_xor (q : IntKind) (a b : Int) : pq (.bits .xor) [.i q a, .i q b] = some (.i q (q.wrap (BitVec.ofInt q.bits a ^^^ BitVec.ofInt q.bits b).toNat)) := by simp [pq, bitsZ]
theorem pq_shl (q q' : IntKind) (a b : Int) : pq .shl [.i q a, .i q' b] = if 0 ≤ b then some (.i q (q.wrap (a * 2 ^ (min b.toNat q.bits)))) else none := Eq.trans rfl rfl
theorem pq_shr (q q' : IntKind) (a b : Int) : pq .shr [.i q a, .i q' b] = if 0 ≤ b then some (.i q (a.fdiv (2 ^ (min b.toNat q.bits)))) else none := Eq.trans rfl rfl
theorem pq_mn (q : IntKind) (a b : Int) : pq .mn [.i q a, .i q b] = some (.i q (if b < a then b else a)) := by simp [pq]
theorem pq_mx (q : IntKind) (a b : Int) : pq .mx [.i q a, .i q b] = some (.i q (if a < b then b else a)) := by simp [pq]
theorem pq_rsl (sz n : Nat) (xs : List AV) (q : IntKind) (a : Int) : pq (.rsl sz) [.row n xs, .i q a] = if 0 ≤ a ∧ a ≤ n then some (.row (n - a.toNat) ((xs.take (n * sz)).drop (a.toNat * sz))) else none := Eq.trans rfl rfl
theorem pq_rsln (sz : Nat) (q : IntKind) (a : Int) : pq (.rsl sz) [.nil, .i q a] = if a = 0 then some .nil else none := Eq.trans rfl rfl
theorem pq_rslh (sz n : Nat) (xs : List AV) (q : IntKind) (a : Int) : pq (.rslh sz) [.row n xs, .i q a] = if 0 ≤ a ∧ a ≤ n then some (.row a.toNat (xs.take (a.toNat * sz))) else none := Eq.trans rfl rfl
theorem pq_rslhn (sz : Nat) (q : IntKind) (a : Int) : pq (.rslh sz) [.nil, .i q a] = if a = 0 then some .nil else none := Eq.trans rfl rfl
theorem pq_rslb (sz n : Nat) (xs : List AV) (q q' : IntKind) (a b : Int) : pq (.rslb sz) [.row n xs, .i q a, .i q' b] = if 0 ≤ a ∧ a ≤ b ∧ b ≤ n then some (.row (b.toNat - a.toNat) ((xs.take (b.toNat * sz)).drop (a.toNat * sz))) else none := Eq.trans rfl rfl
theorem pq_lss (l m : List UInt8) : pq (.scmp .lss) [.s l, .s m] = some (.b (strLt l m)) := Eq.trans rfl rfl
theorem pq_leq (l m : List UInt8) : pq (.scmp .leq) [.s l, .s m] = some (.b (strLt l m || l == m)) := Eq.trans rfl rfl
theorem pq_gtr (l m : List UInt8) : pq (.scmp .gtr) [.s l, .s m] = some (.b (!strLt l m && !(l == m))) := Eq.trans rfl rfl
theorem pq_geq (l m : List UInt8) : pq (.scmp .geq) [.s l, .s m] = some (.b (!strLt l m)) := Eq.trans rfl rfl
theorem rn_pu (q : PQ) (xs : List SV) : run P C (.ops (⟨d, .pu q xs, none⟩ :: r) :: k) objs tm F = kO P C (pq q (evs tm xs)) d r k objs tm F := by
 rw [evs_eq]
 rw [rn_op]
 simp only [wpS]
 cases pq q (xs.map fun x => x.ev tm) <;> rfl
def kG (P : Program) [Tabs P] (C : Cx) (v : AV) (op : SOp) (t : Nat) (w : Bool) (d : Option Nat) (r : List SO) (k : List IT) (objs : List OB) (tm : List AV) (F : Post) : Prop :=
 match v with
 | .b x => (x = w → run P C (.ops (⟨d, op, none⟩ :: r) :: k) objs (tm.set t (.b w)) F) ∧ (x = !w → run P C (.ops r :: k) objs (setd (tm.set t (.b (!w))) d (.o undef)) F)
 | .o (.tuple _) => run P C (.ops r :: k) objs (setd tm d (.o undef)) F
 | _ => False
def kGD (P : Program) [Tabs P] (C : Cx) (v : AV) (op : SOp) (t : Nat) (w : Bool) (d : Option Nat) (r : List SO) (k : List IT) (objs : List OB) (tm : List AV) (F : Post) : Prop :=
 match v with
 | .b x => (x = w → run P C (.dops (⟨d, op, none⟩ :: r) :: k) objs (tm.set t (.b w)) F) ∧ (x = !w → run P C (.dops r :: k) objs (setd (tm.set t (.b (!w))) d (.o undef)) F)
 | .o (.tuple _) => run P C (.dops r :: k) objs (setd tm d (.o undef)) F
 | _ => False
theorem kG_tt (op : SOp) (t : Nat) : kG P C (.b true) op t true d r k objs tm F = run P C (.ops (⟨d, op, none⟩ :: r) :: k) objs (tm.set t (.b true)) F := propext ⟨fun h => h.1 rfl, fun h => ⟨fun _ => h, fun e => absurd e (by decide)⟩⟩
theorem kG_tf (op : SOp) (t : Nat) : kG P C (.b true) op t false d r k objs tm F = run P C (.ops r :: k) objs (setd (tm.set t (.b true)) d (.o undef)) F := propext ⟨fun h => h.2 rfl, fun h => ⟨fun e => absurd e (by decide), fun _ => h⟩⟩
theorem kG_ft (op : SOp) (t : Nat) : kG P C (.b false) op t true d r k objs tm F = run P C (.ops r :: k) objs (setd (tm.set t (.b false)) d (.o undef)) F := propext ⟨fun h => h.2 rfl, fun h => ⟨fun e => absurd e (by decide), fun _ => h⟩⟩
theorem kG_ff (op : SOp) (t : Nat) : kG P C (.b false) op t false d r k objs tm F = run P C (.ops (⟨d, op, none⟩ :: r) :: k) objs (tm.set t (.b false)) F := propext ⟨fun h => h.1 rfl, fun h => ⟨fun _ => h, fun e => absurd e (by decide)⟩⟩
theorem kG_u (op : SOp) (t : Nat) (w : Bool) : kG P C (.o undef) op t w d r k objs tm F = run P C (.ops r :: k) objs (setd tm d (.o undef)) F := Eq.trans rfl rfl
theorem kG_v (op : SOp) (t : Nat) (w : Bool) (vs : Array Value) : kG P C (.o (.tuple vs)) op t w d r k objs tm F = run P C (.ops r :: k) objs (setd tm d (.o undef)) F := Eq.trans rfl rfl
theorem kGD_tt (op : SOp) (t : Nat) : kGD P C (.b true) op t true d r k objs tm F = run P C (.dops (⟨d, op, none⟩ :: r) :: k) objs (tm.set t (.b true)) F := propext ⟨fun h => h.1 rfl, fun h => ⟨fun _ => h, fun e => absurd e (by decide)⟩⟩
theorem kGD_tf (op : SOp) (t : Nat) : kGD P C (.b true) op t false d r k objs tm F = run P C (.dops r :: k) objs (setd (tm.set t (.b true)) d (.o undef)) F := propext ⟨fun h => h.2 rfl, fun h => ⟨fun e => absurd e (by decide), fun _ => h⟩⟩
theorem kGD_ft (op : SOp) (t : Nat) : kGD P C (.b false) op t true d r k objs tm F = run P C (.dops r :: k) objs (setd (tm.set t (.b false)) d (.o undef)) F := propext ⟨fun h => h.2 rfl, fun h => ⟨fun e => absurd e (by decide), fun _ => h⟩⟩
theorem kGD_ff (op : SOp) (t : Nat) : kGD P C (.b false) op t false d r k objs tm F = run P C (.dops (⟨d, op, none⟩ :: r) :: k) objs (tm.set t (.b false)) F := propext ⟨fun h => h.1 rfl, fun h => ⟨fun _ => h, fun e => absurd e (by decide)⟩⟩
theorem kGD_u (op : SOp) (t : Nat) (w : Bool) : kGD P C (.o undef) op t w d r k objs tm F = run P C (.dops r :: k) objs (setd tm d (.o undef)) F := Eq.trans rfl rfl
theorem kGD_v (op : SOp) (t : Nat) (w : Bool) (vs : Array Value) : kGD P C (.o (.tuple vs)) op t w d r k objs tm F = run P C (.dops r :: k) objs (setd tm d (.o undef)) F := Eq.trans rfl rfl
theorem rn_guard (op : SOp) (t : Nat) (w : Bool) : run P C (.ops (⟨d, op, some (t, w)⟩ :: r) :: k) objs tm F = kG P C ((tm[t]?).getD .u) op t w d r k objs tm F := by
 show wpR P _ _ _ _ = _
 simp only [wpR, kG]
 cases (tm[t]?).getD .u <;> try rfl
 try (case o v => cases v <;> rfl)
theorem rn_dguard (op : SOp) (t : Nat) (w : Bool) : run P C (.dops (⟨d, op, some (t, w)⟩ :: r) :: k) objs tm F = kGD P C ((tm[t]?).getD .u) op t w d r k objs tm F := by
 show wpD P _ _ _ _ = _
 simp only [wpD, kGD]
 cases (tm[t]?).getD .u <;> try rfl
 try (case o v => cases v <;> rfl)
def kC (P : Program) [Tabs P] (C : Cx) (v : AV) (x y : SCode) (k : List IT) (objs : List OB) (tm : List AV) (F : Post) : Prop :=
 match v with
 | .b t => (t = true → run P C (.code x :: k) objs tm F) ∧ (t = false → run P C (.code y :: k) objs tm F)
 | _ => False
theorem kC_t (x y : SCode) : kC P C (.b true) x y k objs tm F = run P C (.code x :: k) objs tm F := propext ⟨fun h => h.1 rfl, fun h => ⟨fun _ => h, fun e => absurd e (by decide)⟩⟩
theorem kC_f (x y : SCode) : kC P C (.b false) x y k objs tm F = run P C (.code y :: k) objs tm F := propext ⟨fun h => h.2 rfl, fun h => ⟨fun e => absurd e (by decide), fun _ => h⟩⟩
theorem rn_cond (c : SV) (x y : SCode) : run P C (.code (.cond c x y) :: k) objs tm F = kC P C (c.ev tm) x y k objs tm F := by
 show wpC P C _ _ _ _ = _
 simp only [wpC, kC]
 cases c.ev tm <;> rfl
def kCall (P : Program) [Tabs P] (C : Cx) (f : Nat) (args : List AV) (d : Option Nat) (r : List SO) (k : List IT) (objs : List OB) (tm : List AV) (F : Post) : Prop := CallOk P f args objs fun o v => run P C (.ops r :: k) o (setd tm d v) F
theorem rn_call (f : Nat) (args : List SV) : run P C (.ops (⟨d, .call f args, none⟩ :: r) :: k) objs tm F = kCall P C f (evs tm args) d r k objs tm F := by
 show wpR P _ _ _ _ = _
 simp only [wpR, wpS, kCall, evs_eq]; rfl
theorem kcall {f : Nat} {args : List AV} (h : CallOk P f args objs fun o v => run P C (.ops r :: k) o (setd tm d v) F) : kCall P C f args d r k objs tm F := h
def kDCall (P : Program) [Tabs P] (C : Cx) (f : Nat) (args : List AV) (d : Option Nat) (r : List SO) (k : List IT) (objs : List OB) (tm : List AV) (F : Post) : Prop := ∃ v, (CallOk P f args objs fun o x => o = objs ∧ x = v) ∧ run P C (.dops r :: k) objs (setd tm d v) F
theorem rn_dcall (f : Nat) (args : List SV) : run P C (.dops (⟨d, .call f args, none⟩ :: r) :: k) objs tm F = kDCall P C f (evs tm args) d r k objs tm F := by
 show wpD P _ _ _ _ = _
 simp only [wpD, wpS, kDCall, evs_eq, SOp.isCall, if_true]; rfl
def kPCall (P : Program) [Tabs P] (C : Cx) (f : Nat) (args : List AV) (d : Option Nat) (r : List SO) (k : List IT) (objs : List OB) (tm : List AV) (F : Post) : Prop := ∃ v, (plains args = true ∧ CallOk P f args [] fun _ x => x.plain = true ∧ objs = objs ∧ x = v) ∧ run P C (.dops r :: k) objs (setd tm d v) F
theorem rn_pcall (f : Nat) (args : List SV) : run P C (.dops (⟨d, .pcall f args, none⟩ :: r) :: k) objs tm F = kPCall P C f (evs tm args) d r k objs tm F := by
 show wpD P (⟨d, .pcall f args, none⟩ :: r) objs tm _ = _
 simp only [wpD, wpS, kPCall, evs_eq, SOp.isCall, if_true]; rfl
theorem kdcall {f : Nat} {args : List AV} {v : AV} (h : CallOk P f args objs fun o x => o = objs ∧ x = v) (hr : run P C (.dops r :: k) objs (setd tm d v) F) : kDCall P C f args d r k objs tm F := ⟨v, h, hr⟩
def IsFn (P : Program) (f : Nat) : Prop := ∃ fn, P.funcs[f]? = some fn ∧ fn.body.isSome = true ∧ fn.name ≠ "runtime.NumGoroutine"
def kCallv (P : Program) [Tabs P] (C : Cx) (x : AV) (args : List AV) (d : Option Nat) (r : List SO) (k : List IT) (objs : List OB) (tm : List AV) (F : Post) : Prop :=
 match x with
 | .fn f fs cs => IsFn P f ∧ CallOk P f (fs ++ args ++ cs) objs fun o v => run P C (.ops r :: k) o (setd tm d v) F
 | _ => False
theorem rn_callv (x : SV) (args : List SV) : run P C (.ops (⟨d, .callv x args, none⟩ :: r) :: k) objs tm F = kCallv P C (x.ev tm) (evs tm args) d r k objs tm F := by
 show wpR P _ _ _ _ = _
 simp only [wpR, wpS, kCallv, evs_eq]
 cases x.ev tm <;> rfl
theorem drn_mv (x : SV) : run P C (.dops (⟨d, .mv x, none⟩ :: r) :: k) objs tm F = run P C (.ops [⟨d, .mv x, none⟩] :: .dops r :: k) objs tm F := Eq.trans rfl rfl
theorem drn_pick (c x y : SV) : run P C (.dops (⟨d, .pick c x y, none⟩ :: r) :: k) objs tm F = run P C (.ops [⟨d, .pick c x y, none⟩] :: .dops r :: k) objs tm F := Eq.trans rfl rfl
theorem drn_build (z : List AV) (ps : List (Nat × Nat × SV)) : run P C (.dops (⟨d, .build z ps, none⟩ :: r) :: k) objs tm F = run P C (.ops [⟨d, .build z ps, none⟩] :: .dops r :: k) objs tm F := Eq.trans rfl rfl
theorem drn_bslice (n : Nat) (z : List AV) (ps : List (Nat × Nat × SV)) : run P C (.dops (⟨d, .bslice n z ps, none⟩ :: r) :: k) objs tm F = run P C (.ops [⟨d, .bslice n z ps, none⟩] :: .dops r :: k) objs tm F := Eq.trans rfl rfl
theorem drn_load1 (x : SV) : run P C (.dops (⟨d, .load1 x, none⟩ :: r) :: k) objs tm F = run P C (.ops [⟨d, .load1 x, none⟩] :: .dops r :: k) objs tm F := Eq.trans rfl rfl
theorem drn_loadn (sz : Nat) (x : SV) : run P C (.dops (⟨d, .loadn sz x, none⟩ :: r) :: k) objs tm F = run P C (.ops [⟨d, .loadn sz x, none⟩] :: .dops r :: k) objs tm F := Eq.trans rfl rfl
theorem drn_nck (x : SV) : run P C (.dops (⟨d, .nck x, none⟩ :: r) :: k) objs tm F = run P C (.ops [⟨d, .nck x, none⟩] :: .dops r :: k) objs tm F := Eq.trans rfl rfl
theorem drn_bin (q : BinOp) (x y : SV) : run P C (.dops (⟨d, .bin q x y, none⟩ :: r) :: k) objs tm F = run P C (.ops [⟨d, .bin q x y, none⟩] :: .dops r :: k) objs tm F := Eq.trans rfl rfl
theorem drn_beq (ne : Bool) (x y : SV) : run P C (.dops (⟨d, .beq ne x y, none⟩ :: r) :: k) objs tm F = run P C (.ops [⟨d, .beq ne x y, none⟩] :: .dops r :: k) objs tm F := Eq.trans rfl rfl
theorem drn_eqs (ne : Bool) (e : ET) (x y : SV) : run P C (.dops (⟨d, .eqs ne e x y, none⟩ :: r) :: k) objs tm F = run P C (.ops [⟨d, .eqs ne e x y, none⟩] :: .dops r :: k) objs tm F := Eq.trans rfl rfl
theorem drn_not (x : SV) : run P C (.dops (⟨d, .not x, none⟩ :: r) :: k) objs tm F = run P C (.ops [⟨d, .not x, none⟩] :: .dops r :: k) objs tm F := Eq.trans rfl rfl
theorem drn_neg (x : SV) : run P C (.dops (⟨d, .neg x, none⟩ :: r) :: k) objs tm F = run P C (.ops [⟨d, .neg x, none⟩] :: .dops r :: k) objs tm F := Eq.trans rfl rfl
theorem drn_iada (sz len : Nat) (x y : SV) : run P C (.dops (⟨d, .iada sz len x y, none⟩ :: r) :: k) objs tm F = run P C (.ops [⟨d, .iada sz len x y, none⟩] :: .dops r :: k) objs tm F := Eq.trans rfl rfl
theorem drn_cvi (q : IntKind) (x : SV) : run P C (.dops (⟨d, .cvi q x, none⟩ :: r) :: k) objs tm F = run P C (.ops [⟨d, .cvi q x, none⟩] :: .dops r :: k) objs tm F := Eq.trans rfl rfl
theorem drn_cvs (x : SV) : run P C (.dops (⟨d, .cvs x, none⟩ :: r) :: k) objs tm F = run P C (.ops [⟨d, .cvs x, none⟩] :: .dops r :: k) objs tm F := Eq.trans rfl rfl
theorem drn_cvbs (x : SV) : run P C (.dops (⟨d, .cvbs x, none⟩ :: r) :: k) objs tm F = run P C (.ops [⟨d, .cvbs x, none⟩] :: .dops r :: k) objs tm F := Eq.trans rfl rfl
theorem drn_slcs (x : SV) (lo hi : Option SV) : run P C (.dops (⟨d, .slcs x lo hi, none⟩ :: r) :: k) objs tm F = run P C (.ops [⟨d, .slcs x lo hi, none⟩] :: .dops r :: k) objs tm F := Eq.trans rfl rfl
theorem drn_fad (off : Nat) (x : SV) : run P C (.dops (⟨d, .fad off x, none⟩ :: r) :: k) objs tm F = run P C (.ops [⟨d, .fad off x, none⟩] :: .dops r :: k) objs tm F := Eq.trans rfl rfl
theorem drn_fld1 (off : Nat) (x : SV) : run P C (.dops (⟨d, .fld1 off x, none⟩ :: r) :: k) objs tm F = run P C (.ops [⟨d, .fld1 off x, none⟩] :: .dops r :: k) objs tm F := Eq.trans rfl rfl
theorem drn_fldn (off sz : Nat) (x : SV) : run P C (.dops (⟨d, .fldn off sz x, none⟩ :: r) :: k) objs tm F = run P C (.ops [⟨d, .fldn off sz x, none⟩] :: .dops r :: k) objs tm F := Eq.trans rfl rfl
theorem drn_iad (sz : Nat) (x y : SV) : run P C (.dops (⟨d, .iad sz x y, none⟩ :: r) :: k) objs tm F = run P C (.ops [⟨d, .iad sz x y, none⟩] :: .dops r :: k) objs tm F := Eq.trans rfl rfl
theorem drn_idx (x y : SV) : run P C (.dops (⟨d, .idx x y, none⟩ :: r) :: k) objs tm F = run P C (.ops [⟨d, .idx x y, none⟩] :: .dops r :: k) objs tm F := Eq.trans rfl rfl
theorem drn_ext (x : SV) (j : Nat) : run P C (.dops (⟨d, .ext x j, none⟩ :: r) :: k) objs tm F = run P C (.ops [⟨d, .ext x j, none⟩] :: .dops r :: k) objs tm F := Eq.trans rfl rfl
theorem drn_lens (x : SV) : run P C (.dops (⟨d, .lens x, none⟩ :: r) :: k) objs tm F = run P C (.ops [⟨d, .lens x, none⟩] :: .dops r :: k) objs tm F := Eq.trans rfl rfl
theorem drn_lenr (x : SV) : run P C (.dops (⟨d, .lenr x, none⟩ :: r) :: k) objs tm F = run P C (.ops [⟨d, .lenr x, none⟩] :: .dops r :: k) objs tm F := Eq.trans rfl rfl
theorem drn_mkf (f : Nat) (fs cs : List SV) : run P C (.dops (⟨d, .mkf f fs cs, none⟩ :: r) :: k) objs tm F = run P C (.ops [⟨d, .mkf f fs cs, none⟩] :: .dops r :: k) objs tm F := Eq.trans rfl rfl
theorem drn_bslo (E sz n : Nat) (z : List AV) (ps : List (Nat × Nat × SV)) : run P C (.dops (⟨d, .bslo E sz n z ps, none⟩ :: r) :: k) objs tm F = run P C (.ops [⟨d, .bslo E sz n z ps, none⟩] :: .dops r :: k) objs tm F := Eq.trans rfl rfl
theorem drn_alloc (T : Nat) (z : List AV) : run P C (.dops (⟨d, .alloc T z, none⟩ :: r) :: k) objs tm F = run P C (.ops [⟨d, .alloc T z, none⟩] :: .dops r :: k) objs tm F := Eq.trans rfl rfl
theorem drn_box (T : Nat) (x : SV) : run P C (.dops (⟨d, .box T x, none⟩ :: r) :: k) objs tm F = run P C (.ops [⟨d, .box T x, none⟩] :: .dops r :: k) objs tm F := Eq.trans rfl rfl
theorem drn_store (sz : Nat) (x y : SV) : run P C (.dops (⟨d, .store sz x y, none⟩ :: r) :: k) objs tm F = run P C (.ops [⟨d, .store sz x y, none⟩] :: .dops r :: k) objs tm F := Eq.trans rfl rfl
theorem drn_app (E sz by' : Nat) (x y : SV) : run P C (.dops (⟨d, .app E sz by' x y, none⟩ :: r) :: k) objs tm F = run P C (.ops [⟨d, .app E sz by' x y, none⟩] :: .dops r :: k) objs tm F := Eq.trans rfl rfl
theorem drn_apps (E : Nat) (x y : SV) : run P C (.dops (⟨d, .apps E x y, none⟩ :: r) :: k) objs tm F = run P C (.ops [⟨d, .apps E x y, none⟩] :: .dops r :: k) objs tm F := Eq.trans rfl rfl
theorem drn_mks (E sz by' : Nat) (x y : SV) : run P C (.dops (⟨d, .mks E sz by' x y, none⟩ :: r) :: k) objs tm F = run P C (.ops [⟨d, .mks E sz by' x y, none⟩] :: .dops r :: k) objs tm F := Eq.trans rfl rfl
theorem drn_pu (q : PQ) (xs : List SV) : run P C (.dops (⟨d, .pu q xs, none⟩ :: r) :: k) objs tm F = run P C (.ops [⟨d, .pu q xs, none⟩] :: .dops r :: k) objs tm F := Eq.trans rfl rfl
theorem fn_rn {f : FuncId} {n : Nat} {ss : List SRes} {sc : SCode} (hf : FnIs P f n ss sc) {args : List AV} {objs : List OB} {K : List OB → AV → Prop} (hp : plains args = true)
  (h : ∀ (C : Cx) [On P C], run P C [.code sc] [] (args ++ List.replicate (n - args.length) (.o undef)) (endK ss fun r => K objs r)) : CallOk P f args objs K :=
 fn_ok hf hp h
theorem fn_rin {f : FuncId} {n : Nat} {ss : List SRes} {sc : SCode} (hf : FnIs P f n ss sc) {args : List AV} {objs : List OB} {K : List OB → AV → Prop}
  (h : ∀ (C : Cx) [On P C], run P C [.code sc] objs (args ++ List.replicate (n - args.length) (.o undef)) (endI ss K)) : CallOk P f args objs K :=
 fn_in hf h
theorem endI_n (ss : List SRes) (K : List OB → AV → Prop) : endI ss K .normal objs tm = outI ss K objs tm := Eq.trans rfl rfl
theorem endI_r (ss : List SRes) (K : List OB → AV → Prop) : endI ss K .ret objs tm = outI ss K objs tm := Eq.trans rfl rfl
def outJ (K : List OB → AV → Prop) (objs : List OB) : Option (List AV) → Prop
 | some xs => K objs (tupA xs)
 | none => False
theorem outJ_s (K : List OB → AV → Prop) (xs : List AV) : outJ K objs (some xs) = K objs (tupA xs) := Eq.trans rfl rfl
theorem outI_eq (ss : List SRes) (K : List OB → AV → Prop) : outI ss K objs tm = outJ K objs (resAs objs tm ss) := by
 unfold outI
 cases resAs objs tm ss <;> rfl
theorem endK_n (ss : List SRes) (K : AV → Prop) : endK ss K .normal objs tm = outK ss K objs tm := Eq.trans rfl rfl
theorem endK_r (ss : List SRes) (K : AV → Prop) : endK ss K .ret objs tm = outK ss K objs tm := Eq.trans rfl rfl
def outO (K : AV → Prop) : Option AV → Prop
 | some r => K r
 | none => False
theorem outO_s (K : AV → Prop) (r : AV) : outO K (some r) = K r := Eq.trans rfl rfl
theorem outK_eq (ss : List SRes) (K : AV → Prop) : outK ss K objs tm = outO K ((resAs objs tm ss).bind fun xs => pub objs 5 (tupA xs)) := by
 unfold outK
 cases (resAs objs tm ss).bind (fun xs => pub objs 5 (tupA xs)) <;> rfl
end
end Go.Proofs.Ytkcaghhfnmeknaa.Sx
/-
 DERIVED: THE SHELF's CONTRACTS AT THIS DUMP, IN PLAIN WORDS (tools/lay-plain.mjs out of 'TryShelf.lean', which tools/lay-shelf.mjs wrote): THE SAME DECLARATIONS UNDER THE SAME NAMES: 'import', 'namespace', 'open', 'def', 'theorem' AND NOTHING ELSE: no command of the shelf's: FOR A HAND-IN. Each laying: the table of numbers ('.._ren') and one theorem, a field a fact of the dump's own or the kernel's comparison; each contract: ONE APPLICATION.
-/
namespace Go.Proofs
open Go.Shelf
def Try.lays137_ren : Go.Shelf.Ren := ⟨fun | 137 => 116 | 217 => 121 | 266 => 126 | n => n, fun | 9 => 9 | 5 => 5 | 3 => 3 | n => n, fun | n => n⟩
theorem Try.lays137 : Go.Proofs.Lays.n137 Try.prog Try.lays137_ren := {
 mixed := by kernel_rfl
 f137 := Try.func116.trans (congrArg some (by kernel_rfl))
 f217 := Try.func121.trans (congrArg some (by kernel_rfl))
 f266 := Try.func126.trans (congrArg some (by kernel_rfl))
 t3 := Try.underlying3
 a3 := Try.isAgg3
 z3 := Try.sizeOf3
 v3 := Try.zeroValue3
 t5 := Try.underlying5
 a5 := Try.isAgg5
 z5 := Try.sizeOf5
 v5 := Try.zeroValue5
 t9 := Try.underlying9
 a9 := Try.isAgg9
 z9 := Try.sizeOf9
 v9 := Try.zeroValue9 }
open Go.RowKit in
/-- strings.IndexByte: "IndexByte returns the index of the first instance of c in s, or -1 if c is not present in s.": IT RETURNS 'Lib.indexByte s c'; the world is as it was. (LAID: no walk: one application.) -/
theorem Try.strings_IndexByte (s : ByteArray) (c : Int) (w : World) :
  Calls Try.prog 116 #[.string s, .int .u8 c] w fun e w' => e = .returned (.int .i64 (Lib.indexByte s.data.toList c.toNat.toUInt8)) ∧ w' = w := Any.strings_IndexByte Try.lays137 s c w
def Try.lays219_ren : Go.Shelf.Ren := ⟨fun | 219 => 120 | 217 => 121 | 225 => 123 | 224 => 124 | 267 => 125 | 266 => 126 | 314 => 127 | n => n, fun | 9 => 9 | 3 => 3 | 4 => 4 | 5 => 5 | 46 => 118 | 146 => 120 | 51 => 119 | n => n, fun | 1 => 0 | n => n⟩
theorem Try.lays219 : Go.Proofs.Lays.n219 Try.prog Try.lays219_ren := {
 mixed := by kernel_rfl
 f217 := Try.func121.trans (congrArg some (by kernel_rfl))
 f219 := Try.func120.trans (congrArg some (by kernel_rfl))
 f224 := Try.func124.trans (congrArg some (by kernel_rfl))
 f225 := Try.func123.trans (congrArg some (by kernel_rfl))
 f266 := Try.func126.trans (congrArg some (by kernel_rfl))
 f267 := Try.func125.trans (congrArg some (by kernel_rfl))
 f314 := Try.func127.trans (congrArg some (by kernel_rfl))
 t3 := Try.underlying3
 a3 := Try.isAgg3
 z3 := Try.sizeOf3
 v3 := Try.zeroValue3
 t4 := Try.underlying4
 a4 := Try.isAgg4
 z4 := Try.sizeOf4
 v4 := Try.zeroValue4
 t5 := Try.underlying5
 a5 := Try.isAgg5
 z5 := Try.sizeOf5
 v5 := Try.zeroValue5
 t9 := Try.underlying9
 a9 := Try.isAgg9
 z9 := Try.sizeOf9
 v9 := Try.zeroValue9
 t46 := Try.underlying118
 a46 := Try.isAgg118
 z46 := Try.sizeOf118
 v46 := Try.zeroValue118
 t51 := Try.underlying119
 a51 := Try.isAgg119
 z51 := Try.sizeOf119
 v51 := Try.zeroValue119
 t146 := Try.underlying120
 a146 := Try.isAgg120
 z146 := Try.sizeOf120
 v146 := Try.zeroValue120
 g1 := by kernel_rfl }
open Go.RowKit Go.Lib in
/-- internal/stringslite.Index (what strings.Index calls) AT A substr OF ONE BYTE c: IT RETURNS 'Lib.indexByte s c'; the world is as it was. (LAID: no walk: one application.) -/
theorem Try.stringslite_Index_one (s : ByteArray) (c : UInt8) (w : World) :
  Calls Try.prog 120 #[.string s, .string ⟨#[c]⟩] w fun e w' => e = .returned (.int .i64 (Lib.indexByte s.data.toList c)) ∧ w' = w := Any.stringslite_Index_one Try.lays219 s c w
end Go.Proofs
namespace Go.Proofs.Ytkcaghhfnmeknaa
open Go.RowKit
theorem ret_bool {a b : Bool} (h : a = b) : Ending.returned (.bool a) = .returned (.bool b) := by rw [h]
theorem ret_int {k : IntKind} {a b : Int} (h : a = b) : Ending.returned (.int k a) = .returned (.int k b) := by rw [h]
theorem dd {p q : Prop} [Decidable p] [Decidable q] (h : p ↔ q) : decide p = decide q := decide_eq_decide.2 h
theorem dt {q : Prop} [Decidable q] (h : q) : true = decide q := (decide_eq_true h).symm
theorem df {q : Prop} [Decidable q] (h : ¬ q) : false = decide q := (decide_eq_false h).symm
abbrev S (l : List UInt8) : ByteArray := ⟨l.toArray⟩
theorem S_size (l : List UInt8) : (S l).size = l.length := size_of_list l
theorem S_of (s : ByteArray) : S s.data.toList = s := rfl
theorem size_list (s : ByteArray) : s.data.toList.length = s.size := rfl
theorem at_list (s : ByteArray) (k : Nat) (h : k < s.size) : s.data.toList[k]'(by rw [size_list]; exact h) = s[k] := rfl
theorem take_snoc (s : ByteArray) (k : Nat) (h : k < s.size) : s.data.toList.take (k + 1) = s.data.toList.take k ++ [s[k]] := by
 rw [List.take_succ_eq_append_getElem (by simpa using h)]; rfl
def Qb (w w' : World) : Prop := Below w.heap.size w w'
theorem Qb.refl (w : World) : Qb w w := Below.refl _ _
theorem Qb.trans {a b c : World} (h : Qb a b) (k : Qb b c) : Qb a c := Below.trans h (Below.mono k h.size)
theorem Qb.alloc {a b : World} (h : Qb a b) (o : Obj) : Qb a (b.alloc o) := Below.alloc h h.size o
theorem Qb.drew {a b : World} (h : Qb a b) : Qb a b.drew := Below.drew h
theorem Qb.drewN {a b : World} (h : Qb a b) (n : Nat) : Qb a (b.drewN n) := below_drewN h n
theorem Qb.set {a b : World} (h : Qb a b) {p : Addr} (hp : a.heap.size ≤ p.block) (u : Value) : Qb a (b.setCell p u) := Below.setCell h hp u
theorem Qb.size {a b : World} (h : Qb a b) : a.heap.size ≤ b.heap.size := Below.size h
theorem quiet_left {P : Program} {f : FuncId} {args : Array Value} {w : World} {n : Nat} {v : Value}
  (h : Calls P f args (w.drewN n) fun e w' => e = .returned v ∧ w.drewN n = w') : Calls P f args (w.drewN n) fun e w'' => e = .returned v ∧ ∃ m, w'' = w.drewN m :=
 h.mono fun _ _ ⟨he, hm⟩ => ⟨he, n, hm.symm⟩
end Go.Proofs.Ytkcaghhfnmeknaa
namespace Go.Proofs.Ytkcaghhfnmeknaa
open Go.RowKit
def isCap (c : UInt8) : Bool := decide (65 ≤ c.toNat ∧ c.toNat ≤ 90)
def isAlpha (c : UInt8) : Bool := decide (97 ≤ c.toNat ∧ c.toNat ≤ 122 ∨ 65 ≤ c.toNat ∧ c.toNat ≤ 90)
def isDigit (c : UInt8) : Bool := decide (48 ≤ c.toNat ∧ c.toNat ≤ 57)
def hasB (c : UInt8) (l : List UInt8) : Bool := l.contains c
def isLD (c : UInt8) : Bool := isAlpha c || isDigit c
def isTok (c : UInt8) : Bool := isLD c || hasB c [33, 35, 36, 37, 38, 39, 42, 43, 45, 46, 94, 95, 96, 124, 126]
theorem isCapital_any (c : UInt8) (w : World) :
  Calls Try.prog 101 #[.int .u8 c.toNat] w fun e w' => e = .returned (.bool (isCap c)) ∧ w = w' := by
 go_enter Try.func101, Try.ntmps101
 go_wp2
 all_goals go_ret
 all_goals exact ⟨ret_bool (by unfold isCap; first | exact dt (by omega) | exact df (by omega) | (rw [Bool.eq_iff_iff]; simp only [Bool.or_eq_true, Bool.and_eq_true, decide_eq_true_eq]; omega)), rfl⟩
theorem IsAlpha_any (c : UInt8) (w : World) :
  Calls Try.prog 115 #[.int .u8 c.toNat] w fun e w' => e = .returned (.bool (isAlpha c)) ∧ w = w' := by
 go_enter Try.func115, Try.ntmps115
 go_wp2
 all_goals go_ret
 all_goals exact ⟨ret_bool (by unfold isAlpha; first | exact dt (by omega) | exact df (by omega) | (rw [Bool.eq_iff_iff]; simp only [Bool.or_eq_true, Bool.and_eq_true, decide_eq_true_eq]; omega)), rfl⟩
theorem IsDigit_any (c : UInt8) (w : World) :
  Calls Try.prog 109 #[.int .u8 c.toNat] w fun e w' => e = .returned (.bool (isDigit c)) ∧ w = w' := by
 go_enter Try.func109, Try.ntmps109
 go_wp2
 all_goals go_ret
 all_goals exact ⟨ret_bool (by unfold isDigit; first | exact dt (by omega) | exact df (by omega) | (rw [Bool.eq_iff_iff]; simp only [Bool.or_eq_true, Bool.and_eq_true, decide_eq_true_eq]; omega)), rfl⟩
theorem isOneOf_any (c : UInt8) (s : ByteArray) (w : World) :
  Calls Try.prog 100 #[.int .u8 c.toNat, .string s] w fun e w' => e = .returned (.bool (hasB c s.data.toList)) ∧ w = w' := by
 go_enter Try.func100, Try.ntmps100
 go_wp2_with (go_at_call 116; refine (Try.strings_IndexByte _ _ _).mono ?_; rintro e w' ⟨rfl, rfl⟩)
 go_ret
 exact ⟨ret_bool (by unfold hasB; rw [Lib.contains_iff_indexByte]), rfl⟩
theorem isLD_any (c : UInt8) (w : World) :
  Calls Try.prog 99 #[.int .u8 c.toNat] w fun e w' => e = .returned (.bool (isLD c)) ∧ w = w' := by
 go_enter Try.func99, Try.ntmps99
 go_wp2_with (first | (go_at_call 115; refine (IsAlpha_any _ _).mono ?_; rintro e w' ⟨rfl, rfl⟩) | (go_at_call 109; refine (IsDigit_any _ _).mono ?_; rintro e w' ⟨rfl, rfl⟩))
 all_goals go_ret
 all_goals exact ⟨ret_bool (by simp_all [isLD]), rfl⟩
theorem IsTok_any (c : UInt8) (w : World) :
  Calls Try.prog 77 #[.int .u8 c.toNat] w fun e w' => e = .returned (.bool (isTok c)) ∧ w = w' := by
 go_enter Try.func77, Try.ntmps77
 go_wp2_with (first | (go_at_call 99; refine (isLD_any _ _).mono ?_; rintro e w' ⟨rfl, rfl⟩) | (go_at_call 100; refine (isOneOf_any _ _ _).mono ?_; rintro e w' ⟨rfl, rfl⟩))
 all_goals go_ret
 all_goals exact ⟨ret_bool (by simp_all [isTok]), rfl⟩
def lowB (c : UInt8) : UInt8 := if isCap c then c + 32 else c
theorem lower_any (c : UInt8) (w : World) :
  Calls Try.prog 78 #[.int .u8 c.toNat] w fun e w' => e = .returned (.int .u8 (lowB c).toNat) ∧ w = w' := by
 go_enter Try.func78, Try.ntmps78
 go_wp2_with (go_at_call 101; refine (isCapital_any _ _).mono ?_; rintro e w' ⟨rfl, rfl⟩)
 all_goals go_ret
 ·have h : isCap c = true := by assumption
  exact ⟨ret_int (by simp [lowB, h, UInt8.toNat_add]), rfl⟩
 ·have h : isCap c = false := by assumption
  exact ⟨ret_int (by simp [lowB, h]), rfl⟩
end Go.Proofs.Ytkcaghhfnmeknaa
namespace Go.Proofs.Ytkcaghhfnmeknaa
open Go.RowKit
theorem infoU8 : (Try.prog.info? 5).map (fun i => (i.zero, i.size, i.bytes)) = some (some (.int .u8 0), 1, 1) := by kernel_rfl
def bv (l : List UInt8) : List Value := l.map fun c => .int .u8 c.toNat
theorem bv_length (l : List UInt8) : (bv l).length = l.length := by simp [bv]
theorem bv_set (l : List UInt8) (i : Nat) (c : UInt8) : (bv l).set i (.int .u8 c.toNat) = bv (l.set i c) := by simp [bv, List.map_set]
theorem bv_get (l : List UInt8) (i : Nat) (h : i < l.length) : (bv l)[i]? = some (.int .u8 l[i].toNat) := by simp [bv, h]
def Brow (w : World) (base : Nat) (v : Value) (l : List UInt8) : Prop := w.ownsRow base 5 1 v l.length (bv l)
theorem Brow.nil (w : World) (base : Nat) : Brow w base (.slice none 0 0) [] := World.ownsRow_nil w base _ _
theorem Brow.drew {w : World} {base : Nat} {v : Value} {l : List UInt8} (h : Brow w base v l) : Brow w.drew base v l := h
theorem Brow.drewN {w : World} {base : Nat} {v : Value} {l : List UInt8} (h : Brow w base v l) (n : Nat) : Brow (w.drewN n) base v l := h
theorem Brow.alloc {w : World} {base : Nat} {v : Value} {l : List UInt8} (h : Brow w base v l) (o : Obj) : Brow (w.alloc o) base v l := World.ownsRow.alloc h o
theorem foldl_bv : ∀ (l : List UInt8) (s : ByteArray), (l.map fun c => (c.toNat : Int)).foldl (fun r n => r.push (UInt8.ofNat n.toNat)) s = ⟨s.data ++ l.toArray⟩
 | [], s => by simp
 | n :: ns, s => by
  rw [List.map_cons, List.foldl_cons, foldl_bv ns]
  simp [ByteArray.push]
theorem row_str {w : World} {base : Nat} {v : Value} {l : List UInt8} (h : Brow w base v l) :
  (convert 80 9 v).run Try.prog w = .ok (.string ⟨l.toArray⟩) w := by
 rcases h.2 with ⟨rfl, hn⟩ | ⟨g, cap, cur, rfl, hb, hg, hnc, hcm, hcs, htake⟩
 ·have : l = [] := List.eq_nil_of_length_eq_zero hn
  subst this
  exact run_convert_bytes_nil w 80 5 Try.underlying80 Try.underlying5 0 0 _ Try.underlying9
 ·have hl : (loadCells ⟨g, 0, none⟩ l.length).run Try.prog w = .ok ((l.map fun c => (c.toNat : Int)).map (Value.int .u8)).toArray w := by
   have := run_loadCells_list (P := Try.prog) w ⟨g, 0, none⟩ (bv l) (fun j v hj => World.ownsRow.cells h (g := g) rfl j v hj)
   rw [bv_length] at this
   rw [this]
   simp [bv, Function.comp_def]
  rw [run_convert_bytes_string w _ _ 5 _ _ _ Try.underlying80 Try.underlying5 Try.underlying9, run_bytesToString w _ _ cap _ hl, foldl_bv]
  simp [ByteArray.empty, ByteArray.emptyWithCapacity]
  rfl
def mkB (c : Nat) : Array Value := madeCells (Value.int .u8 0).cells (c * 1)
theorem mkB_size (c : Nat) : (mkB c).size = c := by unfold mkB; rw [size_madeCells]; omega
theorem mkB_list (c : Nat) : (mkB c).toList = bv (List.replicate c 0) := by
 show (madeCells #[.int .u8 0] (c * 1)).toList = _
 rw [toList_madeCells_one]; simp [bv]
theorem mk_bytes (n c : Nat) (hn : n ≤ c) (hc : c ≤ 281474976710656) (w : World) :
  (Instr.makeSlice 80 (.int .i64 (n : Int)) (.int .i64 (c : Int))).run Try.prog w = .ok (.slice (some ⟨w.heap.size, 0, none⟩) n c) (w.alloc (.cells (mkB c) 5)) := by
 obtain ⟨i0, hi, hz0, hz1, hz2⟩ := info_parts infoU8
 have hb : (i0.bytes : Int) * (c : Int) ≤ 281474976710656 := by rw [hz2]; omega
 have hr := run_make (P := Try.prog) w 80 5 i0 (.int .u8 0) Try.underlying80 hi hz0 .i64 .i64 n c (by omega) (by omega) hb (by omega)
 simp only [Int.toNat_natCast, hz1] at hr
 exact hr
theorem brow_made (w : World) (B n c : Nat) (hB : B ≤ w.heap.size) (hn : n ≤ c) (hc : c ≤ 281474976710656) :
  Brow (w.alloc (.cells (mkB c) 5)) B (.slice (some ⟨w.heap.size, 0, none⟩) n c) (List.replicate n 0) := by
 refine ⟨by simp [bv_length], .inr ⟨w.heap.size, c, mkB c, by simp, hB, heap_alloc_new w _, by simpa using hn, by simp only [maxLen]; omega, by rw [mkB_size]; omega, ?_⟩⟩
 rw [mkB_list, List.length_replicate]
 simp [bv, List.take_replicate, Nat.min_eq_left hn]
theorem Brow.cell {w : World} {B g n cap : Nat} {l : List UInt8} (h : Brow w B (.slice (some ⟨g, 0, none⟩) n cap) l) (j : Nat) (hj : j < l.length) : w.cell? ⟨g, j, none⟩ = some (.int .u8 l[j].toNat) := by
 have h' := h
 rcases h'.2 with ⟨e, _⟩ | ⟨g', cap', cur, e, _⟩
 ·simp at e
 ·simp only [Value.slice.injEq] at e
  obtain ⟨_, rfl, _⟩ := e
  rw [World.ownsRow.cellAt (h : World.ownsRow _ _ _ _ _ _ _) j (by omega), bv_get l j hj]
theorem Brow.frozen {w : World} {B g n cap : Nat} {l : List UInt8} (h : Brow w B (.slice (some ⟨g, 0, none⟩) n cap) l) (j : Nat) : w.frozen? ⟨g, j, none⟩ = false := by
 have h' := h
 rcases h'.2 with ⟨e, _⟩ | ⟨g', cap', cur, e, _⟩
 ·simp at e
 ·simp only [Value.slice.injEq] at e
  obtain ⟨_, rfl, _⟩ := e
  exact World.ownsRow.frozenAt (h : World.ownsRow _ _ _ _ _ _ _) j
theorem Brow.stored {w : World} {B g n cap : Nat} {l : List UInt8} (h : Brow w B (.slice (some ⟨g, 0, none⟩) n cap) l) (j : Nat) (c : UInt8) :
  Brow (w.setCell ⟨g, j, none⟩ (.int .u8 c.toNat)) B (.slice (some ⟨g, 0, none⟩) n cap) (l.set j c) := by
 have h' := h
 rcases h'.2 with ⟨e, _⟩ | ⟨g', cap', cur, e, _⟩
 ·simp at e
 ·simp only [Value.slice.injEq] at e
  obtain ⟨_, rfl, _⟩ := e
  have := (World.ownsRow.stored (h : World.ownsRow _ _ _ _ _ _ _) j (.int .u8 c.toNat)).1
  unfold Brow
  rw [← bv_set, List.length_set]
  exact this
def Crow (w : World) (g : Nat) (l : List UInt8) : Prop := ∀ j (h : j < l.length), w.cell? ⟨g, j, none⟩ = some (.int .u8 l[j].toNat) ∧ w.frozen? ⟨g, j, none⟩ = false
theorem add_plain (g j : Nat) : (⟨g, 0, none⟩ : Addr).add j = ⟨g, j, none⟩ := by unfold Addr.add; split <;> simp_all
theorem Crow.str {w : World} {g : Nat} {l : List UInt8} (h : Crow w g l) (n cap : Nat) (hn : n = l.length) :
  (convert 80 9 (.slice (some ⟨g, 0, none⟩) n cap)).run Try.prog w = .ok (.string ⟨l.toArray⟩) w := by
 subst hn
 exact run_convert_bytes_back w _ _ 5 _ cap l Try.underlying80 Try.underlying5 Try.underlying9 (fun j hj => by rw [add_plain]; exact (h j hj).1)
theorem Crow.stored {w : World} {g : Nat} {l : List UInt8} (h : Crow w g l) (k : Nat) (hk : k < l.length) (c : UInt8) :
  Crow (w.setCell ⟨g, k, none⟩ (.int .u8 c.toNat)) g (l.set k c) := by
 intro j hj
 rw [List.length_set] at hj
 refine ⟨?_, (World.frozen?_setCell _ _ _ _).trans (h j hj).2⟩
 by_cases e : k = j
 ·subst e
  rw [World.cell?_setCell_same _ _ _ (h k hj).1]
  simp
 ·rw [World.cell?_setCell_other _ _ _ _ (fun e2 => e (by injection e2)), (h j hj).1]
  simp [e]
end Go.Proofs.Ytkcaghhfnmeknaa
namespace Go.Proofs.Ytkcaghhfnmeknaa
open Go.RowKit
def lowL (l : List UInt8) : List UInt8 := l.map lowB
theorem low_set (l : List UInt8) (k n : Nat) (hn : l.length = n) (hk : k < n) :
  (lowL (l.take k) ++ List.replicate (n - k) 0).set k (lowB (l[k]'(by omega))) = lowL (l.take (k + 1)) ++ List.replicate (n - (k + 1)) 0 := by
 have h1 : (lowL (l.take k)).length = k := by simp [lowL]; omega
 rw [List.set_append_right _ _ (by omega), h1, Nat.sub_self, show n - k = (n - (k + 1)) + 1 from by omega, List.replicate_succ, List.set_cons_zero, List.take_succ_eq_append_getElem (by omega)]
 simp only [lowL, List.map_append, List.map_cons, List.map_nil, List.append_assoc, List.singleton_append]
theorem Lower_any (s : ByteArray) (w : World) (hs : s.size ≤ 140737488351232) :
  Calls Try.prog 48 #[.string s] w fun e w' => e = .returned (.string (S (lowL s.data.toList))) ∧ Qb w w' := by
 have hmk := fun W => mk_bytes s.size s.size (Nat.le_refl _) (by omega) W
 go_enter Try.func48, Try.ntmps48
 go_wp2_with fail
 clear hmk
 go_loopw [4, 10] (fun _ i wr => ∃ k : Nat, k ≤ s.size ∧ i = .int .i64 k ∧ Brow wr w.heap.size (.slice (some ⟨w.heap.size, 0, none⟩) s.size s.size) (lowL (s.data.toList.take k) ++ List.replicate (s.size - k) 0) ∧ Qb w wr) (fun _ i _ => s.size - (intOf i).toNat)
 case atStart => exact ⟨0, Nat.zero_le _, rfl, brow_made w _ _ _ (Nat.le_refl _) (Nat.le_refl _) (by omega), (Qb.refl w).alloc _⟩
 case round =>
  obtain ⟨k, hk, rfl, hrow, hq⟩ := hrel
  by_cases hlt : k < s.size
  ·have hlen : (lowL (s.data.toList.take k) ++ List.replicate (s.size - k) 0).length = s.size := by simp [lowL, size_list]; omega
   obtain ⟨u, hc⟩ : ∃ u, wr.cell? ⟨w.heap.size, k, none⟩ = some u := ⟨_, hrow.cell k (by omega)⟩
   have hf : wr.frozen? ⟨w.heap.size, k, none⟩ = false := hrow.frozen k
   have hrow' := hrow.stored k (lowB s[k])
   have hset := low_set s.data.toList k s.size (size_list s) hlt
   rw [at_list s k hlt] at hset
   rw [hset] at hrow'
   clear hset hrow hlen
   have HR := Lib.hid hrow'
   clear hrow'
   go_wp2_with (go_at_call 78; refine (lower_any _ _).mono ?_; rintro e w' ⟨rfl, rfl⟩)
   go_roundw
   case rel => exact ⟨k + 1, by omega, by go_num, HR.out, hq.set (Nat.le_refl _) _⟩
   case measure => simp [intOf]; omega
  ·obtain rfl : k = s.size := by omega
   have hl : lowL (s.data.toList.take s.size) ++ List.replicate (s.size - s.size) 0 = lowL s.data.toList := by
    rw [List.take_of_length_le (by rw [size_list]; omega)]; simp
   rw [hl] at hrow
   have hst := row_str hrow
   clear hl
   go_wp2
   go_ret
   exact ⟨rfl, hq⟩
def eqL (a b : List UInt8) : Bool := lowL a == lowL b
theorem take_all (s : ByteArray) (k : Nat) (h : ¬ k < s.size) : s.data.toList.take k = s.data.toList := List.take_of_length_le (by rw [size_list]; omega)
theorem eqL_len {a b : List UInt8} (h : a.length ≠ b.length) : eqL a b = false := by
 unfold eqL lowL
 rw [beq_eq_false_iff_ne]
 intro e
 exact h (by have := congrArg List.length e; simpa using this)
theorem low_snoc (s : ByteArray) (k : Nat) (h : k < s.size) : lowL (s.data.toList.take (k + 1)) = lowL (s.data.toList.take k) ++ [lowB s[k]] := by
 rw [take_snoc s k h]; simp [lowL]
theorem eqL_ne {a b : List UInt8} {k : Nat} (h : lowL (a.take k) ≠ lowL (b.take k)) : eqL a b = false := by
 unfold eqL
 rw [beq_eq_false_iff_ne]
 intro e
 apply h
 simp only [lowL, List.map_take] at e ⊢
 rw [e]
theorem Equal_any (a b : ByteArray) (w : World) (ha : a.size ≤ maxLen) (hb : b.size ≤ maxLen) :
  Calls Try.prog 73 #[.string a, .string b] w fun e w' => e = .returned (.bool (eqL a.data.toList b.data.toList)) ∧ Qb w w' := by
 unfold maxLen at ha hb
 go_enter Try.func73, Try.ntmps73
 by_cases hl : a.size = b.size
 ·have HL := Lib.hid hl
  have hl1 : a.size ≤ b.size := by omega
  have hb1 : ((a.size : Int) != (b.size : Int)) = false := by simp [hl]
  clear hl
  go_wp2_with fail
  go_loopw [5, 13] (fun _ i wr => ∃ k : Nat, k ≤ a.size ∧ i = .int .i64 k ∧ Hid (lowL (a.data.toList.take k) = lowL (b.data.toList.take k)) ∧ Qb w wr) (fun _ i _ => a.size - (intOf i).toNat)
  case atStart => exact ⟨0, Nat.zero_le _, rfl, Lib.hid rfl, Qb.refl w⟩
  case round =>
   obtain ⟨k, hk, rfl, HA, hq⟩ := hrel
   by_cases hlt : k < a.size
   ·have hlt2 : k < b.size := by omega
    have HT := Lib.hid (low_snoc a k hlt)
    have HU := Lib.hid (low_snoc b k hlt2)
    go_wp2_with fail
    go_quiet ((go_at_call 78; exact quiet_left (lower_any _ _)))
    go_wp2_with fail
    ·have hd : ((lowB a[k]).toNat : Int) != ((lowB b[k]).toNat : Int) := by assumption
     go_ret
     refine ⟨ret_bool (eqL_ne (k := k + 1) ?_).symm, hq.drewN _⟩
     rw [HT.out, HU.out, HA.out]
     intro e
     have e1 := List.append_cancel_left e
     injection e1 with e1
     rw [e1] at hd
     simp at hd
    ·have hd : (((lowB a[k]).toNat : Int) != ((lowB b[k]).toNat : Int)) = false := by assumption
     go_roundw
     case rel =>
      refine ⟨k + 1, by omega, by go_num, Lib.hid ?_, hq.drewN _⟩
      rw [HT.out, HU.out, HA.out]
      have e1 : (lowB a[k]).toNat = (lowB b[k]).toNat := by simp only [bne_eq_false_iff_eq] at hd; omega
      rw [UInt8.toNat_inj.1 e1]
     case measure => simp [intOf]; omega
   ·go_wp2_with fail
    go_ret
    refine ⟨ret_bool ?_, hq⟩
    have h := HA.out
    rw [take_all a k hlt, take_all b k (by have := HL.out; omega)] at h
    unfold eqL
    rw [h, beq_self_eq_true]
 ·have hb1 : ((a.size : Int) != (b.size : Int)) = true := by simp; omega
  have HL := Lib.hid hl
  clear hl
  go_wp2_with fail
  go_ret
  exact ⟨ret_bool (eqL_len (by rw [size_list, size_list]; exact HL.out)).symm, Qb.refl w⟩
def blank (c : UInt8) : Bool := decide (c.toNat = 32 ∨ c.toNat = 9)
def rdw (l : List UInt8) : List UInt8 := (l.reverse.dropWhile blank).reverse
def trimL (l : List UInt8) : List UInt8 := rdw (l.dropWhile blank)
theorem rdw_snoc (l : List UInt8) (x : UInt8) : rdw (l ++ [x]) = if blank x = true then rdw l else l ++ [x] := by
 unfold rdw
 rw [List.reverse_append, List.reverse_singleton, List.singleton_append, List.dropWhile_cons]
 split <;> simp
def TP (n : Nat) (l : List UInt8) (f t : Nat) : Prop :=
 ∃ A M B, l = A ++ M ++ B ∧ (∀ a ∈ A, blank a = true) ∧ (∀ b ∈ B, blank b = true) ∧ M.dropWhile blank = M ∧ rdw M = M ∧
  ((M = [] ∧ f = n ∧ t = 0) ∨ (M ≠ [] ∧ f = A.length ∧ t = A.length + M.length))
theorem TP.other {n : Nat} {l : List UInt8} {f t : Nat} {c : UInt8} (h : TP n l f t) (hc : blank c = false) (hl : l.length < n) : TP n (l ++ [c]) (min f l.length) (l.length + 1) := by
 obtain ⟨A, M, B, rfl, hA, hB, h1, h2, h3⟩ := h
 rcases h3 with ⟨rfl, rfl, rfl⟩ | ⟨h3, rfl, rfl⟩
 ·refine ⟨A ++ B, [c], [], by simp, ?_, by simp, by simp [hc], by simp [rdw, hc], .inr ⟨by simp, ?_, ?_⟩⟩
  ·intro a ha
   rcases List.mem_append.1 ha with ha | ha
   ·exact hA a ha
   ·exact hB a ha
  ·simp at hl ⊢; omega
  ·simp
 ·refine ⟨A, M ++ B ++ [c], [], by simp, hA, by simp, ?_, ?_, .inr ⟨by simp, ?_, ?_⟩⟩
  ·cases M with
   | nil => exact absurd rfl h3
   | cons x M =>
    have hx : ¬ blank x = true := by
     intro hx
     rw [List.dropWhile_cons, if_pos hx] at h1
     have := congrArg List.length h1
     have h4 := (List.dropWhile_sublist (p := blank) (l := M)).length_le
     simp at this
     omega
    simp only [List.cons_append]
    rw [List.dropWhile_cons, if_neg hx]
  ·rw [rdw_snoc, if_neg (by rw [hc]; exact Bool.false_ne_true)]
  ·simp
  ·simp; omega
theorem rdw_append {B : List UInt8} (hB : ∀ b ∈ B, blank b = true) (l : List UInt8) : rdw (l ++ B) = rdw l := by
 unfold rdw
 rw [List.reverse_append, List.dropWhile_append_of_pos]
 intro a ha
 exact hB a (List.mem_reverse.1 ha)
theorem TP.done {l : List UInt8} {f t : Nat} (h : TP l.length l f t) : (t ≤ f ∧ trimL l = []) ∨ (f < t ∧ t ≤ l.length ∧ trimL l = (l.drop f).take (t - f)) := by
 obtain ⟨A, M, B, rfl, hA, hB, h1, h2, h3⟩ := h
 have ht : trimL (A ++ M ++ B) = rdw ((M ++ B).dropWhile blank) := by
  unfold trimL
  rw [List.append_assoc, List.dropWhile_append_of_pos hA]
 rcases h3 with ⟨rfl, rfl, rfl⟩ | ⟨h3, rfl, rfl⟩
 ·refine .inl ⟨Nat.zero_le _, ?_⟩
  rw [ht, List.nil_append, ← List.append_nil B, List.dropWhile_append_of_pos hB]
  rfl
 ·have hp : 0 < M.length := List.length_pos_iff.2 h3
  refine .inr ⟨by omega, by simp, ?_⟩
  have hm : (M ++ B).dropWhile blank = M ++ B := by
   cases M with
   | nil => exact absurd rfl h3
   | cons x M =>
    have hx : ¬ blank x = true := by
     intro hx
     rw [List.dropWhile_cons, if_pos hx] at h1
     have := congrArg List.length h1
     have h4 := (List.dropWhile_sublist (p := blank) (l := M)).length_le
     simp at this
     omega
    simp only [List.cons_append]
    rw [List.dropWhile_cons, if_neg hx]
  rw [ht, hm, rdw_append hB, h2, List.append_assoc, List.drop_left, Nat.add_sub_cancel_left, List.take_left]
end Go.Proofs.Ytkcaghhfnmeknaa
namespace Go.Proofs.Ytkcaghhfnmeknaa.Sx
open Go.RowKit
theorem sxA : type_of% (And.intro @rn_nil (And.intro @rn_seq (And.intro @rn_skip (And.intro @rn_reg (And.intro @rn_drw (And.intro @rn_blk (And.intro @rn_inblk (And.intro @rn_ops_nil (And.intro @rn_dops_nil (And.intro @rn_ret (And.intro @rn_exit (And.intro @xit_nil (And.intro @xit_code (And.intro @xit_ops (And.intro @xit_dops (And.intro @xit_blk (And.intro @xit_ap (And.intro @rn_ap (And.intro @apOk_n (And.intro @apOk_c (And.intro @apOne_p (And.intro @loopF_normal (And.intro @loopF_exit (And.intro @loopF_ret (And.intro @kO_some (And.intro @bxs_box (And.intro @endK_n (And.intro @endK_r (And.intro @outO_s (And.intro @outK_eq (And.intro @endI_n (And.intro @endI_r (And.intro @outJ_s (And.intro @outI_eq (And.intro @rn_mv (And.intro @kPick_t (And.intro @kPick_f (And.intro @rn_pick (And.intro @rn_alloc (@rn_box)))))))))))))))))))))))))))))))))))))))) := And.intro @rn_nil (And.intro @rn_seq (And.intro @rn_skip (And.intro @rn_reg (And.intro @rn_drw (And.intro @rn_blk (And.intro @rn_inblk (And.intro @rn_ops_nil (And.intro @rn_dops_nil (And.intro @rn_ret (And.intro @rn_exit (And.intro @xit_nil (And.intro @xit_code (And.intro @xit_ops (And.intro @xit_dops (And.intro @xit_blk (And.intro @xit_ap (And.intro @rn_ap (And.intro @apOk_n (And.intro @apOk_c (And.intro @apOne_p (And.intro @loopF_normal (And.intro @loopF_exit (And.intro @loopF_ret (And.intro @kO_some (And.intro @bxs_box (And.intro @endK_n (And.intro @endK_r (And.intro @outO_s (And.intro @outK_eq (And.intro @endI_n (And.intro @endI_r (And.intro @outJ_s (And.intro @outI_eq (And.intro @rn_mv (And.intro @kPick_t (And.intro @kPick_f (And.intro @rn_pick (And.intro @rn_alloc (@rn_box)))))))))))))))))))))))))))))))))))))))
theorem sxB : type_of% (And.intro @kLit_s (And.intro @rn_bslo (And.intro @rn_build (And.intro @rn_bslice (And.intro @kLd1_p (And.intro @kLd1_r (And.intro @rn_load1 (And.intro @kLdn_s (And.intro @kLdv_p (And.intro @kLdv_r (And.intro @rn_loadn (And.intro @kSt2_b (And.intro @kSt_p (And.intro @rn_store (And.intro @kNck_0 (And.intro @kNck_1 (And.intro @kNck_2 (And.intro @rn_nck (And.intro @kNot_0 (And.intro @rn_not (And.intro @kAr_i64 (And.intro @kAr_i8 (And.intro @kAr_i16 (And.intro @kAr_i32 (And.intro @kAr_u8 (And.intro @kAr_u16 (And.intro @kAr_u32 (And.intro @kAr_u64 (And.intro @kNeg_0 (And.intro @rn_neg (And.intro @kCvi_0 (And.intro @rn_cvi (And.intro @kCvs_0 (And.intro @rn_cvs (And.intro @kLens_0 (And.intro @rn_lens (And.intro @kFldn_0 (And.intro @rn_fldn (And.intro @kFad_0 (And.intro @kFad_1 (And.intro @rn_fad (@kFld1_0)))))))))))))))))))))))))))))))))))))))))) := And.intro @kLit_s (And.intro @rn_bslo (And.intro @rn_build (And.intro @rn_bslice (And.intro @kLd1_p (And.intro @kLd1_r (And.intro @rn_load1 (And.intro @kLdn_s (And.intro @kLdv_p (And.intro @kLdv_r (And.intro @rn_loadn (And.intro @kSt2_b (And.intro @kSt_p (And.intro @rn_store (And.intro @kNck_0 (And.intro @kNck_1 (And.intro @kNck_2 (And.intro @rn_nck (And.intro @kNot_0 (And.intro @rn_not (And.intro @kAr_i64 (And.intro @kAr_i8 (And.intro @kAr_i16 (And.intro @kAr_i32 (And.intro @kAr_u8 (And.intro @kAr_u16 (And.intro @kAr_u32 (And.intro @kAr_u64 (And.intro @kNeg_0 (And.intro @rn_neg (And.intro @kCvi_0 (And.intro @rn_cvi (And.intro @kCvs_0 (And.intro @rn_cvs (And.intro @kLens_0 (And.intro @rn_lens (And.intro @kFldn_0 (And.intro @rn_fldn (And.intro @kFad_0 (And.intro @kFad_1 (And.intro @rn_fad (@kFld1_0)))))))))))))))))))))))))))))))))))))))))
theorem sxC : type_of% (And.intro @rn_fld1 (And.intro @kExt_0 (And.intro @rn_ext (And.intro @kLr2_o (And.intro @kLenr_0 (And.intro @kLenr_1 (And.intro @kLenr_2 (And.intro @rn_lenr (And.intro @kBeq_true (And.intro @kEq_true (And.intro @kBeq_false (And.intro @kEq_false (And.intro @kEqs_a (And.intro @rn_beq (And.intro @rn_eqs (And.intro @kIad_0 (And.intro @rn_iad (And.intro @kIada_0 (And.intro @rn_iada (And.intro @kIdx_0 (And.intro @rn_idx (And.intro @kMks_0 (And.intro @rn_mks (And.intro @rn_bin (And.intro @kBin_add (And.intro @kBin_sub (And.intro @kBin_mul (And.intro @kBin_quo (And.intro @kBin_rem (And.intro @kBin_eql (And.intro @kBin_neq (And.intro @kBin_lss (And.intro @kBin_leq (And.intro @kBin_gtr (And.intro @kBin_geq (And.intro @kBin_cat (And.intro @kBin_seq (And.intro @kBin_sne (And.intro @svi_i (@svbS_none)))))))))))))))))))))))))))))))))))))))) := And.intro @rn_fld1 (And.intro @kExt_0 (And.intro @rn_ext (And.intro @kLr2_o (And.intro @kLenr_0 (And.intro @kLenr_1 (And.intro @kLenr_2 (And.intro @rn_lenr (And.intro @kBeq_true (And.intro @kEq_true (And.intro @kBeq_false (And.intro @kEq_false (And.intro @kEqs_a (And.intro @rn_beq (And.intro @rn_eqs (And.intro @kIad_0 (And.intro @rn_iad (And.intro @kIada_0 (And.intro @rn_iada (And.intro @kIdx_0 (And.intro @rn_idx (And.intro @kMks_0 (And.intro @rn_mks (And.intro @rn_bin (And.intro @kBin_add (And.intro @kBin_sub (And.intro @kBin_mul (And.intro @kBin_quo (And.intro @kBin_rem (And.intro @kBin_eql (And.intro @kBin_neq (And.intro @kBin_lss (And.intro @kBin_leq (And.intro @kBin_gtr (And.intro @kBin_geq (And.intro @kBin_cat (And.intro @kBin_seq (And.intro @kBin_sne (And.intro @svi_i (@svbS_none)))))))))))))))))))))))))))))))))))))))
theorem sxD : type_of% (And.intro @svbS_some (And.intro @kSl2_s (And.intro @kSl_s (And.intro @rn_slcs (And.intro @kAp_s (And.intro @kAp2_o (And.intro @kAp2_n (And.intro @kAp3_o (And.intro @kAs_o (And.intro @kAs_n (And.intro @kAs2_o (And.intro @rn_app (And.intro @rn_apps (And.intro @kCb_o (And.intro @kCb_n (And.intro @rn_cvbs (And.intro @rn_mkf (And.intro @kG_tt (And.intro @kG_tf (And.intro @kG_ft (And.intro @kG_ff (And.intro @kG_u (And.intro @kG_v (And.intro @kGD_tt (And.intro @kGD_tf (And.intro @kGD_ft (And.intro @kGD_ff (And.intro @kGD_u (And.intro @kGD_v (And.intro @rn_guard (And.intro @rn_dguard (And.intro @kC_t (And.intro @kC_f (And.intro @rn_cond (And.intro @rn_call (And.intro @rn_dcall (And.intro @rn_callv (And.intro @drn_mv (And.intro @drn_pick (@drn_build)))))))))))))))))))))))))))))))))))))))) := And.intro @svbS_some (And.intro @kSl2_s (And.intro @kSl_s (And.intro @rn_slcs (And.intro @kAp_s (And.intro @kAp2_o (And.intro @kAp2_n (And.intro @kAp3_o (And.intro @kAs_o (And.intro @kAs_n (And.intro @kAs2_o (And.intro @rn_app (And.intro @rn_apps (And.intro @kCb_o (And.intro @kCb_n (And.intro @rn_cvbs (And.intro @rn_mkf (And.intro @kG_tt (And.intro @kG_tf (And.intro @kG_ft (And.intro @kG_ff (And.intro @kG_u (And.intro @kG_v (And.intro @kGD_tt (And.intro @kGD_tf (And.intro @kGD_ft (And.intro @kGD_ff (And.intro @kGD_u (And.intro @kGD_v (And.intro @rn_guard (And.intro @rn_dguard (And.intro @kC_t (And.intro @kC_f (And.intro @rn_cond (And.intro @rn_call (And.intro @rn_dcall (And.intro @rn_callv (And.intro @drn_mv (And.intro @drn_pick (@drn_build)))))))))))))))))))))))))))))))))))))))
theorem sxE : type_of% (And.intro @drn_bslo (And.intro @drn_bslice (And.intro @drn_load1 (And.intro @drn_loadn (And.intro @drn_nck (And.intro @drn_bin (And.intro @drn_beq (And.intro @drn_eqs (And.intro @drn_not (And.intro @drn_neg (And.intro @drn_iada (And.intro @drn_cvi (And.intro @drn_cvs (And.intro @drn_cvbs (And.intro @drn_slcs (And.intro @drn_fad (And.intro @drn_fld1 (And.intro @drn_fldn (And.intro @drn_iad (And.intro @drn_idx (And.intro @drn_ext (And.intro @drn_lens (And.intro @drn_lenr (And.intro @drn_mkf (And.intro @drn_alloc (And.intro @drn_box (And.intro @drn_store (And.intro @drn_app (And.intro @drn_apps (@drn_mks)))))))))))))))))))))))))))))) := And.intro @drn_bslo (And.intro @drn_bslice (And.intro @drn_load1 (And.intro @drn_loadn (And.intro @drn_nck (And.intro @drn_bin (And.intro @drn_beq (And.intro @drn_eqs (And.intro @drn_not (And.intro @drn_neg (And.intro @drn_iada (And.intro @drn_cvi (And.intro @drn_cvs (And.intro @drn_cvbs (And.intro @drn_slcs (And.intro @drn_fad (And.intro @drn_fld1 (And.intro @drn_fldn (And.intro @drn_iad (And.intro @drn_idx (And.intro @drn_ext (And.intro @drn_lens (And.intro @drn_lenr (And.intro @drn_mkf (And.intro @drn_alloc (And.intro @drn_box (And.intro @drn_store (And.intro @drn_app (And.intro @drn_apps (@drn_mks)))))))))))))))))))))))))))))
theorem sxF : type_of% (And.intro @kO_if (And.intro @pq_and (And.intro @pq_or (And.intro @pq_xor (And.intro @pq_shl (And.intro @pq_shr (And.intro @pq_mn (And.intro @pq_mx (And.intro @pq_rsl (And.intro @pq_rsln (And.intro @pq_rslh (And.intro @pq_rslhn (And.intro @pq_rslb (And.intro @pq_lss (And.intro @pq_leq (And.intro @pq_gtr (And.intro @pq_geq (And.intro @rn_pu (@drn_pu))))))))))))))))))) := And.intro @kO_if (And.intro @pq_and (And.intro @pq_or (And.intro @pq_xor (And.intro @pq_shl (And.intro @pq_shr (And.intro @pq_mn (And.intro @pq_mx (And.intro @pq_rsl (And.intro @pq_rsln (And.intro @pq_rslh (And.intro @pq_rslhn (And.intro @pq_rslb (And.intro @pq_lss (And.intro @pq_leq (And.intro @pq_gtr (And.intro @pq_geq (And.intro @rn_pu (@drn_pu))))))))))))))))))
theorem sxL : type_of% (And.intro @List.length_cons.{0} (And.intro @List.length_nil.{0} (And.intro @List.length_append.{0} (And.intro @List.length_replicate.{0} (And.intro @List.length_set.{0} (And.intro @List.cons_append.{0} (And.intro @List.nil_append.{0} (And.intro @List.append_nil.{0} (And.intro @List.getElem?_cons_zero.{0} (And.intro @List.getElem?_cons_succ.{0} (And.intro @List.getElem?_nil.{0} (And.intro @Option.getD_some.{0} (And.intro @Option.getD_none.{0} (And.intro @List.set_cons_zero.{0} (And.intro @List.set_cons_succ.{0} (And.intro @List.set_nil.{0} (And.intro @List.map_cons.{0, 0} (And.intro @List.map_nil.{0, 0} (And.intro @List.take_succ_cons.{0} (And.intro @List.take_zero.{0} (And.intro @List.drop_succ_cons.{0} (And.intro @List.drop_zero.{0} (And.intro @List.take_nil.{0} (And.intro @List.drop_nil.{0} (And.intro @List.take_length.{0} (And.intro @Int.toNat_natCast (And.intro @Int.toNat_natCast_add_one (And.intro @Bool.not_true (And.intro @Bool.not_false (And.intro @Bool.and_true (And.intro @Bool.true_and (And.intro @Bool.and_false (And.intro @Bool.false_and (And.intro @true_and (And.intro @and_true (And.intro @true_implies (And.intro @false_implies (And.intro @Option.bind_some.{0, 0} (And.intro @Option.map_some.{0, 0} (And.intro @Bool.false_eq_true (And.intro @Bool.true_eq_false (And.intro @decide_true (And.intro @decide_false (And.intro @not_true_eq_false (And.intro @not_false_eq_true (@beq_self_eq_true.{0})))))))))))))))))))))))))))))))))))))))))))))) := And.intro @List.length_cons.{0} (And.intro @List.length_nil.{0} (And.intro @List.length_append.{0} (And.intro @List.length_replicate.{0} (And.intro @List.length_set.{0} (And.intro @List.cons_append.{0} (And.intro @List.nil_append.{0} (And.intro @List.append_nil.{0} (And.intro @List.getElem?_cons_zero.{0} (And.intro @List.getElem?_cons_succ.{0} (And.intro @List.getElem?_nil.{0} (And.intro @Option.getD_some.{0} (And.intro @Option.getD_none.{0} (And.intro @List.set_cons_zero.{0} (And.intro @List.set_cons_succ.{0} (And.intro @List.set_nil.{0} (And.intro @List.map_cons.{0, 0} (And.intro @List.map_nil.{0, 0} (And.intro @List.take_succ_cons.{0} (And.intro @List.take_zero.{0} (And.intro @List.drop_succ_cons.{0} (And.intro @List.drop_zero.{0} (And.intro @List.take_nil.{0} (And.intro @List.drop_nil.{0} (And.intro @List.take_length.{0} (And.intro @Int.toNat_natCast (And.intro @Int.toNat_natCast_add_one (And.intro @Bool.not_true (And.intro @Bool.not_false (And.intro @Bool.and_true (And.intro @Bool.true_and (And.intro @Bool.and_false (And.intro @Bool.false_and (And.intro @true_and (And.intro @and_true (And.intro @true_implies (And.intro @false_implies (And.intro @Option.bind_some.{0, 0} (And.intro @Option.map_some.{0, 0} (And.intro @Bool.false_eq_true (And.intro @Bool.true_eq_false (And.intro @decide_true (And.intro @decide_false (And.intro @not_true_eq_false (And.intro @not_false_eq_true (@beq_self_eq_true.{0})))))))))))))))))))))))))))))))))))))))))))))
theorem sxZ : type_of% (And.intro @rn_pcall (And.intro sxA (And.intro sxB (And.intro sxC (And.intro sxD (And.intro sxE (And.intro sxF (And.intro sxL (And.intro @forall_const.{1} (And.intro @implies_true.{1} (And.intro @implies_true.{0} (And.intro @if_true.{1} (And.intro @if_false.{1} (And.intro @ite_true.{1} (And.intro @ite_false.{1} (And.intro @exists_eq_left'.{1} (And.intro @exists_eq'.{1} (@ne_eq.{1})))))))))))))))))) := And.intro @rn_pcall (And.intro sxA (And.intro sxB (And.intro sxC (And.intro sxD (And.intro sxE (And.intro sxF (And.intro sxL (And.intro @forall_const.{1} (And.intro @implies_true.{1} (And.intro @implies_true.{0} (And.intro @if_true.{1} (And.intro @if_false.{1} (And.intro @ite_true.{1} (And.intro @ite_false.{1} (And.intro @exists_eq_left'.{1} (And.intro @exists_eq'.{1} (@ne_eq.{1})))))))))))))))))
end Go.Proofs.Ytkcaghhfnmeknaa.Sx
namespace Go.Proofs.Ytkcaghhfnmeknaa
open Go.RowKit Sx
class Shp (P : Program) [Tabs P] : Prop where
 sh : ∀ w : World, Tabs.T (P := P) w → w.ShapedOpen P
theorem shaped_keep {P : Program} {w w' : World} (h : w.ShapedOpen P) (hk : ∀ k, k < w.heap.size → w'.heap[k]? = w.heap[k]?) : w'.ShapedOpen P := by
 have lt : ∀ {k : Nat} {o : Obj}, w.heap[k]? = some o → k < w.heap.size := fun {k o} e => by
  rcases Nat.lt_or_ge k w.heap.size with h1 | h1
  ·exact h1
  ·rw [Array.getElem?_eq_none h1] at e; cases e
 refine ⟨fun g zero t hg hz => ?_, fun k hk1 hk2 => ?_⟩
 ·obtain ⟨cs, h1, h2, h3⟩ := h.1 g zero t hg hz
  refine ⟨cs, (hk g (lt h1)).trans h1, h2, fun hb => Row.ok_of_shape (fun b x hx => ?_) (h3 hb)⟩
  rcases Nat.lt_or_ge b w.heap.size with h4 | h4
  ·simpa [World.shape?, hk b h4] using hx
  ·simp [World.shape?, Array.getElem?_eq_none h4] at hx
 ·obtain ⟨o, o₀, h1, h2, h3⟩ := h.2 k hk1 hk2
  exact ⟨o, o₀, (hk k (lt h1)).trans h1, h2, h3⟩
mutual
/-- a value without memory, as it is -/
def val : AV → Option Value
 | .s l => some (.string ⟨l.toArray⟩)
 | .i k n => some (.int k n)
 | .b x => some (.bool x)
 | .agg cs => match vals cs with
  | some vs => if vs.all (·.oneCell') = true then some (.agg vs.toArray) else none
  | none => none
 | .tup cs => (vals cs).map fun vs => .tuple vs.toArray
 | _ => none
def vals : List AV → Option (List Value)
 | [] => some []
 | x :: xs => match val x, vals xs with
  | some v, some vs => some (v :: vs)
  | _, _ => none
end
mutual
theorem val_den (G : Gh) (I : Imm) : ∀ (x : AV) (v : Value), val x = some v → ∀ y, Den G I x y ↔ y = v
 | .s l, v, h, y => by simp only [val, Option.some.injEq] at h; subst h; simp [Den]
 | .i k n, v, h, y => by simp only [val, Option.some.injEq] at h; subst h; simp [Den]
 | .b x, v, h, y => by simp only [val, Option.some.injEq] at h; subst h; simp [Den]
 | .agg cs, v, h, y => by
  simp only [val] at h
  split at h
  ·rename_i vs h1
   split at h
   ·rename_i h2
    injection h with h; subst h
    simp only [Den]
    constructor
    ·rintro ⟨ys, rfl, k1, _⟩
     rw [(vals_den G I cs vs h1 ys).1 k1]
    ·rintro rfl
     exact ⟨vs, rfl, (vals_den G I cs vs h1 vs).2 rfl, fun u hu => (List.all_eq_true.1 h2) u hu⟩
   ·cases h
  ·cases h
 | .tup cs, v, h, y => by
  simp only [val, Option.map_eq_some_iff] at h
  obtain ⟨vs, h1, rfl⟩ := h
  simp only [Den]
  constructor
  ·rintro ⟨ys, rfl, k1⟩
   rw [(vals_den G I cs vs h1 ys).1 k1]
  ·rintro rfl
   exact ⟨vs, rfl, (vals_den G I cs vs h1 vs).2 rfl⟩
 | .p _ _, v, h, y => by simp [val] at h
 | .row _ _, v, h, y => by simp [val] at h
 | .prow _ _, v, h, y => by simp [val] at h
 | .orow _ _, v, h, y => by simp [val] at h
 | .porow _ _ _, v, h, y => by simp [val] at h
 | .nil, v, h, y => by simp [val] at h
 | .fn _ _ _, v, h, y => by simp [val] at h
 | .o _, v, h, y => by simp [val] at h
 | .u, v, h, y => by simp [val] at h
theorem vals_den (G : Gh) (I : Imm) : ∀ (xs : List AV) (vs : List Value), vals xs = some vs → ∀ ys, Dens G I xs ys ↔ ys = vs
 | [], vs, h, ys => by simp only [vals, Option.some.injEq] at h; subst h; simp [Dens]
 | x :: xs, vs, h, ys => by
  simp only [vals] at h
  split at h
  ·rename_i v vs' h1 h2
   injection h with h; subst h
   simp only [Dens]
   constructor
   ·rintro ⟨y, ys', rfl, k1, k2⟩
    rw [(val_den G I x v h1 y).1 k1, (vals_den G I xs vs' h2 ys').1 k2]
   ·rintro rfl
    exact ⟨v, vs', rfl, (val_den G I x v h1 v).2 rfl, (vals_den G I xs vs' h2 vs').2 rfl⟩
  ·cases h
end
section
variable {P : Program} [Tabs P] {f : FuncId} {args : List AV} {vs : List Value} {r : AV} {v : Value} {objs : List OB} {K : List OB → AV → Prop}
theorem conv (ha : vals args = some vs) (hr : val r = some v) (h : ∀ w, Calls P f vs.toArray w fun e w' => e = .returned v ∧ Qb w w') (hk : K objs r) : CallOk P f args objs K :=
 callok_pure r hk fun G I w ys hm hd => by
  rw [(vals_den G I args vs ha ys).1 hd]
  exact ⟨v, h w, (val_den G I r v hr v).2 rfl⟩
theorem convs (ha : vals args = some vs) (hr : val r = some v) (h : ∀ w, Calls P f vs.toArray w fun e w' => e = .returned v ∧ w = w') (hk : K objs r) : CallOk P f args objs K :=
 conv ha hr (fun w => (h w).mono (by rintro e w' ⟨rfl, rfl⟩; exact ⟨rfl, Qb.refl _⟩)) hk
end
end Go.Proofs.Ytkcaghhfnmeknaa
namespace Go.Proofs.Ytkcaghhfnmeknaa
open Sx
theorem gn1 (l : List OB) (x : OB) : (l ++ [x])[l.length]? = some x := by simp
theorem sn1 (l : List OB) (x y : OB) : (l ++ [x]).set l.length y = l ++ [y] := by simp
end Go.Proofs.Ytkcaghhfnmeknaa
namespace Go.Proofs.Ytkcaghhfnmeknaa
open Go.RowKit
def sv (ls : List (List UInt8)) : List Value := ls.map fun l => .string (S l)
theorem sv_get (ls : List (List UInt8)) (i : Nat) (h : i < ls.length) : (sv ls)[i]? = some (.string (S ls[i])) := by simp [sv, h]
def Srow (w : World) (base : Nat) (v : Value) (ls : List (List UInt8)) : Prop := w.ownsRow base 9 1 v ls.length (sv ls)
theorem Srow.nil (w : World) (base : Nat) : Srow w base (.slice none 0 0) [] := World.ownsRow_nil w base _ _
theorem Srow.drew {w : World} {base : Nat} {v : Value} {l : List (List UInt8)} (h : Srow w base v l) : Srow w.drew base v l := h
theorem Srow.drewN {w : World} {base : Nat} {v : Value} {l : List (List UInt8)} (h : Srow w base v l) (n : Nat) : Srow (w.drewN n) base v l := h
theorem Srow.alloc {w : World} {base : Nat} {v : Value} {l : List (List UInt8)} (h : Srow w base v l) (o : Obj) : Srow (w.alloc o) base v l := World.ownsRow.alloc h o
theorem Srow.cell {w : World} {B g n cap : Nat} {l : List (List UInt8)} (h : Srow w B (.slice (some ⟨g, 0, none⟩) n cap) l) (j : Nat) (hj : j < l.length) : w.cell? ⟨g, j, none⟩ = some (.string (S l[j])) := by
 have h' := h
 rcases h'.2 with ⟨e, _⟩ | ⟨g', cap', cur, e, _⟩
 ·simp at e
 ·simp only [Value.slice.injEq] at e
  obtain ⟨_, rfl, _⟩ := e
  rw [World.ownsRow.cellAt (h : World.ownsRow _ _ _ _ _ _ _) j (by omega), sv_get l j hj]
end Go.Proofs.Ytkcaghhfnmeknaa
namespace Go.Proofs.Ytkcaghhfnmeknaa
open Go.RowKit
def cutL (c : UInt8) : List UInt8 → List UInt8 × List UInt8 × Bool
 | [] => ([], [], false)
 | x :: t => if x = c then ([], t, true) else (x :: (cutL c t).1, (cutL c t).2.1, (cutL c t).2.2)
theorem cutL_idx (c : UInt8) : ∀ l : List UInt8, (Lib.indexByte l c = -1 ∧ cutL c l = (l, [], false) ∧ c ∉ l) ∨ ∃ k : Nat, Lib.indexByte l c = k ∧ k < l.length ∧ cutL c l = (l.take k, l.drop (k + 1), true) ∧ l[k]? = some c
 | [] => .inl ⟨rfl, rfl, by simp⟩
 | x :: t => by
  unfold Lib.indexByte cutL
  by_cases h : x = c
  ·subst h
   exact .inr ⟨0, by simp, by simp, by simp, by simp⟩
  ·rw [if_neg (by simpa using h), if_neg h]
   rcases cutL_idx c t with ⟨h1, h2, h3⟩ | ⟨k, h1, h2, h3, h4⟩
   ·refine .inl ⟨by rw [h1]; rfl, by rw [h2], ?_⟩
    simp only [List.mem_cons, not_or]
    exact ⟨fun e => h e.symm, h3⟩
   ·refine .inr ⟨k + 1, ?_, by simpa using h2, ?_, by simpa using h4⟩
    ·rw [h1, if_neg (by simp only [beq_iff_eq]; omega)]; omega
    ·rw [h3]; simp
theorem cutL_cons (c x : UInt8) (t : List UInt8) : cutL c (x :: t) = if x = c then ([], t, true) else (x :: (cutL c t).1, (cutL c t).2.1, (cutL c t).2.2) := rfl
def cutV (x : List UInt8 × List UInt8 × Bool) : Value := .tuple #[.string (S x.1), .string (S x.2.1), .bool x.2.2]
theorem lCut_any (s : ByteArray) (c : UInt8) (w : World) (hs : s.size ≤ maxLen) :
  Calls Try.prog 112 #[.string s, .string ⟨#[c]⟩] w fun e w' => e = .returned (cutV (cutL c s.data.toList)) ∧ Qb w w' := by
 unfold maxLen at hs
 rcases cutL_idx c s.data.toList with ⟨h1, h2, _⟩ | ⟨k, h1, h2, h3, _⟩
 ·have HI := Lib.hid h1
  have HC := Lib.hid h2
  clear h1 h2
  go_enter Try.func112, Try.ntmps112
  go_wp2_with fail
  refine (Try.stringslite_Index_one _ _ _).mono ?_
  rintro e w' ⟨rfl, rfl⟩
  rw [HI.out]
  go_wp2_with fail
  go_ret3
  exact ⟨by rw [HC.out]; rfl, Qb.refl _⟩
 ·rw [size_list] at h2
  have HI := Lib.hid h1
  have HC := Lib.hid h3
  clear h1 h3
  have i0 : (0 : Int) ≤ (k : Int) := by omega
  have i1 : (k : Int) < (s.size : Int) := by omega
  have q1 : IntKind.i64.wrap ((k : Int) + 1) = (k : Int) + 1 := IntWalk.i64_in _ (by omega)
  have q2 : (0 : Int) ≤ (k : Int) + 1 := by omega
  have q3 : ((k : Int) + 1).toNat = k + 1 := by omega
  have q4 : (k : Int) + 1 ≤ (s.size : Int) := by omega
  go_enter Try.func112, Try.ntmps112
  go_wp2_with fail
  refine (Try.stringslite_Index_one _ _ _).mono ?_
  rintro e w' ⟨rfl, rfl⟩
  rw [HI.out]
  go_wp2_with fail
  go_quiet (fail)
  go_wp2_with fail
  go_ret3
  refine ⟨?_, (Qb.refl _).drewN _⟩
  rw [HC.out]
  refine congrArg Ending.returned (congrArg Value.tuple ?_)
  rw [show S (s.data.toList.take k) = s.extract 0 k from by rw [← S_of (s.extract 0 k), Lib.extract_data]; simp, show S (s.data.toList.drop (k + 1)) = s.extract (k + 1) s.size from by
   rw [← S_of (s.extract (k + 1) s.size), Lib.extract_data]; congr 2; rw [List.take_of_length_le]; rw [List.length_drop, size_list]; omega]
  try rfl
theorem Cut_any (s : ByteArray) (c : UInt8) (w : World) (hs : s.size ≤ maxLen) :
  Calls Try.prog 91 #[.string s, .string ⟨#[c]⟩] w fun e w' => e = .returned (cutV (cutL c s.data.toList)) ∧ Qb w w' := by
 go_enter Try.func91, Try.ntmps91
 go_wp2_with fail
 refine (lCut_any _ _ _ hs).mono ?_
 rintro e w' ⟨rfl, hq⟩
 unfold cutV
 go_wp2_with fail
 go_ret3
 exact ⟨rfl, hq⟩
end Go.Proofs.Ytkcaghhfnmeknaa
namespace Go.Proofs.Ytkcaghhfnmeknaa
end Go.Proofs.Ytkcaghhfnmeknaa
namespace Go.Proofs.Ytkcaghhfnmeknaa
open Go.RowKit
def Obk (w : World) (g : Nat) (t : TypeId) (cs : Array Value) : Prop := w.heap[g]? = some (.cells cs t (0, 0))
theorem Obk.lt {w : World} {g : Nat} {t : TypeId} {cs : Array Value} (h : Obk w g t cs) : g < w.heap.size := by
 rcases Nat.lt_or_ge g w.heap.size with h1 | h1
 ·exact h1
 ·unfold Obk at h; rw [Array.getElem?_eq_none h1] at h; cases h
theorem Obk.cell {w : World} {g : Nat} {t : TypeId} {cs : Array Value} (h : Obk w g t cs) (i : Nat) : w.cell? ⟨g, i, none⟩ = cs[i]? := cell_of_row w g i cs t (0, 0) h
theorem Obk.frozen {w : World} {g : Nat} {t : TypeId} {cs : Array Value} (h : Obk w g t cs) (i : Nat) : w.frozen? ⟨g, i, none⟩ = false := by
 unfold Obk at h; simp [World.frozen?, h]
theorem Obk.alloc {w : World} {g : Nat} {t : TypeId} {cs : Array Value} (h : Obk w g t cs) (o : Obj) : Obk (w.alloc o) g t cs := (Below.heap_alloc w o g h.lt).trans h
theorem Obk.drew {w : World} {g : Nat} {t : TypeId} {cs : Array Value} (h : Obk w g t cs) : Obk w.drew g t cs := h
theorem Obk.drewN {w : World} {g : Nat} {t : TypeId} {cs : Array Value} (h : Obk w g t cs) (n : Nat) : Obk (w.drewN n) g t cs := h
theorem Obk.put {w : World} {g : Nat} {t : TypeId} {cs : Array Value} (h : Obk w g t cs) (i : Nat) (u : Value) : Obk (w.setCell ⟨g, i, none⟩ u) g t (cs.setIfInBounds i u) := by
 unfold Obk at h ⊢
 simp [World.setCell, Array.getElem?_modify, h]
theorem Obk.far {w : World} {g : Nat} {t : TypeId} {cs : Array Value} (h : Obk w g t cs) {p : Addr} (hp : g ≠ p.block) (u : Value) : Obk (w.setCell p u) g t cs := (Below.heap_setCell w p u g hp).trans h
theorem Obk.st {w : World} {g : Nat} {t : TypeId} {cs : Array Value} (h : Obk w g t cs) (b o : Nat) (u : Value) (hne : g ≠ b) : Obk (w.setCell ⟨b, o, none⟩ u) g t cs := h.far (p := ⟨b, o, none⟩) hne u
theorem Qb.st {a c : World} (h : Qb a c) (b o : Nat) (u : Value) (hb : a.heap.size ≤ b) : Qb a (c.setCell ⟨b, o, none⟩ u) := h.set (p := ⟨b, o, none⟩) hb u
theorem Obk.other {w w' : World} {g b : Nat} {t : TypeId} {cs : Array Value} (h : Obk w g t cs) (hg : w.grownBy w' (some b)) (hne : g ≠ b) : Obk w' g t cs := (hg.block g h.lt (fun e => hne (Option.some.inj e))).trans h
end Go.Proofs.Ytkcaghhfnmeknaa
namespace Go.Proofs.Ytkcaghhfnmeknaa
open Go.RowKit
end Go.Proofs.Ytkcaghhfnmeknaa
namespace Go.Proofs.Ytkcaghhfnmeknaa
open Go.RowKit
end Go.Proofs.Ytkcaghhfnmeknaa
namespace Go.Proofs.Ytkcaghhfnmeknaa
end Go.Proofs.Ytkcaghhfnmeknaa
namespace Go.Proofs.Ytkcaghhfnmeknaa
open Go.RowKit
end Go.Proofs.Ytkcaghhfnmeknaa
namespace Go.Proofs.Ytkcaghhfnmeknaa
open Go.RowKit
end Go.Proofs.Ytkcaghhfnmeknaa
namespace Go.Proofs.Ytkcaghhfnmeknaa
end Go.Proofs.Ytkcaghhfnmeknaa
namespace Go.Proofs.Ytkcaghhfnmeknaa
open Go.RowKit Go.Sort
def Pw (w : World) : Prop := Lib.TabIs Try.prog w "internal/strconv.uint64pow10" .u64 Lib.pow10Tab
theorem Pw.keep {w w' : World} (h : Pw w) (hq : Qb w w') : Pw w' := Lib.tabBelow_of_tabIs h w' hq
theorem Pw.drew {w : World} (h : Pw w) : Pw w.drew := h
theorem Pw.alloc {w : World} (h : Pw w) (o : Obj) : Pw (w.alloc o) := Lib.tabIs_alloc h o
end Go.Proofs.Ytkcaghhfnmeknaa
namespace Go.Proofs.Ytkcaghhfnmeknaa
open Go.RowKit
end Go.Proofs.Ytkcaghhfnmeknaa
namespace Go.Proofs.Ytkcaghhfnmeknaa.Sx
open Go.RowKit
set_option maxRecDepth 100000
def c_law22_WeblinkBack : SCode :=
 .seq (.reg [⟨some 2, .mv (.c (.b false)), none⟩])
 (.seq (.seq (.reg [⟨some 7, .call 35 [], none⟩,
 ⟨some 8, .not (.t 7), none⟩])
 (.cond (.t 8)
 (.seq (.reg [⟨some 2, .mv (.c (.b false)), none⟩])
 (.ret))
 (.skip)))
 (.seq (.seq (.reg [⟨some 9, .mv (.t 0), none⟩,
 ⟨some 10, .lens (.t 9), none⟩,
 ⟨some 11, .bin .gtr (.t 10) (.c (.i .i64 1000)), none⟩])
 (.cond (.t 11)
 (.seq (.reg [⟨some 2, .mv (.c (.b true)), none⟩])
 (.ret))
 (.skip)))
 (.seq (.reg [⟨some 13, .mv (.t 0), none⟩,
 ⟨some 14, .call 36 [.t 13], none⟩,
 ⟨some 12, .mv (.t 14), none⟩,
 ⟨some 15, .ext (.t 12) 0, none⟩,
 ⟨some 16, .ext (.t 12) 1, none⟩,
 ⟨some 3, .mv (.t 15), none⟩,
 ⟨some 4, .mv (.t 16), none⟩])
 (.seq (.seq (.reg [⟨some 17, .mv (.t 4), none⟩,
 ⟨some 18, .bin .neq (.t 17) (.c (.i .i64 0)), none⟩])
 (.cond (.t 18)
 (.seq (.reg [⟨some 19, .mv (.t 3), none⟩,
 ⟨some 20, .lenr (.t 19), none⟩,
 ⟨some 21, .bin .eql (.t 20) (.c (.i .i64 0)), none⟩,
 ⟨some 2, .mv (.t 21), none⟩])
 (.ret))
 (.skip)))
 (.seq (.reg [⟨some 23, .mv (.t 3), none⟩,
 ⟨some 24, .call 42 [.t 23], none⟩,
 ⟨some 25, .call 36 [.t 24], none⟩,
 ⟨some 22, .mv (.t 25), none⟩,
 ⟨some 26, .ext (.t 22) 0, none⟩,
 ⟨some 27, .ext (.t 22) 1, none⟩,
 ⟨some 5, .mv (.t 26), none⟩,
 ⟨some 6, .mv (.t 27), none⟩])
 (.seq (.reg [⟨some 28, .mv (.t 6), none⟩,
 ⟨some 29, .bin .eql (.t 28) (.c (.i .i64 0)), none⟩,
 ⟨some 30, .mv (.t 29), none⟩,
 ⟨some 31, .mv (.t 3), some (30, true)⟩,
 ⟨some 32, .mv (.t 5), some (30, true)⟩,
 ⟨some 33, .call 38 [.t 31, .t 32], some (30, true)⟩,
 ⟨some 34, .pick (.t 30) (.t 33) (.c (.b false)), none⟩,
 ⟨some 2, .mv (.t 34), none⟩])
 (.ret)))))))
theorem is_law22_WeblinkBack : FnIs Try.prog 12 35 [.tmp 2] c_law22_WeblinkBack := ⟨⟨_, _, Try.func12, rfl, rfl, by kernel_rfl, by kernel_rfl⟩⟩
def c_ref18_SameFields : SCode :=
 .seq (.reg [⟨some 4, .mv (.c (.b false)), none⟩])
 (.seq (.seq (.reg [⟨some 6, .mv (.t 0), none⟩,
 ⟨some 7, .lenr (.t 6), none⟩,
 ⟨some 8, .mv (.t 1), none⟩,
 ⟨some 9, .lenr (.t 8), none⟩,
 ⟨some 10, .bin .neq (.t 7) (.t 9), none⟩])
 (.cond (.t 10)
 (.seq (.reg [⟨some 4, .mv (.c (.b false)), none⟩])
 (.ret))
 (.skip)))
 (.seq (.seq (.reg [⟨some 11, .mv (.t 0), none⟩,
 ⟨some 12, .lenr (.t 11), none⟩,
 ⟨some 13, .mv (.c (.i .i64 0)), none⟩])
 (.blk 0
 (.loop
 (.seq (.reg [⟨some 14, .bin .lss (.t 13) (.t 12), none⟩])
 (.seq (.cond (.t 14)
 (.skip)
 (.exit 0))
 (.seq (.blk 1
 (.seq (.reg [⟨some 15, .mv (.t 13), none⟩,
 ⟨some 5, .mv (.t 15), none⟩])
 (.seq (.drw [⟨some 16, .mv (.t 0), none⟩,
 ⟨some 17, .mv (.t 5), none⟩,
 ⟨some 18, .iad 2 (.t 16) (.t 17), none⟩,
 ⟨some 19, .loadn 2 (.t 18), none⟩,
 ⟨some 20, .mv (.t 1), none⟩,
 ⟨some 21, .mv (.t 5), none⟩,
 ⟨some 22, .iad 2 (.t 20) (.t 21), none⟩,
 ⟨some 23, .loadn 2 (.t 22), none⟩,
 ⟨some 24, .eqs true (.str [(0, (none, .ts)), (1, (none, .ts))]) (.t 19) (.t 23), none⟩] 9 [])
 (.cond (.t 24)
 (.seq (.reg [⟨some 4, .mv (.c (.b false)), none⟩])
 (.ret))
 (.skip)))))
 (.reg [⟨some 25, .bin .add (.t 13) (.c (.i .i64 1)), none⟩,
 ⟨some 13, .mv (.t 25), none⟩])))))))
 (.seq (.reg [⟨some 4, .mv (.c (.b true)), none⟩])
 (.ret))))
theorem is_ref18_SameFields : FnIs Try.prog 28 26 [.tmp 4] c_ref18_SameFields := ⟨⟨_, _, Try.func28, rfl, rfl, by kernel_rfl, by kernel_rfl⟩⟩
def c_law22_sane : SCode :=
 .seq (.reg [⟨some 0, .mv (.c (.b false)), none⟩])
 (.seq (.reg [⟨some 6, .call 36 [.c (.s [60, 104, 116, 116, 112, 115, 58, 47, 47, 97, 46, 101, 120, 97, 109, 112, 108, 101, 47, 120, 62, 59, 32, 114, 101, 108, 61, 34, 108, 114, 100, 100, 32, 79, 116, 104, 101, 114, 34, 59, 32, 116, 121, 112, 101, 61, 116, 44, 32, 60, 121, 62])], none⟩,
 ⟨some 5, .mv (.t 6), none⟩,
 ⟨some 7, .ext (.t 5) 0, none⟩,
 ⟨some 8, .ext (.t 5) 1, none⟩,
 ⟨some 1, .mv (.t 7), none⟩,
 ⟨some 2, .mv (.t 8), none⟩])
 (.seq (.reg [⟨some 10, .mv (.t 1), none⟩,
 ⟨some 11, .call 40 [.t 10, .c (.s [79, 84, 72, 69, 82])], none⟩,
 ⟨some 9, .mv (.t 11), none⟩,
 ⟨some 12, .ext (.t 9) 0, none⟩,
 ⟨some 13, .ext (.t 9) 1, none⟩,
 ⟨some 3, .mv (.t 12), none⟩,
 ⟨some 4, .mv (.t 13), none⟩])
 (.seq (.reg [⟨some 14, .mv (.t 2), none⟩,
 ⟨some 15, .bin .eql (.t 14) (.c (.i .i64 0)), none⟩,
 ⟨some 16, .mv (.t 15), none⟩,
 ⟨some 17, .mv (.t 1), some (16, true)⟩,
 ⟨some 18, .lenr (.t 17), some (16, true)⟩,
 ⟨some 19, .bin .eql (.t 18) (.c (.i .i64 2)), some (16, true)⟩,
 ⟨some 20, .pick (.t 16) (.t 19) (.c (.b false)), none⟩,
 ⟨some 21, .mv (.t 20), none⟩,
 ⟨some 22, .mv (.t 1), some (21, true)⟩,
 ⟨some 23, .iad 3 (.t 22) (.c (.i .i64 0)), some (21, true)⟩,
 ⟨some 24, .fad 1 (.t 23), some (21, true)⟩,
 ⟨some 25, .load1 (.t 24), some (21, true)⟩,
 ⟨some 26, .lenr (.t 25), some (21, true)⟩,
 ⟨some 27, .bin .eql (.t 26) (.c (.i .i64 2)), some (21, true)⟩,
 ⟨some 28, .pick (.t 21) (.t 27) (.c (.b false)), none⟩,
 ⟨some 29, .mv (.t 28), none⟩,
 ⟨some 30, .mv (.t 1), some (29, true)⟩,
 ⟨some 31, .iad 3 (.t 30) (.c (.i .i64 0)), some (29, true)⟩,
 ⟨some 32, .fad 1 (.t 31), some (29, true)⟩,
 ⟨some 33, .load1 (.t 32), some (29, true)⟩,
 ⟨some 34, .iad 1 (.t 33) (.c (.i .i64 1)), some (29, true)⟩,
 ⟨some 35, .load1 (.t 34), some (29, true)⟩,
 ⟨some 36, .bin .eql (.t 35) (.c (.s [111, 116, 104, 101, 114])), some (29, true)⟩,
 ⟨some 37, .pick (.t 29) (.t 36) (.c (.b false)), none⟩,
 ⟨some 38, .mv (.t 37), none⟩,
 ⟨some 39, .mv (.t 1), some (38, true)⟩,
 ⟨some 40, .iad 3 (.t 39) (.c (.i .i64 1)), some (38, true)⟩,
 ⟨some 41, .fad 1 (.t 40), some (38, true)⟩,
 ⟨some 42, .load1 (.t 41), some (38, true)⟩,
 ⟨some 43, .lenr (.t 42), some (38, true)⟩,
 ⟨some 44, .bin .eql (.t 43) (.c (.i .i64 0)), some (38, true)⟩,
 ⟨some 45, .pick (.t 38) (.t 44) (.c (.b false)), none⟩,
 ⟨some 46, .mv (.t 45), none⟩,
 ⟨some 47, .mv (.t 4), some (46, true)⟩,
 ⟨some 48, .pick (.t 46) (.t 47) (.c (.b false)), none⟩,
 ⟨some 49, .mv (.t 48), none⟩,
 ⟨some 50, .mv (.t 3), some (49, true)⟩,
 ⟨some 51, .bin .eql (.t 50) (.c (.s [104, 116, 116, 112, 115, 58, 47, 47, 97, 46, 101, 120, 97, 109, 112, 108, 101, 47, 120])), some (49, true)⟩,
 ⟨some 52, .pick (.t 49) (.t 51) (.c (.b false)), none⟩,
 ⟨some 0, .mv (.t 52), none⟩])
 (.ret))))
theorem is_law22_sane : FnIs Try.prog 35 53 [.tmp 0] c_law22_sane := ⟨⟨_, _, Try.func35, rfl, rfl, by kernel_rfl, by kernel_rfl⟩⟩
def c_weblink_Parse : SCode :=
 .seq (.reg [⟨some 2, .mv (.c .nil), none⟩,
 ⟨some 3, .mv (.c (.i .i64 0)), none⟩])
 (.seq (.reg [⟨some 4, .mv (.c .nil), none⟩])
 (.seq (.reg [⟨some 9, .mv (.t 0), none⟩,
 ⟨some 10, .call 44 [.t 9, .c (.i .i64 0)], none⟩,
 ⟨some 5, .mv (.t 10), none⟩])
 (.seq (.blk 0
 (.loop
 (.seq (.seq (.reg [⟨some 11, .mv (.t 5), none⟩,
 ⟨some 12, .mv (.t 0), none⟩,
 ⟨some 13, .lens (.t 12), none⟩,
 ⟨some 14, .bin .lss (.t 11) (.t 13), none⟩])
 (.cond (.t 14)
 (.skip)
 (.exit 0)))
 (.blk 1
 (.seq (.seq (.reg [⟨some 15, .mv (.t 0), none⟩,
 ⟨some 16, .mv (.t 5), none⟩,
 ⟨some 17, .idx (.t 15) (.t 16), none⟩,
 ⟨some 18, .bin .eql (.t 17) (.c (.i .u8 60)), none⟩])
 (.cond (.t 18)
 (.seq (.seq (.reg [⟨some 19, .mv (.t 4), none⟩,
 ⟨some 20, .lenr (.t 19), none⟩,
 ⟨some 21, .bin .geq (.t 20) (.c (.i .i64 64)), none⟩])
 (.cond (.t 21)
 (.seq (.reg [⟨some 2, .mv (.c .nil), none⟩,
 ⟨some 3, .mv (.c (.i .i64 161)), none⟩])
 (.ret))
 (.skip)))
 (.seq (.reg [⟨some 23, .mv (.t 0), none⟩,
 ⟨some 24, .mv (.t 5), none⟩,
 ⟨some 25, .call 69 [.t 23, .t 24], none⟩,
 ⟨some 22, .mv (.t 25), none⟩,
 ⟨some 26, .ext (.t 22) 0, none⟩,
 ⟨some 27, .ext (.t 22) 1, none⟩,
 ⟨some 28, .ext (.t 22) 2, none⟩,
 ⟨some 6, .alloc 82 [.s [], .nil, .nil], none⟩,
 ⟨none, .store 3 (.t 6) (.t 26), none⟩,
 ⟨some 7, .mv (.t 27), none⟩,
 ⟨some 8, .mv (.t 28), none⟩])
 (.seq (.seq (.reg [⟨some 29, .mv (.t 8), none⟩,
 ⟨some 30, .not (.t 29), none⟩])
 (.cond (.t 30)
 (.seq (.reg [⟨some 2, .mv (.c .nil), none⟩,
 ⟨some 3, .mv (.c (.i .i64 6)), none⟩])
 (.ret))
 (.skip)))
 (.reg [⟨some 31, .mv (.t 4), none⟩,
 ⟨some 32, .loadn 3 (.t 6), none⟩,
 ⟨some 33, .bslice 1 [.s [], .nil, .nil] [(0, (3, .t 32))], none⟩,
 ⟨some 34, .app 82 3 64 (.t 31) (.t 33), none⟩,
 ⟨some 35, .mv (.t 7), none⟩,
 ⟨some 4, .mv (.t 34), none⟩,
 ⟨some 5, .mv (.t 35), none⟩]))))
 (.skip)))
 (.seq (.seq (.reg [⟨some 36, .mv (.t 5), none⟩,
 ⟨some 37, .mv (.t 0), none⟩,
 ⟨some 38, .lens (.t 37), none⟩,
 ⟨some 39, .bin .eql (.t 36) (.t 38), none⟩])
 (.cond (.t 39)
 (.exit 0)
 (.skip)))
 (.seq (.seq (.reg [⟨some 40, .mv (.t 0), none⟩,
 ⟨some 41, .mv (.t 5), none⟩,
 ⟨some 42, .idx (.t 40) (.t 41), none⟩,
 ⟨some 43, .bin .neq (.t 42) (.c (.i .u8 44)), none⟩])
 (.cond (.t 43)
 (.seq (.reg [⟨some 2, .mv (.c .nil), none⟩,
 ⟨some 3, .mv (.c (.i .i64 6)), none⟩])
 (.ret))
 (.skip)))
 (.reg [⟨some 44, .mv (.t 0), none⟩,
 ⟨some 45, .mv (.t 5), none⟩,
 ⟨some 46, .bin .add (.t 45) (.c (.i .i64 1)), none⟩,
 ⟨some 47, .call 44 [.t 44, .t 46], none⟩,
 ⟨some 5, .mv (.t 47), none⟩]))))))))
 (.seq (.reg [⟨some 48, .mv (.t 4), none⟩,
 ⟨some 2, .mv (.t 48), none⟩,
 ⟨some 3, .mv (.c (.i .i64 0)), none⟩])
 (.ret)))))
theorem is_weblink_Parse : FnIs Try.prog 36 49 [.tmp 2, .tmp 3] c_weblink_Parse := ⟨⟨_, _, Try.func36, rfl, rfl, by kernel_rfl, by kernel_rfl⟩⟩
def c_ref22_Same : SCode :=
 .seq (.reg [⟨some 4, .mv (.c (.b false)), none⟩])
 (.seq (.seq (.reg [⟨some 6, .mv (.t 0), none⟩,
 ⟨some 7, .lenr (.t 6), none⟩,
 ⟨some 8, .mv (.t 1), none⟩,
 ⟨some 9, .lenr (.t 8), none⟩,
 ⟨some 10, .bin .neq (.t 7) (.t 9), none⟩])
 (.cond (.t 10)
 (.seq (.reg [⟨some 4, .mv (.c (.b false)), none⟩])
 (.ret))
 (.skip)))
 (.seq (.seq (.reg [⟨some 11, .mv (.t 0), none⟩,
 ⟨some 12, .lenr (.t 11), none⟩,
 ⟨some 13, .mv (.c (.i .i64 0)), none⟩])
 (.blk 0
 (.loop
 (.seq (.reg [⟨some 14, .bin .lss (.t 13) (.t 12), none⟩])
 (.seq (.cond (.t 14)
 (.skip)
 (.exit 0))
 (.seq (.blk 1
 (.seq (.reg [⟨some 15, .mv (.t 13), none⟩,
 ⟨some 5, .mv (.t 15), none⟩])
 (.seq (.drw [⟨some 16, .mv (.t 0), none⟩,
 ⟨some 17, .mv (.t 5), none⟩,
 ⟨some 18, .iad 3 (.t 16) (.t 17), none⟩,
 ⟨some 19, .fad 0 (.t 18), none⟩,
 ⟨some 20, .load1 (.t 19), none⟩,
 ⟨some 21, .mv (.t 1), none⟩,
 ⟨some 22, .mv (.t 5), none⟩,
 ⟨some 23, .iad 3 (.t 21) (.t 22), none⟩,
 ⟨some 24, .fad 0 (.t 23), none⟩,
 ⟨some 25, .load1 (.t 24), none⟩,
 ⟨some 26, .bin .neq (.t 20) (.t 25), none⟩,
 ⟨some 27, .mv (.t 26), none⟩,
 ⟨some 28, .mv (.t 0), some (27, false)⟩,
 ⟨some 29, .mv (.t 5), some (27, false)⟩,
 ⟨some 30, .iad 3 (.t 28) (.t 29), some (27, false)⟩,
 ⟨some 31, .fad 1 (.t 30), some (27, false)⟩,
 ⟨some 32, .load1 (.t 31), some (27, false)⟩,
 ⟨some 33, .mv (.t 1), some (27, false)⟩,
 ⟨some 34, .mv (.t 5), some (27, false)⟩,
 ⟨some 35, .iad 3 (.t 33) (.t 34), some (27, false)⟩,
 ⟨some 36, .fad 1 (.t 35), some (27, false)⟩,
 ⟨some 37, .load1 (.t 36), some (27, false)⟩,
 ⟨some 38, .call 71 [.t 32, .t 37], some (27, false)⟩,
 ⟨some 39, .not (.t 38), some (27, false)⟩,
 ⟨some 40, .pick (.t 27) (.c (.b true)) (.t 39), none⟩,
 ⟨some 41, .mv (.t 40), none⟩,
 ⟨some 42, .mv (.t 0), some (41, false)⟩,
 ⟨some 43, .mv (.t 5), some (41, false)⟩,
 ⟨some 44, .iad 3 (.t 42) (.t 43), some (41, false)⟩,
 ⟨some 45, .fad 2 (.t 44), some (41, false)⟩,
 ⟨some 46, .load1 (.t 45), some (41, false)⟩,
 ⟨some 47, .mv (.t 1), some (41, false)⟩,
 ⟨some 48, .mv (.t 5), some (41, false)⟩,
 ⟨some 49, .iad 3 (.t 47) (.t 48), some (41, false)⟩,
 ⟨some 50, .fad 2 (.t 49), some (41, false)⟩,
 ⟨some 51, .load1 (.t 50), some (41, false)⟩,
 ⟨some 52, .call 28 [.t 46, .t 51], some (41, false)⟩,
 ⟨some 53, .not (.t 52), some (41, false)⟩,
 ⟨some 54, .pick (.t 41) (.c (.b true)) (.t 53), none⟩] 39 [])
 (.cond (.t 54)
 (.seq (.reg [⟨some 4, .mv (.c (.b false)), none⟩])
 (.ret))
 (.skip)))))
 (.reg [⟨some 55, .bin .add (.t 13) (.c (.i .i64 1)), none⟩,
 ⟨some 13, .mv (.t 55), none⟩])))))))
 (.seq (.reg [⟨some 4, .mv (.c (.b true)), none⟩])
 (.ret))))
theorem is_ref22_Same : FnIs Try.prog 38 56 [.tmp 4] c_ref22_Same := ⟨⟨_, _, Try.func38, rfl, rfl, by kernel_rfl, by kernel_rfl⟩⟩
def c_weblink_Find : SCode :=
 .seq (.reg [⟨some 4, .mv (.c (.s [])), none⟩,
 ⟨some 5, .mv (.c (.b false)), none⟩])
 (.seq (.seq (.reg [⟨some 10, .mv (.t 0), none⟩,
 ⟨some 11, .lenr (.t 10), none⟩,
 ⟨some 12, .mv (.c (.i .i64 0)), none⟩])
 (.blk 0
 (.loop
 (.seq (.reg [⟨some 13, .bin .lss (.t 12) (.t 11), none⟩])
 (.seq (.cond (.t 13)
 (.skip)
 (.exit 0))
 (.seq (.blk 1
 (.seq (.reg [⟨some 14, .iad 3 (.t 10) (.t 12), none⟩,
 ⟨some 15, .loadn 3 (.t 14), none⟩,
 ⟨some 7, .alloc 82 [.s [], .nil, .nil], none⟩,
 ⟨none, .store 3 (.t 7) (.t 15), none⟩])
 (.seq (.reg [⟨some 16, .fad 1 (.t 7), none⟩,
 ⟨some 17, .load1 (.t 16), none⟩,
 ⟨some 18, .lenr (.t 17), none⟩,
 ⟨some 19, .mv (.c (.i .i64 0)), none⟩])
 (.blk 2
 (.loop
 (.seq (.reg [⟨some 20, .bin .lss (.t 19) (.t 18), none⟩])
 (.seq (.cond (.t 20)
 (.skip)
 (.exit 2))
 (.seq (.blk 3
 (.seq (.reg [⟨some 21, .iad 1 (.t 17) (.t 19), none⟩,
 ⟨some 22, .load1 (.t 21), none⟩,
 ⟨some 9, .mv (.t 22), none⟩])
 (.seq (.reg [⟨some 23, .mv (.t 9), none⟩,
 ⟨some 24, .mv (.t 1), none⟩,
 ⟨some 25, .call 73 [.t 23, .t 24], none⟩])
 (.cond (.t 25)
 (.seq (.reg [⟨some 26, .fad 0 (.t 7), none⟩,
 ⟨some 27, .load1 (.t 26), none⟩,
 ⟨some 4, .mv (.t 27), none⟩,
 ⟨some 5, .mv (.c (.b true)), none⟩])
 (.ret))
 (.skip)))))
 (.reg [⟨some 28, .bin .add (.t 19) (.c (.i .i64 1)), none⟩,
 ⟨some 19, .mv (.t 28), none⟩])))))))))
 (.reg [⟨some 29, .bin .add (.t 12) (.c (.i .i64 1)), none⟩,
 ⟨some 12, .mv (.t 29), none⟩])))))))
 (.seq (.reg [⟨some 4, .mv (.c (.s [])), none⟩,
 ⟨some 5, .mv (.c (.b false)), none⟩])
 (.ret)))
theorem is_weblink_Find : FnIs Try.prog 40 30 [.tmp 4, .tmp 5] c_weblink_Find := ⟨⟨_, _, Try.func40, rfl, rfl, by kernel_rfl, by kernel_rfl⟩⟩
def c_weblink_Format : SCode :=
 .seq (.reg [⟨some 2, .mv (.c (.s [])), none⟩])
 (.seq (.reg [⟨some 3, .alloc 90 [.o (.pointer none), .nil], none⟩])
 (.seq (.seq (.reg [⟨some 8, .mv (.t 0), none⟩,
 ⟨some 9, .lenr (.t 8), none⟩,
 ⟨some 10, .mv (.c (.i .i64 0)), none⟩])
 (.blk 0
 (.loop
 (.seq (.reg [⟨some 11, .bin .lss (.t 10) (.t 9), none⟩])
 (.seq (.cond (.t 11)
 (.skip)
 (.exit 0))
 (.seq (.blk 1
 (.seq (.reg [⟨some 12, .mv (.t 10), none⟩,
 ⟨some 13, .iad 3 (.t 8) (.t 10), none⟩,
 ⟨some 14, .loadn 3 (.t 13), none⟩,
 ⟨some 5, .alloc 82 [.s [], .nil, .nil], none⟩,
 ⟨some 4, .mv (.t 12), none⟩,
 ⟨none, .store 3 (.t 5) (.t 14), none⟩])
 (.seq (.seq (.reg [⟨some 15, .mv (.t 4), none⟩,
 ⟨some 16, .bin .gtr (.t 15) (.c (.i .i64 0)), none⟩])
 (.cond (.t 16)
 (.reg [⟨some 17, .call 75 [.t 3, .c (.s [44, 32])], none⟩])
 (.skip)))
 (.seq (.reg [⟨some 18, .fad 0 (.t 5), none⟩,
 ⟨some 19, .load1 (.t 18), none⟩,
 ⟨some 20, .bin .add (.c (.s [60])) (.t 19), none⟩,
 ⟨some 21, .bin .add (.t 20) (.c (.s [62])), none⟩,
 ⟨some 22, .call 75 [.t 3, .t 21], none⟩])
 (.seq (.reg [⟨some 23, .fad 2 (.t 5), none⟩,
 ⟨some 24, .load1 (.t 23), none⟩,
 ⟨some 25, .lenr (.t 24), none⟩,
 ⟨some 26, .mv (.c (.i .i64 0)), none⟩])
 (.blk 2
 (.loop
 (.seq (.reg [⟨some 27, .bin .lss (.t 26) (.t 25), none⟩])
 (.seq (.cond (.t 27)
 (.skip)
 (.exit 2))
 (.seq (.blk 3
 (.seq (.reg [⟨some 28, .iad 2 (.t 24) (.t 26), none⟩,
 ⟨some 29, .loadn 2 (.t 28), none⟩,
 ⟨some 7, .alloc 63 [.s [], .s []], none⟩,
 ⟨none, .store 2 (.t 7) (.t 29), none⟩])
 (.seq (.reg [⟨some 30, .fad 0 (.t 7), none⟩,
 ⟨some 31, .load1 (.t 30), none⟩,
 ⟨some 32, .bin .add (.c (.s [59, 32])) (.t 31), none⟩,
 ⟨some 33, .call 75 [.t 3, .t 32], none⟩])
 (.seq (.reg [⟨some 34, .fad 1 (.t 7), none⟩,
 ⟨some 35, .load1 (.t 34), none⟩,
 ⟨some 36, .bin .neq (.t 35) (.c (.s [])), none⟩])
 (.cond (.t 36)
 (.reg [⟨some 37, .fad 1 (.t 7), none⟩,
 ⟨some 38, .load1 (.t 37), none⟩,
 ⟨some 39, .call 54 [.t 38], none⟩,
 ⟨some 40, .bin .add (.c (.s [61])) (.t 39), none⟩,
 ⟨some 41, .call 75 [.t 3, .t 40], none⟩])
 (.skip))))))
 (.reg [⟨some 42, .bin .add (.t 26) (.c (.i .i64 1)), none⟩,
 ⟨some 26, .mv (.t 42), none⟩])))))))))))
 (.reg [⟨some 43, .bin .add (.t 10) (.c (.i .i64 1)), none⟩,
 ⟨some 10, .mv (.t 43), none⟩])))))))
 (.seq (.reg [⟨some 44, .call 76 [.t 3], none⟩,
 ⟨some 2, .mv (.t 44), none⟩])
 (.ret))))
theorem is_weblink_Format : FnIs Try.prog 42 45 [.tmp 2] c_weblink_Format := ⟨⟨_, _, Try.func42, rfl, rfl, by kernel_rfl, by kernel_rfl⟩⟩
def c_fieldtext_BlanksEnd : SCode :=
 .seq (.reg [⟨some 4, .mv (.c (.i .i64 0)), none⟩])
 (.seq (.blk 0
 (.loop
 (.seq (.seq (.reg [⟨some 5, .mv (.t 1), none⟩,
 ⟨some 6, .mv (.t 0), none⟩,
 ⟨some 7, .lens (.t 6), none⟩,
 ⟨some 8, .bin .lss (.t 5) (.t 7), none⟩,
 ⟨some 9, .mv (.t 8), none⟩,
 ⟨some 10, .mv (.t 0), some (9, true)⟩,
 ⟨some 11, .mv (.t 1), some (9, true)⟩,
 ⟨some 12, .idx (.t 10) (.t 11), some (9, true)⟩,
 ⟨some 13, .bin .eql (.t 12) (.c (.i .u8 32)), some (9, true)⟩,
 ⟨some 14, .mv (.t 13), some (9, true)⟩,
 ⟨some 15, .mv (.t 0), some (14, false)⟩,
 ⟨some 16, .mv (.t 1), some (14, false)⟩,
 ⟨some 17, .idx (.t 15) (.t 16), some (14, false)⟩,
 ⟨some 18, .bin .eql (.t 17) (.c (.i .u8 9)), some (14, false)⟩,
 ⟨some 19, .pick (.t 14) (.c (.b true)) (.t 18), some (9, true)⟩,
 ⟨some 20, .pick (.t 9) (.t 19) (.c (.b false)), none⟩])
 (.cond (.t 20)
 (.skip)
 (.exit 0)))
 (.blk 1
 (.reg [⟨some 21, .mv (.t 1), none⟩,
 ⟨some 22, .bin .add (.t 21) (.c (.i .i64 1)), none⟩,
 ⟨some 1, .mv (.t 22), none⟩])))))
 (.seq (.reg [⟨some 23, .mv (.t 1), none⟩,
 ⟨some 4, .mv (.t 23), none⟩])
 (.ret)))
theorem is_fieldtext_BlanksEnd : FnIs Try.prog 44 24 [.tmp 4] c_fieldtext_BlanksEnd := ⟨⟨_, _, Try.func44, rfl, rfl, by kernel_rfl, by kernel_rfl⟩⟩
def c_fieldtext_TokenEnd : SCode :=
 .seq (.reg [⟨some 4, .mv (.c (.i .i64 0)), none⟩])
 (.seq (.blk 0
 (.loop
 (.seq (.seq (.reg [⟨some 5, .mv (.t 1), none⟩,
 ⟨some 6, .mv (.t 0), none⟩,
 ⟨some 7, .lens (.t 6), none⟩,
 ⟨some 8, .bin .lss (.t 5) (.t 7), none⟩,
 ⟨some 9, .mv (.t 8), none⟩,
 ⟨some 10, .mv (.t 0), some (9, true)⟩,
 ⟨some 11, .mv (.t 1), some (9, true)⟩,
 ⟨some 12, .idx (.t 10) (.t 11), some (9, true)⟩,
 ⟨some 13, .call 77 [.t 12], some (9, true)⟩,
 ⟨some 14, .pick (.t 9) (.t 13) (.c (.b false)), none⟩])
 (.cond (.t 14)
 (.skip)
 (.exit 0)))
 (.blk 1
 (.reg [⟨some 15, .mv (.t 1), none⟩,
 ⟨some 16, .bin .add (.t 15) (.c (.i .i64 1)), none⟩,
 ⟨some 1, .mv (.t 16), none⟩])))))
 (.seq (.reg [⟨some 17, .mv (.t 1), none⟩,
 ⟨some 4, .mv (.t 17), none⟩])
 (.ret)))
theorem is_fieldtext_TokenEnd : FnIs Try.prog 47 18 [.tmp 4] c_fieldtext_TokenEnd := ⟨⟨_, _, Try.func47, rfl, rfl, by kernel_rfl, by kernel_rfl⟩⟩
def c_fieldtext_Word : SCode :=
 .seq (.reg [⟨some 4, .mv (.c (.s [])), none⟩,
 ⟨some 5, .mv (.c (.i .i64 0)), none⟩,
 ⟨some 6, .mv (.c (.b false)), none⟩])
 (.seq (.seq (.reg [⟨some 8, .mv (.t 1), none⟩,
 ⟨some 9, .mv (.t 0), none⟩,
 ⟨some 10, .lens (.t 9), none⟩,
 ⟨some 11, .bin .lss (.t 8) (.t 10), none⟩,
 ⟨some 12, .mv (.t 11), none⟩,
 ⟨some 13, .mv (.t 0), some (12, true)⟩,
 ⟨some 14, .mv (.t 1), some (12, true)⟩,
 ⟨some 15, .idx (.t 13) (.t 14), some (12, true)⟩,
 ⟨some 16, .bin .eql (.t 15) (.c (.i .u8 34)), some (12, true)⟩,
 ⟨some 17, .pick (.t 12) (.t 16) (.c (.b false)), none⟩])
 (.cond (.t 17)
 (.seq (.reg [⟨some 18, .mv (.t 0), none⟩,
 ⟨some 19, .mv (.t 1), none⟩,
 ⟨some 20, .call 79 [.t 18, .t 19], none⟩,
 ⟨some 21, .ext (.t 20) 0, none⟩,
 ⟨some 22, .ext (.t 20) 1, none⟩,
 ⟨some 23, .ext (.t 20) 2, none⟩,
 ⟨some 4, .mv (.t 21), none⟩,
 ⟨some 5, .mv (.t 22), none⟩,
 ⟨some 6, .mv (.t 23), none⟩])
 (.ret))
 (.skip)))
 (.seq (.reg [⟨some 24, .mv (.t 0), none⟩,
 ⟨some 25, .mv (.t 1), none⟩,
 ⟨some 26, .call 47 [.t 24, .t 25], none⟩,
 ⟨some 7, .mv (.t 26), none⟩])
 (.seq (.reg [⟨some 27, .mv (.t 0), none⟩,
 ⟨some 28, .mv (.t 1), none⟩,
 ⟨some 29, .mv (.t 7), none⟩,
 ⟨some 30, .slcs (.t 27) (some (.t 28)) (some (.t 29)), none⟩,
 ⟨some 31, .mv (.t 7), none⟩,
 ⟨some 32, .mv (.t 7), none⟩,
 ⟨some 33, .mv (.t 1), none⟩,
 ⟨some 34, .bin .gtr (.t 32) (.t 33), none⟩,
 ⟨some 4, .mv (.t 30), none⟩,
 ⟨some 5, .mv (.t 31), none⟩,
 ⟨some 6, .mv (.t 34), none⟩])
 (.ret))))
theorem is_fieldtext_Word : FnIs Try.prog 50 35 [.tmp 4, .tmp 5, .tmp 6] c_fieldtext_Word := ⟨⟨_, _, Try.func50, rfl, rfl, by kernel_rfl, by kernel_rfl⟩⟩
def c_fieldtext_Write : SCode :=
 .seq (.reg [⟨some 2, .mv (.c (.s [])), none⟩])
 (.seq (.seq (.reg [⟨some 5, .mv (.t 0), none⟩,
 ⟨some 6, .call 81 [.t 5], none⟩])
 (.cond (.t 6)
 (.seq (.reg [⟨some 7, .mv (.t 0), none⟩,
 ⟨some 2, .mv (.t 7), none⟩])
 (.ret))
 (.skip)))
 (.seq (.reg [⟨some 8, .bslo 5 1 1 [.i .u8 0] [(0, (1, .c (.i .u8 34)))], none⟩,
 ⟨some 3, .mv (.t 8), none⟩])
 (.seq (.seq (.reg [⟨some 9, .mv (.t 0), none⟩,
 ⟨some 10, .lens (.t 9), none⟩,
 ⟨some 11, .mv (.c (.i .i64 0)), none⟩])
 (.blk 0
 (.loop
 (.seq (.reg [⟨some 12, .bin .lss (.t 11) (.t 10), none⟩])
 (.seq (.cond (.t 12)
 (.skip)
 (.exit 0))
 (.seq (.blk 1
 (.seq (.reg [⟨some 13, .mv (.t 11), none⟩,
 ⟨some 4, .mv (.t 13), none⟩])
 (.seq (.seq (.reg [⟨some 14, .mv (.t 0), none⟩,
 ⟨some 15, .mv (.t 4), none⟩,
 ⟨some 16, .idx (.t 14) (.t 15), none⟩,
 ⟨some 17, .bin .eql (.t 16) (.c (.i .u8 34)), none⟩,
 ⟨some 18, .mv (.t 17), none⟩,
 ⟨some 19, .mv (.t 0), some (18, false)⟩,
 ⟨some 20, .mv (.t 4), some (18, false)⟩,
 ⟨some 21, .idx (.t 19) (.t 20), some (18, false)⟩,
 ⟨some 22, .bin .eql (.t 21) (.c (.i .u8 92)), some (18, false)⟩,
 ⟨some 23, .pick (.t 18) (.c (.b true)) (.t 22), none⟩])
 (.cond (.t 23)
 (.reg [⟨some 24, .mv (.t 3), none⟩,
 ⟨some 25, .bslice 1 [.i .u8 0] [(0, (1, .c (.i .u8 92)))], none⟩,
 ⟨some 26, .app 5 1 1 (.t 24) (.t 25), none⟩,
 ⟨some 3, .mv (.t 26), none⟩])
 (.skip)))
 (.reg [⟨some 27, .mv (.t 3), none⟩,
 ⟨some 28, .mv (.t 0), none⟩,
 ⟨some 29, .mv (.t 4), none⟩,
 ⟨some 30, .idx (.t 28) (.t 29), none⟩,
 ⟨some 31, .bslice 1 [.i .u8 0] [(0, (1, .t 30))], none⟩,
 ⟨some 32, .app 5 1 1 (.t 27) (.t 31), none⟩,
 ⟨some 3, .mv (.t 32), none⟩]))))
 (.reg [⟨some 33, .bin .add (.t 11) (.c (.i .i64 1)), none⟩,
 ⟨some 11, .mv (.t 33), none⟩])))))))
 (.seq (.reg [⟨some 34, .mv (.t 3), none⟩,
 ⟨some 35, .bslice 1 [.i .u8 0] [(0, (1, .c (.i .u8 34)))], none⟩,
 ⟨some 36, .app 5 1 1 (.t 34) (.t 35), none⟩,
 ⟨some 37, .cvbs (.t 36), none⟩,
 ⟨some 2, .mv (.t 37), none⟩])
 (.ret)))))
theorem is_fieldtext_Write : FnIs Try.prog 54 38 [.tmp 2] c_fieldtext_Write := ⟨⟨_, _, Try.func54, rfl, rfl, by kernel_rfl, by kernel_rfl⟩⟩
def c_weblink_readLink : SCode :=
 .seq (.reg [⟨some 4, .alloc 82 [.s [], .nil, .nil], none⟩,
 ⟨some 5, .mv (.c (.i .i64 0)), none⟩,
 ⟨some 6, .mv (.c (.b false)), none⟩])
 (.seq (.reg [⟨some 15, .mv (.t 0), none⟩,
 ⟨some 16, .mv (.t 1), none⟩,
 ⟨some 17, .bin .add (.t 16) (.c (.i .i64 1)), none⟩,
 ⟨some 18, .slcs (.t 15) (some (.t 17)) none, none⟩,
 ⟨some 19, .call 91 [.t 18, .c (.s [62])], none⟩,
 ⟨some 14, .mv (.t 19), none⟩,
 ⟨some 20, .ext (.t 14) 0, none⟩,
 ⟨some 21, .ext (.t 14) 1, none⟩,
 ⟨some 22, .ext (.t 14) 2, none⟩,
 ⟨some 7, .mv (.t 20), none⟩,
 ⟨some 8, .mv (.t 21), none⟩,
 ⟨some 9, .mv (.t 22), none⟩])
 (.seq (.seq (.reg [⟨some 23, .mv (.t 9), none⟩,
 ⟨some 24, .not (.t 23), none⟩,
 ⟨some 25, .mv (.t 24), none⟩,
 ⟨some 26, .mv (.t 7), some (25, false)⟩,
 ⟨some 27, .call 92 [.t 26], some (25, false)⟩,
 ⟨some 28, .not (.t 27), some (25, false)⟩,
 ⟨some 29, .pick (.t 25) (.c (.b true)) (.t 28), none⟩])
 (.cond (.t 29)
 (.seq (.reg [⟨some 30, .build [.s [], .nil, .nil] [], none⟩,
 ⟨none, .store 3 (.t 4) (.t 30), none⟩,
 ⟨some 5, .mv (.c (.i .i64 0)), none⟩,
 ⟨some 6, .mv (.c (.b false)), none⟩])
 (.ret))
 (.skip)))
 (.seq (.reg [⟨some 31, .mv (.t 7), none⟩,
 ⟨some 32, .build [.s [], .nil, .nil] [(0, (1, .t 31))], none⟩,
 ⟨some 10, .alloc 82 [.s [], .nil, .nil], none⟩,
 ⟨none, .store 3 (.t 10) (.t 32), none⟩])
 (.seq (.reg [⟨some 33, .mv (.t 0), none⟩,
 ⟨some 34, .mv (.t 0), none⟩,
 ⟨some 35, .lens (.t 34), none⟩,
 ⟨some 36, .mv (.t 8), none⟩,
 ⟨some 37, .lens (.t 36), none⟩,
 ⟨some 38, .bin .sub (.t 35) (.t 37), none⟩,
 ⟨some 39, .call 44 [.t 33, .t 38], none⟩,
 ⟨some 1, .mv (.t 39), none⟩])
 (.seq (.blk 0
 (.loop
 (.seq (.seq (.reg [⟨some 40, .mv (.t 1), none⟩,
 ⟨some 41, .mv (.t 0), none⟩,
 ⟨some 42, .lens (.t 41), none⟩,
 ⟨some 43, .bin .lss (.t 40) (.t 42), none⟩,
 ⟨some 44, .mv (.t 43), none⟩,
 ⟨some 45, .mv (.t 0), some (44, true)⟩,
 ⟨some 46, .mv (.t 1), some (44, true)⟩,
 ⟨some 47, .idx (.t 45) (.t 46), some (44, true)⟩,
 ⟨some 48, .bin .eql (.t 47) (.c (.i .u8 59)), some (44, true)⟩,
 ⟨some 49, .pick (.t 44) (.t 48) (.c (.b false)), none⟩])
 (.cond (.t 49)
 (.skip)
 (.exit 0)))
 (.blk 1
 (.seq (.reg [⟨some 51, .mv (.t 0), none⟩,
 ⟨some 52, .mv (.t 0), none⟩,
 ⟨some 53, .mv (.t 1), none⟩,
 ⟨some 54, .bin .add (.t 53) (.c (.i .i64 1)), none⟩,
 ⟨some 55, .call 44 [.t 52, .t 54], none⟩,
 ⟨some 56, .call 93 [.t 51, .t 55], none⟩,
 ⟨some 50, .mv (.t 56), none⟩,
 ⟨some 57, .ext (.t 50) 0, none⟩,
 ⟨some 58, .ext (.t 50) 1, none⟩,
 ⟨some 59, .ext (.t 50) 2, none⟩,
 ⟨some 11, .alloc 63 [.s [], .s []], none⟩,
 ⟨none, .store 2 (.t 11) (.t 57), none⟩,
 ⟨some 12, .mv (.t 58), none⟩,
 ⟨some 13, .mv (.t 59), none⟩])
 (.seq (.seq (.reg [⟨some 60, .mv (.t 13), none⟩,
 ⟨some 61, .not (.t 60), none⟩])
 (.cond (.t 61)
 (.seq (.reg [⟨some 62, .build [.s [], .nil, .nil] [], none⟩,
 ⟨none, .store 3 (.t 4) (.t 62), none⟩,
 ⟨some 5, .mv (.c (.i .i64 0)), none⟩,
 ⟨some 6, .mv (.c (.b false)), none⟩])
 (.ret))
 (.skip)))
 (.seq (.reg [⟨some 63, .fad 2 (.t 10), none⟩,
 ⟨some 64, .load1 (.t 63), none⟩,
 ⟨some 65, .loadn 2 (.t 11), none⟩,
 ⟨some 66, .bslice 1 [.s [], .s []] [(0, (2, .t 65))], none⟩,
 ⟨some 67, .app 63 2 32 (.t 64) (.t 66), none⟩,
 ⟨some 68, .fad 2 (.t 10), none⟩,
 ⟨none, .store 1 (.t 68) (.t 67), none⟩])
 (.reg [⟨some 69, .mv (.t 0), none⟩,
 ⟨some 70, .mv (.t 12), none⟩,
 ⟨some 71, .call 44 [.t 69, .t 70], none⟩,
 ⟨some 1, .mv (.t 71), none⟩]))))))))
 (.seq (.reg [⟨some 72, .fad 2 (.t 10), none⟩,
 ⟨some 73, .load1 (.t 72), none⟩,
 ⟨some 74, .call 94 [.t 73], none⟩,
 ⟨some 75, .fad 1 (.t 10), none⟩,
 ⟨none, .store 1 (.t 75) (.t 74), none⟩])
 (.seq (.reg [⟨some 76, .loadn 3 (.t 10), none⟩,
 ⟨some 77, .mv (.t 1), none⟩,
 ⟨none, .store 3 (.t 4) (.t 76), none⟩,
 ⟨some 5, .mv (.t 77), none⟩,
 ⟨some 6, .mv (.c (.b true)), none⟩])
 (.ret))))))))
theorem is_weblink_readLink : FnIs Try.prog 69 78 [.celln 4 3, .tmp 5, .tmp 6] c_weblink_readLink := ⟨⟨_, _, Try.func69, rfl, rfl, by kernel_rfl, by kernel_rfl⟩⟩
def c_ref01_Same : SCode :=
 .seq (.reg [⟨some 4, .mv (.c (.b false)), none⟩])
 (.seq (.seq (.reg [⟨some 6, .mv (.t 0), none⟩,
 ⟨some 7, .lenr (.t 6), none⟩,
 ⟨some 8, .mv (.t 1), none⟩,
 ⟨some 9, .lenr (.t 8), none⟩,
 ⟨some 10, .bin .neq (.t 7) (.t 9), none⟩])
 (.cond (.t 10)
 (.seq (.reg [⟨some 4, .mv (.c (.b false)), none⟩])
 (.ret))
 (.skip)))
 (.seq (.seq (.reg [⟨some 11, .mv (.t 0), none⟩,
 ⟨some 12, .lenr (.t 11), none⟩,
 ⟨some 13, .mv (.c (.i .i64 0)), none⟩])
 (.blk 0
 (.loop
 (.seq (.reg [⟨some 14, .bin .lss (.t 13) (.t 12), none⟩])
 (.seq (.cond (.t 14)
 (.skip)
 (.exit 0))
 (.seq (.blk 1
 (.seq (.reg [⟨some 15, .mv (.t 13), none⟩,
 ⟨some 5, .mv (.t 15), none⟩])
 (.seq (.drw [⟨some 16, .mv (.t 0), none⟩,
 ⟨some 17, .mv (.t 5), none⟩,
 ⟨some 18, .iad 1 (.t 16) (.t 17), none⟩,
 ⟨some 19, .load1 (.t 18), none⟩,
 ⟨some 20, .mv (.t 1), none⟩,
 ⟨some 21, .mv (.t 5), none⟩,
 ⟨some 22, .iad 1 (.t 20) (.t 21), none⟩,
 ⟨some 23, .load1 (.t 22), none⟩,
 ⟨some 24, .bin .neq (.t 19) (.t 23), none⟩] 9 [])
 (.cond (.t 24)
 (.seq (.reg [⟨some 4, .mv (.c (.b false)), none⟩])
 (.ret))
 (.skip)))))
 (.reg [⟨some 25, .bin .add (.t 13) (.c (.i .i64 1)), none⟩,
 ⟨some 13, .mv (.t 25), none⟩])))))))
 (.seq (.reg [⟨some 4, .mv (.c (.b true)), none⟩])
 (.ret))))
theorem is_ref01_Same : FnIs Try.prog 71 26 [.tmp 4] c_ref01_Same := ⟨⟨_, _, Try.func71, rfl, rfl, by kernel_rfl, by kernel_rfl⟩⟩
def c_strings_Builder_WriteString : SCode :=
 .seq (.reg [⟨some 4, .mv (.c (.i .i64 0)), none⟩,
 ⟨some 5, .mv (.c (.o .nilIface)), none⟩])
 (.seq (.reg [⟨some 6, .mv (.t 0), none⟩,
 ⟨some 7, .call 98 [.t 6], none⟩])
 (.seq (.reg [⟨some 8, .mv (.t 0), none⟩,
 ⟨some 9, .mv (.t 0), none⟩,
 ⟨some 10, .nck (.t 9), none⟩,
 ⟨some 11, .fad 1 (.t 10), none⟩,
 ⟨some 12, .load1 (.t 11), none⟩,
 ⟨some 13, .mv (.t 1), none⟩,
 ⟨some 14, .apps 5 (.t 12) (.t 13), none⟩,
 ⟨some 15, .nck (.t 8), none⟩,
 ⟨some 16, .fad 1 (.t 15), none⟩,
 ⟨none, .store 1 (.t 16) (.t 14), none⟩])
 (.seq (.reg [⟨some 17, .mv (.t 1), none⟩,
 ⟨some 18, .lens (.t 17), none⟩,
 ⟨some 4, .mv (.t 18), none⟩,
 ⟨some 5, .mv (.c (.o .nilIface)), none⟩])
 (.ret))))
theorem is_strings_Builder_WriteString : FnIs Try.prog 75 19 [.tmp 4, .tmp 5] c_strings_Builder_WriteString := ⟨⟨_, _, Try.func75, rfl, rfl, by kernel_rfl, by kernel_rfl⟩⟩
def c_fieldtext_quoted : SCode :=
 .seq (.reg [⟨some 4, .mv (.c (.s [])), none⟩,
 ⟨some 5, .mv (.c (.i .i64 0)), none⟩,
 ⟨some 6, .mv (.c (.b false)), none⟩])
 (.seq (.reg [⟨some 7, .mv (.c .nil), none⟩])
 (.seq (.seq (.reg [⟨some 9, .mv (.t 1), none⟩,
 ⟨some 10, .bin .add (.t 9) (.c (.i .i64 1)), none⟩,
 ⟨some 8, .mv (.t 10), none⟩])
 (.blk 0
 (.loop
 (.seq (.seq (.reg [⟨some 11, .mv (.t 8), none⟩,
 ⟨some 12, .mv (.t 0), none⟩,
 ⟨some 13, .lens (.t 12), none⟩,
 ⟨some 14, .bin .lss (.t 11) (.t 13), none⟩])
 (.cond (.t 14)
 (.skip)
 (.exit 0)))
 (.seq (.blk 1
 (.seq (.seq (.reg [⟨some 17, .mv (.t 0), none⟩,
 ⟨some 18, .mv (.t 8), none⟩,
 ⟨some 19, .idx (.t 17) (.t 18), none⟩,
 ⟨some 20, .bin .eql (.t 19) (.c (.i .u8 34)), none⟩])
 (.cond (.t 20)
 (.seq (.reg [⟨some 21, .mv (.t 7), none⟩,
 ⟨some 22, .cvbs (.t 21), none⟩,
 ⟨some 23, .mv (.t 8), none⟩,
 ⟨some 24, .bin .add (.t 23) (.c (.i .i64 1)), none⟩,
 ⟨some 4, .mv (.t 22), none⟩,
 ⟨some 5, .mv (.t 24), none⟩,
 ⟨some 6, .mv (.c (.b true)), none⟩])
 (.ret))
 (.skip)))
 (.seq (.seq (.reg [⟨some 25, .mv (.t 0), none⟩,
 ⟨some 26, .mv (.t 8), none⟩,
 ⟨some 27, .idx (.t 25) (.t 26), none⟩,
 ⟨some 28, .bin .eql (.t 27) (.c (.i .u8 92)), none⟩])
 (.cond (.t 28)
 (.reg [⟨some 29, .mv (.t 8), none⟩,
 ⟨some 30, .bin .add (.t 29) (.c (.i .i64 1)), none⟩,
 ⟨some 8, .mv (.t 30), none⟩])
 (.skip)))
 (.seq (.seq (.reg [⟨some 31, .mv (.t 8), none⟩,
 ⟨some 32, .mv (.t 0), none⟩,
 ⟨some 33, .lens (.t 32), none⟩,
 ⟨some 34, .bin .eql (.t 31) (.t 33), none⟩,
 ⟨some 35, .mv (.t 34), none⟩,
 ⟨some 36, .mv (.t 0), some (35, false)⟩,
 ⟨some 37, .mv (.t 8), some (35, false)⟩,
 ⟨some 38, .idx (.t 36) (.t 37), some (35, false)⟩,
 ⟨some 39, .call 102 [.t 38], some (35, false)⟩,
 ⟨some 40, .not (.t 39), some (35, false)⟩,
 ⟨some 41, .pick (.t 35) (.c (.b true)) (.t 40), none⟩])
 (.cond (.t 41)
 (.seq (.reg [⟨some 42, .mv (.t 8), none⟩,
 ⟨some 4, .mv (.c (.s [])), none⟩,
 ⟨some 5, .mv (.t 42), none⟩,
 ⟨some 6, .mv (.c (.b false)), none⟩])
 (.ret))
 (.skip)))
 (.reg [⟨some 43, .mv (.t 7), none⟩,
 ⟨some 44, .mv (.t 0), none⟩,
 ⟨some 45, .mv (.t 8), none⟩,
 ⟨some 46, .idx (.t 44) (.t 45), none⟩,
 ⟨some 47, .bslice 1 [.i .u8 0] [(0, (1, .t 46))], none⟩,
 ⟨some 48, .app 5 1 1 (.t 43) (.t 47), none⟩,
 ⟨some 7, .mv (.t 48), none⟩])))))
 (.reg [⟨some 15, .mv (.t 8), none⟩,
 ⟨some 16, .bin .add (.t 15) (.c (.i .i64 1)), none⟩,
 ⟨some 8, .mv (.t 16), none⟩]))))))
 (.seq (.reg [⟨some 49, .mv (.t 0), none⟩,
 ⟨some 50, .lens (.t 49), none⟩,
 ⟨some 4, .mv (.c (.s [])), none⟩,
 ⟨some 5, .mv (.t 50), none⟩,
 ⟨some 6, .mv (.c (.b false)), none⟩])
 (.ret))))
theorem is_fieldtext_quoted : FnIs Try.prog 79 51 [.tmp 4, .tmp 5, .tmp 6] c_fieldtext_quoted := ⟨⟨_, _, Try.func79, rfl, rfl, by kernel_rfl, by kernel_rfl⟩⟩
def c_fieldtext_IsToken : SCode :=
 .seq (.reg [⟨some 2, .mv (.c (.b false)), none⟩])
 (.seq (.reg [⟨some 3, .mv (.t 0), none⟩,
 ⟨some 4, .bin .neq (.t 3) (.c (.s [])), none⟩,
 ⟨some 5, .mv (.t 4), none⟩,
 ⟨some 6, .mv (.t 0), some (5, true)⟩,
 ⟨some 7, .call 47 [.t 6, .c (.i .i64 0)], some (5, true)⟩,
 ⟨some 8, .mv (.t 0), some (5, true)⟩,
 ⟨some 9, .lens (.t 8), some (5, true)⟩,
 ⟨some 10, .bin .eql (.t 7) (.t 9), some (5, true)⟩,
 ⟨some 11, .pick (.t 5) (.t 10) (.c (.b false)), none⟩,
 ⟨some 2, .mv (.t 11), none⟩])
 (.ret))
theorem is_fieldtext_IsToken : FnIs Try.prog 81 12 [.tmp 2] c_fieldtext_IsToken := ⟨⟨_, _, Try.func81, rfl, rfl, by kernel_rfl, by kernel_rfl⟩⟩
def c_fieldtext_IsText : SCode :=
 .seq (.reg [⟨some 2, .mv (.c (.b false)), none⟩])
 (.seq (.seq (.reg [⟨some 4, .mv (.t 0), none⟩,
 ⟨some 5, .lens (.t 4), none⟩,
 ⟨some 6, .mv (.c (.i .i64 0)), none⟩])
 (.blk 0
 (.loop
 (.seq (.reg [⟨some 7, .bin .lss (.t 6) (.t 5), none⟩])
 (.seq (.cond (.t 7)
 (.skip)
 (.exit 0))
 (.seq (.blk 1
 (.seq (.reg [⟨some 8, .mv (.t 6), none⟩,
 ⟨some 3, .mv (.t 8), none⟩])
 (.seq (.reg [⟨some 9, .mv (.t 0), none⟩,
 ⟨some 10, .mv (.t 3), none⟩,
 ⟨some 11, .idx (.t 9) (.t 10), none⟩,
 ⟨some 12, .call 102 [.t 11], none⟩,
 ⟨some 13, .not (.t 12), none⟩])
 (.cond (.t 13)
 (.seq (.reg [⟨some 2, .mv (.c (.b false)), none⟩])
 (.ret))
 (.skip)))))
 (.reg [⟨some 14, .bin .add (.t 6) (.c (.i .i64 1)), none⟩,
 ⟨some 6, .mv (.t 14), none⟩])))))))
 (.seq (.reg [⟨some 2, .mv (.c (.b true)), none⟩])
 (.ret)))
theorem is_fieldtext_IsText : FnIs Try.prog 92 15 [.tmp 2] c_fieldtext_IsText := ⟨⟨_, _, Try.func92, rfl, rfl, by kernel_rfl, by kernel_rfl⟩⟩
def c_weblink_readParameter : SCode :=
 .seq (.reg [⟨some 4, .alloc 63 [.s [], .s []], none⟩,
 ⟨some 5, .mv (.c (.i .i64 0)), none⟩,
 ⟨some 6, .mv (.c (.b false)), none⟩])
 (.seq (.reg [⟨some 11, .mv (.t 0), none⟩,
 ⟨some 12, .mv (.t 1), none⟩,
 ⟨some 13, .call 47 [.t 11, .t 12], none⟩,
 ⟨some 7, .mv (.t 13), none⟩])
 (.seq (.seq (.reg [⟨some 14, .mv (.t 7), none⟩,
 ⟨some 15, .mv (.t 1), none⟩,
 ⟨some 16, .bin .eql (.t 14) (.t 15), none⟩])
 (.cond (.t 16)
 (.seq (.reg [⟨some 17, .build [.s [], .s []] [], none⟩,
 ⟨some 18, .mv (.t 1), none⟩,
 ⟨none, .store 2 (.t 4) (.t 17), none⟩,
 ⟨some 5, .mv (.t 18), none⟩,
 ⟨some 6, .mv (.c (.b false)), none⟩])
 (.ret))
 (.skip)))
 (.seq (.reg [⟨some 19, .mv (.t 0), none⟩,
 ⟨some 20, .mv (.t 1), none⟩,
 ⟨some 21, .mv (.t 7), none⟩,
 ⟨some 22, .slcs (.t 19) (some (.t 20)) (some (.t 21)), none⟩,
 ⟨some 23, .call 48 [.t 22], none⟩,
 ⟨some 24, .build [.s [], .s []] [(0, (1, .t 23))], none⟩,
 ⟨some 8, .alloc 63 [.s [], .s []], none⟩,
 ⟨none, .store 2 (.t 8) (.t 24), none⟩])
 (.seq (.reg [⟨some 25, .mv (.t 0), none⟩,
 ⟨some 26, .mv (.t 7), none⟩,
 ⟨some 27, .call 44 [.t 25, .t 26], none⟩,
 ⟨some 9, .mv (.t 27), none⟩])
 (.seq (.seq (.reg [⟨some 28, .mv (.t 9), none⟩,
 ⟨some 29, .mv (.t 0), none⟩,
 ⟨some 30, .lens (.t 29), none⟩,
 ⟨some 31, .bin .eql (.t 28) (.t 30), none⟩,
 ⟨some 32, .mv (.t 31), none⟩,
 ⟨some 33, .mv (.t 0), some (32, false)⟩,
 ⟨some 34, .mv (.t 9), some (32, false)⟩,
 ⟨some 35, .idx (.t 33) (.t 34), some (32, false)⟩,
 ⟨some 36, .bin .neq (.t 35) (.c (.i .u8 61)), some (32, false)⟩,
 ⟨some 37, .pick (.t 32) (.c (.b true)) (.t 36), none⟩])
 (.cond (.t 37)
 (.seq (.reg [⟨some 38, .loadn 2 (.t 8), none⟩,
 ⟨some 39, .mv (.t 7), none⟩,
 ⟨none, .store 2 (.t 4) (.t 38), none⟩,
 ⟨some 5, .mv (.t 39), none⟩,
 ⟨some 6, .mv (.c (.b true)), none⟩])
 (.ret))
 (.skip)))
 (.seq (.reg [⟨some 10, .mv (.c (.b false)), none⟩])
 (.seq (.reg [⟨some 41, .mv (.t 0), none⟩,
 ⟨some 42, .mv (.t 0), none⟩,
 ⟨some 43, .mv (.t 9), none⟩,
 ⟨some 44, .bin .add (.t 43) (.c (.i .i64 1)), none⟩,
 ⟨some 45, .call 44 [.t 42, .t 44], none⟩,
 ⟨some 46, .call 50 [.t 41, .t 45], none⟩,
 ⟨some 40, .mv (.t 46), none⟩,
 ⟨some 47, .ext (.t 40) 0, none⟩,
 ⟨some 48, .ext (.t 40) 1, none⟩,
 ⟨some 49, .ext (.t 40) 2, none⟩,
 ⟨some 50, .fad 1 (.t 8), none⟩,
 ⟨none, .store 1 (.t 50) (.t 47), none⟩,
 ⟨some 7, .mv (.t 48), none⟩,
 ⟨some 10, .mv (.t 49), none⟩])
 (.seq (.reg [⟨some 51, .loadn 2 (.t 8), none⟩,
 ⟨some 52, .mv (.t 7), none⟩,
 ⟨some 53, .mv (.t 10), none⟩,
 ⟨none, .store 2 (.t 4) (.t 51), none⟩,
 ⟨some 5, .mv (.t 52), none⟩,
 ⟨some 6, .mv (.t 53), none⟩])
 (.ret)))))))))
theorem is_weblink_readParameter : FnIs Try.prog 93 54 [.celln 4 2, .tmp 5, .tmp 6] c_weblink_readParameter := ⟨⟨_, _, Try.func93, rfl, rfl, by kernel_rfl, by kernel_rfl⟩⟩
def c_weblink_relations : SCode :=
 .seq (.reg [⟨some 2, .mv (.c .nil), none⟩])
 (.seq (.seq (.reg [⟨some 5, .mv (.t 0), none⟩,
 ⟨some 6, .lenr (.t 5), none⟩,
 ⟨some 7, .mv (.c (.i .i64 0)), none⟩])
 (.blk 0
 (.loop
 (.seq (.reg [⟨some 8, .bin .lss (.t 7) (.t 6), none⟩])
 (.seq (.cond (.t 8)
 (.skip)
 (.exit 0))
 (.seq (.blk 1
 (.seq (.reg [⟨some 9, .iad 2 (.t 5) (.t 7), none⟩,
 ⟨some 10, .loadn 2 (.t 9), none⟩,
 ⟨some 4, .alloc 63 [.s [], .s []], none⟩,
 ⟨none, .store 2 (.t 4) (.t 10), none⟩])
 (.seq (.reg [⟨some 11, .fad 0 (.t 4), none⟩,
 ⟨some 12, .load1 (.t 11), none⟩,
 ⟨some 13, .bin .eql (.t 12) (.c (.s [114, 101, 108])), none⟩])
 (.cond (.t 13)
 (.seq (.reg [⟨some 14, .fad 1 (.t 4), none⟩,
 ⟨some 15, .load1 (.t 14), none⟩,
 ⟨some 16, .call 48 [.t 15], none⟩,
 ⟨some 17, .call 113 [.t 16], none⟩,
 ⟨some 2, .mv (.t 17), none⟩])
 (.ret))
 (.skip)))))
 (.reg [⟨some 18, .bin .add (.t 7) (.c (.i .i64 1)), none⟩,
 ⟨some 7, .mv (.t 18), none⟩])))))))
 (.seq (.reg [⟨some 2, .mv (.c .nil), none⟩])
 (.ret)))
theorem is_weblink_relations : FnIs Try.prog 94 19 [.tmp 2] c_weblink_relations := ⟨⟨_, _, Try.func94, rfl, rfl, by kernel_rfl, by kernel_rfl⟩⟩
def c_fieldtext_IsByte : SCode :=
 .seq (.reg [⟨some 2, .mv (.c (.b false)), none⟩])
 (.seq (.reg [⟨some 3, .mv (.t 0), none⟩,
 ⟨some 4, .bin .geq (.t 3) (.c (.i .u8 32)), none⟩,
 ⟨some 5, .mv (.t 4), none⟩,
 ⟨some 6, .mv (.t 0), some (5, true)⟩,
 ⟨some 7, .bin .neq (.t 6) (.c (.i .u8 127)), some (5, true)⟩,
 ⟨some 8, .pick (.t 5) (.t 7) (.c (.b false)), none⟩,
 ⟨some 9, .mv (.t 8), none⟩,
 ⟨some 10, .mv (.t 0), some (9, false)⟩,
 ⟨some 11, .bin .eql (.t 10) (.c (.i .u8 9)), some (9, false)⟩,
 ⟨some 12, .pick (.t 9) (.c (.b true)) (.t 11), none⟩,
 ⟨some 2, .mv (.t 12), none⟩])
 (.ret))
theorem is_fieldtext_IsByte : FnIs Try.prog 102 13 [.tmp 2] c_fieldtext_IsByte := ⟨⟨_, _, Try.func102, rfl, rfl, by kernel_rfl, by kernel_rfl⟩⟩
def c_weblink_words : SCode :=
 .seq (.reg [⟨some 2, .mv (.c .nil), none⟩])
 (.seq (.reg [⟨some 3, .mv (.c .nil), none⟩])
 (.seq (.seq (.reg [⟨some 6, .mv (.t 0), none⟩,
 ⟨some 7, .call 44 [.t 6, .c (.i .i64 0)], none⟩,
 ⟨some 4, .mv (.t 7), none⟩])
 (.blk 0
 (.loop
 (.seq (.seq (.reg [⟨some 8, .mv (.t 4), none⟩,
 ⟨some 9, .mv (.t 0), none⟩,
 ⟨some 10, .lens (.t 9), none⟩,
 ⟨some 11, .bin .lss (.t 8) (.t 10), none⟩])
 (.cond (.t 11)
 (.skip)
 (.exit 0)))
 (.blk 1
 (.seq (.reg [⟨some 12, .mv (.t 4), none⟩,
 ⟨some 5, .mv (.t 12), none⟩])
 (.seq (.blk 2
 (.loop
 (.seq (.seq (.reg [⟨some 13, .mv (.t 5), none⟩,
 ⟨some 14, .mv (.t 0), none⟩,
 ⟨some 15, .lens (.t 14), none⟩,
 ⟨some 16, .bin .lss (.t 13) (.t 15), none⟩,
 ⟨some 17, .mv (.t 16), none⟩,
 ⟨some 18, .mv (.t 0), some (17, true)⟩,
 ⟨some 19, .mv (.t 5), some (17, true)⟩,
 ⟨some 20, .idx (.t 18) (.t 19), some (17, true)⟩,
 ⟨some 21, .bin .neq (.t 20) (.c (.i .u8 32)), some (17, true)⟩,
 ⟨some 22, .pick (.t 17) (.t 21) (.c (.b false)), none⟩,
 ⟨some 23, .mv (.t 22), none⟩,
 ⟨some 24, .mv (.t 0), some (23, true)⟩,
 ⟨some 25, .mv (.t 5), some (23, true)⟩,
 ⟨some 26, .idx (.t 24) (.t 25), some (23, true)⟩,
 ⟨some 27, .bin .neq (.t 26) (.c (.i .u8 9)), some (23, true)⟩,
 ⟨some 28, .pick (.t 23) (.t 27) (.c (.b false)), none⟩])
 (.cond (.t 28)
 (.skip)
 (.exit 2)))
 (.blk 3
 (.reg [⟨some 29, .mv (.t 5), none⟩,
 ⟨some 30, .bin .add (.t 29) (.c (.i .i64 1)), none⟩,
 ⟨some 5, .mv (.t 30), none⟩])))))
 (.seq (.reg [⟨some 31, .mv (.t 3), none⟩,
 ⟨some 32, .mv (.t 0), none⟩,
 ⟨some 33, .mv (.t 4), none⟩,
 ⟨some 34, .mv (.t 5), none⟩,
 ⟨some 35, .slcs (.t 32) (some (.t 33)) (some (.t 34)), none⟩,
 ⟨some 36, .bslice 1 [.s []] [(0, (1, .t 35))], none⟩,
 ⟨some 37, .app 9 1 16 (.t 31) (.t 36), none⟩,
 ⟨some 3, .mv (.t 37), none⟩])
 (.reg [⟨some 38, .mv (.t 0), none⟩,
 ⟨some 39, .mv (.t 5), none⟩,
 ⟨some 40, .call 44 [.t 38, .t 39], none⟩,
 ⟨some 4, .mv (.t 40), none⟩])))))))))
 (.seq (.reg [⟨some 41, .mv (.t 3), none⟩,
 ⟨some 2, .mv (.t 41), none⟩])
 (.ret))))
theorem is_weblink_words : FnIs Try.prog 113 42 [.tmp 2] c_weblink_words := ⟨⟨_, _, Try.func113, rfl, rfl, by kernel_rfl, by kernel_rfl⟩⟩
end Go.Proofs.Ytkcaghhfnmeknaa.Sx
namespace Go.Proofs.Ytkcaghhfnmeknaa
open Go.RowKit Sx
theorem all_of {s : List UInt8} {p : UInt8 → Bool} (h : ∀ j (hj : j < s.length), p s[j] = true) : s.all p = true := by
 rw [List.all_eq_true]
 intro x hx
 obtain ⟨j, hj, rfl⟩ := List.mem_iff_getElem.1 hx
 exact h j hj
theorem all_not {s : List UInt8} {p : UInt8 → Bool} {j : Nat} (hj : j < s.length) (h : p s[j] = false) : s.all p = false := by
 rw [Bool.eq_false_iff]
 intro e
 have := List.all_eq_true.1 e s[j] (List.getElem_mem _)
 rw [h] at this; cases this
theorem getD_get {s : List UInt8} {j : Nat} (hj : j < s.length) : s.getD j 0 = s[j] := by
 rw [List.getD_eq_getElem?_getD, List.getElem?_eq_getElem hj]; rfl
section
variable [Tabs Try.prog] {objs : List OB} {K : List OB → AV → Prop}
theorem aEqual_k (a b : List UInt8) (ha : a.length ≤ maxLen) (hb : b.length ≤ maxLen) (hk : K objs (.b (eqL a b))) : CallOk Try.prog 73 [.s a, .s b] objs K :=
 conv (vs := [.string (S a), .string (S b)]) rfl rfl (fun w => Equal_any (S a) (S b) w (by rw [S_size]; exact ha) (by rw [S_size]; exact hb)) hk
theorem sCut_k (s : List UInt8) (c : UInt8) (hs : s.length ≤ maxLen) (hk : K objs (.tup [.s (cutL c s).1, .s (cutL c s).2.1, .b (cutL c s).2.2])) : CallOk Try.prog 91 [.s s, .s [c]] objs K :=
 conv (vs := [.string (S s), .string (S [c])]) rfl rfl (fun w => Cut_any (S s) c w (by rw [S_size]; exact hs)) hk
theorem aTok_k (c : UInt8) (hk : K objs (.b (isTok c))) : CallOk Try.prog 77 [.i .u8 c.toNat] objs K :=
 convs (vs := [.int .u8 c.toNat]) rfl rfl (fun w => IsTok_any c w) hk
end
end Go.Proofs.Ytkcaghhfnmeknaa
namespace Go.Proofs.Ytkcaghhfnmeknaa.Sx
open Go.RowKit
theorem arK_mono {k : IntKind} {r : Int} {K K' : Int → Prop} (hk : ∀ v, K v → K' v) (h : arK k r K) : arK k r K' := by
 cases k
 all_goals first | exact hk _ h | exact ⟨h.1, hk _ h.2⟩
theorem binK_mono {op : BinOp} {x y : AV} {K K' : AV → Prop} (hk : ∀ v, K v → K' v) (h : binK op x y K) : binK op x y K' := by
 unfold binK at h ⊢
 split at h
 ·refine ⟨h.1, ?_⟩
  replace h := h.2
  cases op
  all_goals first
   | exact h.elim
   | exact arK_mono (fun _ g => hk _ g) h
   | exact ⟨h.1, arK_mono (fun _ g => hk _ g) h.2⟩
   | exact ⟨h.1, hk _ h.2⟩
   | exact hk _ h
 all_goals
  revert h
  cases op
  all_goals first
   | exact fun h => h.elim
   | exact fun h => ⟨h.1, hk _ h.2⟩
   | exact fun h => hk _ h
section
variable {P : Program} [Tabs P] {C : Cx}
theorem wpS_mono {so : SOp} {objs : List OB} {tm : List AV} {K K' : List OB → AV → Prop} (hk : ∀ o v, K o v → K' o v) (h : wpS P so objs tm K) : wpS P so objs tm K' := by
 cases so
 all_goals simp only [wpS] at h ⊢
 all_goals try exact hk _ _ h
 all_goals try exact ⟨h.1, hk _ _ h.2⟩
 all_goals try exact binK_mono (fun _ g => hk _ _ g) h
 all_goals try exact h.mono hk
 all_goals try exact ⟨h.1, h.2.mono fun _ _ g => ⟨g.1, hk _ _ g.2⟩⟩
 all_goals
  revert h
  repeat' split
  all_goals first
   | exact fun h => h.elim
   | exact fun h => hk _ _ h
   | exact fun h => ⟨h.1, hk _ _ h.2⟩
   | exact fun h => arK_mono (fun _ g => hk _ _ g) h
   | exact fun h => ⟨fun e => hk _ _ (h.1 e), fun e => hk _ _ (h.2 e)⟩
   | exact fun ⟨v, h1, h2⟩ => ⟨v, h1, hk _ _ h2⟩
   | exact fun ⟨h0, l, h1, h2⟩ => ⟨h0, l, h1, hk _ _ h2⟩
   | exact fun h => ⟨h.1, h.2.mono hk⟩
theorem wpR_mono : ∀ {l : List SO} {objs : List OB} {tm : List AV} {K K' : List OB → List AV → Prop}, (∀ o t, K o t → K' o t) → wpR P l objs tm K → wpR P l objs tm K'
 | [], _, _, _, _, hk, h => hk _ _ h
 | ⟨dst, op, none⟩ :: r, _, _, _, _, hk, h => wpS_mono (fun _ _ g => wpR_mono hk g) h
 | ⟨dst, op, some (t, want)⟩ :: r, objs, tm, K, K', hk, h => by
  simp only [wpR] at h ⊢
  revert h
  split
  ·exact fun h => ⟨fun e => wpS_mono (fun _ _ g => wpR_mono hk g) (h.1 e), fun e => wpR_mono hk (h.2 e)⟩
  ·exact fun h => wpR_mono hk h
  ·exact fun h => h.elim
theorem wpD_mono : ∀ {l : List SO} {objs : List OB} {tm : List AV} {K K' : List OB → List AV → Prop}, (∀ o t, K o t → K' o t) → wpD P l objs tm K → wpD P l objs tm K'
 | [], _, _, _, _, hk, h => hk _ _ h
 | ⟨dst, op, none⟩ :: r, _, _, _, _, hk, h => by
  simp only [wpD] at h ⊢
  revert h
  split
  ·exact fun ⟨v, h1, h2⟩ => ⟨v, h1, wpD_mono hk h2⟩
  ·exact fun h => wpS_mono (fun _ _ g => wpD_mono hk g) h
 | ⟨dst, op, some (t, want)⟩ :: r, objs, tm, K, K', hk, h => by
  simp only [wpD] at h ⊢
  revert h
  split
  ·refine fun h => ⟨fun e => ?_, fun e => wpD_mono hk (h.2 e)⟩
   have h1 := h.1 e
   revert h1
   split
   ·exact fun ⟨v, h1, h2⟩ => ⟨v, h1, wpD_mono hk h2⟩
   ·exact fun h => wpS_mono (fun _ _ g => wpD_mono hk g) h
  ·exact fun h => wpD_mono hk h
  ·exact fun h => h.elim
theorem thenK_mono {N N' : List OB → List AV → Prop} {K K' : Post} (hn : ∀ o t, N o t → N' o t) (hk : ∀ e o t, K e o t → K' e o t) : ∀ e o t, thenK N K e o t → thenK N' K' e o t := by
 intro e o t h
 cases e <;> first | exact hn _ _ h | exact hk _ _ _ h
theorem blkK_mono {id : Nat} {K K' : Post} (hk : ∀ e o t, K e o t → K' e o t) : ∀ e o t, blkK id K e o t → blkK id K' e o t := by
 intro e o t h
 cases e
 all_goals try exact hk _ _ _ h
 rename_i i
 unfold blkK at h ⊢
 simp only at h ⊢
 split at h
 ·rename_i g; rw [if_pos g]; exact hk _ _ _ h
 ·rename_i g; rw [if_neg g]; exact hk _ _ _ h
theorem wpC_mono : ∀ (c : SCode) {K K' : Post} {objs : List OB} {tm : List AV}, (∀ e o t, K e o t → K' e o t) → wpC P C c K objs tm → wpC P C c K' objs tm
 | .skip, _, _, _, _, hk, h => hk _ _ _ h
 | .reg l, _, _, _, _, hk, h => wpR_mono (fun _ _ g => hk _ _ _ g) h
 | .drw l k ap, _, _, _, _, hk, h => wpD_mono (fun _ _ g => ⟨g.1, wpR_mono (fun _ _ g => hk _ _ _ g) g.2⟩) h
 | .seq x y, _, _, _, _, hk, h => wpC_mono x (thenK_mono (fun _ _ g => wpC_mono y hk g) hk) h
 | .cond c x y, _, _, _, _, hk, h => by
  simp only [wpC] at h ⊢
  revert h
  split
  ·exact fun h => ⟨fun e => wpC_mono x hk (h.1 e), fun e => wpC_mono y hk (h.2 e)⟩
  ·exact fun h => h.elim
 | .blk id c, _, _, _, _, hk, h => wpC_mono c (blkK_mono hk) h
 | .loop c, _, _, _, _, hk, h => fun c hc => (h c hc).mono hk
 | .exit id, _, _, _, _, hk, h => hk _ _ _ h
 | .ret, _, _, _, _, hk, h => hk _ _ _ h
def cutF (P : Program) [Tabs P] (C : Cx) (J : List OB → List AV → Prop) (k : List IT) (F : Post) : Post := thenK J (cont P C F k)
variable {F : Post} {k : List IT} {objs : List OB} {tm : List AV}
theorem cutF_normal (J : List OB → List AV → Prop) : cutF P C J k F .normal objs tm = J objs tm := Eq.trans rfl rfl
theorem cutF_ret (J : List OB → List AV → Prop) : cutF P C J k F .ret objs tm = F .ret objs tm := cont_ret k
theorem rn_cut {x : SCode} (J : List OB → List AV → Prop) (h : run P C [.code x] objs tm (cutF P C J k F)) (hJ : ∀ o t, J o t → run P C k o t F) : run P C (.code x :: k) objs tm F :=
 wpC_mono x (fun e o t g => by
  cases e
  ·exact hJ _ _ g
  all_goals exact g) h
theorem kC_cut {x y : SCode} {t : Bool} (J : List OB → List AV → Prop) (h1 : t = true → run P C [.code x] objs tm (cutF P C J k F)) (h2 : t = false → run P C [.code y] objs tm (cutF P C J k F)) (hJ : ∀ o t, J o t → run P C k o t F) : kC P C (.b t) x y k objs tm F :=
 ⟨fun e => rn_cut J (h1 e) hJ, fun e => rn_cut J (h2 e) hJ⟩
end
end Go.Proofs.Ytkcaghhfnmeknaa.Sx
namespace Go.Proofs.Ytkcaghhfnmeknaa.Sx
open Go.RowKit
section
variable {P : Program} [Tabs P] {C : Cx} {F : Post} {k : List IT} {objs : List OB} {tm : List AV}
end
end Go.Proofs.Ytkcaghhfnmeknaa.Sx
namespace Go.Proofs.Ytkcaghhfnmeknaa
open List renaming replicate → z6
open Nat renaming reduceAdd → z7, reduceSub → z8, reduceLeDiff → q7, reduceLT → q8, reduceMul → q9, reduceEqDiff → j2
open Int renaming reduceToNat → j3, reduceAdd → j4, reduceSub → j5, reduceMul → j6, reduceNeg → j7, reduceLT → j8, reduceLE → j9, reduceEq → x0, reduceNe → x3
open Go.RowKit Sx
def isPrt (c : UInt8) : Bool := decide ((32 ≤ c.toNat ∧ c.toNat ≠ 127) ∨ c.toNat = 9)
def textB (l : List UInt8) : Bool := l.all isPrt
def tokN : List UInt8 → Nat
 | [] => 0
 | c :: t => if isTok c = true then tokN t + 1 else 0
def tokenB (l : List UInt8) : Bool := !l.isEmpty && l.all isTok
theorem tokN_le : ∀ l : List UInt8, tokN l ≤ l.length
 | [] => Nat.le_refl _
 | c :: t => by
  have := tokN_le t
  unfold tokN
  split <;> simp only [List.length_cons] <;> omega
theorem tokN_all : ∀ l : List UInt8, (tokN l = l.length) ↔ l.all isTok = true
 | [] => by simp [tokN]
 | c :: t => by
  have h := tokN_all t
  have h2 := tokN_le t
  unfold tokN
  by_cases hc : isTok c = true
  ·rw [if_pos hc, List.length_cons, List.all_cons, hc, Bool.true_and, ← h]; omega
  ·rw [if_neg hc, List.length_cons, List.all_cons]
   simp only [hc, Bool.false_and]
   constructor
   ·intro h3; omega
   ·intro h3; cases h3
theorem tok_at (s : List UInt8) (i : Nat) (h : i < s.length) : tokN (s.drop i) = if isTok s[i] = true then tokN (s.drop (i + 1)) + 1 else 0 := by
 rw [List.drop_eq_getElem_cons h, tokN]
section
variable [Tabs Try.prog] {objs : List OB} {K : List OB → AV → Prop}
theorem fByte_k (c : UInt8) (hk : K objs (.b (isPrt c))) : CallOk Try.prog 102 [.i .u8 c.toNat] objs K := by
 refine fn_rn is_fieldtext_IsByte rfl fun C _ => ?_
 unfold isPrt at hk
 by_cases c1 : (32 : Int) ≤ c.toNat
 ·by_cases c2 : ((c.toNat : Nat) : Int) = 127
  ·have c3 : ¬ ((c.toNat : Nat) : Int) = 9 := by omega
   rw [decide_eq_false (by omega)] at hk
   simp only [c2, c_fieldtext_IsByte, sxZ, evs, evp, setd, SV.ev, AV.flat, AV.one, AV.cells, resAs, resA, tupA, pub, pubs, AV.plain, plains, srcOf, splice, fillA, eqA, eqAs, z6, z7, z8, q7, q8, q9, j2, j3, j4, j5, j6, j7, j8, j9, x0, x3, reduceCtorEq, ↓reduceIte]
   exact hk
  ·rw [decide_eq_true (by omega)] at hk
   simp only [c1, c2, c_fieldtext_IsByte, sxZ, evs, evp, setd, SV.ev, AV.flat, AV.one, AV.cells, resAs, resA, tupA, pub, pubs, AV.plain, plains, srcOf, splice, fillA, eqA, eqAs, z6, z7, z8, q7, q8, q9, j2, j3, j4, j5, j6, j7, j8, j9, x0, x3, reduceCtorEq, ↓reduceIte]
   exact hk
 ·have e : decide ((32 ≤ c.toNat ∧ c.toNat ≠ 127) ∨ c.toNat = 9) = decide (((c.toNat : Nat) : Int) = 9) := by
   by_cases c3 : ((c.toNat : Nat) : Int) = 9
   ·rw [decide_eq_true c3, decide_eq_true (by omega)]
   ·rw [decide_eq_false c3, decide_eq_false (by omega)]
  rw [e] at hk
  simp only [c1, c_fieldtext_IsByte, sxZ, evs, evp, setd, SV.ev, AV.flat, AV.one, AV.cells, resAs, resA, tupA, pub, pubs, AV.plain, plains, srcOf, splice, fillA, eqA, eqAs, z6, z7, z8, q7, q8, q9, j2, j3, j4, j5, j6, j7, j8, j9, x0, x3, reduceCtorEq, ↓reduceIte]
  exact hk
set_option maxRecDepth 100000 in
theorem fText_k (s : List UInt8) (hs : s.length ≤ 9000000000000000000) (hk : K objs (.b (textB s))) : CallOk Try.prog 92 [.s s] objs K := by
 refine fn_rn is_fieldtext_IsText rfl fun C _ => ?_
 simp only [c_fieldtext_IsText, sxZ, evs, evp, setd, SV.ev, AV.flat, AV.one, AV.cells, resAs, resA, tupA, pub, pubs, AV.plain, plains, srcOf, splice, fillA, eqA, eqAs, z6, z7, z8, q7, q8, q9, j2, j3, j4, j5, j6, j7, j8, j9, x0, x3, reduceCtorEq, ↓reduceIte]
 refine rn_loop (fun n objs tm => ∃ i : Nat, i ≤ s.length ∧ n = s.length - i ∧ objs = [] ∧ (∀ j (h : j < s.length), j < i → isPrt s[j] = true) ∧ tm.length = 15 ∧ tm[0]? = some (.s s) ∧ tm[5]? = some (.i .i64 s.length) ∧ tm[6]? = some (.i .i64 i)) s.length ⟨0, Nat.zero_le _, rfl, rfl, fun j h h0 => absurd h0 (by omega), rfl, rfl, rfl, rfl⟩ ?_
 rintro n _ tm ⟨i, hi, rfl, rfl, hall, hlen, t0, t5, t6⟩
 by_cases hlt : (i : Int) < s.length
 ·have hlt' : i < s.length := by omega
  have hg := getD_get hlt'
  simp only [sxZ, evs, evp, setd, SV.ev, AV.flat, AV.one, AV.cells, resAs, resA, tupA, pub, pubs, AV.plain, plains, srcOf, splice, fillA, eqA, eqAs, z6, z7, z8, q7, q8, q9, j2, j3, j4, j5, j6, j7, j8, j9, x0, x3, reduceCtorEq, ↓reduceIte, List.getElem?_set, hlen, t0, t5, t6, hlt]
  refine ⟨by omega, ?_⟩
  rw [hg]
  refine kcall (fByte_k s[i] ?_)
  by_cases hd : isPrt s[i] = true
  ·simp only [hd, sxZ, evs, evp, setd, SV.ev, AV.flat, AV.one, AV.cells, resAs, resA, tupA, pub, pubs, AV.plain, plains, srcOf, splice, fillA, eqA, eqAs, z6, z7, z8, q7, q8, q9, j2, j3, j4, j5, j6, j7, j8, j9, x0, x3, reduceCtorEq, ↓reduceIte, List.getElem?_set, hlen, t0, t5, t6]
   refine ⟨by omega, s.length - (i + 1), by omega, i + 1, by omega, rfl, ?_, rfl⟩
   intro j hj hji
   rcases Nat.lt_or_ge j i with h1 | h1
   ·exact hall j hj h1
   ·obtain rfl : j = i := by omega
    exact hd
  ·simp only [Bool.not_eq_true] at hd
   unfold textB at hk
   rw [all_not hlt' hd] at hk
   simp only [hd, sxZ, evs, evp, setd, SV.ev, AV.flat, AV.one, AV.cells, resAs, resA, tupA, pub, pubs, AV.plain, plains, srcOf, splice, fillA, eqA, eqAs, z6, z7, z8, q7, q8, q9, j2, j3, j4, j5, j6, j7, j8, j9, x0, x3, reduceCtorEq, ↓reduceIte, List.getElem?_set, hlen, t0, t5, t6]
   exact hk
 ·obtain rfl : i = s.length := by omega
  unfold textB at hk
  rw [all_of fun j h => hall j h h] at hk
  simp only [sxZ, evs, evp, setd, SV.ev, AV.flat, AV.one, AV.cells, resAs, resA, tupA, pub, pubs, AV.plain, plains, srcOf, splice, fillA, eqA, eqAs, z6, z7, z8, q7, q8, q9, j2, j3, j4, j5, j6, j7, j8, j9, x0, x3, reduceCtorEq, ↓reduceIte, List.getElem?_set, hlen, t0, t5, t6, hlt]
  exact hk
set_option maxRecDepth 100000 in
theorem fTokenEnd_k (s : List UInt8) (a : Nat) (ha : a ≤ s.length) (hs : s.length ≤ 9000000000000000000) (hk : K objs (.i .i64 ((a + tokN (s.drop a) : Nat) : Int))) : CallOk Try.prog 47 [.s s, .i .i64 (a : Nat)] objs K := by
 refine fn_rn is_fieldtext_TokenEnd rfl fun C _ => ?_
 simp only [c_fieldtext_TokenEnd, sxZ, evs, evp, setd, SV.ev, AV.flat, AV.one, AV.cells, resAs, resA, tupA, pub, pubs, AV.plain, plains, srcOf, splice, fillA, eqA, eqAs, z6, z7, z8, q7, q8, q9, j2, j3, j4, j5, j6, j7, j8, j9, x0, x3, reduceCtorEq, ↓reduceIte]
 refine rn_loop (fun n objs tm => ∃ i : Nat, i ≤ s.length ∧ n = s.length - i ∧ objs = [] ∧ a + tokN (s.drop a) = i + tokN (s.drop i) ∧ tm.length = 18 ∧ tm[0]? = some (.s s) ∧ tm[1]? = some (.i .i64 i)) (s.length - a) ⟨a, ha, rfl, rfl, rfl, rfl, rfl, rfl⟩ ?_
 rintro n _ tm ⟨i, hi, rfl, rfl, hr, hlen, t0, t1⟩
 by_cases hlt : (i : Int) < s.length
 ·have hlt' : i < s.length := by omega
  have hg := getD_get hlt'
  have hrn := tok_at s i hlt'
  simp only [sxZ, evs, evp, setd, SV.ev, AV.flat, AV.one, AV.cells, resAs, resA, tupA, pub, pubs, AV.plain, plains, srcOf, splice, fillA, eqA, eqAs, z6, z7, z8, q7, q8, q9, j2, j3, j4, j5, j6, j7, j8, j9, x0, x3, reduceCtorEq, ↓reduceIte, List.getElem?_set, hlen, t0, t1, hlt]
  refine ⟨by omega, ?_⟩
  rw [hg]
  refine kcall (aTok_k s[i] ?_)
  by_cases hd : isTok s[i] = true
  ·rw [if_pos hd] at hrn
   simp only [hd, sxZ, evs, evp, setd, SV.ev, AV.flat, AV.one, AV.cells, resAs, resA, tupA, pub, pubs, AV.plain, plains, srcOf, splice, fillA, eqA, eqAs, z6, z7, z8, q7, q8, q9, j2, j3, j4, j5, j6, j7, j8, j9, x0, x3, reduceCtorEq, ↓reduceIte, List.getElem?_set, hlen, t0, t1]
   exact ⟨⟨by omega, by omega⟩, s.length - (i + 1), by omega, i + 1, by omega, rfl, by omega, rfl⟩
  ·rw [if_neg hd] at hrn
   simp only [Bool.not_eq_true] at hd
   simp only [hd, sxZ, evs, evp, setd, SV.ev, AV.flat, AV.one, AV.cells, resAs, resA, tupA, pub, pubs, AV.plain, plains, srcOf, splice, fillA, eqA, eqAs, z6, z7, z8, q7, q8, q9, j2, j3, j4, j5, j6, j7, j8, j9, x0, x3, reduceCtorEq, ↓reduceIte, List.getElem?_set, hlen, t0, t1]
   rw [hr, hrn] at hk
   exact hk
 ·obtain rfl : i = s.length := by omega
  have he : tokN (s.drop s.length) = 0 := by rw [List.drop_length]; rfl
  simp only [sxZ, evs, evp, setd, SV.ev, AV.flat, AV.one, AV.cells, resAs, resA, tupA, pub, pubs, AV.plain, plains, srcOf, splice, fillA, eqA, eqAs, z6, z7, z8, q7, q8, q9, j2, j3, j4, j5, j6, j7, j8, j9, x0, x3, reduceCtorEq, ↓reduceIte, List.getElem?_set, hlen, t0, t1, hlt]
  rw [hr, he] at hk
  exact hk
theorem fToken_k (s : List UInt8) (hs : s.length ≤ 9000000000000000000) (hk : K objs (.b (tokenB s))) : CallOk Try.prog 81 [.s s] objs K := by
 refine fn_rn is_fieldtext_IsToken rfl fun C _ => ?_
 unfold tokenB at hk
 by_cases c0 : s = []
 ·subst c0
  simp only [c_fieldtext_IsToken, sxZ, evs, evp, setd, SV.ev, AV.flat, AV.one, AV.cells, resAs, resA, tupA, pub, pubs, AV.plain, plains, srcOf, splice, fillA, eqA, eqAs, z6, z7, z8, q7, q8, q9, j2, j3, j4, j5, j6, j7, j8, j9, x0, x3, reduceCtorEq, ↓reduceIte]
  exact hk
 ·have he : s.isEmpty = false := by cases s <;> simp_all
  rw [he] at hk
  simp only [c0, c_fieldtext_IsToken, sxZ, evs, evp, setd, SV.ev, AV.flat, AV.one, AV.cells, resAs, resA, tupA, pub, pubs, AV.plain, plains, srcOf, splice, fillA, eqA, eqAs, z6, z7, z8, q7, q8, q9, j2, j3, j4, j5, j6, j7, j8, j9, x0, x3, reduceCtorEq, ↓reduceIte]
  refine kcall (fTokenEnd_k s 0 (Nat.zero_le _) hs ?_)
  rw [List.drop_zero, Nat.zero_add]
  have h2 := tokN_all s
  have e : decide (((tokN s : Nat) : Int) = s.length) = (!false && s.all isTok) := by
   cases ha : s.all isTok with
   | true => rw [decide_eq_true (by rw [h2.2 ha])]; rfl
   | false =>
    rw [decide_eq_false (fun h => by
     have h3 := h2.1 (by omega)
     rw [ha] at h3; cases h3)]; rfl
  simp only [sxZ, evs, evp, setd, SV.ev, AV.flat, AV.one, AV.cells, resAs, resA, tupA, pub, pubs, AV.plain, plains, srcOf, splice, fillA, eqA, eqAs, z6, z7, z8, q7, q8, q9, j2, j3, j4, j5, j6, j7, j8, j9, x0, x3, reduceCtorEq, ↓reduceIte]
  rw [e]
  exact hk
end
end Go.Proofs.Ytkcaghhfnmeknaa
namespace Go.Proofs.Ytkcaghhfnmeknaa
open Go.RowKit Sx
def blkN : List UInt8 → Nat
 | [] => 0
 | c :: t => if blank c = true then blkN t + 1 else 0
theorem blkN_le : ∀ l : List UInt8, blkN l ≤ l.length
 | [] => Nat.le_refl _
 | c :: t => by
  have := blkN_le t
  unfold blkN
  split <;> simp only [List.length_cons] <;> omega
theorem blk_at (s : List UInt8) (i : Nat) (h : i < s.length) : blkN (s.drop i) = if blank s[i] = true then blkN (s.drop (i + 1)) + 1 else 0 := by
 rw [List.drop_eq_getElem_cons h, blkN]
def skipL (l : List UInt8) : List UInt8 := l.drop (blkN l)
theorem skipL_eq (l : List UInt8) : skipL l = l.dropWhile blank := by
 unfold skipL
 induction l with
 | nil => rfl
 | cons c t ih =>
  rw [List.dropWhile_cons, blkN]
  split
  ·exact ih
  ·rfl
def quoE : List UInt8 → Option (List UInt8 × Nat)
 | [] => none
 | c :: t =>
  if c = 34 then some ([], 1)
  else if c = 92 then match t with
   | [] => none
   | d :: t' => if isPrt d = true then (quoE t').map fun p => (d :: p.1, p.2 + 2) else none
  else if isPrt c = true then (quoE t).map fun p => (c :: p.1, p.2 + 1) else none
theorem quoE_one (c : UInt8) : quoE [c] = if c = 34 then some ([], 1) else if c = 92 then none else if isPrt c = true then none else none := by
 unfold quoE
 split
 ·rfl
 ·split
  ·rfl
  ·rfl
theorem quoE_two (c d : UInt8) (t : List UInt8) : quoE (c :: d :: t) = if c = 34 then some ([], 1) else if c = 92 then (if isPrt d = true then (quoE t).map fun p => (d :: p.1, p.2 + 2) else none) else if isPrt c = true then (quoE (d :: t)).map fun p => (c :: p.1, p.2 + 1) else none := by
 conv => lhs; unfold quoE
theorem quoE_le : ∀ (n : Nat) (l x : List UInt8) (k : Nat), l.length ≤ n → quoE l = some (x, k) → k ≤ l.length ∧ 1 ≤ k ∧ x.length + 1 ≤ k
 | n, [], x, k, hn, h => by simp [quoE] at h
 | n, c :: t, x, k, hn, h => by
  unfold quoE at h
  split at h
  ·injection h with h; injection h with h1 h2; subst h1 h2; simp
  ·split at h
   ·cases t with
    | nil => cases h
    | cons d t' =>
     simp only at h
     split at h
     ·obtain ⟨p, hp, he⟩ := Option.map_eq_some_iff.1 h
      injection he with h1 h2
      subst h1 h2
      match n, hn with
      | n + 1, hn =>
       have := quoE_le n t' p.1 p.2 (by simp at hn; omega) hp
       simp only [List.length_cons]; omega
     ·cases h
   ·split at h
    ·obtain ⟨p, hp, he⟩ := Option.map_eq_some_iff.1 h
     injection he with h1 h2
     subst h1 h2
     match n, hn with
     | n + 1, hn =>
      have := quoE_le n t p.1 p.2 (by simp at hn; omega) hp
      simp only [List.length_cons]; omega
    ·cases h
def wordE (l : List UInt8) : Option (List UInt8 × Nat) :=
 if l.head? = some 34 then (quoE l.tail).map fun p => (p.1, p.2 + 1)
 else if tokN l = 0 then none else some (l.take (tokN l), tokN l)
theorem wordE_le {l x : List UInt8} {k : Nat} (h : wordE l = some (x, k)) : k ≤ l.length ∧ 1 ≤ k ∧ x.length ≤ k := by
 unfold wordE at h
 split at h
 ·obtain ⟨p, hp, he⟩ := Option.map_eq_some_iff.1 h
  injection he with h1 h2
  subst h1 h2
  have := quoE_le _ _ p.1 p.2 (Nat.le_refl _) hp
  rename_i hh
  cases l with
  | nil => cases hh
  | cons c t => simp only [List.tail_cons, List.length_cons] at this ⊢; omega
 ·split at h
  ·cases h
  ·injection h with h; injection h with h1 h2
   subst h1 h2
   have := tokN_le l
   rw [List.length_take]; omega
end Go.Proofs.Ytkcaghhfnmeknaa
namespace Go.Proofs.Ytkcaghhfnmeknaa
open Go.RowKit Sx
section
variable [Tabs Try.prog] {objs : List OB} {K : List OB → AV → Prop}
theorem hLower_k (s : List UInt8) (hs : s.length ≤ 140737488351232) (hk : K objs (.s (lowL s))) : CallOk Try.prog 48 [.s s] objs K :=
 conv (vs := [.string (S s)]) rfl rfl (fun w => Lower_any (S s) w (by rw [S_size]; exact hs)) hk
end
end Go.Proofs.Ytkcaghhfnmeknaa
namespace Go.Proofs.Ytkcaghhfnmeknaa
open Go.RowKit Sx
end Go.Proofs.Ytkcaghhfnmeknaa
namespace Go.Proofs.Ytkcaghhfnmeknaa
open Go.RowKit Sx
section
variable [Tabs Try.prog] {objs : List OB} {K : List OB → AV → Prop}
end
end Go.Proofs.Ytkcaghhfnmeknaa
namespace Go.Proofs.Ytkcaghhfnmeknaa
open Go.RowKit Sx
section
variable [Tabs Try.prog] {objs : List OB} {K : List OB → AV → Prop}
end
end Go.Proofs.Ytkcaghhfnmeknaa
namespace Go.Proofs.Ytkcaghhfnmeknaa
open List renaming replicate → z6
open Nat renaming reduceAdd → z7, reduceSub → z8, reduceLeDiff → q7, reduceLT → q8, reduceMul → q9, reduceEqDiff → j2
open Int renaming reduceToNat → j3, reduceAdd → j4, reduceSub → j5, reduceMul → j6, reduceNeg → j7, reduceLT → j8, reduceLE → j9, reduceEq → x0, reduceNe → x3
open Go.RowKit Sx
set_option maxHeartbeats 1000000 in
set_option maxRecDepth 100000 in
theorem copyCheck_used (b : Nat) (w : World) (h0 : w.cell? ⟨b, 0, none⟩ = some (.pointer (some ⟨b, 0, none⟩))) :
  Calls Try.prog 98 #[.pointer (some ⟨b, 0, none⟩)] w fun e w' => e = .returned (.tuple #[]) ∧ w' = w := by
 obtain ⟨j, hj, _⟩ := Option.map_eq_some_iff.1 (show ((Try.prog).info? 90).map (·.size) = some 2 by kernel_rfl)
 have t1 : (Try.prog).underlying 88 = some (.pointer 90) := by kernel_rfl
 go_enter Try.func98, Try.ntmps98
 go_wp2
 rw [Lib.run_neq_ptr_same w _ t1 hj]
 go_wp2
 go_end0
 exact ⟨rfl, rfl⟩
set_option maxHeartbeats 1000000 in
set_option maxRecDepth 100000 in
theorem copyCheck_fresh (T : TypeId) (b : Nat) (w : World) (h0 : w.cell? ⟨b, 0, none⟩ = some (.pointer none)) (hsh : w.shape? b = some (T, 2)) (hfz : w.frozen? ⟨b, 0, none⟩ = false) (hT : liesAt Try.prog (Try.prog).depth T (2 / (Try.prog).cellsOf T) 0 90 1 = true) :
  Calls Try.prog 98 #[.pointer (some ⟨b, 0, none⟩)] w fun e w' => e = .returned (.tuple #[]) ∧ w' = w.setCell ⟨b, 0, none⟩ (.pointer (some ⟨b, 0, none⟩)) := by
 obtain ⟨j, hj, hjs⟩ := Option.map_eq_some_iff.1 (show ((Try.prog).info? 90).map (·.size) = some 2 by kernel_rfl)
 have t1 : (Try.prog).underlying 88 = some (.pointer 90) := by kernel_rfl
 have t2 : (Try.prog).underlying 111 = some .unsafePointer := by kernel_rfl
 go_enter Try.func98, Try.ntmps98
 go_wp2
 rw [Lib.run_to_unsafe w ⟨b, 0, none⟩ t1 t2 hj (by rw [hjs]; decide) hsh (Nat.zero_lt_succ 1)]
 simp only [Result.andThen]
 rw [Oper.upon_value]
 go_wp2
 rw [run_callFunc_extern Try.func114 (by kernel_rfl) (by kernel_rfl) (by kernel_rfl) (e := Extern.AbiNoEscape.same) (by kernel_rfl)]
 rw [Lib.run_noEscape]
 simp only [Result.andThen]
 rw [Oper.upon_value]
 go_wp2
 rw [Lib.run_from_unsafe w ⟨b, 0, none⟩ t2 t1 hj hsh hT]
 simp only [Result.andThen]
 rw [Oper.upon_value]
 go_wp2
 go_end0
 exact ⟨rfl, rfl⟩
theorem get_lt {α : Type} {l : List α} {b : Nat} {x : α} (h : l[b]? = some x) : b < l.length := by
 rcases Nat.lt_or_ge b l.length with h0 | h0
 ·exact h0
 ·rw [List.getElem?_eq_none h0] at h; cases h
theorem set_same {α : Type} {l : List α} {b : Nat} {x : α} (h : l[b]? = some x) : l.set b x = l := by
 apply List.ext_getElem?
 intro i
 rw [List.getElem?_set]
 split
 ·rename_i e; subst e; rw [if_pos (get_lt h), h]
 ·rfl
theorem MemOk.kill {objs : List OB} {G : Gh} {I : Imm} {w w' : World} (h : MemOk G I objs w) (r : Nat) {row : Option Nat} (hrow : ∀ k, row = some k → G.own r = some k) (hg : w.grownBy w' row) : MemOk G I (objs.set r .dead) w' := by
 have hne : ∀ b g, b ≠ r → G.own b = some g → some g ≠ row := fun b g hb h1 e => hb (h.inj b r g h1 (hrow g e.symm))
 have hold : ∀ (b : Nat) ob, (objs.set r .dead)[b]? = some ob → (ob = .dead ∨ (b ≠ r ∧ objs[b]? = some ob)) := by
  intro b ob hb
  rw [List.getElem?_set] at hb
  split at hb
  ·split at hb
   ·injection hb with hb; exact .inl hb.symm
   ·cases hb
  ·rename_i e; exact .inr ⟨fun e' => e e'.symm, hb⟩
 refine ⟨fun g o v hi => ?_, fun b T cs hb => ?_, fun b E sz gen n xs hb => ?_, h.inj, fun b g hb => Nat.lt_of_lt_of_le (h.lt b g hb) hg.size, h.apart, fun b hb => h.fresh b (by simpa using hb)⟩
 ·rw [← h.imm g o v hi]
  exact cell_block (hg.block g (World.block_lt_of_cell? (h := h.imm g o v hi)) (fun e => h.apart r g o v (hrow g e.symm) hi))
 ·rcases hold b _ hb with h1 | ⟨h1, h2⟩
  ·cases h1
  ·obtain ⟨g, ys, k1, k2, k3⟩ := h.box b T cs h2
   exact ⟨g, ys, k1, (hg.block g (h.lt b g (own_of_blk k1)) (hne b g h1 (own_of_blk k1))).trans k2, k3⟩
 ·rcases hold b _ hb with h1 | ⟨h1, h2⟩
  ·cases h1
  ·obtain ⟨v, ys, k1, k2, k3, k4, k5⟩ := h.row b E sz gen n xs h2
   refine ⟨v, ys, k1, World.ownsRow.kept k2 hg ?_, k3, k4, k5⟩
   rcases hv : v.ownBlock with _ | g
   ·exact .inl rfl
   ·have := hne b g h1 (by rw [own_of_cur k5 k1, hv])
    first | exact .inr this | exact .inr (fun e => this e.symm)
section
variable [Tabs Try.prog] {objs : List OB} {K : List OB → AV → Prop}
def BT (T : TypeId) : Prop := liesAt Try.prog (Try.prog).depth T (2 / (Try.prog).cellsOf T) 0 90 1 = true
theorem copyCheck_k (T : TypeId) (b : Nat) (x y : AV) (hT : BT T) (hb : objs[b]? = some (.box T [x, y])) (hx : x = .o (.pointer none) ∨ x = .p b 0) (hk : K (objs.set b (.box T [.p b 0, y])) (.tup [])) : CallOk Try.prog 98 [.p b 0] objs K := by
 intro C _ G I w hin hm ys hd
 simp only [Dens] at hd
 obtain ⟨v, _, rfl, hv, rfl⟩ := hd
 simp only [Den] at hv
 obtain ⟨g, hg, rfl⟩ := hv
 obtain ⟨g', zs, k1, k2, k3, k4⟩ := hm.box b T _ hb
 obtain rfl : g = g' := Option.some.inj (hg.symm.trans k1)
 simp only [Dens] at k3
 obtain ⟨z1, _, rfl, d1, z2, _, rfl, d2, rfl⟩ := k3
 have hcell : w.cell? ⟨g, 0, none⟩ = some z1 := by rw [cell_of_row w g 0 _ T (0, 0) k2]; rfl
 rcases hx with rfl | rfl
 ·simp only [Den] at d1; subst d1
  refine (copyCheck_fresh T g w hcell (by simp [World.shape?, k2]) (by simp [World.frozen?, k2]) hT).mono ?_
  rintro e w' ⟨rfl, rfl⟩
  obtain ⟨s1, s2⟩ := setbox hin hm b g 0 T [.o (.pointer none), y] [.p b 0] [.pointer (some ⟨g, 0, none⟩)] hb hg (Dens.cons (by simp only [Den]; exact ⟨g, hg, rfl⟩) Dens.nil) (by simp [Value.oneCell']) (by simp)
  exact ⟨_, _, .tup [], G, I, rfl, hk, Gh.le.refl G, Imm.le.refl I, s1, s2, by simp only [Den]; exact ⟨[], rfl, Dens.nil⟩⟩
 ·simp only [Den] at d1
  obtain ⟨g2, e2, rfl⟩ := d1
  obtain rfl : g = g2 := Option.some.inj (hg.symm.trans e2)
  refine (copyCheck_used g w hcell).mono ?_
  rintro e w' ⟨rfl, rfl⟩
  rw [set_same hb] at hk
  exact ⟨_, objs, .tup [], G, I, rfl, hk, Gh.le.refl G, Imm.le.refl I, hin, hm, by simp only [Den]; exact ⟨[], rfl, Dens.nil⟩⟩
end
theorem drew_grown (w : World) : w.grownBy w.drew none := by
 have h := Below.drew (Below.refl w.heap.size w)
 exact ⟨h.os, h.tape, h.output, h.size, fun k hk _ => h.block k hk⟩
theorem grown_freeze {w w' : World} (h : w.grownBy w' none) (g n : Nat) : w.grownBy (w'.freeze ⟨g, 0, none⟩ n) (some g) := by
 unfold World.freeze
 split
 ·exact ⟨h.os, h.tape, h.output, h.size, fun k hk _ => h.block k hk (by simp)⟩
 ·refine ⟨h.os, h.tape, h.output, by simpa using h.size, fun k hk hne => ?_⟩
  rw [Array.getElem?_modify, if_neg (by rintro rfl; exact hne rfl)]
  exact h.block k hk (by simp)
theorem grown_alloc {w w' : World} (h : w.grownBy w' none) (o : Obj) (row : Option Nat) : w.grownBy (w'.alloc o) row :=
 ⟨h.os, h.tape, h.output, by simp; have := h.size; omega, fun k hk _ => (Below.heap_alloc w' o k (Nat.lt_of_lt_of_le hk h.size)).trans (h.block k hk (by simp))⟩
set_option maxHeartbeats 1000000 in
set_option maxRecDepth 100000 in
theorem bString_full (b g cap : Nat) (l : List UInt8) (p : Value) (cur : Array Value) (T : TypeId) (w : World) (h0 : l ≠ []) (hbk : w.heap[b]? = some (.cells #[p, .slice (some ⟨g, 0, none⟩) l.length cap] T (0, 0))) (hg : w.heap[g]? = some (.cells cur 5 (0, 0)))
  (hnc : l.length ≤ cap) (hcm : cap ≤ maxLen) (hcs : cur.size = cap) (hcell : ∀ j x, l[j]? = some x → w.cell? ((⟨g, 0, none⟩ : Addr).add j) = some (.int .u8 x.toNat)) :
  Calls Try.prog 76 #[.pointer (some ⟨b, 0, none⟩)] w fun e w' => e = .returned (.string ⟨l.toArray⟩) ∧ w.grownBy w' (some g) := by
 have hl0 : l.length ≠ 0 := by simpa using h0
 have c1 : w.drew.cell? ⟨b, 1, none⟩ = some (.slice (some ⟨g, 0, none⟩) l.length cap) := by
  have : w.drew.heap[b]? = some (.cells #[p, .slice (some ⟨g, 0, none⟩) l.length cap] T (0, 0)) := hbk
  rw [Lib.cell_of_heap this]; rfl
 have hSD : (Builtin.unsafeSliceData_ #[80] 105 #[.slice (some ⟨g, 0, none⟩) l.length cap]).run Try.prog w.drew = .ok (.pointer (some ⟨g, 0, none⟩)) w.drew :=
  Lib.run_unsafeSliceData_row _ _ _ _ _ _ (by omega)
 have hUS : (Builtin.unsafeString_ #[105, 3] 9 #[.pointer (some ⟨g, 0, none⟩), .int .i64 l.length]).run Try.prog w.drew = .ok (.string ⟨l.toArray⟩) (w.drew.freeze ⟨g, 0, none⟩ l.length) := by
  refine Lib.run_unsafeString_row w.drew _ _ _ 5 (by kernel_rfl) (by kernel_rfl) g cur.size (by have hg' : w.drew.heap[g]? = some (.cells cur 5 (0, 0)) := hg; simp [World.shape?, hg']) l h0 (by omega) (by unfold maxLen at hcm; omega) ?_
  intro j x hx
  exact hcell j x hx
 clear hl0
 have mixed : (Try.prog).follows .mixedOrders = true := by kernel_rfl
 go_enter Try.func76, Try.ntmps76
 go_wp2
 go_region_o
 all_goals (go_wp2; go_ret; exact ⟨rfl, grown_freeze (drew_grown w) g _⟩)
set_option maxHeartbeats 1000000 in
set_option maxRecDepth 100000 in
theorem bString_nil (b : Nat) (p : Value) (T : TypeId) (w : World) (hbk : w.heap[b]? = some (.cells #[p, .slice none 0 0] T (0, 0))) :
  Calls Try.prog 76 #[.pointer (some ⟨b, 0, none⟩)] w fun e w' => e = .returned (.string ⟨#[]⟩) ∧ w.grownBy w' none := by
 have hUS : ∀ (W : World) (q : Option Addr), (Builtin.unsafeString_ #[105, 3] 9 #[.pointer q, .int .i64 0]).run Try.prog W = .ok (.string .empty) W := fun W q => Lib.run_unsafeString_none W _ _ _ q
 have c1 : w.drew.cell? ⟨b, 1, none⟩ = some (.slice none 0 0) := by
  have : w.drew.heap[b]? = some (.cells #[p, .slice none 0 0] T (0, 0)) := hbk
  rw [Lib.cell_of_heap this]; rfl
 have hSD : (Builtin.unsafeSliceData_ #[80] 105 #[.slice none 0 0]).run Try.prog w.drew = .ok (.pointer none) w.drew := rfl
 have mixed : (Try.prog).follows .mixedOrders = true := by kernel_rfl
 go_enter Try.func76, Try.ntmps76
 go_wp2
 go_region_o
 all_goals (go_wp2; go_ret; exact ⟨rfl, drew_grown w⟩)
set_option maxHeartbeats 1000000 in
set_option maxRecDepth 100000 in
theorem bString_noroom (b g : Nat) (p : Value) (cur : Array Value) (T : TypeId) (w : World) (hbk : w.heap[b]? = some (.cells #[p, .slice (some ⟨g, 0, none⟩) 0 0] T (0, 0))) (hg : w.heap[g]? = some (.cells cur 5 (0, 0))) :
  Calls Try.prog 76 #[.pointer (some ⟨b, 0, none⟩)] w fun e w' => e = .returned (.string ⟨#[]⟩) ∧ w.grownBy w' (some g) := by
 have hUS : ∀ (W : World) (q : Option Addr), (Builtin.unsafeString_ #[105, 3] 9 #[.pointer q, .int .i64 0]).run Try.prog W = .ok (.string .empty) W := fun W q => Lib.run_unsafeString_none W _ _ _ q
 have hlt : b < w.heap.size := by
  rcases Nat.lt_or_ge b w.heap.size with h' | h'
  ·exact h'
  ·simp [Array.getElem?_eq_none h'] at hbk
 have c1 : w.drew.cell? ⟨b, 1, none⟩ = some (.slice (some ⟨g, 0, none⟩) 0 0) := by
  have : w.drew.heap[b]? = some (.cells #[p, .slice (some ⟨g, 0, none⟩) 0 0] T (0, 0)) := hbk
  rw [Lib.cell_of_heap this]; rfl
 have hSD : (Builtin.unsafeSliceData_ #[80] 105 #[.slice (some ⟨g, 0, none⟩) 0 0]).run Try.prog w.drew = .ok (.pointer (some ⟨w.drew.heap.size, 0, none⟩)) (w.drew.alloc (.view ⟨g, 0, none⟩ 5)) :=
  Lib.run_unsafeSliceData_zero w.drew _ _ 5 (by kernel_rfl) ⟨g, 0, none⟩ 0 (5, cur.size) (by have hg' : w.drew.heap[g]? = some (.cells cur 5 (0, 0)) := hg; simp [World.shape?, hg'])
 have c2 : (w.drew.alloc (.view ⟨g, 0, none⟩ 5)).cell? ⟨b, 1, none⟩ = some (.slice (some ⟨g, 0, none⟩) 0 0) := by
  have : (w.drew.alloc (.view ⟨g, 0, none⟩ 5)).heap[b]? = _ := (Lib.alloc_old w.drew _ b hlt).trans hbk
  rw [Lib.cell_of_heap this]; rfl
 have c3 : (w.alloc (.view ⟨g, 0, none⟩ 5)).drew.cell? ⟨b, 1, none⟩ = some (.slice (some ⟨g, 0, none⟩) 0 0) := c2
 have c0 : w.cell? ⟨b, 1, none⟩ = some (.slice (some ⟨g, 0, none⟩) 0 0) := c1
 have mixed : (Try.prog).follows .mixedOrders = true := by kernel_rfl
 go_enter Try.func76, Try.ntmps76
 go_wp2
 go_region_o
 all_goals (go_wp2; go_ret; exact ⟨rfl, grown_alloc (drew_grown w) _ _⟩)
set_option maxHeartbeats 1000000 in
set_option maxRecDepth 100000 in
theorem bString_room (b g cap : Nat) (p : Value) (T : TypeId) (w : World) (hc0 : cap ≠ 0) (hbk : w.heap[b]? = some (.cells #[p, .slice (some ⟨g, 0, none⟩) 0 cap] T (0, 0))) :
  Calls Try.prog 76 #[.pointer (some ⟨b, 0, none⟩)] w fun e w' => e = .returned (.string ⟨#[]⟩) ∧ w.grownBy w' none := by
 have hUS : ∀ (W : World) (q : Option Addr), (Builtin.unsafeString_ #[105, 3] 9 #[.pointer q, .int .i64 0]).run Try.prog W = .ok (.string .empty) W := fun W q => Lib.run_unsafeString_none W _ _ _ q
 have c1 : w.drew.cell? ⟨b, 1, none⟩ = some (.slice (some ⟨g, 0, none⟩) 0 cap) := by
  have : w.drew.heap[b]? = some (.cells #[p, .slice (some ⟨g, 0, none⟩) 0 cap] T (0, 0)) := hbk
  rw [Lib.cell_of_heap this]; rfl
 have hSD : (Builtin.unsafeSliceData_ #[80] 105 #[.slice (some ⟨g, 0, none⟩) 0 cap]).run Try.prog w.drew = .ok (.pointer (some ⟨g, 0, none⟩)) w.drew :=
  Lib.run_unsafeSliceData_row _ _ _ _ _ _ hc0
 clear hc0
 have mixed : (Try.prog).follows .mixedOrders = true := by kernel_rfl
 go_enter Try.func76, Try.ntmps76
 go_wp2
 go_region_o
 all_goals (go_wp2; go_ret; exact ⟨rfl, drew_grown w⟩)
theorem ownsRow_grown {w w' : World} (h : w.grownBy w' none) (row : Option Nat) : w.grownBy w' row := ⟨h.os, h.tape, h.output, h.size, fun k hk _ => h.block k hk (by simp)⟩
def BldIs (objs : List OB) (b : Nat) (T : TypeId) (l : List UInt8) : Prop :=
 (objs[b]? = some (.box T [.o (.pointer none), .nil]) ∧ l = []) ∨ ∃ r gen, objs[b]? = some (.box T [.p b 0, .orow r gen]) ∧ objs[r]? = some (.orow 5 1 gen l.length (byA l))
def rowOf (objs : List OB) (b : Nat) : Option Nat :=
 match objs[b]? with
 | some (.box _ [_, .orow r _]) => some r
 | _ => none
def Kept (objs : List OB) (b : Nat) (objs' : List OB) : Prop := objs.length ≤ objs'.length ∧ (∀ (j : Nat) ob, objs[j]? = some ob → j ≠ b → rowOf objs b ≠ some j → objs'[j]? = some ob ∧ rowOf objs' b ≠ some j)
theorem Kept.refl (objs : List OB) (b : Nat) : Kept objs b objs := ⟨Nat.le_refl _, fun j ob h _ h2 => ⟨h, h2⟩⟩
theorem Kept.trans {o1 o2 o3 : List OB} {b : Nat} (h : Kept o1 b o2) (k : Kept o2 b o3) : Kept o1 b o3 :=
 ⟨Nat.le_trans h.1 k.1, fun j ob h1 h2 h3 => by
  obtain ⟨a1, a2⟩ := h.2 j ob h1 h2 h3
  exact k.2 j ob a1 h2 a2⟩
theorem BldIs.lt {objs : List OB} {b : Nat} {T : TypeId} {l : List UInt8} (h : BldIs objs b T l) : b < objs.length ∧ ∀ r, rowOf objs b = some r → r < objs.length := by
 rcases h with ⟨h, _⟩ | ⟨r, gen, h, h2⟩
 ·refine ⟨get_lt h, fun r hr => ?_⟩
  unfold rowOf at hr; rw [h] at hr; cases hr
 ·refine ⟨get_lt h, fun r' hr => ?_⟩
  unfold rowOf at hr; rw [h] at hr; injection hr with hr; subst hr; exact get_lt h2
theorem BldIs.app {objs : List OB} {b : Nat} {T : TypeId} {l : List UInt8} (h : BldIs objs b T l) (more : List OB) : BldIs (objs ++ more) b T l ∧ rowOf (objs ++ more) b = rowOf objs b := by
 have hlt := h.lt.1
 have e : (objs ++ more)[b]? = objs[b]? := List.getElem?_append_left hlt
 refine ⟨?_, by unfold rowOf; rw [e]⟩
 rcases h with ⟨h, h2⟩ | ⟨r, gen, h, h2⟩
 ·exact .inl ⟨by rw [e]; exact h, h2⟩
 ·exact .inr ⟨r, gen, by rw [e]; exact h, by rw [List.getElem?_append_left (get_lt h2)]; exact h2⟩
theorem Kept.drop {objs more objs' : List OB} {b : Nat} {T : TypeId} {l : List UInt8} (h : BldIs objs b T l) (k : Kept (objs ++ more) b objs') : Kept objs b objs' := by
 refine ⟨by have := k.1; simp at this; omega, fun j ob h1 h2 h3 => k.2 j ob (by rw [List.getElem?_append_left (get_lt h1)]; exact h1) h2 (by rw [(h.app more).2]; exact h3)⟩
theorem byA_append (a b : List UInt8) : byA (a ++ b) = byA a ++ byA b := by simp [byA]
section
variable [Tabs Try.prog] {objs : List OB} {K : List OB → AV → Prop}
set_option maxRecDepth 100000 in
theorem bWrite_k (T : TypeId) (b : Nat) (l0 l : List UInt8) (hT : BT T) (hb : BldIs objs b T l0) (hl : l0.length + l.length ≤ 140737488355328) (hk : ∀ objs', BldIs objs' b T (l0 ++ l) → Kept objs b objs' → K objs' (.tup [.i .i64 l.length, .o .nilIface])) :
  CallOk Try.prog 75 [.p b 0, .s l] objs K := by
 rcases hb with ⟨hb, rfl⟩ | ⟨r, gen, hb, hr⟩
 ·have hlt := get_lt hb
  refine fn_rin is_strings_Builder_WriteString fun C _ => ?_
  simp only [c_strings_Builder_WriteString, sxZ, evs, evp, setd, SV.ev, AV.flat, AV.one, AV.cells, resAs, resA, tupA, pub, pubs, AV.plain, plains, srcOf, splice, fillA, eqA, eqAs, z6, z7, z8, q7, q8, q9, j2, j3, j4, j5, j6, j7, j8, j9, x0, x3, reduceCtorEq, ↓reduceIte]
  refine kcall (copyCheck_k T b _ _ hT hb (.inl rfl) ?_)
  have e1 : (objs.set b (OB.box T [.p b 0, .nil]))[b]? = some (.box T [.p b 0, .nil]) := List.getElem?_set_self hlt
  simp only [e1, sxZ, evs, evp, setd, SV.ev, AV.flat, AV.one, AV.cells, resAs, resA, tupA, pub, pubs, AV.plain, plains, srcOf, splice, fillA, eqA, eqAs, z6, z7, z8, q7, q8, q9, j2, j3, j4, j5, j6, j7, j8, j9, x0, x3, reduceCtorEq, ↓reduceIte]
  refine ⟨by simpa using hl, ?_⟩
  have e2 : (objs.set b (OB.box T [.p b 0, .nil]) ++ [OB.orow 5 1 0 l.length (byA l)])[b]? = some (.box T [.p b 0, .nil]) := by
   rw [List.getElem?_append_left (by simpa using hlt)]; exact e1
  simp only [e2, sxZ, evs, evp, setd, SV.ev, AV.flat, AV.one, AV.cells, resAs, resA, tupA, pub, pubs, AV.plain, plains, srcOf, splice, fillA, eqA, eqAs, z6, z7, z8, q7, q8, q9, j2, j3, j4, j5, j6, j7, j8, j9, x0, x3, reduceCtorEq, ↓reduceIte]
  have e3 : (objs.set b (OB.box T [.p b 0, .nil]) ++ [OB.orow 5 1 0 l.length (byA l)]).set b (OB.box T [.p b 0, .orow objs.length 0]) = objs.set b (OB.box T [.p b 0, .orow objs.length 0]) ++ [OB.orow 5 1 0 l.length (byA l)] := by
   rw [List.set_append_left _ _ (by simpa using hlt), List.set_set]
  rw [e3]
  refine hk _ (.inr ⟨objs.length, 0, ?_, ?_⟩) ⟨by simp, fun j ob h1 h2 h3 => ⟨?_, ?_⟩⟩
  ·rw [List.getElem?_append_left (by simpa using hlt)]; exact List.getElem?_set_self hlt
  ·rw [List.getElem?_append_right (by simp)]; simp
  ·rw [List.getElem?_append_left (by simpa using get_lt h1), List.getElem?_set_ne (fun e => h2 e.symm)]; exact h1
  ·unfold rowOf
   rw [List.getElem?_append_left (by simpa using hlt), List.getElem?_set_self hlt]
   have := get_lt h1
   simp; omega
 ·have hlt := get_lt hb
  have hrl := get_lt hr
  have hne : b ≠ r := by rintro rfl; rw [hb] at hr; cases hr
  refine fn_rin is_strings_Builder_WriteString fun C _ => ?_
  simp only [c_strings_Builder_WriteString, sxZ, evs, evp, setd, SV.ev, AV.flat, AV.one, AV.cells, resAs, resA, tupA, pub, pubs, AV.plain, plains, srcOf, splice, fillA, eqA, eqAs, z6, z7, z8, q7, q8, q9, j2, j3, j4, j5, j6, j7, j8, j9, x0, x3, reduceCtorEq, ↓reduceIte]
  refine kcall (copyCheck_k T b _ _ hT hb (.inr rfl) ?_)
  rw [set_same hb]
  simp only [hb, hr, sxZ, evs, evp, setd, SV.ev, AV.flat, AV.one, AV.cells, resAs, resA, tupA, pub, pubs, AV.plain, plains, srcOf, splice, fillA, eqA, eqAs, z6, z7, z8, q7, q8, q9, j2, j3, j4, j5, j6, j7, j8, j9, x0, x3, reduceCtorEq, ↓reduceIte]
  refine ⟨by omega, ?_⟩
  have e2 : (objs.set r (OB.orow 5 1 (gen + 1) (l0.length + l.length) (byA l0 ++ byA l)))[b]? = some (.box T [.p b 0, .orow r gen]) := by
   rw [List.getElem?_set_ne (fun e => hne e.symm)]; exact hb
  simp only [e2, sxZ, evs, evp, setd, SV.ev, AV.flat, AV.one, AV.cells, resAs, resA, tupA, pub, pubs, AV.plain, plains, srcOf, splice, fillA, eqA, eqAs, z6, z7, z8, q7, q8, q9, j2, j3, j4, j5, j6, j7, j8, j9, x0, x3, reduceCtorEq, ↓reduceIte]
  refine hk _ (.inr ⟨r, gen + 1, ?_, ?_⟩) ⟨by simp, fun j ob h1 h2 h3 => ⟨?_, ?_⟩⟩
  ·exact List.getElem?_set_self (by simpa using hlt)
  ·rw [List.getElem?_set_ne hne, List.getElem?_set_self hrl, byA_append, List.length_append]
  ·have h4 : j ≠ r := by
    rintro rfl
    exact h3 (by unfold rowOf; rw [hb])
   rw [List.getElem?_set_ne (fun e => h2 e.symm), List.getElem?_set_ne (fun e => h4 e.symm)]; exact h1
  ·unfold rowOf at h3 ⊢
   rw [hb] at h3
   rw [List.getElem?_set_self (by simpa using hlt)]
   exact h3
theorem bString_k (T : TypeId) (b : Nat) (l : List UInt8) (hb : BldIs objs b T l) (hk : ∀ objs', Kept objs b objs' → K objs' (.s l)) :
  CallOk Try.prog 76 [.p b 0] objs K := by
 intro C _ G I w hin hm ys hd
 simp only [Dens] at hd
 obtain ⟨v, _, rfl, hv, rfl⟩ := hd
 simp only [Den] at hv
 obtain ⟨g, hg, rfl⟩ := hv
 have same : ∀ w', w.grownBy w' none → ∀ x : List UInt8, K objs (.s x) → ∃ (y : Value) (objs' : List OB) (r : AV) (G' : Gh) (I' : Imm), Ending.returned (.string ⟨x.toArray⟩) = .returned y ∧ K objs' r ∧ G.le G' ∧ Imm.le I I' ∧ In C G' I' w' ∧ MemOk G' I' objs' w' ∧ Den G' I' r y :=
  fun w' hgr x hx => ⟨_, objs, .s x, G, I, rfl, hx, Gh.le.refl G, Imm.le.refl I, hin.evolve hgr (by simp), hm.evolve hgr, by simp [Den]⟩
 rcases hb with ⟨hb, rfl⟩ | ⟨r, gen, hb, hr⟩
 ·obtain ⟨g', zs, k1, k2, k3, k4⟩ := hm.box b T _ hb
  obtain rfl : g = g' := Option.some.inj (hg.symm.trans k1)
  simp only [Dens] at k3
  obtain ⟨z1, _, rfl, d1, z2, _, rfl, d2, rfl⟩ := k3
  simp only [Den] at d2; subst d2
  refine (bString_nil g z1 T w k2).mono ?_
  rintro e w' ⟨rfl, hgr⟩
  exact same w' hgr [] (hk objs (Kept.refl _ _))
 ·obtain ⟨g', zs, k1, k2, k3, k4⟩ := hm.box b T _ hb
  obtain rfl : g = g' := Option.some.inj (hg.symm.trans k1)
  simp only [Dens] at k3
  obtain ⟨z1, _, rfl, d1, z2, _, rfl, d2, rfl⟩ := k3
  simp only [Den] at d2
  obtain ⟨gn, u, q1, q2, q3, q4⟩ := d2
  obtain ⟨u', vs, m1, m2, m3, m4, m5⟩ := hm.row r _ _ _ _ _ hr
  rw [q1] at m1; injection m1 with m1; injection m1 with m1 m6
  have hz := q3 m1.symm
  subst m1 m6 hz
  have hne : b ≠ r := by rintro rfl; rw [hb] at hr; cases hr
  have kill : ∀ w' row, (∀ k, row = some k → G.own r = some k) → w.grownBy w' row → ∀ x : List UInt8, (x = l) → ∃ (y : Value) (objs' : List OB) (r' : AV) (G' : Gh) (I' : Imm), Ending.returned (.string ⟨x.toArray⟩) = .returned y ∧ K objs' r' ∧ G.le G' ∧ Imm.le I I' ∧ In C G' I' w' ∧ MemOk G' I' objs' w' ∧ Den G' I' r' y := by
   rintro w' row hrow hgr x rfl
   refine ⟨_, objs.set r .dead, .s x, G, I, rfl, hk _ ⟨by simp, fun j ob h1 h2 h3 => ⟨?_, ?_⟩⟩, Gh.le.refl G, Imm.le.refl I, hin.evolve hgr (fun k hk => hin.blk r k (hrow k hk)), MemOk.kill hm r hrow hgr, by simp [Den]⟩
   ·have h4 : j ≠ r := by
     rintro rfl
     exact h3 (by unfold rowOf; rw [hb])
    rw [List.getElem?_set_ne (fun e => h4 e.symm)]; exact h1
   ·unfold rowOf at h3 ⊢
    rw [hb] at h3
    rw [List.getElem?_set_ne (fun e => hne e.symm), hb]; exact h3
  have hown := own_of_cur m5 q1
  have hvs := dens_byA_inv m3
  rcases m2.2 with ⟨rfl, hl0⟩ | ⟨gr, cap, cur, rfl, _, hgc, hnc, hcm, hcs, htake⟩
  ·have hl : l = [] := List.eq_nil_of_length_eq_zero hl0
   subst hl
   refine (bString_nil g z1 T w k2).mono ?_
   rintro e w' ⟨rfl, hgr⟩
   exact kill w' none (by simp) hgr [] rfl
  ·have hrow : ∀ k, some gr = some k → G.own r = some k := by
    intro k hk'
    injection hk' with hk'; subst hk'
    rw [hown]; rfl
   by_cases hl : l = []
   ·subst hl
    by_cases hc : cap = 0
    ·subst hc
     refine (bString_noroom g gr z1 cur T w k2 hgc).mono ?_
     rintro e w' ⟨rfl, hgr⟩
     exact kill w' (some gr) hrow hgr [] rfl
    ·refine (bString_room g gr cap z1 T w hc k2).mono ?_
     rintro e w' ⟨rfl, hgr⟩
     exact kill w' (some gr) hrow (ownsRow_grown hgr _) [] rfl
   ·refine (bString_full g gr cap l z1 cur T w hl k2 hgc hnc hcm (by omega) ?_).mono ?_
    ·intro j x hx
     exact m2.cells (g := gr) rfl j (.int .u8 x.toNat) (by rw [hvs]; simp [hx])
    ·rintro e w' ⟨rfl, hgr⟩
     exact kill w' (some gr) hrow hgr l rfl
end
end Go.Proofs.Ytkcaghhfnmeknaa
namespace Go.Proofs.Ytkcaghhfnmeknaa
open Go.RowKit Sx
section
variable [Tabs Try.prog] {objs : List OB} {K : List OB → AV → Prop}
end
end Go.Proofs.Ytkcaghhfnmeknaa
namespace Go.Proofs.Ytkcaghhfnmeknaa
open Go.RowKit Sx
def fcells (l : List (List UInt8 × List UInt8)) : List AV := l.flatMap fun p => [.s p.1, .s p.2]
theorem fcells_len (l : List (List UInt8 × List UInt8)) : (fcells l).length = l.length * 2 := by
 induction l with
 | nil => rfl
 | cons p l ih => simp [fcells] at ih ⊢; omega
theorem fcells_snoc (l : List (List UInt8 × List UInt8)) (p : List UInt8 × List UInt8) : fcells (l ++ [p]) = fcells l ++ [.s p.1, .s p.2] := by simp [fcells]
theorem og_n (l : List OB) (x : OB) : (l ++ [x])[l.length]? = some x := by simp
section
variable [Tabs Try.prog] {objs : List OB} {K : List OB → AV → Prop}
end
end Go.Proofs.Ytkcaghhfnmeknaa
namespace Go.Proofs.Ytkcaghhfnmeknaa
open Go.RowKit Sx
section
variable [Tabs Try.prog] {objs : List OB} {K : List OB → AV → Prop}
end
end Go.Proofs.Ytkcaghhfnmeknaa
namespace Go.Proofs.Ytkcaghhfnmeknaa
open Go.RowKit Sx
section
variable [Tabs Try.prog] {objs : List OB} {K : List OB → AV → Prop}
end
end Go.Proofs.Ytkcaghhfnmeknaa
namespace Go.Proofs.Ytkcaghhfnmeknaa
open Go.RowKit Sx
end Go.Proofs.Ytkcaghhfnmeknaa
namespace Go.Proofs.Ytkcaghhfnmeknaa
open Go.RowKit
end Go.Proofs.Ytkcaghhfnmeknaa
namespace Go.Proofs.Ytkcaghhfnmeknaa
open Go.RowKit
end Go.Proofs.Ytkcaghhfnmeknaa
namespace Go.Proofs.Ytkcaghhfnmeknaa
open Go.RowKit
theorem Brow.cap {w : World} {B g n cap : Nat} {l : List UInt8} (h : Brow w B (.slice (some ⟨g, 0, none⟩) n cap) l) : n = l.length ∧ n ≤ cap ∧ cap ≤ maxLen := by
 rcases h.2 with ⟨e, _⟩ | ⟨g', cap', cur, e, hb, hg, hnc, hcm, _⟩
 ·simp at e
 ·simp only [Value.slice.injEq] at e
  obtain ⟨_, rfl, rfl⟩ := e
  exact ⟨rfl, hnc, hcm⟩
theorem Brow.pre {w : World} {B g n cap : Nat} {l : List UInt8} (h : Brow w B (.slice (some ⟨g, 0, none⟩) n cap) l) (k : Nat) (hk : k ≤ l.length) : Brow w B (.slice (some ⟨g, 0, none⟩) k cap) (l.take k) := by
 rcases h.2 with ⟨e, _⟩ | ⟨g', cap', cur, e, hb, hg, hnc, hcm, hcs, ht⟩
 ·simp at e
 ·simp only [Value.slice.injEq] at e
  obtain ⟨hgg, rfl, rfl⟩ := e
  obtain rfl : g = g' := by simpa using hgg
  have hlen : (l.take k).length = k := by rw [List.length_take]; omega
  refine ⟨by rw [bv_length]; simp, .inr ⟨g, cap, cur, by rw [hlen], hb, hg, by rw [hlen]; omega, hcm, hcs, ?_⟩⟩
  rw [hlen]
  have := congrArg (List.take k) ht
  rw [Nat.mul_one] at this ⊢
  rw [List.take_take, Nat.min_eq_left hk] at this
  rw [this]
  simp [bv, List.map_take]
end Go.Proofs.Ytkcaghhfnmeknaa
namespace Go.Proofs.Ytkcaghhfnmeknaa
open Go.RowKit
end Go.Proofs.Ytkcaghhfnmeknaa
namespace Go.Proofs.Ytkcaghhfnmeknaa
open Go.RowKit
attribute [local go_sem ↓] Go.wp_at_zero Go.wp_at_succ
end Go.Proofs.Ytkcaghhfnmeknaa
namespace Go.Proofs.Ytkcaghhfnmeknaa
open Go.RowKit Sx
section
variable [Tabs Try.prog] {objs : List OB} {K : List OB → AV → Prop}
end
end Go.Proofs.Ytkcaghhfnmeknaa
namespace Go.Proofs.Ytkcaghhfnmeknaa
open Go.RowKit Sx
theorem callok_weak {P : Program} [Tabs P] {f : FuncId} {args args' : List AV} {objs : List OB} {K : List OB → AV → Prop} (h : ∀ G I ys, Dens G I args ys → Dens G I args' ys) (hc : CallOk P f args' objs K) : CallOk P f args objs K :=
 fun C _ G I w hin hm ys hd => hc C G I w hin hm ys (h G I ys hd)
theorem callok_res {P : Program} [Tabs P] {f : FuncId} {args : List AV} {objs : List OB} {K : List OB → AV → Prop} (r' : AV) (hc : CallOk P f args objs (fun o r => (∀ G I y, Den G I r y → Den G I r' y) ∧ K o r')) : CallOk P f args objs K := by
 intro C _ G I w hin hm ys hd
 refine (hc C G I w hin hm ys hd).mono ?_
 rintro e w' ⟨y, objs', r, G', I', he, ⟨hr, hk⟩, h1, h2, h3, h4, hy⟩
 exact ⟨y, objs', r', G', I', he, hk, h1, h2, h3, h4, hr _ _ _ hy⟩
theorem den_nil_row {G : Gh} {I : Imm} {y : Value} (h : Den G I .nil y) : Den G I (.row 0 []) y := by
 simp only [Den] at h ⊢
 exact ⟨none, 0, [], h, ⟨Nat.le_refl _, fun ad h => by cases h⟩, Dens.nil, by simp, by simp⟩
theorem fc_plain : ∀ l : List (List UInt8 × List UInt8), plains (fcells l) = true
 | [] => rfl
 | p :: l => fc_plain l
theorem strs_plain : ∀ l : List (List UInt8), plains (l.map AV.s) = true
 | [] => rfl
 | x :: l => strs_plain l
theorem fc_at {l : List (List UInt8 × List UInt8)} {i : Nat} (h : i < l.length) : ((fcells l).drop (i * 2)).take 2 = [.s l[i].1, .s l[i].2] := by
 induction l generalizing i with
 | nil => simp at h
 | cons p l ih =>
  cases i with
  | zero => rfl
  | succ i =>
   have e : (i + 1) * 2 = i * 2 + 1 + 1 := by omega
   rw [e]
   show ((fcells l).drop (i * 2)).take 2 = _
   rw [ih (by simpa using h)]
   rfl
structure Few (l : List (List UInt8 × List UInt8)) : Prop where
 num : l.length ≤ 100
 len : ∀ p ∈ l, p.1.length + p.2.length ≤ 20000
section
variable [Tabs Try.prog] {objs : List OB} {K : List OB → AV → Prop}
end
end Go.Proofs.Ytkcaghhfnmeknaa
namespace Go.Proofs.Ytkcaghhfnmeknaa
open List renaming replicate → z6
open Nat renaming reduceAdd → z7, reduceSub → z8, reduceLeDiff → q7, reduceLT → q8, reduceMul → q9, reduceEqDiff → j2
open Int renaming reduceToNat → j3, reduceAdd → j4, reduceSub → j5, reduceMul → j6, reduceNeg → j7, reduceLT → j8, reduceLE → j9, reduceEq → x0, reduceNe → x3
open Go.RowKit Sx
theorem bt_bld : BT 90 := by unfold BT; kernel_rfl
section
variable [Tabs Try.prog] {objs : List OB} {K : List OB → AV → Prop}
set_option maxRecDepth 100000 in
theorem sameFields_k (a b : List (List UInt8 × List UInt8)) (ha : a.length ≤ 1000000) (hk : K objs (.b (decide (a = b)))) : CallOk Try.prog 28 [.row a.length (fcells a), .row b.length (fcells b)] objs K := by
 refine fn_rn is_ref18_SameFields (by simp [plains, AV.plain, fc_plain]) fun C _ => ?_
 by_cases c1 : (a.length : Int) = b.length
 ·simp only [c1, c_ref18_SameFields, sxZ, evs, evp, setd, SV.ev, AV.flat, AV.one, AV.cells, resAs, resA, tupA, pub, pubs, AV.plain, plains, srcOf, splice, fillA, eqA, eqAs, z6, z7, z8, q7, q8, q9, j2, j3, j4, j5, j6, j7, j8, j9, x0, x3, reduceCtorEq, ↓reduceIte]
  have c1' : a.length = b.length := by omega
  refine rn_loop (fun n objs tm => ∃ i : Nat, i ≤ a.length ∧ n = a.length - i ∧ tm.length = 26 ∧ tm[0]? = some (.row a.length (fcells a)) ∧ tm[1]? = some (.row b.length (fcells b)) ∧ tm[12]? = some (.i .i64 b.length) ∧ tm[13]? = some (.i .i64 i) ∧ a.take i = b.take i) a.length ⟨0, Nat.zero_le _, rfl, rfl, rfl, rfl, rfl, rfl, rfl⟩ ?_
  rintro n objs tm ⟨i, hi, rfl, hlen, t0, t1, t12, t13, hall⟩
  by_cases hlt : (i : Int) < b.length
  ·have hlt' : i < a.length := by omega
   have hltb : i < b.length := by omega
   have hat := fc_at hlt'
   have hbt := fc_at hltb
   have hfl := fcells_len a
   have hfb := fcells_len b
   have hne : a[i] ≠ b[i] → a ≠ b := by
    rintro h rfl; exact h rfl
   have e : (decide (a[i].1 = b[i].1) && decide (a[i].2 = b[i].2)) = decide (a[i] = b[i]) := by
    rw [← Bool.decide_and, decide_eq_decide]
    exact ⟨fun h => Prod.ext h.1 h.2, fun h => by rw [h]; exact ⟨rfl, rfl⟩⟩
   by_cases c2 : a[i] = b[i]
   ·rw [decide_eq_true c2] at e
    simp only [sxZ, evs, evp, setd, SV.ev, AV.flat, AV.one, AV.cells, resAs, resA, tupA, pub, pubs, AV.plain, plains, srcOf, splice, fillA, eqA, eqAs, z6, z7, z8, q7, q8, q9, j2, j3, j4, j5, j6, j7, j8, j9, x0, x3, reduceCtorEq, ↓reduceIte, List.getElem?_set, hlen, t0, t1, t12, t13, hlt, Int.toNat_natCast, hat, hbt, e]
    refine ⟨⟨by omega, by omega⟩, by omega, ⟨by omega, by omega⟩, by omega, ⟨by omega, by omega⟩, a.length - (i + 1), by omega, i + 1, by omega, rfl, rfl, ?_⟩
    rw [List.take_succ_eq_append_getElem hlt', List.take_succ_eq_append_getElem hltb, hall, c2]
   ·rw [decide_eq_false c2] at e
    rw [decide_eq_false (hne c2)] at hk
    simp only [sxZ, evs, evp, setd, SV.ev, AV.flat, AV.one, AV.cells, resAs, resA, tupA, pub, pubs, AV.plain, plains, srcOf, splice, fillA, eqA, eqAs, z6, z7, z8, q7, q8, q9, j2, j3, j4, j5, j6, j7, j8, j9, x0, x3, reduceCtorEq, ↓reduceIte, List.getElem?_set, hlen, t0, t1, t12, t13, hlt, Int.toNat_natCast, hat, hbt, e]
    exact ⟨⟨by omega, by omega⟩, by omega, ⟨by omega, by omega⟩, by omega, hk⟩
  ·obtain rfl : i = a.length := by omega
   rw [List.take_of_length_le (Nat.le_refl _), List.take_of_length_le (by omega)] at hall
   rw [decide_eq_true hall] at hk
   simp only [sxZ, evs, evp, setd, SV.ev, AV.flat, AV.one, AV.cells, resAs, resA, tupA, pub, pubs, AV.plain, plains, srcOf, splice, fillA, eqA, eqAs, z6, z7, z8, q7, q8, q9, j2, j3, j4, j5, j6, j7, j8, j9, x0, x3, reduceCtorEq, ↓reduceIte, List.getElem?_set, hlen, t0, t1, t12, t13, hlt]
   exact hk
 ·rw [decide_eq_false (by rintro rfl; exact c1 rfl)] at hk
  simp only [c1, c_ref18_SameFields, sxZ, evs, evp, setd, SV.ev, AV.flat, AV.one, AV.cells, resAs, resA, tupA, pub, pubs, AV.plain, plains, srcOf, splice, fillA, eqA, eqAs, z6, z7, z8, q7, q8, q9, j2, j3, j4, j5, j6, j7, j8, j9, x0, x3, reduceCtorEq, ↓reduceIte]
  exact hk
end
end Go.Proofs.Ytkcaghhfnmeknaa
namespace Go.Proofs.Ytkcaghhfnmeknaa
open Go.RowKit Sx
def nxM (s : List UInt8) (a : Nat) : Nat := a + blkN (s.drop a)
theorem nxM_le {s : List UInt8} {a : Nat} (h : a ≤ s.length) : a ≤ nxM s a ∧ nxM s a ≤ s.length := by
 unfold nxM
 have := blkN_le (s.drop a)
 rw [List.length_drop] at this
 omega
def escL (s : List UInt8) : List UInt8 := s.flatMap fun c => if c = 34 ∨ c = 92 then [92, c] else [c]
def writeL (s : List UInt8) : List UInt8 := if tokenB s = true then s else 34 :: (escL s ++ [34])
def parL (p : List UInt8 × List UInt8) : List UInt8 := [59, 32] ++ p.1 ++ [61] ++ writeL p.2
theorem escL_len (s : List UInt8) : (escL s).length ≤ 2 * s.length := by
 induction s with
 | nil => simp [escL]
 | cons c s ih =>
  unfold escL at ih ⊢
  rw [List.flatMap_cons, List.length_append, List.length_cons]
  split <;> simp only [List.length_cons, List.length_nil] <;> omega
theorem writeL_len (s : List UInt8) : (writeL s).length ≤ 2 * s.length + 2 := by
 have := escL_len s
 unfold writeL
 split
 ·omega
 ·simp only [List.length_cons, List.length_append, List.length_nil]; omega
theorem escL_snoc (s : List UInt8) (i : Nat) (h : i < s.length) : escL (s.take (i + 1)) = escL (s.take i) ++ (if s[i] = 34 ∨ s[i] = 92 then [92, s[i]] else [s[i]]) := by
 unfold escL
 rw [List.take_succ_eq_append_getElem h, List.flatMap_append]
 simp
end Go.Proofs.Ytkcaghhfnmeknaa
namespace Go.Proofs.Ytkcaghhfnmeknaa
open Go.RowKit Sx
def nbN : List UInt8 → Nat
 | [] => 0
 | c :: t => if blank c = true then 0 else nbN t + 1
theorem nbN_le : ∀ l : List UInt8, nbN l ≤ l.length
 | [] => Nat.le_refl _
 | c :: t => by
  have := nbN_le t
  unfold nbN
  split <;> simp only [List.length_cons] <;> omega
theorem nb_at (s : List UInt8) (i : Nat) (h : i < s.length) : nbN (s.drop i) = if blank s[i] = true then 0 else nbN (s.drop (i + 1)) + 1 := by
 rw [List.drop_eq_getElem_cons h, nbN]
def wordsF : Nat → List UInt8 → Nat → List (List UInt8) → List (List UInt8)
 | 0, _, _, acc => acc
 | f + 1, s, p, acc => if p < s.length then wordsF f s (nxM s (p + nbN (s.drop p))) (acc ++ [(s.drop p).take (nbN (s.drop p))]) else acc
theorem wordsF_succ (f : Nat) (s : List UInt8) (p : Nat) (acc : List (List UInt8)) : wordsF (f + 1) s p acc = if p < s.length then wordsF f s (nxM s (p + nbN (s.drop p))) (acc ++ [(s.drop p).take (nbN (s.drop p))]) else acc := rfl
def NotBlank (s : List UInt8) (p : Nat) : Prop := ∀ h : p < s.length, blank s[p] = false
theorem blkN_stop : ∀ l : List UInt8, ∀ c, (l.drop (blkN l)).head? = some c → blank c = false
 | [], c, h => by cases h
 | a :: l, c, h => by
  rw [blkN] at h
  split at h
  ·exact blkN_stop l c h
  ·rename_i hn
   injection h with h; subst h
   simpa using hn
theorem nxM_stop (s : List UInt8) (a : Nat) : NotBlank s (nxM s a) := by
 intro h
 refine blkN_stop (s.drop a) _ ?_
 rw [List.drop_drop, show a + blkN (s.drop a) = nxM s a from rfl, List.drop_eq_getElem_cons h]; rfl
theorem nb_pos {s : List UInt8} {p : Nat} (h : p < s.length) (hn : NotBlank s p) : 1 ≤ nbN (s.drop p) ∧ p + nbN (s.drop p) ≤ s.length := by
 have h1 := nbN_le (s.drop p)
 rw [List.length_drop] at h1
 rw [nb_at s p h, if_neg (by rw [hn h]; decide)] at h1 ⊢
 omega
theorem wordsF_fuel : ∀ (f g : Nat) (s : List UInt8) (p : Nat) (acc : List (List UInt8)), NotBlank s p → s.length - p < f → s.length - p < g → wordsF f s p acc = wordsF g s p acc
 | 0, g, s, p, acc, _, h, _ => absurd h (by omega)
 | f + 1, 0, s, p, acc, _, _, h => absurd h (by omega)
 | f + 1, g + 1, s, p, acc, hn, hf, hg => by
  rw [wordsF_succ, wordsF_succ]
  split
  ·rename_i hp
   obtain ⟨h1, h2⟩ := nb_pos hp hn
   obtain ⟨h3, h4⟩ := nxM_le h2
   exact wordsF_fuel f g s _ _ (nxM_stop s _) (by omega) (by omega)
  ·rfl
def wordsAt (s : List UInt8) (p : Nat) (acc : List (List UInt8)) : List (List UInt8) := wordsF (s.length + 1) s p acc
theorem wordsAt_step {s : List UInt8} {p : Nat} {acc : List (List UInt8)} (hn : NotBlank s p) (h : p < s.length) : wordsAt s p acc = wordsAt s (nxM s (p + nbN (s.drop p))) (acc ++ [(s.drop p).take (nbN (s.drop p))]) := by
 unfold wordsAt
 obtain ⟨h1, h2⟩ := nb_pos h hn
 obtain ⟨h3, h4⟩ := nxM_le h2
 rw [wordsF_succ, if_pos h]
 exact wordsF_fuel _ _ _ _ _ (nxM_stop s _) (by omega) (by omega)
theorem wordsAt_end (s : List UInt8) (acc : List (List UInt8)) : wordsAt s s.length acc = acc := by
 unfold wordsAt
 rw [wordsF_succ, if_neg (Nat.lt_irrefl _)]
def wordsE (s : List UInt8) : List (List UInt8) := wordsAt s (nxM s 0) []
theorem low_len (s : List UInt8) : (lowL s).length = s.length := List.length_map ..
theorem wordsF_few : ∀ (f : Nat) (s : List UInt8) (p : Nat) (acc : List (List UInt8)), NotBlank s p → p ≤ s.length → (wordsF f s p acc).length ≤ acc.length + (s.length - p) ∧ ∀ w ∈ wordsF f s p acc, w ∈ acc ∨ w.length ≤ s.length
 | 0, s, p, acc, _, _ => ⟨by show acc.length ≤ _; omega, fun w hw => .inl hw⟩
 | f + 1, s, p, acc, hn, hp => by
  rw [wordsF_succ]
  split
  ·rename_i hl
   obtain ⟨h1, h2⟩ := nb_pos hl hn
   obtain ⟨h3, h4⟩ := nxM_le h2
   obtain ⟨g1, g2⟩ := wordsF_few f s (nxM s (p + nbN (s.drop p))) (acc ++ [(s.drop p).take (nbN (s.drop p))]) (nxM_stop s _) h4
   rw [List.length_append, List.length_singleton] at g1
   refine ⟨by omega, fun w hw => ?_⟩
   rcases g2 w hw with h | h
   ·rcases List.mem_append.1 h with h | h
    ·exact .inl h
    ·rw [List.mem_singleton.1 h, List.length_take, List.length_drop]; exact .inr (by omega)
   ·exact .inr h
  ·exact ⟨by omega, fun w hw => .inl hw⟩
theorem wordsE_few (s : List UInt8) : (wordsE s).length ≤ s.length ∧ ∀ w ∈ wordsE s, w.length ≤ s.length := by
 obtain ⟨h1, h2⟩ := nxM_le (s := s) (a := 0) (Nat.zero_le _)
 obtain ⟨g1, g2⟩ := wordsF_few (s.length + 1) s (nxM s 0) [] (nxM_stop s _) h2
 refine ⟨?_, fun w hw => ?_⟩
 ·have : (wordsE s).length ≤ 0 + (s.length - nxM s 0) := g1
  omega
 ·rcases g2 w hw with h | h
  ·cases h
  ·exact h
def relN : List UInt8 := [114, 101, 108]
def relsE : List (List UInt8 × List UInt8) → List (List UInt8)
 | [] => []
 | p :: ps => if p.1 = relN then wordsE (lowL p.2) else relsE ps
def lparAt (s : List UInt8) (a : Nat) : Option ((List UInt8 × List UInt8) × Nat) :=
 if tokN (s.drop a) = 0 then none
 else if (s.drop (nxM s (a + tokN (s.drop a)))).head? = some 61 then
  (wordE (s.drop (nxM s (nxM s (a + tokN (s.drop a)) + 1)))).map fun p => ((lowL ((s.drop a).take (tokN (s.drop a))), p.1), nxM s (nxM s (a + tokN (s.drop a)) + 1) + p.2)
 else some ((lowL ((s.drop a).take (tokN (s.drop a))), []), a + tokN (s.drop a))
theorem lparAt_le {s : List UInt8} {a : Nat} {d : List UInt8 × List UInt8} {q : Nat} (ha : a ≤ s.length) (h : lparAt s a = some (d, q)) : a < q ∧ q ≤ s.length ∧ d.1.length + d.2.length ≤ q - a := by
 have ht := tokN_le (s.drop a)
 rw [List.length_drop] at ht
 unfold lparAt at h
 split at h
 ·cases h
 ·rename_i h0
  obtain ⟨n1, n2⟩ := nxM_le (s := s) (a := a + tokN (s.drop a)) (by omega)
  split at h
  ·rename_i h1
   have hl : nxM s (a + tokN (s.drop a)) < s.length := by
    by_cases hl : nxM s (a + tokN (s.drop a)) < s.length
    ·exact hl
    ·rw [List.drop_eq_nil_of_le (by omega)] at h1; cases h1
   obtain ⟨m1, m2⟩ := nxM_le (s := s) (a := nxM s (a + tokN (s.drop a)) + 1) (by omega)
   obtain ⟨p, hp, he⟩ := Option.map_eq_some_iff.1 h
   injection he with e1 e2
   subst e1 e2
   have := wordE_le (x := p.1) (k := p.2) hp
   rw [List.length_drop] at this
   simp only [lowL, List.length_map, List.length_take]; omega
  ·injection h with h
   injection h with e1 e2
   subst e1 e2
   simp only [lowL, List.length_map, List.length_take, List.length_nil]; omega
def lparsF : Nat → List UInt8 → Nat → List (List UInt8 × List UInt8) → Option (List (List UInt8 × List UInt8) × Nat)
 | 0, _, _, _ => none
 | f + 1, s, p, acc => if (s.drop p).head? = some 59 then match lparAt s (nxM s (p + 1)) with
   | none => none
   | some (d, q) => lparsF f s (nxM s q) (acc ++ [d])
  else some (acc, p)
theorem lparsF_succ (f : Nat) (s : List UInt8) (p : Nat) (acc : List (List UInt8 × List UInt8)) : lparsF (f + 1) s p acc = if (s.drop p).head? = some 59 then match lparAt s (nxM s (p + 1)) with
   | none => none
   | some (d, q) => lparsF f s (nxM s q) (acc ++ [d])
  else some (acc, p) := rfl
theorem head_lt {s : List UInt8} {p : Nat} {c : UInt8} (h : (s.drop p).head? = some c) : p < s.length := by
 by_cases hl : p < s.length
 ·exact hl
 ·rw [List.drop_eq_nil_of_le (by omega)] at h; cases h
theorem lpar_go {s : List UInt8} {p q : Nat} {d : List UInt8 × List UInt8} (h : p < s.length) (hd : lparAt s (nxM s (p + 1)) = some (d, q)) : p < nxM s q ∧ nxM s q ≤ s.length ∧ p + 1 + d.1.length + d.2.length ≤ nxM s q := by
 obtain ⟨n1, n2⟩ := nxM_le (s := s) (a := p + 1) (by omega)
 obtain ⟨h1, h2, h3⟩ := lparAt_le n2 hd
 obtain ⟨m1, m2⟩ := nxM_le (s := s) (a := q) (by omega)
 omega
theorem lparsF_fuel : ∀ (f g : Nat) (s : List UInt8) (p : Nat) (acc : List (List UInt8 × List UInt8)), s.length - p < f → s.length - p < g → lparsF f s p acc = lparsF g s p acc
 | 0, g, s, p, acc, h, _ => absurd h (by omega)
 | f + 1, 0, s, p, acc, _, h => absurd h (by omega)
 | f + 1, g + 1, s, p, acc, hf, hg => by
  rw [lparsF_succ, lparsF_succ]
  split
  ·rename_i hp
   have hl := head_lt hp
   cases hd : lparAt s (nxM s (p + 1)) with
   | none => rfl
   | some x =>
    obtain ⟨d, q⟩ := x
    obtain ⟨h1, h2, h3⟩ := lpar_go hl hd
    exact lparsF_fuel f g s _ _ (by omega) (by omega)
  ·rfl
def lparsAt (s : List UInt8) (p : Nat) (acc : List (List UInt8 × List UInt8)) : Option (List (List UInt8 × List UInt8) × Nat) := lparsF (s.length + 1) s p acc
theorem lparsAt_step {s : List UInt8} {p : Nat} {acc : List (List UInt8 × List UInt8)} : lparsAt s p acc = if (s.drop p).head? = some 59 then match lparAt s (nxM s (p + 1)) with
   | none => none
   | some (d, q) => lparsAt s (nxM s q) (acc ++ [d])
  else some (acc, p) := by
 unfold lparsAt
 rw [lparsF_succ]
 split
 ·rename_i hp
  have hl := head_lt hp
  cases hd : lparAt s (nxM s (p + 1)) with
  | none => rfl
  | some x =>
   obtain ⟨d, q⟩ := x
   obtain ⟨h1, h2, h3⟩ := lpar_go hl hd
   exact lparsF_fuel _ _ _ _ _ (by omega) (by omega)
 ·rfl
theorem lparsF_le : ∀ (f : Nat) (s : List UInt8) (p : Nat) (acc ps : List (List UInt8 × List UInt8)) (q : Nat), p ≤ s.length → lparsF f s p acc = some (ps, q) → p ≤ q ∧ q ≤ s.length ∧ ps.length ≤ acc.length + (q - p) ∧ ∀ d ∈ ps, d ∈ acc ∨ d.1.length + d.2.length ≤ s.length
 | 0, s, p, acc, ps, q, _, h => by cases h
 | f + 1, s, p, acc, ps, q, hp, h => by
  rw [lparsF_succ] at h
  split at h
  ·rename_i hh
   have hl := head_lt hh
   cases hd : lparAt s (nxM s (p + 1)) with
   | none => rw [hd] at h; cases h
   | some x =>
    obtain ⟨d, q'⟩ := x
    rw [hd] at h
    simp only at h
    obtain ⟨h1, h2, h3⟩ := lpar_go hl hd
    obtain ⟨g1, g2, g3, g4⟩ := lparsF_le f s _ _ ps q h2 h
    rw [List.length_append, List.length_singleton] at g3
    refine ⟨by omega, g2, by omega, fun e he => ?_⟩
    rcases g4 e he with h5 | h5
    ·rcases List.mem_append.1 h5 with h5 | h5
     ·exact .inl h5
     ·rw [List.mem_singleton.1 h5]; exact .inr (by omega)
    ·exact .inr h5
  ·injection h with h
   injection h with e1 e2
   subst e1 e2
   exact ⟨Nat.le_refl _, hp, by omega, fun d hd => .inl hd⟩
def gtN : List UInt8 → Nat
 | [] => 0
 | c :: t => if c = 62 then 0 else gtN t + 1
theorem gtN_le : ∀ l : List UInt8, gtN l ≤ l.length
 | [] => Nat.le_refl _
 | c :: t => by
  have := gtN_le t
  unfold gtN
  split <;> simp only [List.length_cons] <;> omega
structure Lnk where
 target : List UInt8
 rels : List (List UInt8)
 pars : List (List UInt8 × List UInt8)
def linkAt (s : List UInt8) (a : Nat) : Option (Lnk × Nat) :=
 if gtN (s.drop (a + 1)) = (s.drop (a + 1)).length then none
 else if textB ((s.drop (a + 1)).take (gtN (s.drop (a + 1)))) = true then
  (lparsAt s (nxM s (a + 1 + gtN (s.drop (a + 1)) + 1)) []).map fun p => (⟨(s.drop (a + 1)).take (gtN (s.drop (a + 1))), relsE p.1, p.1⟩, p.2)
 else none
theorem linkAt_le {s : List UInt8} {a q : Nat} {k : Lnk} (ha : a < s.length) (h : linkAt s a = some (k, q)) : a + 1 < q ∧ q ≤ s.length ∧ k.target.length ≤ s.length ∧ k.rels = relsE k.pars ∧ k.pars.length ≤ s.length ∧ ∀ d ∈ k.pars, d.1.length + d.2.length ≤ s.length := by
 have hg := gtN_le (s.drop (a + 1))
 unfold linkAt at h
 split at h
 ·cases h
 ·rename_i h0
  split at h
  ·obtain ⟨p, hp, he⟩ := Option.map_eq_some_iff.1 h
   injection he with e1 e2
   subst e1 e2
   rw [List.length_drop] at hg h0
   obtain ⟨n1, n2⟩ := nxM_le (s := s) (a := a + 1 + gtN (s.drop (a + 1)) + 1) (by omega)
   obtain ⟨g1, g2, g3, g4⟩ := lparsF_le _ s _ [] p.1 p.2 n2 hp
   rw [List.length_nil] at g3
   refine ⟨by omega, g2, ?_, rfl, ?_, fun d hd => ?_⟩
   ·rw [List.length_take, List.length_drop]; omega
   ·show p.1.length ≤ _; omega
   ·rcases g4 d hd with h | h
    ·cases h
    ·exact h
  ·cases h
def linksF : Nat → List UInt8 → Nat → List Lnk → List Lnk × Nat
 | 0, _, _, _ => ([], 6)
 | f + 1, s, p, acc =>
  if (s.drop p).head? = some 60 then
   if 64 ≤ acc.length then ([], 161)
   else match linkAt s p with
    | none => ([], 6)
    | some (k, q) => if q = s.length then (acc ++ [k], 0) else if (s.drop q).head? = some 44 then linksF f s (nxM s (q + 1)) (acc ++ [k]) else ([], 6)
  else if p = s.length then (acc, 0) else if (s.drop p).head? = some 44 then linksF f s (nxM s (p + 1)) acc else ([], 6)
theorem linksF_succ (f : Nat) (s : List UInt8) (p : Nat) (acc : List Lnk) : linksF (f + 1) s p acc = if (s.drop p).head? = some 60 then
   if 64 ≤ acc.length then ([], 161)
   else match linkAt s p with
    | none => ([], 6)
    | some (k, q) => if q = s.length then (acc ++ [k], 0) else if (s.drop q).head? = some 44 then linksF f s (nxM s (q + 1)) (acc ++ [k]) else ([], 6)
  else if p = s.length then (acc, 0) else if (s.drop p).head? = some 44 then linksF f s (nxM s (p + 1)) acc else ([], 6) := rfl
theorem linksF_fuel : ∀ (f g : Nat) (s : List UInt8) (p : Nat) (acc : List Lnk), s.length - p < f → s.length - p < g → linksF f s p acc = linksF g s p acc
 | 0, g, s, p, acc, h, _ => absurd h (by omega)
 | f + 1, 0, s, p, acc, _, h => absurd h (by omega)
 | f + 1, g + 1, s, p, acc, hf, hg => by
  rw [linksF_succ, linksF_succ]
  split
  ·rename_i hp
   have hl := head_lt hp
   split
   ·rfl
   ·cases hd : linkAt s p with
    | none => rfl
    | some x =>
     obtain ⟨k, q⟩ := x
     obtain ⟨h1, h2, _⟩ := linkAt_le hl hd
     simp only
     split
     ·rfl
     ·split
      ·rename_i hq
       have hlq := head_lt hq
       obtain ⟨n1, n2⟩ := nxM_le (s := s) (a := q + 1) (by omega)
       exact linksF_fuel f g s _ _ (by omega) (by omega)
      ·rfl
  ·split
   ·rfl
   ·split
    ·rename_i hq
     have hlq := head_lt hq
     obtain ⟨n1, n2⟩ := nxM_le (s := s) (a := p + 1) (by omega)
     exact linksF_fuel f g s _ _ (by omega) (by omega)
    ·rfl
def linksAt (s : List UInt8) (p : Nat) (acc : List Lnk) : List Lnk × Nat := linksF (s.length + 1) s p acc
theorem linksAt_step (s : List UInt8) (p : Nat) (acc : List Lnk) : linksAt s p acc = if (s.drop p).head? = some 60 then
   if 64 ≤ acc.length then ([], 161)
   else match linkAt s p with
    | none => ([], 6)
    | some (k, q) => if q = s.length then (acc ++ [k], 0) else if (s.drop q).head? = some 44 then linksAt s (nxM s (q + 1)) (acc ++ [k]) else ([], 6)
  else if p = s.length then (acc, 0) else if (s.drop p).head? = some 44 then linksAt s (nxM s (p + 1)) acc else ([], 6) := by
 unfold linksAt
 rw [linksF_succ]
 split
 ·rename_i hp
  have hl := head_lt hp
  split
  ·rfl
  ·cases hd : linkAt s p with
   | none => rfl
   | some x =>
    obtain ⟨k, q⟩ := x
    obtain ⟨h1, h2, _⟩ := linkAt_le hl hd
    simp only
    split
    ·rfl
    ·split
     ·rename_i hq
      have hlq := head_lt hq
      obtain ⟨n1, n2⟩ := nxM_le (s := s) (a := q + 1) (by omega)
      exact linksF_fuel _ _ s _ _ (by omega) (by omega)
     ·rfl
 ·split
  ·rfl
  ·split
   ·rename_i hq
    have hlq := head_lt hq
    obtain ⟨n1, n2⟩ := nxM_le (s := s) (a := p + 1) (by omega)
    exact linksF_fuel _ _ s _ _ (by omega) (by omega)
   ·rfl
def linksE (s : List UInt8) : List Lnk × Nat := linksAt s (nxM s 0) []
def lcells (k : Lnk) : List AV := [.s k.target, .row k.rels.length (k.rels.map .s), .row k.pars.length (fcells k.pars)]
def lscells (l : List Lnk) : List AV := l.flatMap lcells
end Go.Proofs.Ytkcaghhfnmeknaa
namespace Go.Proofs.Ytkcaghhfnmeknaa
open List renaming replicate → z6
open Nat renaming reduceAdd → z7, reduceSub → z8, reduceLeDiff → q7, reduceLT → q8, reduceMul → q9, reduceEqDiff → j2
open Int renaming reduceToNat → j3, reduceAdd → j4, reduceSub → j5, reduceMul → j6, reduceNeg → j7, reduceLT → j8, reduceLE → j9, reduceEq → x0, reduceNe → x3
open Go.RowKit Sx
section
attribute [local irreducible] run
theorem blank_nat (c : UInt8) : blank c = decide (((c.toNat : Nat) : Int) = 32 ∨ ((c.toNat : Nat) : Int) = 9) := by
 unfold blank
 rw [decide_eq_decide]
 omega
theorem slice_word (s : List UInt8) (a k : Nat) : List.drop a (List.take (a + k) s) = (s.drop a).take k := by
 rw [List.drop_take, Nat.add_sub_cancel_left]
theorem quo_at (s : List UInt8) (i : Nat) (h : i < s.length) : quoE (s.drop i) = (if s[i] = 34 then some ([], 1)
  else if s[i] = 92 then (if h2 : i + 1 < s.length then (if isPrt s[i + 1] = true then (quoE (s.drop (i + 2))).map fun p => (s[i + 1] :: p.1, p.2 + 2) else none) else none)
  else if isPrt s[i] = true then (quoE (s.drop (i + 1))).map fun p => (s[i] :: p.1, p.2 + 1) else none) := by
 rw [List.drop_eq_getElem_cons h]
 by_cases h2 : i + 1 < s.length
 ·rw [dif_pos h2, List.drop_eq_getElem_cons h2, quoE_two]
 ·rw [dif_neg h2, List.drop_eq_nil_of_le (by omega), quoE_one]
  rfl
theorem byte_eq (c : UInt8) (n : Nat) (hn : n < 256) : (((c.toNat : Nat) : Int) = n) ↔ c = UInt8.ofNat n := by
 constructor
 ·intro h
  apply UInt8.toNat_inj.1
  rw [UInt8.toNat_ofNat']; omega
 ·rintro rfl
  rw [UInt8.toNat_ofNat']; omega
theorem quo_step {s : List UInt8} {a i k : Nat} {acc x : List UInt8} (hq : quoE (s.drop (a + 1)) = (quoE (s.drop i)).map fun p => (acc ++ p.1, i - (a + 1) + p.2)) (h : quoE (s.drop i) = some (x, k)) : quoE (s.drop (a + 1)) = some (acc ++ x, i - (a + 1) + k) := by
 rw [hq, h]; rfl
theorem quo_none {s : List UInt8} {a i : Nat} {acc : List UInt8} (hq : quoE (s.drop (a + 1)) = (quoE (s.drop i)).map fun p => (acc ++ p.1, i - (a + 1) + p.2)) (h : quoE (s.drop i) = none) : quoE (s.drop (a + 1)) = none := by
 rw [hq, h]; rfl
theorem quo_more {s : List UInt8} {a i j d : Nat} {acc : List UInt8} {c : UInt8} (hi : a + 1 ≤ i) (hij : j = i + d) (hq : quoE (s.drop (a + 1)) = (quoE (s.drop i)).map fun p => (acc ++ p.1, i - (a + 1) + p.2)) (h : quoE (s.drop i) = (quoE (s.drop j)).map fun p => (c :: p.1, p.2 + d)) :
  quoE (s.drop (a + 1)) = (quoE (s.drop j)).map fun p => (acc ++ [c] ++ p.1, j - (a + 1) + p.2) := by
 rw [hq, h, Option.map_map]
 congr 1
 funext p
 simp only [Function.comp_def, Prod.mk.injEq]
 refine ⟨by simp, by omega⟩
theorem word_at {s : List UInt8} {a : Nat} (h : a < s.length) : (s.drop a).head? = some s[a] ∧ (s.drop a).tail = s.drop (a + 1) := by
 rw [List.drop_eq_getElem_cons h]; exact ⟨rfl, rfl⟩
section
variable [Tabs Try.prog] {objs : List OB} {K : List OB → AV → Prop}
set_option maxRecDepth 100000 in
theorem fBlanks_k (s : List UInt8) (a : Nat) (ha : a ≤ s.length) (hs : s.length ≤ 9000000000000000000) (hk : K objs (.i .i64 ((a + blkN (s.drop a) : Nat) : Int))) : CallOk Try.prog 44 [.s s, .i .i64 (a : Nat)] objs K := by
 refine fn_rn is_fieldtext_BlanksEnd rfl fun C _ => ?_
 simp only [c_fieldtext_BlanksEnd, sxZ, evs, evp, setd, SV.ev, AV.flat, AV.one, AV.cells, resAs, resA, tupA, pub, pubs, AV.plain, plains, srcOf, splice, fillA, eqA, eqAs, z6, z7, z8, q7, q8, q9, j2, j3, j4, j5, j6, j7, j8, j9, x0, x3, reduceCtorEq, ↓reduceIte]
 refine rn_loop (fun n objs tm => ∃ i : Nat, i ≤ s.length ∧ n = s.length - i ∧ objs = [] ∧ a + blkN (s.drop a) = i + blkN (s.drop i) ∧ tm.length = 24 ∧ tm[0]? = some (.s s) ∧ tm[1]? = some (.i .i64 i)) (s.length - a) ⟨a, ha, rfl, rfl, rfl, rfl, rfl, rfl⟩ ?_
 rintro n _ tm ⟨i, hi, rfl, rfl, hr, hlen, t0, t1⟩
 by_cases hlt : (i : Int) < s.length
 ·have hlt' : i < s.length := by omega
  have hg := getD_get hlt'
  have hrn := blk_at s i hlt'
  rw [blank_nat] at hrn
  by_cases c1 : (((s[i]).toNat : Nat) : Int) = 32
  ·rw [if_pos (decide_eq_true (.inl c1))] at hrn
   simp only [sxZ, evs, evp, setd, SV.ev, AV.flat, AV.one, AV.cells, resAs, resA, tupA, pub, pubs, AV.plain, plains, srcOf, splice, fillA, eqA, eqAs, z6, z7, z8, q7, q8, q9, j2, j3, j4, j5, j6, j7, j8, j9, x0, x3, reduceCtorEq, ↓reduceIte, List.getElem?_set, hlen, t0, t1, hlt, hg, c1]
   exact ⟨by omega, ⟨by omega, by omega⟩, s.length - (i + 1), by omega, i + 1, by omega, rfl, by omega, rfl⟩
  ·by_cases c2 : (((s[i]).toNat : Nat) : Int) = 9
   ·rw [if_pos (decide_eq_true (.inr c2))] at hrn
    simp only [sxZ, evs, evp, setd, SV.ev, AV.flat, AV.one, AV.cells, resAs, resA, tupA, pub, pubs, AV.plain, plains, srcOf, splice, fillA, eqA, eqAs, z6, z7, z8, q7, q8, q9, j2, j3, j4, j5, j6, j7, j8, j9, x0, x3, reduceCtorEq, ↓reduceIte, List.getElem?_set, hlen, t0, t1, hlt, hg, c1, c2]
    exact ⟨by omega, by omega, ⟨by omega, by omega⟩, s.length - (i + 1), by omega, i + 1, by omega, rfl, by omega, rfl⟩
   ·rw [if_neg (by rw [decide_eq_true_iff]; exact fun h => h.elim c1 c2)] at hrn
    simp only [sxZ, evs, evp, setd, SV.ev, AV.flat, AV.one, AV.cells, resAs, resA, tupA, pub, pubs, AV.plain, plains, srcOf, splice, fillA, eqA, eqAs, z6, z7, z8, q7, q8, q9, j2, j3, j4, j5, j6, j7, j8, j9, x0, x3, reduceCtorEq, ↓reduceIte, List.getElem?_set, hlen, t0, t1, hlt, hg, c1, c2]
    rw [hr, hrn] at hk
    exact ⟨by omega, by omega, hk⟩
 ·obtain rfl : i = s.length := by omega
  have he : blkN (s.drop s.length) = 0 := by rw [List.drop_length]; rfl
  simp only [sxZ, evs, evp, setd, SV.ev, AV.flat, AV.one, AV.cells, resAs, resA, tupA, pub, pubs, AV.plain, plains, srcOf, splice, fillA, eqA, eqAs, z6, z7, z8, q7, q8, q9, j2, j3, j4, j5, j6, j7, j8, j9, x0, x3, reduceCtorEq, ↓reduceIte, List.getElem?_set, hlen, t0, t1, hlt]
  rw [hr, he] at hk
  exact hk
set_option maxRecDepth 100000 in
set_option maxHeartbeats 1000000 in
theorem fQuoted_k (s : List UInt8) (a : Nat) (ha : a < s.length) (hs : s.length ≤ 100000000000) (h1 : ∀ x k, quoE (s.drop (a + 1)) = some (x, k) → K objs (.tup [.s x, .i .i64 ((a + 1 + k : Nat) : Int), .b true])) (h0 : quoE (s.drop (a + 1)) = none → ∀ t : Nat, t ≤ s.length → K objs (.tup [.s [], .i .i64 (t : Nat), .b false])) : CallOk Try.prog 79 [.s s, .i .i64 (a : Nat)] objs K := by
 refine fn_rn is_fieldtext_quoted rfl fun C _ => ?_
 simp only [c_fieldtext_quoted, sxZ, evs, evp, setd, SV.ev, AV.flat, AV.one, AV.cells, resAs, resA, tupA, pub, pubs, AV.plain, plains, srcOf, splice, fillA, eqA, eqAs, z6, z7, z8, q7, q8, q9, j2, j3, j4, j5, j6, j7, j8, j9, x0, x3, reduceCtorEq, ↓reduceIte]
 refine ⟨by omega, ?_⟩
 refine rn_loop (fun n objs tm => ∃ (i : Nat) (acc : List UInt8), a + 1 ≤ i ∧ i ≤ s.length ∧ n = s.length - i ∧ acc.length ≤ i ∧ quoE (s.drop (a + 1)) = (quoE (s.drop i)).map (fun p => (acc ++ p.1, i - (a + 1) + p.2)) ∧ tm.length = 51 ∧ tm[0]? = some (.s s) ∧ tm[8]? = some (.i .i64 i) ∧
  ((acc = [] ∧ objs = [] ∧ tm[7]? = some .nil) ∨ (∃ g, objs = [.orow 5 1 g acc.length (byA acc)] ∧ tm[7]? = some (.orow 0 g)))) (s.length - (a + 1)) ⟨a + 1, [], Nat.le_refl _, by omega, rfl, by simp, by simp, rfl, rfl, rfl, .inl ⟨rfl, rfl, rfl⟩⟩ ?_
 rintro n o tm ⟨i, acc, hai, hi, rfl, hal, hq, hlen, t0, t8, hO⟩
 by_cases hlt : (i : Int) < s.length
 ·have hlt' : i < s.length := by omega
  have hg := getD_get hlt'
  have hqa := quo_at s i hlt'
  by_cases c1 : (((s[i]).toNat : Nat) : Int) = 34
  ·rw [if_pos (show s[i] = 34 from (byte_eq s[i] 34 (by omega)).1 c1)] at hqa
   have hk := h1 _ _ (quo_step hq hqa)
   rw [List.append_nil, show ((a + 1 + (i - (a + 1) + 1) : Nat) : Int) = (i : Int) + 1 by omega] at hk
   rcases hO with ⟨rfl, rfl, t7⟩ | ⟨g, rfl, t7⟩
   ·simp only [sxZ, evs, evp, setd, SV.ev, AV.flat, AV.one, AV.cells, resAs, resA, tupA, pub, pubs, AV.plain, plains, srcOf, splice, fillA, eqA, eqAs, z6, z7, z8, q7, q8, q9, j2, j3, j4, j5, j6, j7, j8, j9, x0, x3, reduceCtorEq, ↓reduceIte, List.getElem?_set, hlen, t0, t7, t8, hlt, hg, c1]
    exact ⟨by omega, ⟨by omega, by omega⟩, hk⟩
   ·simp only [sxZ, evs, evp, setd, SV.ev, AV.flat, AV.one, AV.cells, resAs, resA, tupA, pub, pubs, AV.plain, plains, srcOf, splice, fillA, eqA, eqAs, z6, z7, z8, q7, q8, q9, j2, j3, j4, j5, j6, j7, j8, j9, x0, x3, reduceCtorEq, ↓reduceIte, List.getElem?_set, hlen, t0, t7, t8, hlt, hg, c1]
    refine ⟨by omega, kCb2_o _ _ _ acc ?_⟩
    simp only [sxZ, evs, evp, setd, SV.ev, AV.flat, AV.one, AV.cells, resAs, resA, tupA, pub, pubs, AV.plain, plains, srcOf, splice, fillA, eqA, eqAs, z6, z7, z8, q7, q8, q9, j2, j3, j4, j5, j6, j7, j8, j9, x0, x3, reduceCtorEq, ↓reduceIte, List.getElem?_set, hlen, t0, t7, t8, hlt, hg, c1]
    exact ⟨⟨by omega, by omega⟩, hk⟩
  ·have n1 : ¬ s[i] = 34 := fun h => c1 (by rw [h]; rfl)
   rw [if_neg n1] at hqa
   by_cases c2 : (((s[i]).toNat : Nat) : Int) = 92
   ·rw [if_pos (show s[i] = 92 from (byte_eq s[i] 92 (by omega)).1 c2)] at hqa
    by_cases c3 : (i : Int) + 1 = s.length
    ·rw [dif_neg (by omega)] at hqa
     have hk := h0 (quo_none hq hqa) s.length (Nat.le_refl _)
     simp only [sxZ, evs, evp, setd, SV.ev, AV.flat, AV.one, AV.cells, resAs, resA, tupA, pub, pubs, AV.plain, plains, srcOf, splice, fillA, eqA, eqAs, z6, z7, z8, q7, q8, q9, j2, j3, j4, j5, j6, j7, j8, j9, x0, x3, reduceCtorEq, ↓reduceIte, List.getElem?_set, hlen, t0, t8, hlt, hg, c1, c2, c3]
     exact ⟨by omega, by omega, ⟨by omega, by omega⟩, hk⟩
    ·have hlt2 : i + 1 < s.length := by omega
     have hg2 := getD_get hlt2
     rw [dif_pos hlt2] at hqa
     obtain ⟨d, hd⟩ : ∃ d, d = s[i + 1] := ⟨_, rfl⟩
     rw [← hd] at hg2 hqa
     simp only [sxZ, evs, evp, setd, SV.ev, AV.flat, AV.one, AV.cells, resAs, resA, tupA, pub, pubs, AV.plain, plains, srcOf, splice, fillA, eqA, eqAs, z6, z7, z8, q7, q8, q9, j2, j3, j4, j5, j6, j7, j8, j9, x0, x3, reduceCtorEq, ↓reduceIte, List.getElem?_set, hlen, t0, t8, hlt, hg, c1, c2, c3]
     refine ⟨by omega, by omega, ⟨by omega, by omega⟩, ⟨by omega, by omega⟩, ?_⟩
     rw [hg2]
     refine kcall (fByte_k d ?_)
     by_cases c4 : isPrt d = true
     ·rw [if_pos c4] at hqa
      have hm := quo_more (j := i + 2) (d := 2) hai rfl hq hqa
      rcases hO with ⟨rfl, rfl, t7⟩ | ⟨g, rfl, t7⟩
      ·simp only [sxZ, evs, evp, setd, SV.ev, AV.flat, AV.one, AV.cells, resAs, resA, tupA, pub, pubs, AV.plain, plains, srcOf, splice, fillA, eqA, eqAs, z6, z7, z8, q7, q8, q9, j2, j3, j4, j5, j6, j7, j8, j9, x0, x3, reduceCtorEq, ↓reduceIte, List.getElem?_set, hlen, t0, t7, t8, hg2, c4]
       exact ⟨⟨by omega, by omega⟩, ⟨by omega, by omega⟩, s.length - (i + 2), by omega, i + 2, [d], by omega, by omega, rfl, by simp only [List.length_cons, List.length_nil]; omega, hm, by rw [show (((i + 2 : Nat)) : Int) = (i : Int) + 1 + 1 by omega], .inr ⟨0, rfl, rfl⟩⟩
      ·simp only [sxZ, evs, evp, setd, SV.ev, AV.flat, AV.one, AV.cells, resAs, resA, tupA, pub, pubs, AV.plain, plains, srcOf, splice, fillA, eqA, eqAs, z6, z7, z8, q7, q8, q9, j2, j3, j4, j5, j6, j7, j8, j9, x0, x3, reduceCtorEq, ↓reduceIte, List.getElem?_set, hlen, t0, t7, t8, hg2, c4]
       exact ⟨⟨by omega, by omega⟩, ⟨by omega, by omega⟩, ⟨by omega, by omega⟩, s.length - (i + 2), by omega, i + 2, acc ++ [d], by omega, by omega, rfl, by simp only [List.length_append, List.length_cons, List.length_nil]; omega, hm, by rw [show (((i + 2 : Nat)) : Int) = (i : Int) + 1 + 1 by omega], .inr ⟨g + 1, by rw [byA_append, List.length_append]; rfl, rfl⟩⟩
     ·rw [if_neg c4] at hqa
      have hk := h0 (quo_none hq hqa) (i + 1) (by omega)
      rw [show (((i + 1 : Nat)) : Int) = (i : Int) + 1 by omega] at hk
      simp only [Bool.not_eq_true] at c4
      simp only [sxZ, evs, evp, setd, SV.ev, AV.flat, AV.one, AV.cells, resAs, resA, tupA, pub, pubs, AV.plain, plains, srcOf, splice, fillA, eqA, eqAs, z6, z7, z8, q7, q8, q9, j2, j3, j4, j5, j6, j7, j8, j9, x0, x3, reduceCtorEq, ↓reduceIte, List.getElem?_set, hlen, t0, t8, hg, c4]
      exact hk
   ·have n2 : ¬ s[i] = 92 := fun h => c2 (by rw [h]; rfl)
    rw [if_neg n2] at hqa
    have c3 : ¬ (i : Int) = s.length := by omega
    simp only [sxZ, evs, evp, setd, SV.ev, AV.flat, AV.one, AV.cells, resAs, resA, tupA, pub, pubs, AV.plain, plains, srcOf, splice, fillA, eqA, eqAs, z6, z7, z8, q7, q8, q9, j2, j3, j4, j5, j6, j7, j8, j9, x0, x3, reduceCtorEq, ↓reduceIte, List.getElem?_set, hlen, t0, t8, hlt, hg, c1, c2, c3]
    refine ⟨by omega, by omega, by omega, ?_⟩
    refine kcall (fByte_k s[i] ?_)
    by_cases c4 : isPrt s[i] = true
    ·rw [if_pos c4] at hqa
     have hm := quo_more (j := i + 1) (d := 1) hai rfl hq hqa
     rcases hO with ⟨rfl, rfl, t7⟩ | ⟨g, rfl, t7⟩
     ·simp only [sxZ, evs, evp, setd, SV.ev, AV.flat, AV.one, AV.cells, resAs, resA, tupA, pub, pubs, AV.plain, plains, srcOf, splice, fillA, eqA, eqAs, z6, z7, z8, q7, q8, q9, j2, j3, j4, j5, j6, j7, j8, j9, x0, x3, reduceCtorEq, ↓reduceIte, List.getElem?_set, hlen, t0, t7, t8, hg, c4]
      exact ⟨⟨by omega, by omega⟩, ⟨by omega, by omega⟩, s.length - (i + 1), by omega, i + 1, [s[i]], by omega, by omega, rfl, by simp only [List.length_cons, List.length_nil]; omega, hm, rfl, .inr ⟨0, rfl, rfl⟩⟩
     ·simp only [sxZ, evs, evp, setd, SV.ev, AV.flat, AV.one, AV.cells, resAs, resA, tupA, pub, pubs, AV.plain, plains, srcOf, splice, fillA, eqA, eqAs, z6, z7, z8, q7, q8, q9, j2, j3, j4, j5, j6, j7, j8, j9, x0, x3, reduceCtorEq, ↓reduceIte, List.getElem?_set, hlen, t0, t7, t8, hg, c4]
      exact ⟨⟨by omega, by omega⟩, ⟨by omega, by omega⟩, ⟨by omega, by omega⟩, s.length - (i + 1), by omega, i + 1, acc ++ [s[i]], by omega, by omega, rfl, by simp only [List.length_append, List.length_cons, List.length_nil]; omega, hm, rfl, .inr ⟨g + 1, by rw [byA_append, List.length_append]; rfl, rfl⟩⟩
    ·rw [if_neg c4] at hqa
     have hk := h0 (quo_none hq hqa) i hi
     simp only [Bool.not_eq_true] at c4
     simp only [sxZ, evs, evp, setd, SV.ev, AV.flat, AV.one, AV.cells, resAs, resA, tupA, pub, pubs, AV.plain, plains, srcOf, splice, fillA, eqA, eqAs, z6, z7, z8, q7, q8, q9, j2, j3, j4, j5, j6, j7, j8, j9, x0, x3, reduceCtorEq, ↓reduceIte, List.getElem?_set, hlen, t0, t8, hg, c4]
     exact hk
 ·obtain rfl : i = s.length := by omega
  have hn : quoE (s.drop s.length) = none := by rw [List.drop_length]; rfl
  have hk := h0 (quo_none hq hn) s.length (Nat.le_refl _)
  simp only [sxZ, evs, evp, setd, SV.ev, AV.flat, AV.one, AV.cells, resAs, resA, tupA, pub, pubs, AV.plain, plains, srcOf, splice, fillA, eqA, eqAs, z6, z7, z8, q7, q8, q9, j2, j3, j4, j5, j6, j7, j8, j9, x0, x3, reduceCtorEq, ↓reduceIte, List.getElem?_set, hlen, t0, t8, hlt]
  exact hk
set_option maxRecDepth 100000 in
theorem fWord_k (s : List UInt8) (a : Nat) (ha : a ≤ s.length) (hs : s.length ≤ 100000000000) (h1 : ∀ x k, wordE (s.drop a) = some (x, k) → K objs (.tup [.s x, .i .i64 ((a + k : Nat) : Int), .b true])) (h0 : wordE (s.drop a) = none → ∀ t : Nat, t ≤ s.length → K objs (.tup [.s [], .i .i64 (t : Nat), .b false])) : CallOk Try.prog 50 [.s s, .i .i64 (a : Nat)] objs K := by
 refine fn_rn is_fieldtext_Word rfl fun C _ => ?_
 have hle := tokN_le (s.drop a)
 rw [List.length_drop] at hle
 have tok : ∀ hh : (s.drop a).head? ≠ some 34, K objs (.tup [.s (List.drop a (List.take (a + tokN (s.drop a)) s)), .i .i64 ((a + tokN (s.drop a) : Nat) : Int), .b (decide ((a : Int) < ((a + tokN (s.drop a) : Nat) : Int)))]) := by
  intro hh
  rw [slice_word]
  unfold wordE at h1 h0
  rw [if_neg hh] at h1 h0
  by_cases h : tokN (s.drop a) = 0
  ·have := h0 (by rw [if_pos h]) a ha
   rw [h, decide_eq_false (by omega)]
   exact this
  ·rw [decide_eq_true (by omega)]
   exact h1 _ _ (by rw [if_neg h])
 simp only [c_fieldtext_Word, sxZ, evs, evp, setd, SV.ev, AV.flat, AV.one, AV.cells, resAs, resA, tupA, pub, pubs, AV.plain, plains, srcOf, splice, fillA, eqA, eqAs, z6, z7, z8, q7, q8, q9, j2, j3, j4, j5, j6, j7, j8, j9, x0, x3, reduceCtorEq, ↓reduceIte]
 by_cases hlt : (a : Int) < s.length
 ·have hlt' : a < s.length := by omega
  have hg := getD_get hlt'
  obtain ⟨w1, w2⟩ := word_at hlt'
  by_cases c1 : (((s[a]).toNat : Nat) : Int) = 34
  ·have e34 : s[a] = 34 := (byte_eq s[a] 34 (by omega)).1 c1
   unfold wordE at h1 h0
   rw [w1, e34, if_pos rfl, w2] at h1 h0
   simp only [sxZ, evs, evp, setd, SV.ev, AV.flat, AV.one, AV.cells, resAs, resA, tupA, pub, pubs, AV.plain, plains, srcOf, splice, fillA, eqA, eqAs, z6, z7, z8, q7, q8, q9, j2, j3, j4, j5, j6, j7, j8, j9, x0, x3, reduceCtorEq, ↓reduceIte, hlt, hg, c1]
   refine ⟨by omega, ?_⟩
   refine kcall (fQuoted_k s a hlt' hs (fun x k hq => ?_) (fun hq t ht => ?_))
   ·have hk := h1 x (k + 1) (by rw [hq]; rfl)
    rw [show a + (k + 1) = a + 1 + k by omega] at hk
    simp only [sxZ, evs, evp, setd, SV.ev, AV.flat, AV.one, AV.cells, resAs, resA, tupA, pub, pubs, AV.plain, plains, srcOf, splice, fillA, eqA, eqAs, z6, z7, z8, q7, q8, q9, j2, j3, j4, j5, j6, j7, j8, j9, x0, x3, reduceCtorEq, ↓reduceIte]
    exact hk
   ·have hk := h0 (by rw [hq]; rfl) t ht
    simp only [sxZ, evs, evp, setd, SV.ev, AV.flat, AV.one, AV.cells, resAs, resA, tupA, pub, pubs, AV.plain, plains, srcOf, splice, fillA, eqA, eqAs, z6, z7, z8, q7, q8, q9, j2, j3, j4, j5, j6, j7, j8, j9, x0, x3, reduceCtorEq, ↓reduceIte]
    exact hk
  ·have n1 : ¬ s[a] = 34 := fun h => c1 (by rw [h]; rfl)
   have hk := tok (by rw [w1]; exact fun h => n1 (Option.some.inj h))
   simp only [sxZ, evs, evp, setd, SV.ev, AV.flat, AV.one, AV.cells, resAs, resA, tupA, pub, pubs, AV.plain, plains, srcOf, splice, fillA, eqA, eqAs, z6, z7, z8, q7, q8, q9, j2, j3, j4, j5, j6, j7, j8, j9, x0, x3, reduceCtorEq, ↓reduceIte, hlt, hg, c1]
   refine ⟨by omega, ?_⟩
   refine kcall (fTokenEnd_k s a ha (by omega) ?_)
   simp only [sxZ, evs, evp, setd, SV.ev, AV.flat, AV.one, AV.cells, resAs, resA, tupA, pub, pubs, AV.plain, plains, srcOf, splice, fillA, eqA, eqAs, z6, z7, z8, q7, q8, q9, j2, j3, j4, j5, j6, j7, j8, j9, x0, x3, reduceCtorEq, ↓reduceIte, Int.toNat_natCast]
   exact ⟨by omega, hk⟩
 ·have e : s.drop a = [] := List.drop_eq_nil_of_le (by omega)
  have hk := tok (by rw [e]; simp)
  simp only [sxZ, evs, evp, setd, SV.ev, AV.flat, AV.one, AV.cells, resAs, resA, tupA, pub, pubs, AV.plain, plains, srcOf, splice, fillA, eqA, eqAs, z6, z7, z8, q7, q8, q9, j2, j3, j4, j5, j6, j7, j8, j9, x0, x3, reduceCtorEq, ↓reduceIte, hlt]
  refine kcall (fTokenEnd_k s a ha (by omega) ?_)
  simp only [sxZ, evs, evp, setd, SV.ev, AV.flat, AV.one, AV.cells, resAs, resA, tupA, pub, pubs, AV.plain, plains, srcOf, splice, fillA, eqA, eqAs, z6, z7, z8, q7, q8, q9, j2, j3, j4, j5, j6, j7, j8, j9, x0, x3, reduceCtorEq, ↓reduceIte, Int.toNat_natCast]
  exact ⟨by omega, hk⟩
end
end
section
attribute [local irreducible] run
section
variable [Tabs Try.prog] {objs : List OB} {K : List OB → AV → Prop}
set_option maxRecDepth 100000 in
set_option maxHeartbeats 1000000 in
theorem fWrite_k (s : List UInt8) (hs : s.length ≤ 1000000) (hk : K objs (.s (writeL s))) : CallOk Try.prog 54 [.s s] objs K := by
 refine fn_rn is_fieldtext_Write rfl fun C _ => ?_
 simp only [c_fieldtext_Write, sxZ, evs, evp, setd, SV.ev, AV.flat, AV.one, AV.cells, resAs, resA, tupA, pub, pubs, AV.plain, plains, srcOf, splice, fillA, eqA, eqAs, z6, z7, z8, q7, q8, q9, j2, j3, j4, j5, j6, j7, j8, j9, x0, x3, reduceCtorEq, ↓reduceIte]
 refine kcall (fToken_k s (by omega) ?_)
 unfold writeL at hk
 by_cases c0 : tokenB s = true
 ·rw [if_pos c0] at hk
  simp only [c0, sxZ, evs, evp, setd, SV.ev, AV.flat, AV.one, AV.cells, resAs, resA, tupA, pub, pubs, AV.plain, plains, srcOf, splice, fillA, eqA, eqAs, z6, z7, z8, q7, q8, q9, j2, j3, j4, j5, j6, j7, j8, j9, x0, x3, reduceCtorEq, ↓reduceIte]
  exact hk
 ·rw [if_neg c0] at hk
  simp only [Bool.not_eq_true] at c0
  simp only [c0, sxZ, evs, evp, setd, SV.ev, AV.flat, AV.one, AV.cells, resAs, resA, tupA, pub, pubs, AV.plain, plains, srcOf, splice, fillA, eqA, eqAs, z6, z7, z8, q7, q8, q9, j2, j3, j4, j5, j6, j7, j8, j9, x0, x3, reduceCtorEq, ↓reduceIte]
  refine rn_loop (fun n objs tm => ∃ (i g : Nat), i ≤ s.length ∧ n = s.length - i ∧ objs = [.orow 5 1 g (1 + (escL (s.take i)).length) (byA (34 :: escL (s.take i)))] ∧ tm.length = 38 ∧ tm[0]? = some (.s s) ∧ tm[3]? = some (.orow 0 g) ∧ tm[10]? = some (.i .i64 s.length) ∧ tm[11]? = some (.i .i64 i)) s.length ⟨0, 0, Nat.zero_le _, rfl, rfl, rfl, rfl, rfl, rfl, rfl⟩ ?_
  rintro n o tm ⟨i, g, hi, rfl, rfl, hlen, t0, t3, t10, t11⟩
  have hel := escL_len (s.take i)
  rw [List.length_take] at hel
  by_cases hlt : (i : Int) < s.length
  ·have hlt' : i < s.length := by omega
   have hg := getD_get hlt'
   have hj := escL_snoc s i hlt'
   have one : ∀ (l : List UInt8) (c : UInt8), byA l ++ [AV.i .u8 (c.toNat : Int)] = byA (l ++ [c]) := fun l c => by rw [byA_append]; rfl
   have c34 : ((34 : UInt8).toNat : Int) = 34 := rfl
   by_cases c1 : (((s[i]).toNat : Nat) : Int) = 34
   ·have e34 := (byte_eq s[i] 34 (by omega)).1 c1
    rw [if_pos (.inl e34)] at hj
    simp only [sxZ, evs, evp, setd, SV.ev, AV.flat, AV.one, AV.cells, resAs, resA, tupA, pub, pubs, AV.plain, plains, srcOf, splice, fillA, eqA, eqAs, z6, z7, z8, q7, q8, q9, j2, j3, j4, j5, j6, j7, j8, j9, x0, x3, reduceCtorEq, ↓reduceIte, List.getElem?_set, hlen, t0, t3, t10, t11, hlt, hg, c1]
    exact ⟨by omega, ⟨by omega, by omega⟩, by omega, ⟨by omega, by omega⟩, ⟨by omega, by omega⟩, s.length - (i + 1), by omega, i + 1, g + 1 + 1, by omega, rfl, by rw [hj, List.length_append, show (34 :: (escL (s.take i) ++ [92, s[i]])) = (34 :: escL (s.take i)) ++ [92, s[i]] from rfl, byA_append, e34, List.append_assoc]; rfl, rfl, rfl⟩
   ·by_cases c2 : (((s[i]).toNat : Nat) : Int) = 92
    ·have e92 := (byte_eq s[i] 92 (by omega)).1 c2
     rw [if_pos (.inr e92)] at hj
     simp only [sxZ, evs, evp, setd, SV.ev, AV.flat, AV.one, AV.cells, resAs, resA, tupA, pub, pubs, AV.plain, plains, srcOf, splice, fillA, eqA, eqAs, z6, z7, z8, q7, q8, q9, j2, j3, j4, j5, j6, j7, j8, j9, x0, x3, reduceCtorEq, ↓reduceIte, List.getElem?_set, hlen, t0, t3, t10, t11, hlt, hg, c1, c2]
     exact ⟨by omega, by omega, ⟨by omega, by omega⟩, by omega, ⟨by omega, by omega⟩, ⟨by omega, by omega⟩, s.length - (i + 1), by omega, i + 1, g + 1 + 1, by omega, rfl, by rw [hj, List.length_append, show (34 :: (escL (s.take i) ++ [92, s[i]])) = (34 :: escL (s.take i)) ++ [92, s[i]] from rfl, byA_append, e92, List.append_assoc]; rfl, rfl, rfl⟩
    ·rw [if_neg (fun h => h.elim (fun h => c1 (by rw [h]; rfl)) (fun h => c2 (by rw [h]; rfl)))] at hj
     simp only [sxZ, evs, evp, setd, SV.ev, AV.flat, AV.one, AV.cells, resAs, resA, tupA, pub, pubs, AV.plain, plains, srcOf, splice, fillA, eqA, eqAs, z6, z7, z8, q7, q8, q9, j2, j3, j4, j5, j6, j7, j8, j9, x0, x3, reduceCtorEq, ↓reduceIte, List.getElem?_set, hlen, t0, t3, t10, t11, hlt, hg, c1, c2]
     exact ⟨by omega, by omega, by omega, ⟨by omega, by omega⟩, ⟨by omega, by omega⟩, s.length - (i + 1), by omega, i + 1, g + 1, by omega, rfl, by rw [hj, List.length_append, show (34 :: (escL (s.take i) ++ [s[i]])) = (34 :: escL (s.take i)) ++ [s[i]] from rfl, byA_append]; rfl, rfl, rfl⟩
  ·obtain rfl : i = s.length := by omega
   rw [List.take_of_length_le (Nat.le_refl _)] at hel
   have eb : byA (34 :: escL s) ++ [AV.i .u8 34] = byA (34 :: (escL s ++ [34])) := by
    rw [show 34 :: (escL s ++ [34]) = (34 :: escL s) ++ [34] from rfl, byA_append]; rfl
   simp only [sxZ, evs, evp, setd, SV.ev, AV.flat, AV.one, AV.cells, resAs, resA, tupA, pub, pubs, AV.plain, plains, srcOf, splice, fillA, eqA, eqAs, z6, z7, z8, q7, q8, q9, j2, j3, j4, j5, j6, j7, j8, j9, x0, x3, reduceCtorEq, ↓reduceIte, List.getElem?_set, hlen, t0, t3, t10, t11, hlt, List.take_length, eb]
   refine ⟨⟨by omega, by omega⟩, kCb2_o _ _ _ (34 :: (escL s ++ [34])) ?_⟩
   simp only [sxZ, evs, evp, setd, SV.ev, AV.flat, AV.one, AV.cells, resAs, resA, tupA, pub, pubs, AV.plain, plains, srcOf, splice, fillA, eqA, eqAs, z6, z7, z8, q7, q8, q9, j2, j3, j4, j5, j6, j7, j8, j9, x0, x3, reduceCtorEq, ↓reduceIte, List.getElem?_set, hlen]
   exact hk
end
end
end Go.Proofs.Ytkcaghhfnmeknaa
namespace Go.Proofs.Ytkcaghhfnmeknaa
open Go.RowKit Sx
section
attribute [local irreducible] run
structure FewM (l : List (List UInt8 × List UInt8)) : Prop where
 num : l.length ≤ 1000
 len : ∀ p ∈ l, p.1.length + p.2.length ≤ 20000
theorem Few.m {l : List (List UInt8 × List UInt8)} (h : Few l) : FewM l := ⟨Nat.le_trans h.num (by decide), h.len⟩
section
variable [Tabs Try.prog] {objs : List OB} {K : List OB → AV → Prop}
end
end
end Go.Proofs.Ytkcaghhfnmeknaa
namespace Go.Proofs.Ytkcaghhfnmeknaa
open Go.RowKit Sx
section
attribute [local irreducible] run
theorem head_at {s : List UInt8} {a : Nat} {c : UInt8} : (s.drop a).head? = some c ↔ ∃ h : a < s.length, s[a] = c := by
 constructor
 ·intro h
  by_cases hl : a < s.length
  ·rw [(word_at hl).1] at h
   exact ⟨hl, Option.some.inj h⟩
  ·rw [List.drop_eq_nil_of_le (by omega)] at h
   cases h
 ·rintro ⟨h, rfl⟩
  exact (word_at h).1
section
variable [Tabs Try.prog] {objs : List OB} {K : List OB → AV → Prop}
end
end
end Go.Proofs.Ytkcaghhfnmeknaa
namespace Go.Proofs.Ytkcaghhfnmeknaa
open List renaming replicate → z6
open Nat renaming reduceAdd → z7, reduceSub → z8, reduceLeDiff → q7, reduceLT → q8, reduceMul → q9, reduceEqDiff → j2
open Int renaming reduceToNat → j3, reduceAdd → j4, reduceSub → j5, reduceMul → j6, reduceNeg → j7, reduceLT → j8, reduceLE → j9, reduceEq → x0, reduceNe → x3
open Go.RowKit Sx
section
attribute [local irreducible] run
theorem pubs_strs (objs : List OB) (d : Nat) : ∀ l : List (List UInt8), pubs objs d (l.map AV.s) = some (l.map AV.s)
 | [] => by simp [pubs]
 | x :: l => by
  have h := pubs_strs objs d l
  simp [pubs, pub, h, AV.plain]
section
variable [Tabs Try.prog] {objs : List OB} {K : List OB → AV → Prop}
set_option maxRecDepth 100000 in
set_option maxHeartbeats 1000000 in
theorem words_k (s : List UInt8) (hs : s.length ≤ 10000000000) (hk : K objs (.row (wordsE s).length ((wordsE s).map .s))) : CallOk Try.prog 113 [.s s] objs K := by
 refine callok_res (.row (wordsE s).length ((wordsE s).map .s)) (fn_rn is_weblink_words rfl fun C _ => ?_)
 simp only [c_weblink_words, sxZ, evs, evp, setd, SV.ev, AV.flat, AV.one, AV.cells, resAs, resA, tupA, pub, pubs, AV.plain, plains, srcOf, splice, fillA, eqA, eqAs, z6, z7, z8, q7, q8, q9, j2, j3, j4, j5, j6, j7, j8, j9, x0, x3, reduceCtorEq, ↓reduceIte]
 refine kcall (fBlanks_k s 0 (Nat.zero_le _) (by omega) ?_)
 obtain ⟨z1, z2⟩ := nxM_le (s := s) (a := 0) (Nat.zero_le _)
 rw [show 0 + blkN (s.drop 0) = nxM s 0 from rfl]
 simp only [sxZ, evs, evp, setd, SV.ev, AV.flat, AV.one, AV.cells, resAs, resA, tupA, pub, pubs, AV.plain, plains, srcOf, splice, fillA, eqA, eqAs, z6, z7, z8, q7, q8, q9, j2, j3, j4, j5, j6, j7, j8, j9, x0, x3, reduceCtorEq, ↓reduceIte]
 refine rn_loop (fun n objs tm => ∃ (p : Nat) (acc : List (List UInt8)), p ≤ s.length ∧ n = s.length - p ∧ NotBlank s p ∧ wordsE s = wordsAt s p acc ∧ acc.length ≤ p ∧ tm.length = 42 ∧ tm[0]? = some (.s s) ∧ tm[4]? = some (.i .i64 p) ∧
  ((acc = [] ∧ tm[3]? = some .nil ∧ objs = []) ∨ (acc ≠ [] ∧ ∃ g, tm[3]? = some (.orow 0 g) ∧ objs = [.orow 9 1 g acc.length (acc.map .s)]))) (s.length - nxM s 0) ⟨nxM s 0, [], z2, rfl, nxM_stop s 0, rfl, Nat.zero_le _, rfl, rfl, rfl, .inl ⟨rfl, rfl, rfl⟩⟩ ?_
 rintro n o tm ⟨p, acc, hp, rfl, hnb, hq, hap, hlen, t0, t4, hO⟩
 by_cases hlt : (p : Int) < s.length
 ·have hlt' : p < s.length := by omega
  have hstep := wordsAt_step (acc := acc) hnb hlt'
  obtain ⟨b1, b2⟩ := nb_pos hlt' hnb
  obtain ⟨n1, n2⟩ := nxM_le b2
  simp only [sxZ, evs, evp, setd, SV.ev, AV.flat, AV.one, AV.cells, resAs, resA, tupA, pub, pubs, AV.plain, plains, srcOf, splice, fillA, eqA, eqAs, z6, z7, z8, q7, q8, q9, j2, j3, j4, j5, j6, j7, j8, j9, x0, x3, reduceCtorEq, ↓reduceIte, List.getElem?_set, hlen, t0, t4, hlt]
  rw [← rn_blk]
  refine rn_cut (fun ob t => ob = o ∧ t.length = 42 ∧ t[0]? = some (.s s) ∧ t[3]? = tm[3]? ∧ t[4]? = some (.i .i64 p) ∧ t[5]? = some (.i .i64 ((p + nbN (s.drop p) : Nat) : Int))) ?_ ?_
  ·simp only [sxZ, evs, evp, setd, SV.ev, AV.flat, AV.one, AV.cells, resAs, resA, tupA, pub, pubs, AV.plain, plains, srcOf, splice, fillA, eqA, eqAs, z6, z7, z8, q7, q8, q9, j2, j3, j4, j5, j6, j7, j8, j9, x0, x3, reduceCtorEq, ↓reduceIte]
   refine rn_loop (fun n ob t => ∃ i : Nat, p ≤ i ∧ i ≤ s.length ∧ n = s.length - i ∧ i + nbN (s.drop i) = p + nbN (s.drop p) ∧ ob = o ∧ t.length = 42 ∧ t[0]? = some (.s s) ∧ t[3]? = tm[3]? ∧ t[4]? = some (.i .i64 p) ∧ t[5]? = some (.i .i64 i)) (s.length - p) ⟨p, Nat.le_refl _, hp, rfl, rfl, rfl, by simp only [List.length_set, hlen], by simp only [sxZ, evs, evp, setd, SV.ev, AV.flat, AV.one, AV.cells, resAs, resA, tupA, pub, pubs, AV.plain, plains, srcOf, splice, fillA, eqA, eqAs, z6, z7, z8, q7, q8, q9, j2, j3, j4, j5, j6, j7, j8, j9, x0, x3, reduceCtorEq, ↓reduceIte, List.getElem?_set, hlen, t0], by simp only [sxZ, evs, evp, setd, SV.ev, AV.flat, AV.one, AV.cells, resAs, resA, tupA, pub, pubs, AV.plain, plains, srcOf, splice, fillA, eqA, eqAs, z6, z7, z8, q7, q8, q9, j2, j3, j4, j5, j6, j7, j8, j9, x0, x3, reduceCtorEq, ↓reduceIte, List.getElem?_set, hlen], by simp only [sxZ, evs, evp, setd, SV.ev, AV.flat, AV.one, AV.cells, resAs, resA, tupA, pub, pubs, AV.plain, plains, srcOf, splice, fillA, eqA, eqAs, z6, z7, z8, q7, q8, q9, j2, j3, j4, j5, j6, j7, j8, j9, x0, x3, reduceCtorEq, ↓reduceIte, List.getElem?_set, hlen, t4], by simp only [sxZ, evs, evp, setd, SV.ev, AV.flat, AV.one, AV.cells, resAs, resA, tupA, pub, pubs, AV.plain, plains, srcOf, splice, fillA, eqA, eqAs, z6, z7, z8, q7, q8, q9, j2, j3, j4, j5, j6, j7, j8, j9, x0, x3, reduceCtorEq, ↓reduceIte, List.getElem?_set, hlen]⟩ ?_
   rintro _ o' t ⟨i, hpi, hi, rfl, hsame, rfl, tl, u0, u3, u4, u5⟩
   by_cases hl : (i : Int) < s.length
   ·have hl' : i < s.length := by omega
    have hg := getD_get hl'
    have hnbi := nb_at s i hl'
    unfold blank at hnbi
    by_cases c1 : (((s[i]).toNat : Nat) : Int) = 32
    ·rw [if_pos (by simp; omega)] at hnbi
     obtain rfl : i = p + nbN (s.drop p) := by omega
     simp only [sxZ, evs, evp, setd, SV.ev, AV.flat, AV.one, AV.cells, resAs, resA, tupA, pub, pubs, AV.plain, plains, srcOf, splice, fillA, eqA, eqAs, z6, z7, z8, q7, q8, q9, j2, j3, j4, j5, j6, j7, j8, j9, x0, x3, reduceCtorEq, ↓reduceIte, cutF_normal, List.getElem?_set, tl, u0, u4, u5, hl, hg, c1]
     exact ⟨by omega, u3⟩
    ·by_cases c2 : (((s[i]).toNat : Nat) : Int) = 9
     ·rw [if_pos (by simp; omega)] at hnbi
      obtain rfl : i = p + nbN (s.drop p) := by omega
      simp only [sxZ, evs, evp, setd, SV.ev, AV.flat, AV.one, AV.cells, resAs, resA, tupA, pub, pubs, AV.plain, plains, srcOf, splice, fillA, eqA, eqAs, z6, z7, z8, q7, q8, q9, j2, j3, j4, j5, j6, j7, j8, j9, x0, x3, reduceCtorEq, ↓reduceIte, cutF_normal, List.getElem?_set, tl, u0, u4, u5, hl, hg, c1, c2]
      exact ⟨by omega, by omega, u3⟩
     ·rw [if_neg (by simp; omega)] at hnbi
      simp only [sxZ, evs, evp, setd, SV.ev, AV.flat, AV.one, AV.cells, resAs, resA, tupA, pub, pubs, AV.plain, plains, srcOf, splice, fillA, eqA, eqAs, z6, z7, z8, q7, q8, q9, j2, j3, j4, j5, j6, j7, j8, j9, x0, x3, reduceCtorEq, ↓reduceIte, cutF_normal, List.getElem?_set, tl, u0, u4, u5, hl, hg, c1, c2]
      exact ⟨by omega, by omega, ⟨by omega, by omega⟩, _, by omega, i + 1, by omega, by omega, rfl, by omega, u3, by rw [show ((i + 1 : Nat) : Int) = (i : Int) + 1 by omega]⟩
   ·obtain rfl : i = s.length := by omega
    rw [List.drop_length] at hsame
    have hsame' : s.length = p + nbN (s.drop p) := hsame
    simp only [sxZ, evs, evp, setd, SV.ev, AV.flat, AV.one, AV.cells, resAs, resA, tupA, pub, pubs, AV.plain, plains, srcOf, splice, fillA, eqA, eqAs, z6, z7, z8, q7, q8, q9, j2, j3, j4, j5, j6, j7, j8, j9, x0, x3, reduceCtorEq, ↓reduceIte, cutF_normal, List.getElem?_set, tl, u0, u4, u5, hl]
    exact ⟨u3, by rw [← hsame']⟩
  ·rintro o' t ⟨rfl, tl, u0, u3, u4, u5⟩
   rcases hO with ⟨rfl, t3, rfl⟩ | ⟨ha, g, t3, rfl⟩
   ·rw [t3] at u3
    simp only [sxZ, evs, evp, setd, SV.ev, AV.flat, AV.one, AV.cells, resAs, resA, tupA, pub, pubs, AV.plain, plains, srcOf, splice, fillA, eqA, eqAs, z6, z7, z8, q7, q8, q9, j2, j3, j4, j5, j6, j7, j8, j9, x0, x3, reduceCtorEq, ↓reduceIte, List.getElem?_set, tl, u0, u3, u4, u5]
    rw [slice_word]
    refine ⟨by omega, ?_⟩
    refine kcall (fBlanks_k s (p + nbN (s.drop p)) b2 (by omega) ?_)
    rw [show p + nbN (s.drop p) + blkN (s.drop (p + nbN (s.drop p))) = nxM s (p + nbN (s.drop p)) from rfl]
    simp only [sxZ, evs, evp, setd, SV.ev, AV.flat, AV.one, AV.cells, resAs, resA, tupA, pub, pubs, AV.plain, plains, srcOf, splice, fillA, eqA, eqAs, z6, z7, z8, q7, q8, q9, j2, j3, j4, j5, j6, j7, j8, j9, x0, x3, reduceCtorEq, ↓reduceIte, List.getElem?_set, tl, u0, u3, u4, u5]
    exact ⟨_, by omega, nxM s (p + nbN (s.drop p)), _, n2, rfl, nxM_stop s _, hq.trans hstep, by rw [List.nil_append, List.length_singleton]; omega, rfl, .inr ⟨by simp, 0, rfl, rfl⟩⟩
   ·rw [t3] at u3
    simp only [sxZ, evs, evp, setd, SV.ev, AV.flat, AV.one, AV.cells, resAs, resA, tupA, pub, pubs, AV.plain, plains, srcOf, splice, fillA, eqA, eqAs, z6, z7, z8, q7, q8, q9, j2, j3, j4, j5, j6, j7, j8, j9, x0, x3, reduceCtorEq, ↓reduceIte, List.getElem?_set, tl, u0, u3, u4, u5]
    rw [slice_word]
    refine ⟨by omega, by omega, ?_⟩
    refine kcall (fBlanks_k s (p + nbN (s.drop p)) b2 (by omega) ?_)
    rw [show p + nbN (s.drop p) + blkN (s.drop (p + nbN (s.drop p))) = nxM s (p + nbN (s.drop p)) from rfl]
    simp only [sxZ, evs, evp, setd, SV.ev, AV.flat, AV.one, AV.cells, resAs, resA, tupA, pub, pubs, AV.plain, plains, srcOf, splice, fillA, eqA, eqAs, z6, z7, z8, q7, q8, q9, j2, j3, j4, j5, j6, j7, j8, j9, x0, x3, reduceCtorEq, ↓reduceIte, List.getElem?_set, tl, u0, u3, u4, u5]
    exact ⟨_, by omega, nxM s (p + nbN (s.drop p)), _, n2, rfl, nxM_stop s _, hq.trans hstep, by rw [List.length_append, List.length_singleton]; omega, rfl, .inr ⟨by simp, g + 1, rfl, by rw [List.length_append, List.map_append]; rfl⟩⟩
 ·obtain rfl : p = s.length := by omega
  rw [wordsAt_end] at hq
  rcases hO with ⟨rfl, t3, rfl⟩ | ⟨ha, g, t3, rfl⟩
  ·simp only [sxZ, evs, evp, setd, SV.ev, AV.flat, AV.one, AV.cells, resAs, resA, tupA, pub, pubs, AV.plain, plains, srcOf, splice, fillA, eqA, eqAs, z6, z7, z8, q7, q8, q9, j2, j3, j4, j5, j6, j7, j8, j9, x0, x3, reduceCtorEq, ↓reduceIte, List.getElem?_set, hlen, t0, t3, t4, hlt]
   rw [hq] at hk ⊢
   exact ⟨fun G I y h => den_nil_row h, hk⟩
  ·simp only [sxZ, evs, evp, setd, SV.ev, AV.flat, AV.one, AV.cells, resAs, resA, tupA, pub, pubs, AV.plain, plains, srcOf, splice, fillA, eqA, eqAs, z6, z7, z8, q7, q8, q9, j2, j3, j4, j5, j6, j7, j8, j9, x0, x3, reduceCtorEq, ↓reduceIte, List.getElem?_set, hlen, t0, t3, t4, hlt]
   rw [pubs_strs]
   rw [hq] at hk ⊢
   exact ⟨fun G I y h => h, hk⟩
set_option maxRecDepth 100000 in
theorem relations_k (l : List (List UInt8 × List UInt8)) (hl : l.length ≤ 10000000000) (hp : ∀ p ∈ l, p.2.length ≤ 10000000000) (hk : K objs (.row (relsE l).length ((relsE l).map .s))) : CallOk Try.prog 94 [.row l.length (fcells l)] objs K := by
 refine callok_res (.row (relsE l).length ((relsE l).map .s)) (fn_rn is_weblink_relations (by simp [plains, AV.plain, fc_plain]) fun C _ => ?_)
 simp only [c_weblink_relations, sxZ, evs, evp, setd, SV.ev, AV.flat, AV.one, AV.cells, resAs, resA, tupA, pub, pubs, AV.plain, plains, srcOf, splice, fillA, eqA, eqAs, z6, z7, z8, q7, q8, q9, j2, j3, j4, j5, j6, j7, j8, j9, x0, x3, reduceCtorEq, ↓reduceIte]
 refine rn_loop (fun n objs tm => ∃ i : Nat, i ≤ l.length ∧ n = l.length - i ∧ relsE l = relsE (l.drop i) ∧ tm.length = 19 ∧ tm[5]? = some (.row l.length (fcells l)) ∧ tm[6]? = some (.i .i64 l.length) ∧ tm[7]? = some (.i .i64 i)) l.length ⟨0, Nat.zero_le _, rfl, rfl, rfl, rfl, rfl, rfl⟩ ?_
 rintro n o tm ⟨i, hi, rfl, hq, hlen, t5, t6, t7⟩
 by_cases hlt : (i : Int) < l.length
 ·have hlt' : i < l.length := by omega
  have hat := fc_at hlt'
  have hfl := fcells_len l
  have hpp := hp _ (List.getElem_mem hlt')
  rw [List.drop_eq_getElem_cons hlt'] at hq
  by_cases c1 : l[i].1 = [114, 101, 108]
  ·have hq2 : relsE l = wordsE (lowL l[i].2) := by rw [hq, relsE, if_pos (show l[i].1 = relN from c1)]
   simp only [sxZ, evs, evp, setd, SV.ev, AV.flat, AV.one, AV.cells, resAs, resA, tupA, pub, pubs, AV.plain, plains, srcOf, splice, fillA, eqA, eqAs, z6, z7, z8, q7, q8, q9, j2, j3, j4, j5, j6, j7, j8, j9, x0, x3, reduceCtorEq, ↓reduceIte, List.getElem?_set, hlen, t5, t6, t7, hlt, Int.toNat_natCast, hat, gn1, sn1, c1]
   refine ⟨by omega, by omega, ?_⟩
   refine kcall (hLower_k _ (by omega) ?_)
   simp only [sxZ, evs, evp, setd, SV.ev, AV.flat, AV.one, AV.cells, resAs, resA, tupA, pub, pubs, AV.plain, plains, srcOf, splice, fillA, eqA, eqAs, z6, z7, z8, q7, q8, q9, j2, j3, j4, j5, j6, j7, j8, j9, x0, x3, reduceCtorEq, ↓reduceIte, List.getElem?_set, hlen]
   refine kcall (words_k _ (by rw [low_len]; omega) ?_)
   rw [hq2] at hk ⊢
   simp only [sxZ, evs, evp, setd, SV.ev, AV.flat, AV.one, AV.cells, resAs, resA, tupA, pub, pubs, AV.plain, plains, srcOf, splice, fillA, eqA, eqAs, z6, z7, z8, q7, q8, q9, j2, j3, j4, j5, j6, j7, j8, j9, x0, x3, reduceCtorEq, ↓reduceIte, List.getElem?_set, hlen]
   simp only [strs_plain, sxZ, evs, evp, setd, SV.ev, AV.flat, AV.one, AV.cells, resAs, resA, tupA, pub, pubs, AV.plain, plains, srcOf, splice, fillA, eqA, eqAs, z6, z7, z8, q7, q8, q9, j2, j3, j4, j5, j6, j7, j8, j9, x0, x3, reduceCtorEq, ↓reduceIte]
   exact ⟨fun G I y h => h, hk⟩
  ·have hq2 : relsE l = relsE (l.drop (i + 1)) := by rw [hq, relsE, if_neg (show ¬ l[i].1 = relN from c1)]
   simp only [sxZ, evs, evp, setd, SV.ev, AV.flat, AV.one, AV.cells, resAs, resA, tupA, pub, pubs, AV.plain, plains, srcOf, splice, fillA, eqA, eqAs, z6, z7, z8, q7, q8, q9, j2, j3, j4, j5, j6, j7, j8, j9, x0, x3, reduceCtorEq, ↓reduceIte, List.getElem?_set, hlen, t5, t6, t7, hlt, Int.toNat_natCast, hat, gn1, sn1, c1]
   exact ⟨⟨by omega, by omega⟩, by omega, ⟨by omega, by omega⟩, _, by omega, i + 1, by omega, rfl, hq2, rfl⟩
 ·obtain rfl : i = l.length := by omega
  rw [List.drop_length] at hq
  simp only [sxZ, evs, evp, setd, SV.ev, AV.flat, AV.one, AV.cells, resAs, resA, tupA, pub, pubs, AV.plain, plains, srcOf, splice, fillA, eqA, eqAs, z6, z7, z8, q7, q8, q9, j2, j3, j4, j5, j6, j7, j8, j9, x0, x3, reduceCtorEq, ↓reduceIte, List.getElem?_set, hlen, t5, t6, t7, hlt]
  rw [hq] at hk ⊢
  exact ⟨fun G I y h => den_nil_row h, hk⟩
set_option maxRecDepth 100000 in
theorem readPar_k (s : List UInt8) (a : Nat) (ha : a ≤ s.length) (hs : s.length ≤ 10000000000) (h1 : ∀ d q, lparAt s a = some (d, q) → K objs (.tup [.agg [.s d.1, .s d.2], .i .i64 (q : Nat), .b true])) (h0 : lparAt s a = none → ∀ (v w : List UInt8) (t : Nat), K objs (.tup [.agg [.s v, .s w], .i .i64 (t : Nat), .b false])) :
  CallOk Try.prog 93 [.s s, .i .i64 (a : Nat)] objs K := by
 refine fn_rn is_weblink_readParameter rfl fun C _ => ?_
 have ht := tokN_le (s.drop a)
 rw [List.length_drop] at ht
 simp only [c_weblink_readParameter, sxZ, evs, evp, setd, SV.ev, AV.flat, AV.one, AV.cells, resAs, resA, tupA, pub, pubs, AV.plain, plains, srcOf, splice, fillA, eqA, eqAs, z6, z7, z8, q7, q8, q9, j2, j3, j4, j5, j6, j7, j8, j9, x0, x3, reduceCtorEq, ↓reduceIte]
 refine kcall (fTokenEnd_k s a ha (by omega) ?_)
 by_cases c0 : tokN (s.drop a) = 0
 ·have hk := h0 (by unfold lparAt; rw [if_pos c0])
  have c0' : ((a + tokN (s.drop a) : Nat) : Int) = a := by omega
  simp only [sxZ, evs, evp, setd, SV.ev, AV.flat, AV.one, AV.cells, resAs, resA, tupA, pub, pubs, AV.plain, plains, srcOf, splice, fillA, eqA, eqAs, z6, z7, z8, q7, q8, q9, j2, j3, j4, j5, j6, j7, j8, j9, x0, x3, reduceCtorEq, ↓reduceIte, c0']
  exact hk _ _ _
 have c0' : ¬ ((a + tokN (s.drop a) : Nat) : Int) = a := by omega
 simp only [sxZ, evs, evp, setd, SV.ev, AV.flat, AV.one, AV.cells, resAs, resA, tupA, pub, pubs, AV.plain, plains, srcOf, splice, fillA, eqA, eqAs, z6, z7, z8, q7, q8, q9, j2, j3, j4, j5, j6, j7, j8, j9, x0, x3, reduceCtorEq, ↓reduceIte, c0', Int.toNat_natCast, slice_word]
 refine ⟨by omega, ?_⟩
 refine kcall (hLower_k _ (by rw [List.length_take, List.length_drop]; omega) ?_)
 obtain ⟨nm, hnm⟩ : ∃ nm, nm = lowL (List.take (tokN (s.drop a)) (s.drop a)) := ⟨_, rfl⟩
 rw [← hnm]
 simp only [sxZ, evs, evp, setd, SV.ev, AV.flat, AV.one, AV.cells, resAs, resA, tupA, pub, pubs, AV.plain, plains, srcOf, splice, fillA, eqA, eqAs, z6, z7, z8, q7, q8, q9, j2, j3, j4, j5, j6, j7, j8, j9, x0, x3, reduceCtorEq, ↓reduceIte]
 refine kcall (fBlanks_k s (a + tokN (s.drop a)) (by omega) (by omega) ?_)
 rw [show a + tokN (s.drop a) + blkN (s.drop (a + tokN (s.drop a))) = nxM s (a + tokN (s.drop a)) from rfl]
 have hl : lparAt s a = if (s.drop (nxM s (a + tokN (s.drop a)))).head? = some 61 then
   (wordE (s.drop (nxM s (nxM s (a + tokN (s.drop a)) + 1)))).map fun p => ((nm, p.1), nxM s (nxM s (a + tokN (s.drop a)) + 1) + p.2)
  else some ((nm, []), a + tokN (s.drop a)) := by unfold lparAt; rw [if_neg c0, hnm]
 obtain ⟨n1, n2⟩ := nxM_le (s := s) (a := a + tokN (s.drop a)) (by omega)
 obtain ⟨m, hm⟩ : ∃ m, m = nxM s (a + tokN (s.drop a)) := ⟨_, rfl⟩
 obtain ⟨u, hu⟩ : ∃ u, u = a + tokN (s.drop a) := ⟨_, rfl⟩
 rw [← hm] at hl n1 n2
 rw [← hm]
 rw [← hu] at hl n1 ⊢
 by_cases c1 : (m : Int) = s.length
 ·have hk := h1 _ _ (by rw [hl, if_neg]; intro e; have := head_lt e; omega)
  simp only [sxZ, evs, evp, setd, SV.ev, AV.flat, AV.one, AV.cells, resAs, resA, tupA, pub, pubs, AV.plain, plains, srcOf, splice, fillA, eqA, eqAs, z6, z7, z8, q7, q8, q9, j2, j3, j4, j5, j6, j7, j8, j9, x0, x3, reduceCtorEq, ↓reduceIte, c1]
  exact hk
 have hml : m < s.length := by omega
 have hg := getD_get hml
 by_cases c2 : (((s[m]).toNat : Nat) : Int) = 61
 rotate_left
 ·have hk := h1 _ _ (by rw [hl, if_neg]; intro e; obtain ⟨hl, he⟩ := head_at.1 e; exact c2 (by rw [he]; rfl))
  simp only [sxZ, evs, evp, setd, SV.ev, AV.flat, AV.one, AV.cells, resAs, resA, tupA, pub, pubs, AV.plain, plains, srcOf, splice, fillA, eqA, eqAs, z6, z7, z8, q7, q8, q9, j2, j3, j4, j5, j6, j7, j8, j9, x0, x3, reduceCtorEq, ↓reduceIte, c1, hg, c2]
  exact ⟨by omega, hk⟩
 rw [if_pos (show (s.drop m).head? = some 61 from head_at.2 ⟨hml, (byte_eq s[m] 61 (by omega)).1 c2⟩)] at hl
 simp only [sxZ, evs, evp, setd, SV.ev, AV.flat, AV.one, AV.cells, resAs, resA, tupA, pub, pubs, AV.plain, plains, srcOf, splice, fillA, eqA, eqAs, z6, z7, z8, q7, q8, q9, j2, j3, j4, j5, j6, j7, j8, j9, x0, x3, reduceCtorEq, ↓reduceIte, c1, hg, c2]
 refine ⟨by omega, ⟨by omega, by omega⟩, ?_⟩
 rw [show (m : Int) + 1 = ((m + 1 : Nat) : Int) by omega]
 refine kcall (fBlanks_k s (m + 1) (by omega) (by omega) ?_)
 rw [show m + 1 + blkN (s.drop (m + 1)) = nxM s (m + 1) from rfl]
 obtain ⟨k1, k2⟩ := nxM_le (s := s) (a := m + 1) (by omega)
 simp only [sxZ, evs, evp, setd, SV.ev, AV.flat, AV.one, AV.cells, resAs, resA, tupA, pub, pubs, AV.plain, plains, srcOf, splice, fillA, eqA, eqAs, z6, z7, z8, q7, q8, q9, j2, j3, j4, j5, j6, j7, j8, j9, x0, x3, reduceCtorEq, ↓reduceIte]
 refine kcall (fWord_k s (nxM s (m + 1)) k2 (by omega) (fun x k hx => ?_) (fun hx t ht => ?_))
 ·rw [hx] at hl
  have hk := h1 _ _ hl
  simp only [sxZ, evs, evp, setd, SV.ev, AV.flat, AV.one, AV.cells, resAs, resA, tupA, pub, pubs, AV.plain, plains, srcOf, splice, fillA, eqA, eqAs, z6, z7, z8, q7, q8, q9, j2, j3, j4, j5, j6, j7, j8, j9, x0, x3, reduceCtorEq, ↓reduceIte]
  exact hk
 ·rw [hx] at hl
  have hk := h0 hl
  simp only [sxZ, evs, evp, setd, SV.ev, AV.flat, AV.one, AV.cells, resAs, resA, tupA, pub, pubs, AV.plain, plains, srcOf, splice, fillA, eqA, eqAs, z6, z7, z8, q7, q8, q9, j2, j3, j4, j5, j6, j7, j8, j9, x0, x3, reduceCtorEq, ↓reduceIte]
  exact hk _ _ _
end
end
end Go.Proofs.Ytkcaghhfnmeknaa
namespace Go.Proofs.Ytkcaghhfnmeknaa.Sx
open Go.RowKit
def subAV (b gen n : Nat) (xs : List AV) : AV → AV
 | .orow b' g' => if b' = b ∧ g' = gen then .row n xs else .orow b' g'
 | x => x
def subOB (b gen n : Nat) (xs : List AV) : OB → OB
 | .box T cs => .box T (cs.map (subAV b gen n xs))
 | x => x
def pubO (objs : List OB) (b gen n : Nat) (xs : List AV) : List OB := (objs.map (subOB b gen n xs)).set b .dead
def pubG (G : Gh) (b gen : Nat) : Gh := ⟨G.blk, fun x => if x = b then some (gen + 1, .slice none 0 0) else G.cur x⟩
theorem pubG_le {G : Gh} {b gen : Nat} {v : Value} (h : G.cur b = some (gen, v)) : G.le (pubG G b gen) where
 blk := fun _ _ h => h
 cur := fun x n w hx => by
  by_cases hb : x = b
  ·subst hb
   rw [h] at hx; injection hx with hx; injection hx with h1 h2
   exact ⟨gen + 1, .slice none 0 0, by simp [pubG], .inr (by omega)⟩
  ·exact ⟨n, w, by simp [pubG, hb, hx], .inl ⟨rfl, rfl⟩⟩
theorem pubG_own {G : Gh} {b gen : Nat} (hb : G.blk b = none) {x g : Nat} (h : (pubG G b gen).own x = some g) : x ≠ b ∧ G.own x = some g := by
 by_cases hx : x = b
 ·subst hx
  exfalso
  unfold Gh.own pubG at h
  simp only [hb] at h
  simp [Value.ownBlock] at h
 ·refine ⟨hx, ?_⟩
  unfold Gh.own pubG at h
  simp only [if_neg hx] at h
  exact h
def pubI (I : Imm) (G : Gh) (b : Nat) (w : World) : Imm := fun g o v => I g o v ∨ (w.cell? ⟨g, o, none⟩ = some v ∧ G.own b = some g)
theorem den_sub {G : Gh} {I : Imm} {objs : List OB} {w : World} (hm : MemOk G I objs w) {b E sz gen n : Nat} {xs : List AV} (hb : objs[b]? = some (.orow E sz gen n xs)) (x : AV) (y : Value) (h : Den G I x y) : Den (pubG G b gen) (pubI I G b w) (subAV b gen n xs x) y := by
 obtain ⟨v', vs, m1, m2, m3, m4, m5⟩ := hm.row b E sz gen n xs hb
 have hG := pubG_le m1
 have hI : Imm.le I (pubI I G b w) := fun _ _ _ h => .inl h
 have other : subAV b gen n xs x = x → Den (pubG G b gen) (pubI I G b w) (subAV b gen n xs x) y := fun e => by rw [e]; exact Den.mono hG hI x y h
 cases x with
 | orow b' g' =>
  by_cases hh : b' = b ∧ g' = gen
  ·obtain ⟨rfl, rfl⟩ := hh
   have e : subAV b' g' n xs (.orow b' g') = .row n xs := by simp [subAV]
   rw [e]
   simp only [Den] at h ⊢
   obtain ⟨g0, v, k1, k2, k3, _⟩ := h
   rw [k1] at m1; injection m1 with m1; injection m1 with m1 m6
   have hv := k3 m1.symm
   subst m1 m6 hv
   have hown := own_of_cur m5 k1
   have q1 := Dens.mono hG hI xs vs m3
   rcases m2.2 with ⟨rfl, rfl⟩ | ⟨g, cap, cur, rfl, hx1, hx2, hx3, hx4⟩
   ·have hvs : vs = [] := List.eq_nil_of_length_eq_zero (by simpa using m2.1)
    subst hvs
    exact ⟨none, 0, [], rfl, ⟨Nat.le_refl _, by intro _ e; cases e⟩, q1, by simp, by simp⟩
   ·refine ⟨some ⟨g, 0, none⟩, cap, vs, rfl, ⟨hx3, by rintro _ ⟨⟩ _; rfl⟩, q1, m4, fun j u hj => ⟨g, 0, rfl, .inr ⟨?_, hown⟩⟩⟩
    have := m2.cells (g := g) rfl j u hj
    rwa [add_plain] at this
  ·exact other (by simp only [subAV, if_neg hh])
 | _ => exact other rfl
theorem dens_sub {G : Gh} {I : Imm} {objs : List OB} {w : World} (hm : MemOk G I objs w) {b E sz gen n : Nat} {xs : List AV} (hb : objs[b]? = some (.orow E sz gen n xs)) : ∀ (l : List AV) (ys : List Value), Dens G I l ys → Dens (pubG G b gen) (pubI I G b w) (l.map (subAV b gen n xs)) ys
 | [], ys, h => by simpa [Dens] using h
 | x :: l, ys, h => by
  simp only [Dens] at h
  obtain ⟨y, ys', rfl, h1, h2⟩ := h
  exact Dens.cons (den_sub hm hb x y h1) (dens_sub hm hb l ys' h2)
theorem callok_pub {P : Program} [Tabs P] {f : FuncId} {args : List AV} {objs : List OB} {K : List OB → AV → Prop} {b E sz gen n : Nat} {xs : List AV} (hb : objs[b]? = some (.orow E sz gen n xs)) (hc : CallOk P f (args.map (subAV b gen n xs)) (pubO objs b gen n xs) K) : CallOk P f args objs K := by
 intro C _ G I w hin hm ys hd
 obtain ⟨v', vs, m1, m2, m3, m4, m5⟩ := hm.row b E sz gen n xs hb
 have hlt : b < objs.length := by
  by_cases h : b < objs.length
  ·exact h
  ·rw [List.getElem?_eq_none (by omega)] at hb; cases hb
 have hG := pubG_le m1
 have hI : Imm.le I (pubI I G b w) := fun _ _ _ h => .inl h
 have hin' : In C (pubG G b gen) (pubI I G b w) w := {
  os := hin.os, tape := hin.tape, output := hin.output, size := hin.size, block := hin.block
  imm := fun g o v h => .inl (hin.imm g o v h)
  news := fun g o v h => by
   rcases h with h | ⟨_, h⟩
   ·exact hin.news g o v h
   ·exact .inr (hin.blk b g h)
  blk := fun x g h => hin.blk x g (pubG_own m5 h).2
  gh := hin.gh.trans hG }
 have hat : ∀ x o, (pubO objs b gen n xs)[x]? = some o → o = .dead ∨ (x ≠ b ∧ ∃ o', objs[x]? = some o' ∧ subOB b gen n xs o' = o) := by
  intro x o h
  unfold pubO at h
  by_cases hx : x = b
  ·subst hx
   rw [List.getElem?_set_self (by simpa using hlt)] at h
   injection h with h; exact .inl h.symm
  ·rw [List.getElem?_set_ne (Ne.symm hx), List.getElem?_map] at h
   obtain ⟨o', h1, h2⟩ := Option.map_eq_some_iff.1 h
   exact .inr ⟨hx, o', h1, h2⟩
 have hm' : MemOk (pubG G b gen) (pubI I G b w) (pubO objs b gen n xs) w := {
  imm := fun g o v h => by
   rcases h with h | ⟨h, _⟩
   ·exact hm.imm g o v h
   ·exact h
  box := fun x T cs h => by
   rcases hat x _ h with h | ⟨hx, o', h1, h2⟩
   ·cases h
   ·cases o' with
    | box T' cs' =>
     injection h2 with e1 e2
     subst e1 e2
     obtain ⟨g, ys, k1, k2, k3, k4⟩ := hm.box x _ _ h1
     exact ⟨g, ys, k1, k2, dens_sub hm hb _ _ k3, k4⟩
    | orow => cases h2
    | dead => cases h2
  row := fun x E' sz' gen' n' xs' h => by
   rcases hat x _ h with h | ⟨hx, o', h1, h2⟩
   ·cases h
   ·cases o' with
    | box T' cs' => cases h2
    | orow =>
     injection h2 with e1 e2 e3 e4 e5
     subst e1 e2 e3 e4 e5
     obtain ⟨v, ys, k1, k2, k3, k4, k5⟩ := hm.row x _ _ _ _ _ h1
     exact ⟨v, ys, by simp [pubG, hx, k1], k2, Dens.mono hG hI _ _ k3, k4, k5⟩
    | dead => cases h2
  inj := fun x x' g h h' => hm.inj x x' g (pubG_own m5 h).2 (pubG_own m5 h').2
  lt := fun x g h => hm.lt x g (pubG_own m5 h).2
  apart := fun x g o v h h' => by
   obtain ⟨hx, h1⟩ := pubG_own m5 h
   rcases h' with h' | ⟨_, h'⟩
   ·exact hm.apart x g o v h1 h'
   ·exact hx (hm.inj x b g h1 h')
  fresh := fun x hx => by
   have hx' : objs.length ≤ x := by simpa [pubO] using hx
   obtain ⟨k1, k2⟩ := hm.fresh x hx'
   exact ⟨k1, by simp [pubG, k2]; omega⟩ }
 refine (hc C _ _ w hin' hm' ys (dens_sub hm hb _ _ hd)).mono ?_
 rintro e w' ⟨y, objs', r, G', I', he, hk, h1, h2, h3, h4, hy⟩
 exact ⟨y, objs', r, G', I', he, hk, hG.trans h1, fun g o v h => h2 g o v (hI g o v h), h3, h4, hy⟩
end Go.Proofs.Ytkcaghhfnmeknaa.Sx
