/- The texts that the proofs of these statements reach, in their order, as few files. -/
import Derived.Shelf.Strings.Builder1
import Derived.Shelf.Strings.Builder2
import Derived.Shelf.Strings.OnBuilder
import Derived.Shelf.Small.Strs
import Derived.Shelf.Strings.BuilderF
import Derived.Shelf.Strings.BuilderK
import Derived.Shelf.Strings.Builder2Cap
import Derived.Shelf.Strings.Search1
import Derived.Shelf.Strings.Search2
import Derived.Shelf.Strings.Cut
import Derived.Shelf.LaysM
import Derived.Shelf.Strings.Shaped
import Derived.Shelf.Strings.BuilderCap
import Derived.Shelf.Slices.Turned
import Derived.Test.YtkcaghhfnmeknaaProg
import Derived.WalkKit
import Derived.WalkLawsBesides
import Derived.WalkSmall
import Derived.WalkSpells
import Derived.Lib.Hide
import Derived.Lib.IndexAny
import Derived.ShutString
import Derived.Lib.Strings
import Derived.Deep.QuietTactic
import Derived.BigQuiet
import Derived.Laws.BytesArg
import Derived.Laws.IdiomStrings
import Derived.Lib.ConvBytes
import Derived.Lib.AppendStr
import Derived.Lib.LaidTab
import Derived.Lib.ItoaNum
import Derived.ChangeAgain
import Derived.Laws.Rows
import Derived.Lib.ItoaMem
import Derived.Lib.ItoaLen
import Derived.Lib.Walk
import Derived.Lib.ItoaWalk
import Derived.Lib.AppendIntMem
import Derived.BigCall
import Derived.BigGuard
import Derived.Lib.Split
import Derived.Lib.IndexMore
import Derived.Lib.Builder
import Derived.Lib.UnsafeStr
import Derived.Shelf.RegionOpenPlain
import Derived.Laws.Externs
import Derived.Lib.SplitLaws
import Derived.BigRegion
import Derived.Deep.RegionLaw
import Derived.Deep.RegionHeldLaw
import Derived.Deep.DrawnRows
import Derived.Lib.Join
import Derived.Test.YtkcaghhfnmeknaaMd1
set_option linter.unusedVariables false
set_option linter.unusedSimpArgs false
namespace Go.Proofs.Ytkcaghhfnmeknaa.Sx
open Go.RowKit
inductive IT where
 | code (c : SCode)
 | ops (l : List SO)
 | dops (l : List SO)
 | ap (l : List (Nat × Nat))
 | blk (id : Nat)
def cont (P : Program) [Tabs P] (C : Cx) (F : Post) : List IT → Post
 | [] => F
 | .code c :: k => thenK (fun o t => wpC P C c (cont P C F k) o t) (cont P C F k)
 | .ops l :: k => thenK (fun o t => wpR P l o t fun o t => cont P C F k .normal o t) (cont P C F k)
 | .dops l :: k => thenK (fun o t => wpD P l o t fun o t => cont P C F k .normal o t) (cont P C F k)
 | .ap l :: k => thenK (fun o t => apOk l t ∧ cont P C F k .normal o t) (cont P C F k)
 | .blk id :: k => blkK id (cont P C F k)
def run (P : Program) [Tabs P] (C : Cx) (k : List IT) (objs : List OB) (tm : List AV) (F : Post) : Prop := cont P C F k .normal objs tm
def xit (P : Program) [Tabs P] (C : Cx) (id : Nat) (k : List IT) (objs : List OB) (tm : List AV) (F : Post) : Prop := cont P C F k (.exit id) objs tm
def loopF (P : Program) [Tabs P] (C : Cx) (J : Nat → List OB → List AV → Prop) (n : Nat) (k : List IT) (F : Post) : Post := thenK (fun o t => ∃ m, m < n ∧ J m o t) (cont P C F k)
def evs (tm : List AV) : List SV → List AV
 | [] => []
 | x :: xs => x.ev tm :: evs tm xs
theorem evs_eq (tm : List AV) : ∀ l : List SV, evs tm l = l.map fun x => x.ev tm
 | [] => rfl
 | x :: l => by rw [evs, evs_eq tm l]; rfl
def evp (tm : List AV) : List (Nat × Nat × SV) → List (Nat × Nat × AV)
 | [] => []
 | (o, s, x) :: xs => (o, s, x.ev tm) :: evp tm xs
theorem evp_eq (tm : List AV) : ∀ l : List (Nat × Nat × SV), evp tm l = l.map fun p => (p.1, p.2.1, p.2.2.ev tm)
 | [] => rfl
 | (o, s, x) :: l => by rw [evp, evp_eq tm l]; rfl
def bxs : Option OB → Option (List AV)
 | some (.box _ cs) => some cs
 | _ => none
theorem bxs_box (T : TypeId) (cs : List AV) : bxs (some (.box T cs)) = some cs := Eq.trans rfl rfl
section
variable {P : Program} [Tabs P] {C : Cx} {F : Post} {k : List IT} {r : List SO} {objs : List OB} {tm : List AV} {d : Option Nat}
theorem rn_nil : run P C [] objs tm F = F .normal objs tm := Eq.trans rfl rfl
theorem rn_seq (x y : SCode) : run P C (.code (.seq x y) :: k) objs tm F = run P C (.code x :: .code y :: k) objs tm F := Eq.trans rfl rfl
theorem rn_skip : run P C (.code .skip :: k) objs tm F = run P C k objs tm F := Eq.trans rfl rfl
theorem rn_reg (l : List SO) : run P C (.code (.reg l) :: k) objs tm F = run P C (.ops l :: k) objs tm F := Eq.trans rfl rfl
theorem rn_ap (l : List (Nat × Nat)) : run P C (.ap l :: k) objs tm F = (apOk l tm ∧ run P C k objs tm F) := Eq.trans rfl rfl
theorem apOk_n : apOk [] tm = True := Eq.trans rfl rfl
theorem apOk_c (s s' : Nat) (l : List (Nat × Nat)) : apOk ((s, s') :: l) tm = (apOne tm[s]? tm[s']? ∧ apOk l tm) := Eq.trans rfl rfl
theorem apOne_p (b o b' o' : Nat) : apOne (some (.p b o)) (some (.p b' o')) = (¬ b = b') := Eq.trans rfl rfl
theorem rn_drw (l : List SO) (n : Nat) (ap : List (Nat × Nat)) : run P C (.code (.drw l n ap) :: k) objs tm F = run P C (.dops (l.take n) :: .ap ap :: .ops (l.drop n) :: k) objs tm F := Eq.trans rfl rfl
theorem rn_blk (id : Nat) (c : SCode) : run P C (.code (.blk id c) :: k) objs tm F = run P C (.code c :: .blk id :: k) objs tm F := Eq.trans rfl rfl
theorem rn_inblk (id : Nat) : run P C (.blk id :: k) objs tm F = run P C k objs tm F := Eq.trans rfl rfl
theorem rn_ops_nil : run P C (.ops [] :: k) objs tm F = run P C k objs tm F := Eq.trans rfl rfl
theorem rn_dops_nil : run P C (.dops [] :: k) objs tm F = run P C k objs tm F := Eq.trans rfl rfl
theorem cont_ret : ∀ (k : List IT), cont P C F k .ret objs tm = F .ret objs tm
 | [] => rfl
 | .code c :: k => cont_ret k
 | .ops l :: k => cont_ret k
 | .dops l :: k => cont_ret k
 | .ap l :: k => cont_ret k
 | .blk id :: k => cont_ret k
theorem rn_ret : run P C (.code .ret :: k) objs tm F = F .ret objs tm := cont_ret k
theorem rn_exit (id : Nat) : run P C (.code (.exit id) :: k) objs tm F = xit P C id k objs tm F := Eq.trans rfl rfl
theorem xit_nil (id : Nat) : xit P C id [] objs tm F = F (.exit id) objs tm := Eq.trans rfl rfl
theorem xit_code (id : Nat) (c : SCode) : xit P C id (.code c :: k) objs tm F = xit P C id k objs tm F := Eq.trans rfl rfl
theorem xit_ops (id : Nat) (l : List SO) : xit P C id (.ops l :: k) objs tm F = xit P C id k objs tm F := Eq.trans rfl rfl
theorem xit_dops (id : Nat) (l : List SO) : xit P C id (.dops l :: k) objs tm F = xit P C id k objs tm F := Eq.trans rfl rfl
theorem xit_ap (id : Nat) (l : List (Nat × Nat)) : xit P C id (.ap l :: k) objs tm F = xit P C id k objs tm F := Eq.trans rfl rfl
theorem xit_blk (id id' : Nat) : xit P C id (.blk id' :: k) objs tm F = if id = id' then run P C k objs tm F else xit P C id k objs tm F := Eq.trans rfl rfl
theorem loopF_normal (J : Nat → List OB → List AV → Prop) (n : Nat) : loopF P C J n k F .normal objs tm = ∃ m, m < n ∧ J m objs tm := Eq.trans rfl rfl
theorem loopF_exit (J : Nat → List OB → List AV → Prop) (n id : Nat) : loopF P C J n k F (.exit id) objs tm = xit P C id k objs tm F := Eq.trans rfl rfl
theorem loopF_ret (J : Nat → List OB → List AV → Prop) (n : Nat) : loopF P C J n k F .ret objs tm = F .ret objs tm := cont_ret k
theorem rn_loop [On P C] {c : SCode} (J : Nat → List OB → List AV → Prop) (n : Nat) (h0 : J n objs tm) (round : ∀ n objs tm, J n objs tm → run P C [.code c] objs tm (loopF P C J n k F)) : run P C (.code (.loop c) :: k) objs tm F :=
 wps_loop J n h0 round
def kO (P : Program) [Tabs P] (C : Cx) (v : Option AV) (d : Option Nat) (r : List SO) (k : List IT) (objs : List OB) (tm : List AV) (F : Post) : Prop :=
 match v with
 | some v => run P C (.ops r :: k) objs (setd tm d v) F
 | none => False
theorem rn_op (op : SOp) : run P C (.ops (⟨d, op, none⟩ :: r) :: k) objs tm F = wpS P op objs tm fun o v => run P C (.ops r :: k) o (setd tm d v) F := Eq.trans rfl rfl
theorem kO_some (v : AV) : kO P C (some v) d r k objs tm F = run P C (.ops r :: k) objs (setd tm d v) F := Eq.trans rfl rfl
theorem rn_mv (x : SV) : run P C (.ops (⟨d, .mv x, none⟩ :: r) :: k) objs tm F = run P C (.ops r :: k) objs (setd tm d (x.ev tm)) F := Eq.trans rfl rfl
def kPick (P : Program) [Tabs P] (C : Cx) (c x y : AV) (d : Option Nat) (r : List SO) (k : List IT) (objs : List OB) (tm : List AV) (F : Post) : Prop :=
 match c with
 | .b t => (t = true → run P C (.ops r :: k) objs (setd tm d x) F) ∧ (t = false → run P C (.ops r :: k) objs (setd tm d y) F)
 | _ => False
theorem kPick_t (x y : AV) : kPick P C (.b true) x y d r k objs tm F = run P C (.ops r :: k) objs (setd tm d x) F := propext ⟨fun h => h.1 rfl, fun h => ⟨fun _ => h, fun e => absurd e.symm Bool.false_ne_true⟩⟩
theorem kPick_f (x y : AV) : kPick P C (.b false) x y d r k objs tm F = run P C (.ops r :: k) objs (setd tm d y) F := propext ⟨fun h => h.2 rfl, fun h => ⟨fun e => absurd e Bool.false_ne_true, fun _ => h⟩⟩
theorem rn_pick (c x y : SV) : run P C (.ops (⟨d, .pick c x y, none⟩ :: r) :: k) objs tm F = kPick P C (c.ev tm) (x.ev tm) (y.ev tm) d r k objs tm F := Eq.trans rfl rfl
theorem rn_alloc (T : Nat) (z : List AV) : run P C (.ops (⟨d, .alloc T z, none⟩ :: r) :: k) objs tm F = run P C (.ops r :: k) (objs ++ [.box T z]) (setd tm d (.p objs.length 0)) F := Eq.trans rfl rfl
theorem rn_box (T : Nat) (x : SV) : run P C (.ops (⟨d, .box T x, none⟩ :: r) :: k) objs tm F = ((x.ev tm).flat = true ∧ run P C (.ops r :: k) (objs ++ [.box T (x.ev tm).cells]) (setd tm d (.p objs.length 0)) F) := Eq.trans rfl rfl
theorem rn_build (z : List AV) (ps : List (Nat × Nat × SV)) : run P C (.ops (⟨d, .build z ps, none⟩ :: r) :: k) objs tm F = kO P C ((fillA z (evp tm ps)).map .agg) d r k objs tm F := by
 rw [evp_eq]
 rw [rn_op]
 simp only [wpS]
 cases fillA z (ps.map fun p => (p.1, p.2.1, p.2.2.ev tm)) <;> rfl
theorem rn_bslice (n : Nat) (z : List AV) (ps : List (Nat × Nat × SV)) : run P C (.ops (⟨d, .bslice n z ps, none⟩ :: r) :: k) objs tm F = kO P C ((fillA z (evp tm ps)).map (.row n)) d r k objs tm F := by
 rw [evp_eq]
 rw [rn_op]
 simp only [wpS]
 cases fillA z (ps.map fun p => (p.1, p.2.1, p.2.2.ev tm)) <;> rfl
def kLit (P : Program) [Tabs P] (C : Cx) (c : Option (List AV)) (E sz n : Nat) (d : Option Nat) (r : List SO) (k : List IT) (objs : List OB) (tm : List AV) (F : Post) : Prop :=
 match c with
 | some cs => cs.length = n * sz ∧ run P C (.ops r :: k) (objs ++ [.orow E sz 0 n cs]) (setd tm d (.orow objs.length 0)) F
 | none => False
theorem kLit_s (cs : List AV) (E sz n : Nat) : kLit P C (some cs) E sz n d r k objs tm F = (cs.length = n * sz ∧ run P C (.ops r :: k) (objs ++ [.orow E sz 0 n cs]) (setd tm d (.orow objs.length 0)) F) := Eq.trans rfl rfl
theorem rn_bslo (E sz n : Nat) (z : List AV) (ps : List (Nat × Nat × SV)) : run P C (.ops (⟨d, .bslo E sz n z ps, none⟩ :: r) :: k) objs tm F = kLit P C (fillA z (evp tm ps)) E sz n d r k objs tm F := by
 rw [evp_eq]
 rw [rn_op]
 simp only [wpS]
 cases fillA z (ps.map fun p => (p.1, p.2.1, p.2.2.ev tm)) <;> rfl
def kLd1 (P : Program) [Tabs P] (C : Cx) (v : AV) (d : Option Nat) (r : List SO) (k : List IT) (objs : List OB) (tm : List AV) (F : Post) : Prop :=
 match v with
 | .p b off => kO P C ((bxs objs[b]?).bind fun cs => cs[off]?) d r k objs tm F
 | .prow xs j => kO P C xs[j]? d r k objs tm F
 | _ => False
theorem kLd1_p (b off : Nat) : kLd1 P C (.p b off) d r k objs tm F = kO P C ((bxs objs[b]?).bind fun cs => cs[off]?) d r k objs tm F := Eq.trans rfl rfl
theorem kLd1_r (xs : List AV) (j : Nat) : kLd1 P C (.prow xs j) d r k objs tm F = kO P C xs[j]? d r k objs tm F := Eq.trans rfl rfl
theorem rn_load1 (x : SV) : run P C (.ops (⟨d, .load1 x, none⟩ :: r) :: k) objs tm F = kLd1 P C (x.ev tm) d r k objs tm F := by
 rw [rn_op]
 simp only [wpS, kLd1]
 cases x.ev tm <;> try rfl
 case p b off =>
  dsimp only
  generalize objs[b]? = q
  cases q with
  | none => rfl
  | some ob =>
   cases ob <;> try rfl
   all_goals (dsimp only [bxs, Option.bind]; split <;> rfl)
 case prow xs j =>
  dsimp only
  cases hx : xs[j]? with
  | none => simp [kO]
  | some v => simp [kO]
def kLdn (P : Program) [Tabs P] (C : Cx) (c : Option (List AV)) (off sz : Nat) (d : Option Nat) (r : List SO) (k : List IT) (objs : List OB) (tm : List AV) (F : Post) : Prop :=
 match c with
 | some cs => off + sz ≤ cs.length ∧ run P C (.ops r :: k) objs (setd tm d (.agg ((cs.drop off).take sz))) F
 | none => False
def kLdv (P : Program) [Tabs P] (C : Cx) (v : AV) (sz : Nat) (d : Option Nat) (r : List SO) (k : List IT) (objs : List OB) (tm : List AV) (F : Post) : Prop :=
 match v with
 | .p b off => kLdn P C (bxs objs[b]?) off sz d r k objs tm F
 | .prow xs j => kLdn P C (some xs) j sz d r k objs tm F
 | _ => False
theorem kLdn_s (cs : List AV) (off sz : Nat) : kLdn P C (some cs) off sz d r k objs tm F = (off + sz ≤ cs.length ∧ run P C (.ops r :: k) objs (setd tm d (.agg ((cs.drop off).take sz))) F) := Eq.trans rfl rfl
theorem kLdv_p (b off sz : Nat) : kLdv P C (.p b off) sz d r k objs tm F = kLdn P C (bxs objs[b]?) off sz d r k objs tm F := Eq.trans rfl rfl
theorem kLdv_r (xs : List AV) (j sz : Nat) : kLdv P C (.prow xs j) sz d r k objs tm F = kLdn P C (some xs) j sz d r k objs tm F := Eq.trans rfl rfl
theorem rn_loadn (sz : Nat) (x : SV) : run P C (.ops (⟨d, .loadn sz x, none⟩ :: r) :: k) objs tm F = kLdv P C (x.ev tm) sz d r k objs tm F := by
 rw [rn_op]
 simp only [wpS, kLdv]
 cases x.ev tm <;> try rfl
 try (case p b off =>
  dsimp only
  generalize objs[b]? = q
  cases q with
  | none => rfl
  | some ob => cases ob <;> rfl)
def kSt2 (P : Program) [Tabs P] (C : Cx) (c : Option OB) (b off sz : Nat) (v : AV) (d : Option Nat) (r : List SO) (k : List IT) (objs : List OB) (tm : List AV) (F : Post) : Prop :=
 match c with
 | some (.box T cs) => (v.flat = true ∧ v.cells.length = sz ∧ off + sz ≤ cs.length) ∧ run P C (.ops r :: k) (objs.set b (.box T (splice cs off v.cells))) (setd tm d .u) F
 | _ => False
def kSt (P : Program) [Tabs P] (C : Cx) (p v : AV) (sz : Nat) (d : Option Nat) (r : List SO) (k : List IT) (objs : List OB) (tm : List AV) (F : Post) : Prop :=
 match p with
 | .p b off => kSt2 P C objs[b]? b off sz v d r k objs tm F
 | _ => False
theorem kSt2_b (T : TypeId) (cs : List AV) (b off sz : Nat) (v : AV) : kSt2 P C (some (.box T cs)) b off sz v d r k objs tm F = ((v.flat = true ∧ v.cells.length = sz ∧ off + sz ≤ cs.length) ∧ run P C (.ops r :: k) (objs.set b (.box T (splice cs off v.cells))) (setd tm d .u) F) := Eq.trans rfl rfl
theorem kSt_p (b off sz : Nat) (v : AV) : kSt P C (.p b off) v sz d r k objs tm F = kSt2 P C objs[b]? b off sz v d r k objs tm F := Eq.trans rfl rfl
theorem rn_store (sz : Nat) (x y : SV) : run P C (.ops (⟨d, .store sz x y, none⟩ :: r) :: k) objs tm F = kSt P C (x.ev tm) (y.ev tm) sz d r k objs tm F := by
 rw [rn_op]
 simp only [wpS, kSt]
 cases x.ev tm <;> try rfl
 try (case p b off =>
  dsimp only
  generalize objs[b]? = q
  cases q with
  | none => rfl
  | some ob => cases ob <;> rfl)
def kNck (P : Program) [Tabs P] (C : Cx) (v : AV)  (d : Option Nat) (r : List SO) (k : List IT) (objs : List OB) (tm : List AV) (F : Post) : Prop :=
 match v with
 | .p b o => run P C (.ops r :: k) objs (setd tm d (.p b o)) F
 | .prow xs j => run P C (.ops r :: k) objs (setd tm d (.prow xs j)) F
 | .fn f fs cs => run P C (.ops r :: k) objs (setd tm d (.fn f fs cs)) F
 | _ => False
theorem kNck_0 (b o : Nat)  : kNck P C (.p b o)  d r k objs tm F = (run P C (.ops r :: k) objs (setd tm d (.p b o)) F) := Eq.trans rfl rfl
theorem kNck_1 (xs : List AV) (j : Nat)  : kNck P C (.prow xs j)  d r k objs tm F = (run P C (.ops r :: k) objs (setd tm d (.prow xs j)) F) := Eq.trans rfl rfl
theorem kNck_2 (f : Nat) (fs cs : List AV)  : kNck P C (.fn f fs cs)  d r k objs tm F = (run P C (.ops r :: k) objs (setd tm d (.fn f fs cs)) F) := Eq.trans rfl rfl
theorem rn_nck (x : SV) : run P C (.ops (⟨d, .nck x, none⟩ :: r) :: k) objs tm F = kNck P C (x.ev tm)  d r k objs tm F := by
 rw [rn_op]
 simp only [wpS, kNck]
 cases (x.ev tm) <;> rfl
def kNot (P : Program) [Tabs P] (C : Cx) (v : AV)  (d : Option Nat) (r : List SO) (k : List IT) (objs : List OB) (tm : List AV) (F : Post) : Prop :=
 match v with
 | .b t => run P C (.ops r :: k) objs (setd tm d (.b (!t))) F
 | _ => False
theorem kNot_0 (t : Bool)  : kNot P C (.b t)  d r k objs tm F = (run P C (.ops r :: k) objs (setd tm d (.b (!t))) F) := Eq.trans rfl rfl
theorem rn_not (x : SV) : run P C (.ops (⟨d, .not x, none⟩ :: r) :: k) objs tm F = kNot P C (x.ev tm)  d r k objs tm F := by
 rw [rn_op]
 simp only [wpS, kNot]
 cases (x.ev tm) <;> rfl
def kAr (P : Program) [Tabs P] (C : Cx) (q : IntKind) (z : Int) (d : Option Nat) (r : List SO) (k : List IT) (objs : List OB) (tm : List AV) (F : Post) : Prop := arK q z fun z => run P C (.ops r :: k) objs (setd tm d (.i q z)) F
theorem kAr_i64 (z : Int) : kAr P C .i64 z d r k objs tm F = ((-9223372036854775808 ≤ z ∧ z ≤ 9223372036854775807) ∧ run P C (.ops r :: k) objs (setd tm d (.i .i64 z)) F) := Eq.trans rfl rfl
theorem kAr_i8 (z : Int) : kAr P C .i8 z d r k objs tm F = run P C (.ops r :: k) objs (setd tm d (.i .i8 (IntKind.wrap .i8 z))) F := Eq.trans rfl rfl
theorem kAr_i16 (z : Int) : kAr P C .i16 z d r k objs tm F = run P C (.ops r :: k) objs (setd tm d (.i .i16 (IntKind.wrap .i16 z))) F := Eq.trans rfl rfl
theorem kAr_i32 (z : Int) : kAr P C .i32 z d r k objs tm F = run P C (.ops r :: k) objs (setd tm d (.i .i32 (IntKind.wrap .i32 z))) F := Eq.trans rfl rfl
theorem kAr_u8 (z : Int) : kAr P C .u8 z d r k objs tm F = run P C (.ops r :: k) objs (setd tm d (.i .u8 (IntKind.wrap .u8 z))) F := Eq.trans rfl rfl
theorem kAr_u16 (z : Int) : kAr P C .u16 z d r k objs tm F = run P C (.ops r :: k) objs (setd tm d (.i .u16 (IntKind.wrap .u16 z))) F := Eq.trans rfl rfl
theorem kAr_u32 (z : Int) : kAr P C .u32 z d r k objs tm F = run P C (.ops r :: k) objs (setd tm d (.i .u32 (IntKind.wrap .u32 z))) F := Eq.trans rfl rfl
theorem kAr_u64 (z : Int) : kAr P C .u64 z d r k objs tm F = run P C (.ops r :: k) objs (setd tm d (.i .u64 (IntKind.wrap .u64 z))) F := Eq.trans rfl rfl
def kNeg (P : Program) [Tabs P] (C : Cx) (v : AV)  (d : Option Nat) (r : List SO) (k : List IT) (objs : List OB) (tm : List AV) (F : Post) : Prop :=
 match v with
 | .i q n => kAr P C q (0 - n) d r k objs tm F
 | _ => False
theorem kNeg_0 (q : IntKind) (n : Int)  : kNeg P C (.i q n)  d r k objs tm F = (kAr P C q (0 - n) d r k objs tm F) := Eq.trans rfl rfl
theorem rn_neg (x : SV) : run P C (.ops (⟨d, .neg x, none⟩ :: r) :: k) objs tm F = kNeg P C (x.ev tm)  d r k objs tm F := by
 rw [rn_op]
 simp only [wpS, kNeg, kAr]
 cases x.ev tm <;> rfl
def kCvi (P : Program) [Tabs P] (C : Cx) (v : AV) (q : IntKind) (d : Option Nat) (r : List SO) (k : List IT) (objs : List OB) (tm : List AV) (F : Post) : Prop :=
 match v with
 | .i kk n => run P C (.ops r :: k) objs (setd tm d (.i q (q.wrap n))) F
 | _ => False
theorem kCvi_0 (kk : IntKind) (n : Int) (q : IntKind) : kCvi P C (.i kk n) q d r k objs tm F = (run P C (.ops r :: k) objs (setd tm d (.i q (q.wrap n))) F) := Eq.trans rfl rfl
theorem rn_cvi (q : IntKind) (x : SV) : run P C (.ops (⟨d, .cvi q x, none⟩ :: r) :: k) objs tm F = kCvi P C (x.ev tm) q d r k objs tm F := by
 rw [rn_op]
 simp only [wpS, kCvi]
 cases (x.ev tm) <;> rfl
def kCvs (P : Program) [Tabs P] (C : Cx) (v : AV)  (d : Option Nat) (r : List SO) (k : List IT) (objs : List OB) (tm : List AV) (F : Post) : Prop :=
 match v with
 | .s l => run P C (.ops r :: k) objs (setd tm d (.s l)) F
 | _ => False
theorem kCvs_0 (l : List UInt8)  : kCvs P C (.s l)  d r k objs tm F = (run P C (.ops r :: k) objs (setd tm d (.s l)) F) := Eq.trans rfl rfl
theorem rn_cvs (x : SV) : run P C (.ops (⟨d, .cvs x, none⟩ :: r) :: k) objs tm F = kCvs P C (x.ev tm)  d r k objs tm F := by
 rw [rn_op]
 simp only [wpS, kCvs]
 cases (x.ev tm) <;> rfl
def kLens (P : Program) [Tabs P] (C : Cx) (v : AV)  (d : Option Nat) (r : List SO) (k : List IT) (objs : List OB) (tm : List AV) (F : Post) : Prop :=
 match v with
 | .s l => run P C (.ops r :: k) objs (setd tm d (.i .i64 l.length)) F
 | _ => False
theorem kLens_0 (l : List UInt8)  : kLens P C (.s l)  d r k objs tm F = (run P C (.ops r :: k) objs (setd tm d (.i .i64 l.length)) F) := Eq.trans rfl rfl
theorem rn_lens (x : SV) : run P C (.ops (⟨d, .lens x, none⟩ :: r) :: k) objs tm F = kLens P C (x.ev tm)  d r k objs tm F := by
 rw [rn_op]
 simp only [wpS, kLens]
 cases (x.ev tm) <;> rfl
def kFldn (P : Program) [Tabs P] (C : Cx) (v : AV) (off sz : Nat) (d : Option Nat) (r : List SO) (k : List IT) (objs : List OB) (tm : List AV) (F : Post) : Prop :=
 match v with
 | .agg cs => run P C (.ops r :: k) objs (setd tm d (.agg ((cs.drop off).take sz))) F
 | _ => False
theorem kFldn_0 (cs : List AV) (off sz : Nat) : kFldn P C (.agg cs) off sz d r k objs tm F = (run P C (.ops r :: k) objs (setd tm d (.agg ((cs.drop off).take sz))) F) := Eq.trans rfl rfl
theorem rn_fldn (off sz : Nat) (x : SV) : run P C (.ops (⟨d, .fldn off sz x, none⟩ :: r) :: k) objs tm F = kFldn P C (x.ev tm) off sz d r k objs tm F := by
 rw [rn_op]
 simp only [wpS, kFldn]
 cases (x.ev tm) <;> rfl
def kFad (P : Program) [Tabs P] (C : Cx) (v : AV) (off : Nat) (d : Option Nat) (r : List SO) (k : List IT) (objs : List OB) (tm : List AV) (F : Post) : Prop :=
 match v with
 | .p b o => run P C (.ops r :: k) objs (setd tm d (.p b (o + off))) F
 | .prow xs j => run P C (.ops r :: k) objs (setd tm d (.prow xs (j + off))) F
 | _ => False
theorem kFad_0 (b o : Nat) (off : Nat) : kFad P C (.p b o) off d r k objs tm F = (run P C (.ops r :: k) objs (setd tm d (.p b (o + off))) F) := Eq.trans rfl rfl
theorem kFad_1 (xs : List AV) (j : Nat) (off : Nat) : kFad P C (.prow xs j) off d r k objs tm F = (run P C (.ops r :: k) objs (setd tm d (.prow xs (j + off))) F) := Eq.trans rfl rfl
theorem rn_fad (off : Nat) (x : SV) : run P C (.ops (⟨d, .fad off x, none⟩ :: r) :: k) objs tm F = kFad P C (x.ev tm) off d r k objs tm F := by
 rw [rn_op]
 simp only [wpS, kFad]
 cases (x.ev tm) <;> rfl
def kFld1 (P : Program) [Tabs P] (C : Cx) (v : AV) (off : Nat) (d : Option Nat) (r : List SO) (k : List IT) (objs : List OB) (tm : List AV) (F : Post) : Prop :=
 match v with
 | .agg cs => kO P C cs[off]? d r k objs tm F
 | _ => False
theorem kFld1_0 (cs : List AV) (off : Nat) : kFld1 P C (.agg cs) off d r k objs tm F = (kO P C cs[off]? d r k objs tm F) := Eq.trans rfl rfl
theorem rn_fld1 (off : Nat) (x : SV) : run P C (.ops (⟨d, .fld1 off x, none⟩ :: r) :: k) objs tm F = kFld1 P C (x.ev tm) off d r k objs tm F := by
 rw [rn_op]
 simp only [wpS, kFld1]
 cases x.ev tm <;> try rfl
 try (case agg cs => dsimp only; cases cs[off]? <;> rfl)
def kExt (P : Program) [Tabs P] (C : Cx) (v : AV) (j : Nat) (d : Option Nat) (r : List SO) (k : List IT) (objs : List OB) (tm : List AV) (F : Post) : Prop :=
 match v with
 | .tup cs => kO P C cs[j]? d r k objs tm F
 | _ => False
theorem kExt_0 (cs : List AV) (j : Nat) : kExt P C (.tup cs) j d r k objs tm F = (kO P C cs[j]? d r k objs tm F) := Eq.trans rfl rfl
theorem rn_ext (x : SV) (j : Nat) : run P C (.ops (⟨d, .ext x j, none⟩ :: r) :: k) objs tm F = kExt P C (x.ev tm) j d r k objs tm F := by
 rw [rn_op]
 simp only [wpS, kExt]
 cases x.ev tm <;> try rfl
 try (case tup cs => dsimp only; cases cs[j]? <;> rfl)
def kLr2 (P : Program) [Tabs P] (C : Cx) (c : Option OB) (gen : Nat) (d : Option Nat) (r : List SO) (k : List IT) (objs : List OB) (tm : List AV) (F : Post) : Prop :=
 match c with
 | some (.orow _ _ gen' n _) => gen' = gen ∧ run P C (.ops r :: k) objs (setd tm d (.i .i64 n)) F
 | _ => False
theorem kLr2_o (E sz gen' n gen : Nat) (xs : List AV) : kLr2 P C (some (.orow E sz gen' n xs)) gen d r k objs tm F = (gen' = gen ∧ run P C (.ops r :: k) objs (setd tm d (.i .i64 n)) F) := Eq.trans rfl rfl
def kLenr (P : Program) [Tabs P] (C : Cx) (v : AV)  (d : Option Nat) (r : List SO) (k : List IT) (objs : List OB) (tm : List AV) (F : Post) : Prop :=
 match v with
 | .row n xs => run P C (.ops r :: k) objs (setd tm d (.i .i64 n)) F
 | .nil => run P C (.ops r :: k) objs (setd tm d (.i .i64 0)) F
 | .orow b gen => kLr2 P C objs[b]? gen d r k objs tm F
 | _ => False
theorem kLenr_0 (n : Nat) (xs : List AV)  : kLenr P C (.row n xs)  d r k objs tm F = (run P C (.ops r :: k) objs (setd tm d (.i .i64 n)) F) := Eq.trans rfl rfl
theorem kLenr_1   : kLenr P C (.nil)  d r k objs tm F = (run P C (.ops r :: k) objs (setd tm d (.i .i64 0)) F) := Eq.trans rfl rfl
theorem kLenr_2 (b gen : Nat)  : kLenr P C (.orow b gen)  d r k objs tm F = (kLr2 P C objs[b]? gen d r k objs tm F) := Eq.trans rfl rfl
theorem rn_lenr (x : SV) : run P C (.ops (⟨d, .lenr x, none⟩ :: r) :: k) objs tm F = kLenr P C (x.ev tm)  d r k objs tm F := by
 rw [rn_op]
 simp only [wpS, kLenr]
 cases x.ev tm <;> try rfl
 try (case orow b gen =>
  dsimp only
  generalize objs[b]? = q
  cases q with
  | none => rfl
  | some ob => cases ob <;> rfl)
def kBeq (P : Program) [Tabs P] (C : Cx) (ne : Bool) (x y : AV) (d : Option Nat) (r : List SO) (k : List IT) (objs : List OB) (tm : List AV) (F : Post) : Prop :=
 match x, y with
 | .b l, .b m => run P C (.ops r :: k) objs (setd tm d (.b (if ne then !(l == m) else (l == m)))) F
 | _, _ => False
def kEq (P : Program) [Tabs P] (C : Cx) (ne : Bool) (x : Option Bool) (d : Option Nat) (r : List SO) (k : List IT) (objs : List OB) (tm : List AV) (F : Post) : Prop :=
 match x with
 | some q => run P C (.ops r :: k) objs (setd tm d (.b (if ne then !q else q))) F
 | none => False
def kEqs (P : Program) [Tabs P] (C : Cx) (ne : Bool) (e : ET) (x y : AV) (d : Option Nat) (r : List SO) (k : List IT) (objs : List OB) (tm : List AV) (F : Post) : Prop :=
 match x, y with
 | .agg xs, .agg ys => kEq P C ne (eqA e (.agg xs) (.agg ys)) d r k objs tm F
 | _, _ => False
theorem kBeq_true (l m : Bool) : kBeq P C true (.b l) (.b m) d r k objs tm F = run P C (.ops r :: k) objs (setd tm d (.b (!(l == m)))) F := Eq.trans rfl rfl
theorem kEq_true (q : Bool) : kEq P C true (some q) d r k objs tm F = run P C (.ops r :: k) objs (setd tm d (.b (!q))) F := Eq.trans rfl rfl
theorem kBeq_false (l m : Bool) : kBeq P C false (.b l) (.b m) d r k objs tm F = run P C (.ops r :: k) objs (setd tm d (.b (l == m))) F := Eq.trans rfl rfl
theorem kEq_false (q : Bool) : kEq P C false (some q) d r k objs tm F = run P C (.ops r :: k) objs (setd tm d (.b q)) F := Eq.trans rfl rfl
theorem kEqs_a (ne : Bool) (e : ET) (xs ys : List AV) : kEqs P C ne e (.agg xs) (.agg ys) d r k objs tm F = kEq P C ne (eqA e (.agg xs) (.agg ys)) d r k objs tm F := Eq.trans rfl rfl
theorem rn_beq (ne : Bool) (x y : SV) : run P C (.ops (⟨d, .beq ne x y, none⟩ :: r) :: k) objs tm F = kBeq P C ne (x.ev tm) (y.ev tm) d r k objs tm F := by
 rw [rn_op]
 simp only [wpS, kBeq]
 cases x.ev tm <;> try rfl
 try (cases y.ev tm <;> rfl)
theorem rn_eqs (ne : Bool) (e : ET) (x y : SV) : run P C (.ops (⟨d, .eqs ne e x y, none⟩ :: r) :: k) objs tm F = kEqs P C ne e (x.ev tm) (y.ev tm) d r k objs tm F := by
 rw [rn_op]
 simp only [wpS, kEqs]
 cases x.ev tm <;> try rfl
 try (cases y.ev tm <;> try rfl)
 try (simp only [kEq]; cases eqA e _ _ <;> rfl)
def kIad (P : Program) [Tabs P] (C : Cx) (x y : AV) (sz : Nat) (d : Option Nat) (r : List SO) (k : List IT) (objs : List OB) (tm : List AV) (F : Post) : Prop :=
 match x, y with
 | .row n xs, .i kk i => (0 ≤ i ∧ i < n ∧ n * sz ≤ xs.length) ∧ run P C (.ops r :: k) objs (setd tm d (.prow xs (i.toNat * sz))) F
 | _, _ => False
theorem kIad_0 (n : Nat) (xs : List AV) (kk : IntKind) (i : Int) (sz : Nat) : kIad P C (.row n xs) (.i kk i) sz d r k objs tm F = ((0 ≤ i ∧ i < n ∧ n * sz ≤ xs.length) ∧ run P C (.ops r :: k) objs (setd tm d (.prow xs (i.toNat * sz))) F) := Eq.trans rfl rfl
theorem rn_iad (sz : Nat) (x y : SV) : run P C (.ops (⟨d, .iad sz x y, none⟩ :: r) :: k) objs tm F = kIad P C (x.ev tm) (y.ev tm) sz d r k objs tm F := by
 rw [rn_op]
 simp only [wpS, kIad]
 cases x.ev tm <;> try rfl
 try (cases y.ev tm <;> rfl)
def kIada (P : Program) [Tabs P] (C : Cx) (x y : AV) (sz len : Nat) (d : Option Nat) (r : List SO) (k : List IT) (objs : List OB) (tm : List AV) (F : Post) : Prop :=
 match x, y with
 | .p b off, .i kk i => (0 ≤ i ∧ i < len) ∧ run P C (.ops r :: k) objs (setd tm d (.p b (off + i.toNat * sz))) F
 | _, _ => False
theorem kIada_0 (b off : Nat) (kk : IntKind) (i : Int) (sz len : Nat) : kIada P C (.p b off) (.i kk i) sz len d r k objs tm F = ((0 ≤ i ∧ i < len) ∧ run P C (.ops r :: k) objs (setd tm d (.p b (off + i.toNat * sz))) F) := Eq.trans rfl rfl
theorem rn_iada (sz len : Nat) (x y : SV) : run P C (.ops (⟨d, .iada sz len x y, none⟩ :: r) :: k) objs tm F = kIada P C (x.ev tm) (y.ev tm) sz len d r k objs tm F := by
 rw [rn_op]
 simp only [wpS, kIada]
 cases x.ev tm <;> try rfl
 try (cases y.ev tm <;> rfl)
def kIdx (P : Program) [Tabs P] (C : Cx) (x y : AV)  (d : Option Nat) (r : List SO) (k : List IT) (objs : List OB) (tm : List AV) (F : Post) : Prop :=
 match x, y with
 | .s l, .i kk i => (0 ≤ i ∧ i < l.length) ∧ run P C (.ops r :: k) objs (setd tm d (.i .u8 ((l.getD i.toNat 0).toNat : Int))) F
 | _, _ => False
theorem kIdx_0 (l : List UInt8) (kk : IntKind) (i : Int)  : kIdx P C (.s l) (.i kk i)  d r k objs tm F = ((0 ≤ i ∧ i < l.length) ∧ run P C (.ops r :: k) objs (setd tm d (.i .u8 ((l.getD i.toNat 0).toNat : Int))) F) := Eq.trans rfl rfl
theorem rn_idx (x y : SV) : run P C (.ops (⟨d, .idx x y, none⟩ :: r) :: k) objs tm F = kIdx P C (x.ev tm) (y.ev tm)  d r k objs tm F := by
 rw [rn_op]
 simp only [wpS, kIdx]
 cases x.ev tm <;> try rfl
 try (cases y.ev tm <;> rfl)
def kMks (P : Program) [Tabs P] (C : Cx) (x y : AV) (E sz by' : Nat) (d : Option Nat) (r : List SO) (k : List IT) (objs : List OB) (tm : List AV) (F : Post) : Prop :=
 match x, y with
 | .i k1 l, .i k2 c => (l = 0 ∧ 0 ≤ c ∧ (by' : Int) * c ≤ 281474976710656 ∧ c ≤ 140737488351232 + 4096) ∧ run P C (.ops r :: k) (objs ++ [.orow E sz 0 0 []]) (setd tm d (.orow objs.length 0)) F
 | _, _ => False
theorem kMks_0 (k1 : IntKind) (l : Int) (k2 : IntKind) (c : Int) (E sz by' : Nat) : kMks P C (.i k1 l) (.i k2 c) E sz by' d r k objs tm F = ((l = 0 ∧ 0 ≤ c ∧ (by' : Int) * c ≤ 281474976710656 ∧ c ≤ 140737488351232 + 4096) ∧ run P C (.ops r :: k) (objs ++ [.orow E sz 0 0 []]) (setd tm d (.orow objs.length 0)) F) := Eq.trans rfl rfl
theorem rn_mks (E sz by' : Nat) (x y : SV) : run P C (.ops (⟨d, .mks E sz by' x y, none⟩ :: r) :: k) objs tm F = kMks P C (x.ev tm) (y.ev tm) E sz by' d r k objs tm F := by
 rw [rn_op]
 simp only [wpS, kMks, show (140737488351232 + 4096 : Int) = 140737488355328 from rfl]
 cases x.ev tm <;> try rfl
 try (cases y.ev tm <;> rfl)
def kBin (P : Program) [Tabs P] (C : Cx) (op : BinOp) (x y : AV) (d : Option Nat) (r : List SO) (k : List IT) (objs : List OB) (tm : List AV) (F : Post) : Prop := binK op x y fun v => run P C (.ops r :: k) objs (setd tm d v) F
theorem rn_bin (q : BinOp) (x y : SV) : run P C (.ops (⟨d, .bin q x y, none⟩ :: r) :: k) objs tm F = kBin P C q (x.ev tm) (y.ev tm) d r k objs tm F := Eq.trans rfl rfl
theorem kBin_add (q : IntKind) (m n : Int) : kBin P C .add (.i q m) (.i q n) d r k objs tm F = kAr P C q (m + n) d r k objs tm F := propext ⟨fun h => h.2, fun h => ⟨rfl, h⟩⟩
theorem kBin_sub (q : IntKind) (m n : Int) : kBin P C .sub (.i q m) (.i q n) d r k objs tm F = kAr P C q (m - n) d r k objs tm F := propext ⟨fun h => h.2, fun h => ⟨rfl, h⟩⟩
theorem kBin_mul (q : IntKind) (m n : Int) : kBin P C .mul (.i q m) (.i q n) d r k objs tm F = kAr P C q (m * n) d r k objs tm F := propext ⟨fun h => h.2, fun h => ⟨rfl, h⟩⟩
theorem kBin_quo (q : IntKind) (m n : Int) : kBin P C .quo (.i q m) (.i q n) d r k objs tm F = (n ≠ 0 ∧ kAr P C q (m.tdiv n) d r k objs tm F) := propext ⟨fun h => h.2, fun h => ⟨rfl, h⟩⟩
theorem kBin_rem (q : IntKind) (m n : Int) : kBin P C .rem (.i q m) (.i q n) d r k objs tm F = (n ≠ 0 ∧ run P C (.ops r :: k) objs (setd tm d (.i q (m.tmod n))) F) := propext ⟨fun h => h.2, fun h => ⟨rfl, h⟩⟩
theorem kBin_eql (q : IntKind) (m n : Int) : kBin P C .eql (.i q m) (.i q n) d r k objs tm F = run P C (.ops r :: k) objs (setd tm d (.b (decide (m = n)))) F := propext ⟨fun h => h.2, fun h => ⟨rfl, h⟩⟩
theorem kBin_neq (q : IntKind) (m n : Int) : kBin P C .neq (.i q m) (.i q n) d r k objs tm F = run P C (.ops r :: k) objs (setd tm d (.b (decide (¬ m = n)))) F := propext ⟨fun h => h.2, fun h => ⟨rfl, h⟩⟩
theorem kBin_lss (q : IntKind) (m n : Int) : kBin P C .lss (.i q m) (.i q n) d r k objs tm F = run P C (.ops r :: k) objs (setd tm d (.b (decide (m < n)))) F := propext ⟨fun h => h.2, fun h => ⟨rfl, h⟩⟩
theorem kBin_leq (q : IntKind) (m n : Int) : kBin P C .leq (.i q m) (.i q n) d r k objs tm F = run P C (.ops r :: k) objs (setd tm d (.b (decide (m ≤ n)))) F := propext ⟨fun h => h.2, fun h => ⟨rfl, h⟩⟩
theorem kBin_gtr (q : IntKind) (m n : Int) : kBin P C .gtr (.i q m) (.i q n) d r k objs tm F = run P C (.ops r :: k) objs (setd tm d (.b (decide (n < m)))) F := propext ⟨fun h => h.2, fun h => ⟨rfl, h⟩⟩
theorem kBin_geq (q : IntKind) (m n : Int) : kBin P C .geq (.i q m) (.i q n) d r k objs tm F = run P C (.ops r :: k) objs (setd tm d (.b (decide (n ≤ m)))) F := propext ⟨fun h => h.2, fun h => ⟨rfl, h⟩⟩
theorem kBin_cat (l m : List UInt8) : kBin P C .add (.s l) (.s m) d r k objs tm F = (l.length + m.length ≤ 9223372036854775807 ∧ run P C (.ops r :: k) objs (setd tm d (.s (l ++ m))) F) := Eq.trans rfl rfl
theorem kBin_seq (l m : List UInt8) : kBin P C .eql (.s l) (.s m) d r k objs tm F = run P C (.ops r :: k) objs (setd tm d (.b (decide (l = m)))) F := Eq.trans rfl rfl
theorem kBin_sne (l m : List UInt8) : kBin P C .neq (.s l) (.s m) d r k objs tm F = run P C (.ops r :: k) objs (setd tm d (.b (decide (¬ l = m)))) F := Eq.trans rfl rfl
def kSl2 (P : Program) [Tabs P] (C : Cx) (l : List UInt8) (i j : Option Int) (d : Option Nat) (r : List SO) (k : List IT) (objs : List OB) (tm : List AV) (F : Post) : Prop :=
 match i, j with
 | some i, some j => (0 ≤ i ∧ i ≤ j ∧ j ≤ l.length) ∧ run P C (.ops r :: k) objs (setd tm d (.s ((l.take j.toNat).drop i.toNat))) F
 | _, _ => False
def kSl (P : Program) [Tabs P] (C : Cx) (v : AV) (lo hi : Option SV) (d : Option Nat) (r : List SO) (k : List IT) (objs : List OB) (tm : List AV) (F : Post) : Prop :=
 match v with
 | .s l => kSl2 P C l (svbS tm 0 lo) (svbS tm l.length hi) d r k objs tm F
 | _ => False
def svi : AV → Option Int
 | .i _ n => some n
 | _ => none
theorem svi_i (q : IntKind) (n : Int) : svi (.i q n) = some n := Eq.trans rfl rfl
theorem svbS_none (z : Int) : svbS tm z none = some z := Eq.trans rfl rfl
theorem svbS_some (z : Int) (x : SV) : svbS tm z (some x) = svi (x.ev tm) := by
 simp only [svbS]; cases x.ev tm <;> rfl
theorem kSl2_s (l : List UInt8) (i j : Int) : kSl2 P C l (some i) (some j) d r k objs tm F = ((0 ≤ i ∧ i ≤ j ∧ j ≤ l.length) ∧ run P C (.ops r :: k) objs (setd tm d (.s ((l.take j.toNat).drop i.toNat))) F) := Eq.trans rfl rfl
theorem kSl_s (l : List UInt8) (lo hi : Option SV) : kSl P C (.s l) lo hi d r k objs tm F = kSl2 P C l (svbS tm 0 lo) (svbS tm l.length hi) d r k objs tm F := Eq.trans rfl rfl
theorem rn_slcs (x : SV) (lo hi : Option SV) : run P C (.ops (⟨d, .slcs x lo hi, none⟩ :: r) :: k) objs tm F = kSl P C (x.ev tm) lo hi d r k objs tm F := by
 rw [rn_op]
 simp only [wpS, kSl]
 cases x.ev tm <;> try rfl
 try (case s l => dsimp only [kSl2]; cases svbS tm 0 lo <;> cases svbS tm l.length hi <;> rfl)
def kAp3 (P : Program) [Tabs P] (C : Cx) (c : Option OB) (b gen E sz by' m : Nat) (ys : List AV) (d : Option Nat) (r : List SO) (k : List IT) (objs : List OB) (tm : List AV) (F : Post) : Prop :=
 match c with
 | some (.orow E' sz' gen' n xs) => ((E' = E ∧ sz' = sz ∧ gen' = gen) ∧ ys.length = m * sz ∧ (n + m) * by' ≤ 140737488355328 ∧ n + m ≤ 140737488355328) ∧ run P C (.ops r :: k) (objs.set b (.orow E sz (gen + 1) (n + m) (xs ++ ys))) (setd tm d (.orow b (gen + 1))) F
 | _ => False
def kAp2 (P : Program) [Tabs P] (C : Cx) (v : AV) (E sz by' m : Nat) (ys : List AV) (d : Option Nat) (r : List SO) (k : List IT) (objs : List OB) (tm : List AV) (F : Post) : Prop :=
 match v with
 | .orow b gen => kAp3 P C objs[b]? b gen E sz by' m ys d r k objs tm F
 | .nil => (ys.length = m * sz ∧ m * by' ≤ 140737488355328 ∧ m ≤ 140737488355328) ∧ run P C (.ops r :: k) (objs ++ [.orow E sz 0 m ys]) (setd tm d (.orow objs.length 0)) F
 | _ => False
def kAp (P : Program) [Tabs P] (C : Cx) (v : AV) (s : Option (Nat × List AV)) (E sz by' : Nat) (d : Option Nat) (r : List SO) (k : List IT) (objs : List OB) (tm : List AV) (F : Post) : Prop :=
 match s with
 | some (m, ys) => kAp2 P C v E sz by' m ys d r k objs tm F
 | none => False
def kAs2 (P : Program) [Tabs P] (C : Cx) (c : Option OB) (b gen E : Nat) (l : List UInt8) (d : Option Nat) (r : List SO) (k : List IT) (objs : List OB) (tm : List AV) (F : Post) : Prop :=
 match c with
 | some (.orow E' sz' gen' n xs) => ((E' = E ∧ sz' = 1 ∧ gen' = gen) ∧ n + l.length ≤ 140737488355328) ∧ run P C (.ops r :: k) (objs.set b (.orow E 1 (gen + 1) (n + l.length) (xs ++ byA l))) (setd tm d (.orow b (gen + 1))) F
 | _ => False
def kAs (P : Program) [Tabs P] (C : Cx) (v y : AV) (E : Nat) (d : Option Nat) (r : List SO) (k : List IT) (objs : List OB) (tm : List AV) (F : Post) : Prop :=
 match y with
 | .s l => match v with
  | .orow b gen => kAs2 P C objs[b]? b gen E l d r k objs tm F
  | .nil => l.length ≤ 140737488355328 ∧ run P C (.ops r :: k) (objs ++ [.orow E 1 0 l.length (byA l)]) (setd tm d (.orow objs.length 0)) F
  | _ => False
 | _ => False
theorem kAp_s (v : AV) (m : Nat) (ys : List AV) (E sz by' : Nat) : kAp P C v (some (m, ys)) E sz by' d r k objs tm F = kAp2 P C v E sz by' m ys d r k objs tm F := Eq.trans rfl rfl
theorem kAp2_o (b gen E sz by' m : Nat) (ys : List AV) : kAp2 P C (.orow b gen) E sz by' m ys d r k objs tm F = kAp3 P C objs[b]? b gen E sz by' m ys d r k objs tm F := Eq.trans rfl rfl
theorem kAp2_n (E sz by' m : Nat) (ys : List AV) : kAp2 P C .nil E sz by' m ys d r k objs tm F = ((ys.length = m * sz ∧ m * by' ≤ 140737488355328 ∧ m ≤ 140737488355328) ∧ run P C (.ops r :: k) (objs ++ [.orow E sz 0 m ys]) (setd tm d (.orow objs.length 0)) F) := Eq.trans rfl rfl
theorem kAp3_o (b gen E sz by' m n : Nat) (ys xs : List AV) : kAp3 P C (some (.orow E sz gen n xs)) b gen E sz by' m ys d r k objs tm F = ((ys.length = m * sz ∧ (n + m) * by' ≤ 140737488355328 ∧ n + m ≤ 140737488355328) ∧ run P C (.ops r :: k) (objs.set b (.orow E sz (gen + 1) (n + m) (xs ++ ys))) (setd tm d (.orow b (gen + 1))) F) := propext ⟨fun h => ⟨h.1.2, h.2⟩, fun h => ⟨⟨⟨rfl, rfl, rfl⟩, h.1⟩, h.2⟩⟩
theorem kAs_o (b gen E : Nat) (l : List UInt8) : kAs P C (.orow b gen) (.s l) E d r k objs tm F = kAs2 P C objs[b]? b gen E l d r k objs tm F := Eq.trans rfl rfl
theorem kAs_n (E : Nat) (l : List UInt8) : kAs P C .nil (.s l) E d r k objs tm F = (l.length ≤ 140737488355328 ∧ run P C (.ops r :: k) (objs ++ [.orow E 1 0 l.length (byA l)]) (setd tm d (.orow objs.length 0)) F) := Eq.trans rfl rfl
theorem kAs2_o (b gen E n : Nat) (l : List UInt8) (xs : List AV) : kAs2 P C (some (.orow E 1 gen n xs)) b gen E l d r k objs tm F = (n + l.length ≤ 140737488355328 ∧ run P C (.ops r :: k) (objs.set b (.orow E 1 (gen + 1) (n + l.length) (xs ++ byA l))) (setd tm d (.orow b (gen + 1))) F) := propext ⟨fun h => ⟨h.1.2, h.2⟩, fun h => ⟨⟨⟨rfl, rfl, rfl⟩, h.1⟩, h.2⟩⟩
theorem rn_app (E sz by' : Nat) (x y : SV) : run P C (.ops (⟨d, .app E sz by' x y, none⟩ :: r) :: k) objs tm F = kAp P C (x.ev tm) (srcOf objs (y.ev tm)) E sz by' d r k objs tm F := by
 rw [rn_op]
 simp only [wpS, kAp]
 cases hs : srcOf objs (y.ev tm) with
 | none => rfl
 | some p =>
  obtain ⟨m, ys⟩ := p
  simp only [kAp2]
  cases x.ev tm <;> try rfl
  try (case orow b gen =>
   dsimp only [kAp3]
   generalize objs[b]? = q
   cases q with
   | none => rfl
   | some ob => cases ob <;> rfl)
theorem rn_apps (E : Nat) (x y : SV) : run P C (.ops (⟨d, .apps E x y, none⟩ :: r) :: k) objs tm F = kAs P C (x.ev tm) (y.ev tm) E d r k objs tm F := by
 rw [rn_op]
 simp only [wpS, kAs]
 cases y.ev tm <;> try rfl
 try (case s l =>
  cases x.ev tm <;> try rfl
  try (case orow b gen =>
   dsimp only [kAs2]
   generalize objs[b]? = q
   cases q with
   | none => rfl
   | some ob => cases ob <;> rfl))
def kCb2 (P : Program) [Tabs P] (C : Cx) (c : Option OB) (gen : Nat) (d : Option Nat) (r : List SO) (k : List IT) (objs : List OB) (tm : List AV) (F : Post) : Prop :=
 match c with
 | some (.orow _ sz gen' _ xs) => (gen' = gen ∧ sz = 1) ∧ ∃ l, xs = byA l ∧ run P C (.ops r :: k) objs (setd tm d (.s l)) F
 | _ => False
def kCb (P : Program) [Tabs P] (C : Cx) (v : AV) (d : Option Nat) (r : List SO) (k : List IT) (objs : List OB) (tm : List AV) (F : Post) : Prop :=
 match v with
 | .orow b gen => kCb2 P C objs[b]? gen d r k objs tm F
 | .row n xs => ∃ l, (xs = byA l ∧ n = l.length) ∧ run P C (.ops r :: k) objs (setd tm d (.s l)) F
 | .nil => run P C (.ops r :: k) objs (setd tm d (.s [])) F
 | _ => False
theorem kCb2_o (E n gen : Nat) (l : List UInt8) (h : run P C (.ops r :: k) objs (setd tm d (.s l)) F) : kCb2 P C (some (.orow E 1 gen n (byA l))) gen d r k objs tm F := ⟨⟨rfl, rfl⟩, l, rfl, h⟩
theorem kCb_row (l : List UInt8) (n : Nat) (hn : n = l.length) (h : run P C (.ops r :: k) objs (setd tm d (.s l)) F) : kCb P C (.row n (byA l)) d r k objs tm F := ⟨l, ⟨rfl, hn⟩, h⟩
theorem kCb_o (b gen : Nat) : kCb P C (.orow b gen) d r k objs tm F = kCb2 P C objs[b]? gen d r k objs tm F := Eq.trans rfl rfl
theorem kCb_n  : kCb P C .nil d r k objs tm F = run P C (.ops r :: k) objs (setd tm d (.s [])) F := Eq.trans rfl rfl
theorem rn_cvbs (x : SV) : run P C (.ops (⟨d, .cvbs x, none⟩ :: r) :: k) objs tm F = kCb P C (x.ev tm) d r k objs tm F := by
 rw [rn_op]
 simp only [wpS, kCb]
 cases x.ev tm <;> try rfl
 try (case orow b gen =>
  dsimp only
  generalize objs[b]? = q
  cases q with
  | none => rfl
  | some ob => cases ob <;> rfl)
theorem rn_mkf (f : Nat) (fs cs : List SV) : run P C (.ops (⟨d, .mkf f fs cs, none⟩ :: r) :: k) objs tm F = run P C (.ops r :: k) objs (setd tm d (.fn f (evs tm fs) (evs tm cs))) F := by rw [evs_eq, evs_eq]; rfl
theorem kO_if (c : Prop) [Decidable c] (v : AV) : kO P C (if c then some v else none) d r k objs tm F = (c ∧ run P C (.ops r :: k) objs (setd tm d v) F) := by
 by_cases h : c
 ·simp [h, kO]
 ·simp [h, kO]
theorem pq_and (q : IntKind) (a b : Int) : pq (.bits .and) [.i q a, .i q b] = some (.i q (q.wrap (BitVec.ofInt q.bits a &&& BitVec.ofInt q.bits b).toNat)) := by simp [pq, bitsZ]
theorem pq_or (q : IntKind) (a b : Int) : pq (.bits .or) [.i q a, .i q b] = some (.i q (q.wrap (BitVec.ofInt q.bits a ||| BitVec.ofInt q.bits b).toNat)) := by simp [pq, bitsZ]
theorem pq_xor (q : IntKind) (a b : Int) : pq (.bits .xor) [.i q a, .i q b] = some (.i q (q.wrap (BitVec.ofInt q.bits a ^^^ BitVec.ofInt q.bits b).toNat)) := by simp [pq, bitsZ]
theorem pq_shl (q q' : IntKind) (a b : Int) : pq .shl [.i q a, .i q' b] = if 0 ≤ b then some (.i q (q.wrap (a * 2 ^ (min b.toNat q.bits)))) else none := Eq.trans rfl rfl
theorem pq_shr (q q' : IntKind) (a b : Int) : pq .shr [.i q a, .i q' b] = if 0 ≤ b then some (.i q (a.fdiv (2 ^ (min b.toNat q.bits)))) else none := Eq.trans rfl rfl
theorem pq_mn (q : IntKind) (a b : Int) : pq .mn [.i q a, .i q b] = some (.i q (if b < a then b else a)) := by simp [pq]
theorem pq_mx (q : IntKind) (a b : Int) : pq .mx [.i q a, .i q b] = some (.i q (if a < b then b else a)) := by simp [pq]
theorem pq_rsl (sz n : Nat) (xs : List AV) (q : IntKind) (a : Int) : pq (.rsl sz) [.row n xs, .i q a] = if 0 ≤ a ∧ a ≤ n then some (.row (n - a.toNat) ((xs.take (n * sz)).drop (a.toNat * sz))) else none := Eq.trans rfl rfl
theorem pq_rsln (sz : Nat) (q : IntKind) (a : Int) : pq (.rsl sz) [.nil, .i q a] = if a = 0 then some .nil else none := Eq.trans rfl rfl
theorem pq_rslh (sz n : Nat) (xs : List AV) (q : IntKind) (a : Int) : pq (.rslh sz) [.row n xs, .i q a] = if 0 ≤ a ∧ a ≤ n then some (.row a.toNat (xs.take (a.toNat * sz))) else none := Eq.trans rfl rfl
theorem pq_rslhn (sz : Nat) (q : IntKind) (a : Int) : pq (.rslh sz) [.nil, .i q a] = if a = 0 then some .nil else none := Eq.trans rfl rfl
theorem pq_rslb (sz n : Nat) (xs : List AV) (q q' : IntKind) (a b : Int) : pq (.rslb sz) [.row n xs, .i q a, .i q' b] = if 0 ≤ a ∧ a ≤ b ∧ b ≤ n then some (.row (b.toNat - a.toNat) ((xs.take (b.toNat * sz)).drop (a.toNat * sz))) else none := Eq.trans rfl rfl
theorem pq_lss (l m : List UInt8) : pq (.scmp .lss) [.s l, .s m] = some (.b (strLt l m)) := Eq.trans rfl rfl
theorem pq_leq (l m : List UInt8) : pq (.scmp .leq) [.s l, .s m] = some (.b (strLt l m || l == m)) := Eq.trans rfl rfl
theorem pq_gtr (l m : List UInt8) : pq (.scmp .gtr) [.s l, .s m] = some (.b (!strLt l m && !(l == m))) := Eq.trans rfl rfl
theorem pq_geq (l m : List UInt8) : pq (.scmp .geq) [.s l, .s m] = some (.b (!strLt l m)) := Eq.trans rfl rfl
theorem rn_pu (q : PQ) (xs : List SV) : run P C (.ops (⟨d, .pu q xs, none⟩ :: r) :: k) objs tm F = kO P C (pq q (evs tm xs)) d r k objs tm F := by
 rw [evs_eq]
 rw [rn_op]
 simp only [wpS]
 cases pq q (xs.map fun x => x.ev tm) <;> rfl
def kG (P : Program) [Tabs P] (C : Cx) (v : AV) (op : SOp) (t : Nat) (w : Bool) (d : Option Nat) (r : List SO) (k : List IT) (objs : List OB) (tm : List AV) (F : Post) : Prop :=
 match v with
 | .b x => (x = w → run P C (.ops (⟨d, op, none⟩ :: r) :: k) objs (tm.set t (.b w)) F) ∧ (x = !w → run P C (.ops r :: k) objs (setd (tm.set t (.b (!w))) d (.o undef)) F)
 | .o (.tuple _) => run P C (.ops r :: k) objs (setd tm d (.o undef)) F
 | _ => False
def kGD (P : Program) [Tabs P] (C : Cx) (v : AV) (op : SOp) (t : Nat) (w : Bool) (d : Option Nat) (r : List SO) (k : List IT) (objs : List OB) (tm : List AV) (F : Post) : Prop :=
 match v with
 | .b x => (x = w → run P C (.dops (⟨d, op, none⟩ :: r) :: k) objs (tm.set t (.b w)) F) ∧ (x = !w → run P C (.dops r :: k) objs (setd (tm.set t (.b (!w))) d (.o undef)) F)
 | .o (.tuple _) => run P C (.dops r :: k) objs (setd tm d (.o undef)) F
 | _ => False
theorem kG_tt (op : SOp) (t : Nat) : kG P C (.b true) op t true d r k objs tm F = run P C (.ops (⟨d, op, none⟩ :: r) :: k) objs (tm.set t (.b true)) F := propext ⟨fun h => h.1 rfl, fun h => ⟨fun _ => h, fun e => absurd e (by decide)⟩⟩
theorem kG_tf (op : SOp) (t : Nat) : kG P C (.b true) op t false d r k objs tm F = run P C (.ops r :: k) objs (setd (tm.set t (.b true)) d (.o undef)) F := propext ⟨fun h => h.2 rfl, fun h => ⟨fun e => absurd e (by decide), fun _ => h⟩⟩
theorem kG_ft (op : SOp) (t : Nat) : kG P C (.b false) op t true d r k objs tm F = run P C (.ops r :: k) objs (setd (tm.set t (.b false)) d (.o undef)) F := propext ⟨fun h => h.2 rfl, fun h => ⟨fun e => absurd e (by decide), fun _ => h⟩⟩
theorem kG_ff (op : SOp) (t : Nat) : kG P C (.b false) op t false d r k objs tm F = run P C (.ops (⟨d, op, none⟩ :: r) :: k) objs (tm.set t (.b false)) F := propext ⟨fun h => h.1 rfl, fun h => ⟨fun _ => h, fun e => absurd e (by decide)⟩⟩
theorem kG_u (op : SOp) (t : Nat) (w : Bool) : kG P C (.o undef) op t w d r k objs tm F = run P C (.ops r :: k) objs (setd tm d (.o undef)) F := Eq.trans rfl rfl
theorem kG_v (op : SOp) (t : Nat) (w : Bool) (vs : Array Value) : kG P C (.o (.tuple vs)) op t w d r k objs tm F = run P C (.ops r :: k) objs (setd tm d (.o undef)) F := Eq.trans rfl rfl
theorem kGD_tt (op : SOp) (t : Nat) : kGD P C (.b true) op t true d r k objs tm F = run P C (.dops (⟨d, op, none⟩ :: r) :: k) objs (tm.set t (.b true)) F := propext ⟨fun h => h.1 rfl, fun h => ⟨fun _ => h, fun e => absurd e (by decide)⟩⟩
theorem kGD_tf (op : SOp) (t : Nat) : kGD P C (.b true) op t false d r k objs tm F = run P C (.dops r :: k) objs (setd (tm.set t (.b true)) d (.o undef)) F := propext ⟨fun h => h.2 rfl, fun h => ⟨fun e => absurd e (by decide), fun _ => h⟩⟩
theorem kGD_ft (op : SOp) (t : Nat) : kGD P C (.b false) op t true d r k objs tm F = run P C (.dops r :: k) objs (setd (tm.set t (.b false)) d (.o undef)) F := propext ⟨fun h => h.2 rfl, fun h => ⟨fun e => absurd e (by decide), fun _ => h⟩⟩
theorem kGD_ff (op : SOp) (t : Nat) : kGD P C (.b false) op t false d r k objs tm F = run P C (.dops (⟨d, op, none⟩ :: r) :: k) objs (tm.set t (.b false)) F := propext ⟨fun h => h.1 rfl, fun h => ⟨fun _ => h, fun e => absurd e (by decide)⟩⟩
theorem kGD_u (op : SOp) (t : Nat) (w : Bool) : kGD P C (.o undef) op t w d r k objs tm F = run P C (.dops r :: k) objs (setd tm d (.o undef)) F := Eq.trans rfl rfl
theorem kGD_v (op : SOp) (t : Nat) (w : Bool) (vs : Array Value) : kGD P C (.o (.tuple vs)) op t w d r k objs tm F = run P C (.dops r :: k) objs (setd tm d (.o undef)) F := Eq.trans rfl rfl
theorem rn_guard (op : SOp) (t : Nat) (w : Bool) : run P C (.ops (⟨d, op, some (t, w)⟩ :: r) :: k) objs tm F = kG P C ((tm[t]?).getD .u) op t w d r k objs tm F := by
 show wpR P _ _ _ _ = _
 simp only [wpR, kG]
 cases (tm[t]?).getD .u <;> try rfl
 try (case o v => cases v <;> rfl)
theorem rn_dguard (op : SOp) (t : Nat) (w : Bool) : run P C (.dops (⟨d, op, some (t, w)⟩ :: r) :: k) objs tm F = kGD P C ((tm[t]?).getD .u) op t w d r k objs tm F := by
 show wpD P _ _ _ _ = _
 simp only [wpD, kGD]
 cases (tm[t]?).getD .u <;> try rfl
 try (case o v => cases v <;> rfl)
def kC (P : Program) [Tabs P] (C : Cx) (v : AV) (x y : SCode) (k : List IT) (objs : List OB) (tm : List AV) (F : Post) : Prop :=
 match v with
 | .b t => (t = true → run P C (.code x :: k) objs tm F) ∧ (t = false → run P C (.code y :: k) objs tm F)
 | _ => False
theorem kC_t (x y : SCode) : kC P C (.b true) x y k objs tm F = run P C (.code x :: k) objs tm F := propext ⟨fun h => h.1 rfl, fun h => ⟨fun _ => h, fun e => absurd e (by decide)⟩⟩
theorem kC_f (x y : SCode) : kC P C (.b false) x y k objs tm F = run P C (.code y :: k) objs tm F := propext ⟨fun h => h.2 rfl, fun h => ⟨fun e => absurd e (by decide), fun _ => h⟩⟩
theorem rn_cond (c : SV) (x y : SCode) : run P C (.code (.cond c x y) :: k) objs tm F = kC P C (c.ev tm) x y k objs tm F := by
 show wpC P C _ _ _ _ = _
 simp only [wpC, kC]
 cases c.ev tm <;> rfl
def kCall (P : Program) [Tabs P] (C : Cx) (f : Nat) (args : List AV) (d : Option Nat) (r : List SO) (k : List IT) (objs : List OB) (tm : List AV) (F : Post) : Prop := CallOk P f args objs fun o v => run P C (.ops r :: k) o (setd tm d v) F
theorem rn_call (f : Nat) (args : List SV) : run P C (.ops (⟨d, .call f args, none⟩ :: r) :: k) objs tm F = kCall P C f (evs tm args) d r k objs tm F := by
 show wpR P _ _ _ _ = _
 simp only [wpR, wpS, kCall, evs_eq]; rfl
theorem kcall {f : Nat} {args : List AV} (h : CallOk P f args objs fun o v => run P C (.ops r :: k) o (setd tm d v) F) : kCall P C f args d r k objs tm F := h
def kDCall (P : Program) [Tabs P] (C : Cx) (f : Nat) (args : List AV) (d : Option Nat) (r : List SO) (k : List IT) (objs : List OB) (tm : List AV) (F : Post) : Prop := ∃ v, (CallOk P f args objs fun o x => o = objs ∧ x = v) ∧ run P C (.dops r :: k) objs (setd tm d v) F
theorem rn_dcall (f : Nat) (args : List SV) : run P C (.dops (⟨d, .call f args, none⟩ :: r) :: k) objs tm F = kDCall P C f (evs tm args) d r k objs tm F := by
 show wpD P _ _ _ _ = _
 simp only [wpD, wpS, kDCall, evs_eq, SOp.isCall, if_true]; rfl
def kPCall (P : Program) [Tabs P] (C : Cx) (f : Nat) (args : List AV) (d : Option Nat) (r : List SO) (k : List IT) (objs : List OB) (tm : List AV) (F : Post) : Prop := ∃ v, (plains args = true ∧ CallOk P f args [] fun _ x => x.plain = true ∧ objs = objs ∧ x = v) ∧ run P C (.dops r :: k) objs (setd tm d v) F
theorem rn_pcall (f : Nat) (args : List SV) : run P C (.dops (⟨d, .pcall f args, none⟩ :: r) :: k) objs tm F = kPCall P C f (evs tm args) d r k objs tm F := by
 show wpD P (⟨d, .pcall f args, none⟩ :: r) objs tm _ = _
 simp only [wpD, wpS, kPCall, evs_eq, SOp.isCall, if_true]; rfl
theorem kdcall {f : Nat} {args : List AV} {v : AV} (h : CallOk P f args objs fun o x => o = objs ∧ x = v) (hr : run P C (.dops r :: k) objs (setd tm d v) F) : kDCall P C f args d r k objs tm F := ⟨v, h, hr⟩
def IsFn (P : Program) (f : Nat) : Prop := ∃ fn, P.funcs[f]? = some fn ∧ fn.body.isSome = true ∧ fn.name ≠ "runtime.NumGoroutine"
def kCallv (P : Program) [Tabs P] (C : Cx) (x : AV) (args : List AV) (d : Option Nat) (r : List SO) (k : List IT) (objs : List OB) (tm : List AV) (F : Post) : Prop :=
 match x with
 | .fn f fs cs => IsFn P f ∧ CallOk P f (fs ++ args ++ cs) objs fun o v => run P C (.ops r :: k) o (setd tm d v) F
 | _ => False
theorem rn_callv (x : SV) (args : List SV) : run P C (.ops (⟨d, .callv x args, none⟩ :: r) :: k) objs tm F = kCallv P C (x.ev tm) (evs tm args) d r k objs tm F := by
 show wpR P _ _ _ _ = _
 simp only [wpR, wpS, kCallv, evs_eq]
 cases x.ev tm <;> rfl
theorem kcallv {f : Nat} {fs cs args : List AV} (hf : IsFn P f) (h : CallOk P f (fs ++ args ++ cs) objs fun o v => run P C (.ops r :: k) o (setd tm d v) F) : kCallv P C (.fn f fs cs) args d r k objs tm F := ⟨hf, h⟩
theorem drn_mv (x : SV) : run P C (.dops (⟨d, .mv x, none⟩ :: r) :: k) objs tm F = run P C (.ops [⟨d, .mv x, none⟩] :: .dops r :: k) objs tm F := Eq.trans rfl rfl
theorem drn_pick (c x y : SV) : run P C (.dops (⟨d, .pick c x y, none⟩ :: r) :: k) objs tm F = run P C (.ops [⟨d, .pick c x y, none⟩] :: .dops r :: k) objs tm F := Eq.trans rfl rfl
theorem drn_build (z : List AV) (ps : List (Nat × Nat × SV)) : run P C (.dops (⟨d, .build z ps, none⟩ :: r) :: k) objs tm F = run P C (.ops [⟨d, .build z ps, none⟩] :: .dops r :: k) objs tm F := Eq.trans rfl rfl
theorem drn_bslice (n : Nat) (z : List AV) (ps : List (Nat × Nat × SV)) : run P C (.dops (⟨d, .bslice n z ps, none⟩ :: r) :: k) objs tm F = run P C (.ops [⟨d, .bslice n z ps, none⟩] :: .dops r :: k) objs tm F := Eq.trans rfl rfl
theorem drn_load1 (x : SV) : run P C (.dops (⟨d, .load1 x, none⟩ :: r) :: k) objs tm F = run P C (.ops [⟨d, .load1 x, none⟩] :: .dops r :: k) objs tm F := Eq.trans rfl rfl
theorem drn_loadn (sz : Nat) (x : SV) : run P C (.dops (⟨d, .loadn sz x, none⟩ :: r) :: k) objs tm F = run P C (.ops [⟨d, .loadn sz x, none⟩] :: .dops r :: k) objs tm F := Eq.trans rfl rfl
theorem drn_nck (x : SV) : run P C (.dops (⟨d, .nck x, none⟩ :: r) :: k) objs tm F = run P C (.ops [⟨d, .nck x, none⟩] :: .dops r :: k) objs tm F := Eq.trans rfl rfl
theorem drn_bin (q : BinOp) (x y : SV) : run P C (.dops (⟨d, .bin q x y, none⟩ :: r) :: k) objs tm F = run P C (.ops [⟨d, .bin q x y, none⟩] :: .dops r :: k) objs tm F := Eq.trans rfl rfl
theorem drn_beq (ne : Bool) (x y : SV) : run P C (.dops (⟨d, .beq ne x y, none⟩ :: r) :: k) objs tm F = run P C (.ops [⟨d, .beq ne x y, none⟩] :: .dops r :: k) objs tm F := Eq.trans rfl rfl
theorem drn_eqs (ne : Bool) (e : ET) (x y : SV) : run P C (.dops (⟨d, .eqs ne e x y, none⟩ :: r) :: k) objs tm F = run P C (.ops [⟨d, .eqs ne e x y, none⟩] :: .dops r :: k) objs tm F := Eq.trans rfl rfl
theorem drn_not (x : SV) : run P C (.dops (⟨d, .not x, none⟩ :: r) :: k) objs tm F = run P C (.ops [⟨d, .not x, none⟩] :: .dops r :: k) objs tm F := Eq.trans rfl rfl
theorem drn_neg (x : SV) : run P C (.dops (⟨d, .neg x, none⟩ :: r) :: k) objs tm F = run P C (.ops [⟨d, .neg x, none⟩] :: .dops r :: k) objs tm F := Eq.trans rfl rfl
theorem drn_iada (sz len : Nat) (x y : SV) : run P C (.dops (⟨d, .iada sz len x y, none⟩ :: r) :: k) objs tm F = run P C (.ops [⟨d, .iada sz len x y, none⟩] :: .dops r :: k) objs tm F := Eq.trans rfl rfl
theorem drn_cvi (q : IntKind) (x : SV) : run P C (.dops (⟨d, .cvi q x, none⟩ :: r) :: k) objs tm F = run P C (.ops [⟨d, .cvi q x, none⟩] :: .dops r :: k) objs tm F := Eq.trans rfl rfl
theorem drn_cvs (x : SV) : run P C (.dops (⟨d, .cvs x, none⟩ :: r) :: k) objs tm F = run P C (.ops [⟨d, .cvs x, none⟩] :: .dops r :: k) objs tm F := Eq.trans rfl rfl
theorem drn_cvbs (x : SV) : run P C (.dops (⟨d, .cvbs x, none⟩ :: r) :: k) objs tm F = run P C (.ops [⟨d, .cvbs x, none⟩] :: .dops r :: k) objs tm F := Eq.trans rfl rfl
theorem drn_slcs (x : SV) (lo hi : Option SV) : run P C (.dops (⟨d, .slcs x lo hi, none⟩ :: r) :: k) objs tm F = run P C (.ops [⟨d, .slcs x lo hi, none⟩] :: .dops r :: k) objs tm F := Eq.trans rfl rfl
theorem drn_fad (off : Nat) (x : SV) : run P C (.dops (⟨d, .fad off x, none⟩ :: r) :: k) objs tm F = run P C (.ops [⟨d, .fad off x, none⟩] :: .dops r :: k) objs tm F := Eq.trans rfl rfl
theorem drn_fld1 (off : Nat) (x : SV) : run P C (.dops (⟨d, .fld1 off x, none⟩ :: r) :: k) objs tm F = run P C (.ops [⟨d, .fld1 off x, none⟩] :: .dops r :: k) objs tm F := Eq.trans rfl rfl
theorem drn_fldn (off sz : Nat) (x : SV) : run P C (.dops (⟨d, .fldn off sz x, none⟩ :: r) :: k) objs tm F = run P C (.ops [⟨d, .fldn off sz x, none⟩] :: .dops r :: k) objs tm F := Eq.trans rfl rfl
theorem drn_iad (sz : Nat) (x y : SV) : run P C (.dops (⟨d, .iad sz x y, none⟩ :: r) :: k) objs tm F = run P C (.ops [⟨d, .iad sz x y, none⟩] :: .dops r :: k) objs tm F := Eq.trans rfl rfl
theorem drn_idx (x y : SV) : run P C (.dops (⟨d, .idx x y, none⟩ :: r) :: k) objs tm F = run P C (.ops [⟨d, .idx x y, none⟩] :: .dops r :: k) objs tm F := Eq.trans rfl rfl
theorem drn_ext (x : SV) (j : Nat) : run P C (.dops (⟨d, .ext x j, none⟩ :: r) :: k) objs tm F = run P C (.ops [⟨d, .ext x j, none⟩] :: .dops r :: k) objs tm F := Eq.trans rfl rfl
theorem drn_lens (x : SV) : run P C (.dops (⟨d, .lens x, none⟩ :: r) :: k) objs tm F = run P C (.ops [⟨d, .lens x, none⟩] :: .dops r :: k) objs tm F := Eq.trans rfl rfl
theorem drn_lenr (x : SV) : run P C (.dops (⟨d, .lenr x, none⟩ :: r) :: k) objs tm F = run P C (.ops [⟨d, .lenr x, none⟩] :: .dops r :: k) objs tm F := Eq.trans rfl rfl
theorem drn_mkf (f : Nat) (fs cs : List SV) : run P C (.dops (⟨d, .mkf f fs cs, none⟩ :: r) :: k) objs tm F = run P C (.ops [⟨d, .mkf f fs cs, none⟩] :: .dops r :: k) objs tm F := Eq.trans rfl rfl
theorem drn_bslo (E sz n : Nat) (z : List AV) (ps : List (Nat × Nat × SV)) : run P C (.dops (⟨d, .bslo E sz n z ps, none⟩ :: r) :: k) objs tm F = run P C (.ops [⟨d, .bslo E sz n z ps, none⟩] :: .dops r :: k) objs tm F := Eq.trans rfl rfl
theorem drn_alloc (T : Nat) (z : List AV) : run P C (.dops (⟨d, .alloc T z, none⟩ :: r) :: k) objs tm F = run P C (.ops [⟨d, .alloc T z, none⟩] :: .dops r :: k) objs tm F := Eq.trans rfl rfl
theorem drn_box (T : Nat) (x : SV) : run P C (.dops (⟨d, .box T x, none⟩ :: r) :: k) objs tm F = run P C (.ops [⟨d, .box T x, none⟩] :: .dops r :: k) objs tm F := Eq.trans rfl rfl
theorem drn_store (sz : Nat) (x y : SV) : run P C (.dops (⟨d, .store sz x y, none⟩ :: r) :: k) objs tm F = run P C (.ops [⟨d, .store sz x y, none⟩] :: .dops r :: k) objs tm F := Eq.trans rfl rfl
theorem drn_app (E sz by' : Nat) (x y : SV) : run P C (.dops (⟨d, .app E sz by' x y, none⟩ :: r) :: k) objs tm F = run P C (.ops [⟨d, .app E sz by' x y, none⟩] :: .dops r :: k) objs tm F := Eq.trans rfl rfl
theorem drn_apps (E : Nat) (x y : SV) : run P C (.dops (⟨d, .apps E x y, none⟩ :: r) :: k) objs tm F = run P C (.ops [⟨d, .apps E x y, none⟩] :: .dops r :: k) objs tm F := Eq.trans rfl rfl
theorem drn_mks (E sz by' : Nat) (x y : SV) : run P C (.dops (⟨d, .mks E sz by' x y, none⟩ :: r) :: k) objs tm F = run P C (.ops [⟨d, .mks E sz by' x y, none⟩] :: .dops r :: k) objs tm F := Eq.trans rfl rfl
theorem drn_pu (q : PQ) (xs : List SV) : run P C (.dops (⟨d, .pu q xs, none⟩ :: r) :: k) objs tm F = run P C (.ops [⟨d, .pu q xs, none⟩] :: .dops r :: k) objs tm F := Eq.trans rfl rfl
theorem fn_rn {f : FuncId} {n : Nat} {ss : List SRes} {sc : SCode} (hf : FnIs P f n ss sc) {args : List AV} {objs : List OB} {K : List OB → AV → Prop} (hp : plains args = true)
  (h : ∀ (C : Cx) [On P C], run P C [.code sc] [] (args ++ List.replicate (n - args.length) (.o undef)) (endK ss fun r => K objs r)) : CallOk P f args objs K :=
 fn_ok hf hp h
theorem fn_rin {f : FuncId} {n : Nat} {ss : List SRes} {sc : SCode} (hf : FnIs P f n ss sc) {args : List AV} {objs : List OB} {K : List OB → AV → Prop}
  (h : ∀ (C : Cx) [On P C], run P C [.code sc] objs (args ++ List.replicate (n - args.length) (.o undef)) (endI ss K)) : CallOk P f args objs K :=
 fn_in hf h
theorem endI_n (ss : List SRes) (K : List OB → AV → Prop) : endI ss K .normal objs tm = outI ss K objs tm := Eq.trans rfl rfl
theorem endI_r (ss : List SRes) (K : List OB → AV → Prop) : endI ss K .ret objs tm = outI ss K objs tm := Eq.trans rfl rfl
def outJ (K : List OB → AV → Prop) (objs : List OB) : Option (List AV) → Prop
 | some xs => K objs (tupA xs)
 | none => False
theorem outJ_s (K : List OB → AV → Prop) (xs : List AV) : outJ K objs (some xs) = K objs (tupA xs) := Eq.trans rfl rfl
theorem outI_eq (ss : List SRes) (K : List OB → AV → Prop) : outI ss K objs tm = outJ K objs (resAs objs tm ss) := by
 unfold outI
 cases resAs objs tm ss <;> rfl
theorem endK_n (ss : List SRes) (K : AV → Prop) : endK ss K .normal objs tm = outK ss K objs tm := Eq.trans rfl rfl
theorem endK_r (ss : List SRes) (K : AV → Prop) : endK ss K .ret objs tm = outK ss K objs tm := Eq.trans rfl rfl
def outO (K : AV → Prop) : Option AV → Prop
 | some r => K r
 | none => False
theorem outO_s (K : AV → Prop) (r : AV) : outO K (some r) = K r := Eq.trans rfl rfl
theorem outK_eq (ss : List SRes) (K : AV → Prop) : outK ss K objs tm = outO K ((resAs objs tm ss).bind fun xs => pub objs 5 (tupA xs)) := by
 unfold outK
 cases (resAs objs tm ss).bind (fun xs => pub objs 5 (tupA xs)) <;> rfl
end
end Go.Proofs.Ytkcaghhfnmeknaa.Sx
/-
 DERIVED: THE SHELF's CONTRACTS AT THIS DUMP, IN PLAIN WORDS (tools/lay-plain.mjs out of 'TryShelf.lean', which tools/lay-shelf.mjs wrote): THE SAME DECLARATIONS UNDER THE SAME NAMES: 'import', 'namespace', 'open', 'def', 'theorem' AND NOTHING ELSE: no command of the shelf's: FOR A HAND-IN. Each laying: the table of numbers ('.._ren') and one theorem, a field a fact of the dump's own or the kernel's comparison; each contract: ONE APPLICATION.
-/
namespace Go.Proofs
open Go.Shelf
def Try.lays156_ren : Go.Shelf.Ren := ⟨fun | 156 => 82 | 165 => 104 | 166 => 75 | 169 => 76 | 240 => 98 | 241 => 117 | 276 => 114 | 277 => 122 | n => n, fun | 31 => 71 | 9 => 9 | 3 => 3 | 4 => 4 | 0 => 0 | 20 => 20 | 72 => 90 | 76 => 93 | 70 => 88 | 37 => 80 | 75 => 92 | 127 => 105 | 164 => 111 | 5 => 5 | 80 => 61 | n => n, fun | n => n⟩
theorem Try.lays156 : Go.Proofs.Lays.n156 Try.prog Try.lays156_ren := {
 mixed := by kernel_rfl
 f156 := Try.func82.trans (congrArg some (by kernel_rfl))
 f165 := Try.func104.trans (congrArg some (by kernel_rfl))
 f166 := Try.func75.trans (congrArg some (by kernel_rfl))
 f169 := Try.func76.trans (congrArg some (by kernel_rfl))
 f240 := Try.func98.trans (congrArg some (by kernel_rfl))
 f241 := Try.func117.trans (congrArg some (by kernel_rfl))
 f276 := Try.func114.trans (congrArg some (by kernel_rfl))
 f277 := Try.func122.trans (congrArg some (by kernel_rfl))
 t0 := Try.underlying0
 a0 := Try.isAgg0
 z0 := Try.sizeOf0
 v0 := Try.zeroValue0
 t3 := Try.underlying3
 a3 := Try.isAgg3
 z3 := Try.sizeOf3
 v3 := Try.zeroValue3
 t4 := Try.underlying4
 a4 := Try.isAgg4
 z4 := Try.sizeOf4
 v4 := Try.zeroValue4
 t9 := Try.underlying9
 a9 := Try.isAgg9
 z9 := Try.sizeOf9
 v9 := Try.zeroValue9
 t20 := Try.underlying20
 a20 := Try.isAgg20
 z20 := Try.sizeOf20
 v20 := Try.zeroValue20
 t31 := Try.underlying71
 a31 := Try.isAgg71
 z31 := Try.sizeOf71
 v31 := Try.zeroValue71
 t37 := Try.underlying80
 a37 := Try.isAgg80
 z37 := Try.sizeOf80
 v37 := Try.zeroValue80
 t70 := Try.underlying88
 a70 := Try.isAgg88
 z70 := Try.sizeOf88
 v70 := Try.zeroValue88
 t72 := Try.underlying90
 a72 := Try.isAgg90
 z72 := Try.sizeOf90
 v72 := Try.zeroValue90
 t75 := Try.underlying92
 a75 := Try.isAgg92
 z75 := Try.sizeOf92
 v75 := Try.zeroValue92
 t76 := Try.underlying93
 a76 := Try.isAgg93
 z76 := Try.sizeOf93
 v76 := Try.zeroValue93
 t127 := Try.underlying105
 a127 := Try.isAgg105
 z127 := Try.sizeOf105
 v127 := Try.zeroValue105
 t164 := Try.underlying111
 a164 := Try.isAgg111
 z164 := Try.sizeOf111
 v164 := Try.zeroValue111 }
theorem Try.Builder_Extra_156 : Builder.Extra Try.prog Try.lays156_ren := {
 sizeBuilder := by kernel_rfl
 liesBuilder := by kernel_rfl
 t5 := Try.underlying5
 a5 := Try.isAgg5
 z5 := Try.sizeOf5
 v5 := Try.zeroValue5
 infoByte := by kernel_rfl
 cellsByte := by kernel_rfl
 sizeByte := by kernel_rfl
 neB5 := by decide }
open Go.RowKit in
/-- No element: the empty string; the world is as it was. (Whatever the slice's address and capacity: a nil slice too.) (LAID: no walk: one application.) -/
theorem Try.strings_Join_none (a : Option Addr) (c : Nat) (sep : ByteArray) (w : World) :
  Calls Try.prog 82 #[.slice a 0 c, .string sep] w fun e w' => e = .returned (.string ⟨#[]⟩) ∧ w' = w := Any.strings_Join_none Try.lays156 Try.Builder_Extra_156 a c sep w
open Go.RowKit in
/-- strings.Join: "Join concatenates the elements of its first argument to create a single string. The separator string sep is placed between elements in the resulting string.": HOWEVER MANY ELEMENTS. Below the heap's end the world is as it was. (LAID: no walk: one application.) -/
theorem Try.strings_Join (bk o c : Nat) (xs : List ByteArray) (sep : ByteArray) (w : World) (hcells : ∀ (j : Nat) x, xs[j]? = some x → w.cell? ⟨bk, o + j, none⟩ = some (.string x)) (hbk : bk < w.heap.size) (hN : xs.length ≤ 140737488355328) (hcap : xs.length ≤ c) (hlen : (Lib.join (xs.map (·.data.toList)) sep.data.toList).length ≤ 140737488355328) :
  Calls Try.prog 82 #[.slice (some ⟨bk, o, none⟩) xs.length c, .string sep] w fun e w' => e = .returned (.string ⟨(Lib.join (xs.map (·.data.toList)) sep.data.toList).toArray⟩) ∧ Below w.heap.size w w' := Any.strings_Join Try.lays156 Try.Builder_Extra_156 bk o c xs sep w hcells hbk hN hcap hlen
def Try.lays137_ren : Go.Shelf.Ren := ⟨fun | 137 => 116 | 217 => 121 | 266 => 126 | n => n, fun | 9 => 9 | 5 => 5 | 3 => 3 | n => n, fun | n => n⟩
theorem Try.lays137 : Go.Proofs.Lays.n137 Try.prog Try.lays137_ren := {
 mixed := by kernel_rfl
 f137 := Try.func116.trans (congrArg some (by kernel_rfl))
 f217 := Try.func121.trans (congrArg some (by kernel_rfl))
 f266 := Try.func126.trans (congrArg some (by kernel_rfl))
 t3 := Try.underlying3
 a3 := Try.isAgg3
 z3 := Try.sizeOf3
 v3 := Try.zeroValue3
 t5 := Try.underlying5
 a5 := Try.isAgg5
 z5 := Try.sizeOf5
 v5 := Try.zeroValue5
 t9 := Try.underlying9
 a9 := Try.isAgg9
 z9 := Try.sizeOf9
 v9 := Try.zeroValue9 }
open Go.RowKit in
/-- strings.IndexByte: "IndexByte returns the index of the first instance of c in s, or -1 if c is not present in s.": IT RETURNS 'Lib.indexByte s c'; the world is as it was. (LAID: no walk: one application.) -/
theorem Try.strings_IndexByte (s : ByteArray) (c : Int) (w : World) :
  Calls Try.prog 116 #[.string s, .int .u8 c] w fun e w' => e = .returned (.int .i64 (Lib.indexByte s.data.toList c.toNat.toUInt8)) ∧ w' = w := Any.strings_IndexByte Try.lays137 s c w
def Try.lays110_ren : Go.Shelf.Ren := ⟨fun | 110 => 80 | 109 => 103 | n => n, fun | 31 => 71 | 9 => 9 | 4 => 4 | 3 => 3 | 0 => 0 | n => n, fun | n => n⟩
theorem Try.lays110 : Go.Proofs.Lays.n110 Try.prog Try.lays110_ren := {
 mixed := by kernel_rfl
 f109 := Try.func103.trans (congrArg some (by kernel_rfl))
 f110 := Try.func80.trans (congrArg some (by kernel_rfl))
 t0 := Try.underlying0
 a0 := Try.isAgg0
 z0 := Try.sizeOf0
 v0 := Try.zeroValue0
 t3 := Try.underlying3
 a3 := Try.isAgg3
 z3 := Try.sizeOf3
 v3 := Try.zeroValue3
 t4 := Try.underlying4
 a4 := Try.isAgg4
 z4 := Try.sizeOf4
 v4 := Try.zeroValue4
 t9 := Try.underlying9
 a9 := Try.isAgg9
 z9 := Try.sizeOf9
 v9 := Try.zeroValue9
 t31 := Try.underlying71
 a31 := Try.isAgg71
 z31 := Try.sizeOf71
 v31 := Try.zeroValue71 }
open Go.Lib in
/-- slices.Contains at []string: "Contains reports whether v is present in s.": IT RETURNS 'Lib.containsS (the elements) v', which is true just where v is among them ('Lib.containsS_iff'); the world is as it was. ITS CALLEE slices.Index IS MET BY ITS OWN CONTRACT OFF THE SHELF (lay that first): no loop is walked here. (LAID: no walk: one application.) -/
theorem Try.slices_Contains_string (b off n c : Nat) (zs : List ByteArray) (x : ByteArray) (w : World) (hz : n ≤ zs.length) (hbig : n ≤ 9223372036854775807) (hc : ∀ j, j < zs.length → w.cell? ⟨b, off + j, none⟩ = some (.string (zs.getD j ByteArray.empty))) :
  Calls Try.prog 80 #[.slice (some ⟨b, off, none⟩) n c, .string x] w fun e w' => e = .returned (.bool (Lib.containsS (zs.take n) x)) ∧ w' = w := Any.slices_Contains_string Try.lays110 b off n c zs x w hz hbig hc
open Go.Lib in
/-- The same at a slice of length 0, a nil one too. (LAID: no walk: one application.) -/
theorem Try.slices_Contains_string_empty (a : Option Addr) (c : Nat) (x : ByteArray) (w : World) :
  Calls Try.prog 80 #[.slice a 0 c, .string x] w fun e w' => e = .returned (.bool false) ∧ w' = w := Any.slices_Contains_string_empty Try.lays110 a c x w
end Go.Proofs
namespace Go.Proofs.Ytkcaghhfnmeknaa
open Go.RowKit
theorem ret_bool {a b : Bool} (h : a = b) : Ending.returned (.bool a) = .returned (.bool b) := by rw [h]
theorem ret_int {k : IntKind} {a b : Int} (h : a = b) : Ending.returned (.int k a) = .returned (.int k b) := by rw [h]
theorem dd {p q : Prop} [Decidable p] [Decidable q] (h : p ↔ q) : decide p = decide q := decide_eq_decide.2 h
theorem dt {q : Prop} [Decidable q] (h : q) : true = decide q := (decide_eq_true h).symm
theorem df {q : Prop} [Decidable q] (h : ¬ q) : false = decide q := (decide_eq_false h).symm
abbrev S (l : List UInt8) : ByteArray := ⟨l.toArray⟩
theorem S_size (l : List UInt8) : (S l).size = l.length := size_of_list l
theorem S_list (l : List UInt8) : (S l).data.toList = l := rfl
theorem size_list (s : ByteArray) : s.data.toList.length = s.size := rfl
theorem at_list (s : ByteArray) (k : Nat) (h : k < s.size) : s.data.toList[k]'(by rw [size_list]; exact h) = s[k] := rfl
theorem getD_list (s : ByteArray) (k : Nat) (h : k < s.size) : s.data.toList.getD k 0 = s[k] := by
 rw [List.getD_eq_getElem?_getD, List.getElem?_eq_getElem (by rw [size_list]; exact h)]; rfl
theorem take_snoc (s : ByteArray) (k : Nat) (h : k < s.size) : s.data.toList.take (k + 1) = s.data.toList.take k ++ [s[k]] := by
 rw [List.take_succ_eq_append_getElem (by simpa using h)]; rfl
theorem drop_cons (s : ByteArray) (k : Nat) (h : k < s.size) : s.data.toList.drop k = s[k] :: s.data.toList.drop (k + 1) := by
 rw [List.drop_eq_getElem_cons (by simpa using h)]; rfl
def Qb (w w' : World) : Prop := Below w.heap.size w w'
theorem Qb.refl (w : World) : Qb w w := Below.refl _ _
theorem Qb.trans {a b c : World} (h : Qb a b) (k : Qb b c) : Qb a c := Below.trans h (Below.mono k h.size)
theorem Qb.alloc {a b : World} (h : Qb a b) (o : Obj) : Qb a (b.alloc o) := Below.alloc h h.size o
theorem Qb.drewN {a b : World} (h : Qb a b) (n : Nat) : Qb a (b.drewN n) := below_drewN h n
theorem Qb.set {a b : World} (h : Qb a b) {p : Addr} (hp : a.heap.size ≤ p.block) (u : Value) : Qb a (b.setCell p u) := Below.setCell h hp u
theorem Qb.size {a b : World} (h : Qb a b) : a.heap.size ≤ b.heap.size := Below.size h
theorem quiet_left {P : Program} {f : FuncId} {args : Array Value} {w : World} {n : Nat} {v : Value}
  (h : Calls P f args (w.drewN n) fun e w' => e = .returned v ∧ w.drewN n = w') : Calls P f args (w.drewN n) fun e w'' => e = .returned v ∧ ∃ m, w'' = w.drewN m :=
 h.mono fun _ _ ⟨he, hm⟩ => ⟨he, n, hm.symm⟩
end Go.Proofs.Ytkcaghhfnmeknaa
namespace Go.Proofs.Ytkcaghhfnmeknaa
open Go.RowKit
def isCap (c : UInt8) : Bool := decide (65 ≤ c.toNat ∧ c.toNat ≤ 90)
def isAlpha (c : UInt8) : Bool := decide (97 ≤ c.toNat ∧ c.toNat ≤ 122 ∨ 65 ≤ c.toNat ∧ c.toNat ≤ 90)
def isDigit (c : UInt8) : Bool := decide (48 ≤ c.toNat ∧ c.toNat ≤ 57)
def hasB (c : UInt8) (l : List UInt8) : Bool := l.contains c
theorem hasB_nil (c : UInt8) : hasB c [] = false := rfl
theorem beq_u8 (c d : UInt8) : (c == d) = (d.toNat == c.toNat) := by
 by_cases h : c = d
 ·subst h; rw [beq_self_eq_true, beq_self_eq_true]
 ·rw [beq_eq_false_iff_ne.2 h, beq_eq_false_iff_ne.2 (fun e => h (UInt8.toNat_inj.1 e).symm)]
theorem hasB_snoc (l : List UInt8) (c d : UInt8) : hasB c (l ++ [d]) = (hasB c l || (d.toNat == c.toNat)) := by
 unfold hasB
 rw [← beq_u8]
 simp only [List.contains_append, List.contains_cons, List.contains_nil, Bool.or_false]
def isLD (c : UInt8) : Bool := isAlpha c || isDigit c
def isTok (c : UInt8) : Bool := isLD c || hasB c [33, 35, 36, 37, 38, 39, 42, 43, 45, 46, 94, 95, 96, 124, 126]
theorem isCapital_any (c : UInt8) (w : World) :
  Calls Try.prog 101 #[.int .u8 c.toNat] w fun e w' => e = .returned (.bool (isCap c)) ∧ w = w' := by
 go_enter Try.func101, Try.ntmps101
 go_wp2
 all_goals go_ret
 all_goals exact ⟨ret_bool (by unfold isCap; first | exact dt (by omega) | exact df (by omega) | (rw [Bool.eq_iff_iff]; simp only [Bool.or_eq_true, Bool.and_eq_true, decide_eq_true_eq]; omega)), rfl⟩
theorem IsAlpha_any (c : UInt8) (w : World) :
  Calls Try.prog 115 #[.int .u8 c.toNat] w fun e w' => e = .returned (.bool (isAlpha c)) ∧ w = w' := by
 go_enter Try.func115, Try.ntmps115
 go_wp2
 all_goals go_ret
 all_goals exact ⟨ret_bool (by unfold isAlpha; first | exact dt (by omega) | exact df (by omega) | (rw [Bool.eq_iff_iff]; simp only [Bool.or_eq_true, Bool.and_eq_true, decide_eq_true_eq]; omega)), rfl⟩
theorem IsDigit_any (c : UInt8) (w : World) :
  Calls Try.prog 109 #[.int .u8 c.toNat] w fun e w' => e = .returned (.bool (isDigit c)) ∧ w = w' := by
 go_enter Try.func109, Try.ntmps109
 go_wp2
 all_goals go_ret
 all_goals exact ⟨ret_bool (by unfold isDigit; first | exact dt (by omega) | exact df (by omega) | (rw [Bool.eq_iff_iff]; simp only [Bool.or_eq_true, Bool.and_eq_true, decide_eq_true_eq]; omega)), rfl⟩
theorem isOneOf_any (c : UInt8) (s : ByteArray) (w : World) :
  Calls Try.prog 100 #[.int .u8 c.toNat, .string s] w fun e w' => e = .returned (.bool (hasB c s.data.toList)) ∧ w = w' := by
 go_enter Try.func100, Try.ntmps100
 go_wp2_with (go_at_call 116; refine (Try.strings_IndexByte _ _ _).mono ?_; rintro e w' ⟨rfl, rfl⟩)
 go_ret
 exact ⟨ret_bool (by unfold hasB; rw [Lib.contains_iff_indexByte]), rfl⟩
theorem isLD_any (c : UInt8) (w : World) :
  Calls Try.prog 99 #[.int .u8 c.toNat] w fun e w' => e = .returned (.bool (isLD c)) ∧ w = w' := by
 go_enter Try.func99, Try.ntmps99
 go_wp2_with (first | (go_at_call 115; refine (IsAlpha_any _ _).mono ?_; rintro e w' ⟨rfl, rfl⟩) | (go_at_call 109; refine (IsDigit_any _ _).mono ?_; rintro e w' ⟨rfl, rfl⟩))
 all_goals go_ret
 all_goals exact ⟨ret_bool (by simp_all [isLD]), rfl⟩
theorem IsTok_any (c : UInt8) (w : World) :
  Calls Try.prog 77 #[.int .u8 c.toNat] w fun e w' => e = .returned (.bool (isTok c)) ∧ w = w' := by
 go_enter Try.func77, Try.ntmps77
 go_wp2_with (first | (go_at_call 99; refine (isLD_any _ _).mono ?_; rintro e w' ⟨rfl, rfl⟩) | (go_at_call 100; refine (isOneOf_any _ _ _).mono ?_; rintro e w' ⟨rfl, rfl⟩))
 all_goals go_ret
 all_goals exact ⟨ret_bool (by simp_all [isTok]), rfl⟩
def lowB (c : UInt8) : UInt8 := if isCap c then c + 32 else c
theorem lower_any (c : UInt8) (w : World) :
  Calls Try.prog 78 #[.int .u8 c.toNat] w fun e w' => e = .returned (.int .u8 (lowB c).toNat) ∧ w = w' := by
 go_enter Try.func78, Try.ntmps78
 go_wp2_with (go_at_call 101; refine (isCapital_any _ _).mono ?_; rintro e w' ⟨rfl, rfl⟩)
 all_goals go_ret
 ·have h : isCap c = true := by assumption
  exact ⟨ret_int (by simp [lowB, h, UInt8.toNat_add]), rfl⟩
 ·have h : isCap c = false := by assumption
  exact ⟨ret_int (by simp [lowB, h]), rfl⟩
theorem rIsAlpha_any (c : UInt8) (w : World) :
  Calls Try.prog 105 #[.int .u8 c.toNat] w fun e w' => e = .returned (.bool (isAlpha c)) ∧ w = w' := by
 go_enter Try.func105, Try.ntmps105
 go_wp2
 all_goals go_ret
 all_goals exact ⟨ret_bool (by unfold isAlpha; first | exact dt (by omega) | exact df (by omega) | (rw [Bool.eq_iff_iff]; simp only [Bool.or_eq_true, Bool.and_eq_true, decide_eq_true_eq]; omega)), rfl⟩
theorem rIsDigit_any (c : UInt8) (w : World) :
  Calls Try.prog 106 #[.int .u8 c.toNat] w fun e w' => e = .returned (.bool (isDigit c)) ∧ w = w' := by
 go_enter Try.func106, Try.ntmps106
 go_wp2
 all_goals go_ret
 all_goals exact ⟨ret_bool (by unfold isDigit; first | exact dt (by omega) | exact df (by omega) | (rw [Bool.eq_iff_iff]; simp only [Bool.or_eq_true, Bool.and_eq_true, decide_eq_true_eq]; omega)), rfl⟩
theorem rIn_any (c : UInt8) (s : ByteArray) (w : World) (hs : s.size ≤ maxLen) :
  Calls Try.prog 107 #[.int .u8 c.toNat, .string s] w fun e w' => e = .returned (.bool (hasB c s.data.toList)) ∧ w = w' := by
 unfold maxLen at hs
 go_enter Try.func107, Try.ntmps107
 go_wp2
 go_loop [5] (fun i => ∃ k : Nat, k ≤ s.size ∧ i = .int .i64 k ∧ hasB c (s.data.toList.take k) = false) (fun i => s.size - (intOf i).toNat)
 case atStart => exact ⟨0, Nat.zero_le _, rfl, hasB_nil c⟩
 case round =>
  obtain ⟨k, hk, rfl, hno⟩ := hrel
  have HN := Lib.hid hno
  clear hno
  by_cases hlt : k < s.size
  ·have HT := Lib.hid (take_snoc s k hlt)
   go_wp2
   ·have he : (↑s[k].toNat == (↑c.toNat : Int)) = true := by assumption
    go_ret
    have h : hasB c s.data.toList = true := by
     have h1 : hasB c (s.data.toList.take (k + 1)) = true := by
      rw [HT.out, hasB_snoc]
      have : s[k].toNat = c.toNat := by have := eq_of_beq he; omega
      simp [this]
     unfold hasB at h1 ⊢
     rw [List.contains_iff_mem] at h1 ⊢
     exact List.mem_of_mem_take h1
    exact ⟨ret_bool h.symm, rfl⟩
   ·have he : (↑s[k].toNat == (↑c.toNat : Int)) = false := by assumption
    go_round
    case rel =>
     refine ⟨k + 1, by omega, by go_num, ?_⟩
     rw [HT.out, hasB_snoc, HN.out]
     have : ¬ s[k].toNat = c.toNat := by intro h; simp [h] at he
     simp [this]
    case measure => simp [intOf]; omega
  ·go_wp2
   go_ret
   exact ⟨ret_bool (by have h := HN.out; rw [List.take_of_length_le (by rw [size_list]; omega)] at h; rw [h]), rfl⟩
theorem rIsTok_any (c : UInt8) (w : World) :
  Calls Try.prog 85 #[.int .u8 c.toNat] w fun e w' => e = .returned (.bool (isTok c)) ∧ w = w' := by
 go_enter Try.func85, Try.ntmps85
 go_wp2_with (first | (go_at_call 105; refine (rIsAlpha_any _ _).mono ?_; rintro e w' ⟨rfl, rfl⟩) | (go_at_call 106; refine (rIsDigit_any _ _).mono ?_; rintro e w' ⟨rfl, rfl⟩) | (go_at_call 107; refine (rIn_any _ _ _ (by decide)).mono ?_; rintro e w' ⟨rfl, rfl⟩))
 all_goals go_ret
 all_goals exact ⟨ret_bool (by simp_all [isTok, isLD]), rfl⟩
end Go.Proofs.Ytkcaghhfnmeknaa
namespace Go.Proofs.Ytkcaghhfnmeknaa
open Go.RowKit
theorem infoU8 : (Try.prog.info? 5).map (fun i => (i.zero, i.size, i.bytes)) = some (some (.int .u8 0), 1, 1) := by kernel_rfl
def bv (l : List UInt8) : List Value := l.map fun c => .int .u8 c.toNat
theorem bv_length (l : List UInt8) : (bv l).length = l.length := by simp [bv]
theorem bv_set (l : List UInt8) (i : Nat) (c : UInt8) : (bv l).set i (.int .u8 c.toNat) = bv (l.set i c) := by simp [bv, List.map_set]
theorem bv_get (l : List UInt8) (i : Nat) (h : i < l.length) : (bv l)[i]? = some (.int .u8 l[i].toNat) := by simp [bv, h]
def Brow (w : World) (base : Nat) (v : Value) (l : List UInt8) : Prop := w.ownsRow base 5 1 v l.length (bv l)
theorem Brow.nil (w : World) (base : Nat) : Brow w base (.slice none 0 0) [] := World.ownsRow_nil w base _ _
theorem Brow.drewN {w : World} {base : Nat} {v : Value} {l : List UInt8} (h : Brow w base v l) (n : Nat) : Brow (w.drewN n) base v l := h
theorem Brow.alloc {w : World} {base : Nat} {v : Value} {l : List UInt8} (h : Brow w base v l) (o : Obj) : Brow (w.alloc o) base v l := World.ownsRow.alloc h o
theorem foldl_bv : ∀ (l : List UInt8) (s : ByteArray), (l.map fun c => (c.toNat : Int)).foldl (fun r n => r.push (UInt8.ofNat n.toNat)) s = ⟨s.data ++ l.toArray⟩
 | [], s => by simp
 | n :: ns, s => by
  rw [List.map_cons, List.foldl_cons, foldl_bv ns]
  simp [ByteArray.push]
theorem row_str {w : World} {base : Nat} {v : Value} {l : List UInt8} (h : Brow w base v l) :
  (convert 80 9 v).run Try.prog w = .ok (.string ⟨l.toArray⟩) w := by
 rcases h.2 with ⟨rfl, hn⟩ | ⟨g, cap, cur, rfl, hb, hg, hnc, hcm, hcs, htake⟩
 ·have : l = [] := List.eq_nil_of_length_eq_zero hn
  subst this
  exact run_convert_bytes_nil w 80 5 Try.underlying80 Try.underlying5 0 0 _ Try.underlying9
 ·have hl : (loadCells ⟨g, 0, none⟩ l.length).run Try.prog w = .ok ((l.map fun c => (c.toNat : Int)).map (Value.int .u8)).toArray w := by
   have := run_loadCells_list (P := Try.prog) w ⟨g, 0, none⟩ (bv l) (fun j v hj => World.ownsRow.cells h (g := g) rfl j v hj)
   rw [bv_length] at this
   rw [this]
   simp [bv, Function.comp_def]
  rw [run_convert_bytes_string w _ _ 5 _ _ _ Try.underlying80 Try.underlying5 Try.underlying9, run_bytesToString w _ _ cap _ hl, foldl_bv]
  simp [ByteArray.empty, ByteArray.emptyWithCapacity]
  rfl
def mkB (c : Nat) : Array Value := madeCells (Value.int .u8 0).cells (c * 1)
theorem mkB_size (c : Nat) : (mkB c).size = c := by unfold mkB; rw [size_madeCells]; omega
theorem mkB_list (c : Nat) : (mkB c).toList = bv (List.replicate c 0) := by
 show (madeCells #[.int .u8 0] (c * 1)).toList = _
 rw [toList_madeCells_one]; simp [bv]
theorem mk_bytes (n c : Nat) (hn : n ≤ c) (hc : c ≤ 281474976710656) (w : World) :
  (Instr.makeSlice 80 (.int .i64 (n : Int)) (.int .i64 (c : Int))).run Try.prog w = .ok (.slice (some ⟨w.heap.size, 0, none⟩) n c) (w.alloc (.cells (mkB c) 5)) := by
 obtain ⟨i0, hi, hz0, hz1, hz2⟩ := info_parts infoU8
 have hb : (i0.bytes : Int) * (c : Int) ≤ 281474976710656 := by rw [hz2]; omega
 have hr := run_make (P := Try.prog) w 80 5 i0 (.int .u8 0) Try.underlying80 hi hz0 .i64 .i64 n c (by omega) (by omega) hb (by omega)
 simp only [Int.toNat_natCast, hz1] at hr
 exact hr
theorem brow_made (w : World) (B n c : Nat) (hB : B ≤ w.heap.size) (hn : n ≤ c) (hc : c ≤ 281474976710656) :
  Brow (w.alloc (.cells (mkB c) 5)) B (.slice (some ⟨w.heap.size, 0, none⟩) n c) (List.replicate n 0) := by
 refine ⟨by simp [bv_length], .inr ⟨w.heap.size, c, mkB c, by simp, hB, heap_alloc_new w _, by simpa using hn, by simp only [maxLen]; omega, by rw [mkB_size]; omega, ?_⟩⟩
 rw [mkB_list, List.length_replicate]
 simp [bv, List.take_replicate, Nat.min_eq_left hn]
theorem Brow.cell {w : World} {B g n cap : Nat} {l : List UInt8} (h : Brow w B (.slice (some ⟨g, 0, none⟩) n cap) l) (j : Nat) (hj : j < l.length) : w.cell? ⟨g, j, none⟩ = some (.int .u8 l[j].toNat) := by
 have h' := h
 rcases h'.2 with ⟨e, _⟩ | ⟨g', cap', cur, e, _⟩
 ·simp at e
 ·simp only [Value.slice.injEq] at e
  obtain ⟨_, rfl, _⟩ := e
  rw [World.ownsRow.cellAt (h : World.ownsRow _ _ _ _ _ _ _) j (by omega), bv_get l j hj]
theorem Brow.frozen {w : World} {B g n cap : Nat} {l : List UInt8} (h : Brow w B (.slice (some ⟨g, 0, none⟩) n cap) l) (j : Nat) : w.frozen? ⟨g, j, none⟩ = false := by
 have h' := h
 rcases h'.2 with ⟨e, _⟩ | ⟨g', cap', cur, e, _⟩
 ·simp at e
 ·simp only [Value.slice.injEq] at e
  obtain ⟨_, rfl, _⟩ := e
  exact World.ownsRow.frozenAt (h : World.ownsRow _ _ _ _ _ _ _) j
theorem Brow.stored {w : World} {B g n cap : Nat} {l : List UInt8} (h : Brow w B (.slice (some ⟨g, 0, none⟩) n cap) l) (j : Nat) (c : UInt8) :
  Brow (w.setCell ⟨g, j, none⟩ (.int .u8 c.toNat)) B (.slice (some ⟨g, 0, none⟩) n cap) (l.set j c) := by
 have h' := h
 rcases h'.2 with ⟨e, _⟩ | ⟨g', cap', cur, e, _⟩
 ·simp at e
 ·simp only [Value.slice.injEq] at e
  obtain ⟨_, rfl, _⟩ := e
  have := (World.ownsRow.stored (h : World.ownsRow _ _ _ _ _ _ _) j (.int .u8 c.toNat)).1
  unfold Brow
  rw [← bv_set, List.length_set]
  exact this
def Crow (w : World) (g : Nat) (l : List UInt8) : Prop := ∀ j (h : j < l.length), w.cell? ⟨g, j, none⟩ = some (.int .u8 l[j].toNat) ∧ w.frozen? ⟨g, j, none⟩ = false
theorem add_plain (g j : Nat) : (⟨g, 0, none⟩ : Addr).add j = ⟨g, j, none⟩ := by unfold Addr.add; split <;> simp_all
theorem Crow.str {w : World} {g : Nat} {l : List UInt8} (h : Crow w g l) (n cap : Nat) (hn : n = l.length) :
  (convert 80 9 (.slice (some ⟨g, 0, none⟩) n cap)).run Try.prog w = .ok (.string ⟨l.toArray⟩) w := by
 subst hn
 exact run_convert_bytes_back w _ _ 5 _ cap l Try.underlying80 Try.underlying5 Try.underlying9 (fun j hj => by rw [add_plain]; exact (h j hj).1)
theorem Crow.stored {w : World} {g : Nat} {l : List UInt8} (h : Crow w g l) (k : Nat) (hk : k < l.length) (c : UInt8) :
  Crow (w.setCell ⟨g, k, none⟩ (.int .u8 c.toNat)) g (l.set k c) := by
 intro j hj
 rw [List.length_set] at hj
 refine ⟨?_, (World.frozen?_setCell _ _ _ _).trans (h j hj).2⟩
 by_cases e : k = j
 ·subst e
  rw [World.cell?_setCell_same _ _ _ (h k hj).1]
  simp
 ·rw [World.cell?_setCell_other _ _ _ _ (fun e2 => e (by injection e2)), (h j hj).1]
  simp [e]
theorem crow_string (w : World) (s : ByteArray) : Crow (Lib.bytesWorld w 5 s) w.heap.size s.data.toList := by
 intro j hj
 rw [size_list] at hj
 refine ⟨?_, ?_⟩
 ·rw [Lib.bytesWorld_cell w _ s j hj, getD_list s j hj]; rfl
 ·have hs : (Lib.bytesCells w 5 s).size ≠ j := by
   have : s.size ≤ (Lib.bytesCells w 5 s).size := by
    simp only [Lib.bytesCells, Array.size_append, Array.size_map]
    exact Nat.le_add_right _ _
   omega
  simp [World.frozen?, Lib.bytesWorld_at_new]
  omega
theorem qb_bytesWorld (w : World) (e : TypeId) (s : ByteArray) : Qb w (Lib.bytesWorld w e s) := by
 refine ⟨rfl, rfl, rfl, by rw [Lib.bytesWorld_size]; omega, fun k hk => Lib.bytesWorld_at_old w e s k hk⟩
theorem conv_bytes (s : ByteArray) (w : World) :
  (convert 9 80 (.string s)).run Try.prog w = .ok (.slice (some ⟨w.heap.size, 0, none⟩) s.size (grownCap w s.size 0 5)) (Lib.bytesWorld w 5 s) :=
 Lib.run_convert_string_bytes w _ _ _ s Try.underlying9 Try.underlying80 Try.underlying5
end Go.Proofs.Ytkcaghhfnmeknaa
namespace Go.Proofs.Ytkcaghhfnmeknaa
open Go.RowKit
def lowL (l : List UInt8) : List UInt8 := l.map lowB
theorem low_set (l : List UInt8) (k n : Nat) (hn : l.length = n) (hk : k < n) :
  (lowL (l.take k) ++ List.replicate (n - k) 0).set k (lowB (l[k]'(by omega))) = lowL (l.take (k + 1)) ++ List.replicate (n - (k + 1)) 0 := by
 have h1 : (lowL (l.take k)).length = k := by simp [lowL]; omega
 rw [List.set_append_right _ _ (by omega), h1, Nat.sub_self, show n - k = (n - (k + 1)) + 1 from by omega, List.replicate_succ, List.set_cons_zero, List.take_succ_eq_append_getElem (by omega)]
 simp only [lowL, List.map_append, List.map_cons, List.map_nil, List.append_assoc, List.singleton_append]
theorem Lower_any (s : ByteArray) (w : World) (hs : s.size ≤ 140737488351232) :
  Calls Try.prog 48 #[.string s] w fun e w' => e = .returned (.string (S (lowL s.data.toList))) ∧ Qb w w' := by
 have hmk := fun W => mk_bytes s.size s.size (Nat.le_refl _) (by omega) W
 go_enter Try.func48, Try.ntmps48
 go_wp2_with fail
 clear hmk
 go_loopw [4, 10] (fun _ i wr => ∃ k : Nat, k ≤ s.size ∧ i = .int .i64 k ∧ Brow wr w.heap.size (.slice (some ⟨w.heap.size, 0, none⟩) s.size s.size) (lowL (s.data.toList.take k) ++ List.replicate (s.size - k) 0) ∧ Qb w wr) (fun _ i _ => s.size - (intOf i).toNat)
 case atStart => exact ⟨0, Nat.zero_le _, rfl, brow_made w _ _ _ (Nat.le_refl _) (Nat.le_refl _) (by omega), (Qb.refl w).alloc _⟩
 case round =>
  obtain ⟨k, hk, rfl, hrow, hq⟩ := hrel
  by_cases hlt : k < s.size
  ·have hlen : (lowL (s.data.toList.take k) ++ List.replicate (s.size - k) 0).length = s.size := by simp [lowL, size_list]; omega
   obtain ⟨u, hc⟩ : ∃ u, wr.cell? ⟨w.heap.size, k, none⟩ = some u := ⟨_, hrow.cell k (by omega)⟩
   have hf : wr.frozen? ⟨w.heap.size, k, none⟩ = false := hrow.frozen k
   have hrow' := hrow.stored k (lowB s[k])
   have hset := low_set s.data.toList k s.size (size_list s) hlt
   rw [at_list s k hlt] at hset
   rw [hset] at hrow'
   clear hset hrow hlen
   have HR := Lib.hid hrow'
   clear hrow'
   go_wp2_with (go_at_call 78; refine (lower_any _ _).mono ?_; rintro e w' ⟨rfl, rfl⟩)
   go_roundw
   case rel => exact ⟨k + 1, by omega, by go_num, HR.out, hq.set (Nat.le_refl _) _⟩
   case measure => simp [intOf]; omega
  ·obtain rfl : k = s.size := by omega
   have hl : lowL (s.data.toList.take s.size) ++ List.replicate (s.size - s.size) 0 = lowL s.data.toList := by
    rw [List.take_of_length_le (by rw [size_list]; omega)]; simp
   rw [hl] at hrow
   have hst := row_str hrow
   clear hl
   go_wp2
   go_ret
   exact ⟨rfl, hq⟩
def eqL (a b : List UInt8) : Bool := lowL a == lowL b
theorem take_all (s : ByteArray) (k : Nat) (h : ¬ k < s.size) : s.data.toList.take k = s.data.toList := List.take_of_length_le (by rw [size_list]; omega)
theorem eqL_len {a b : List UInt8} (h : a.length ≠ b.length) : eqL a b = false := by
 unfold eqL lowL
 rw [beq_eq_false_iff_ne]
 intro e
 exact h (by have := congrArg List.length e; simpa using this)
theorem low_snoc (s : ByteArray) (k : Nat) (h : k < s.size) : lowL (s.data.toList.take (k + 1)) = lowL (s.data.toList.take k) ++ [lowB s[k]] := by
 rw [take_snoc s k h]; simp [lowL]
theorem eqL_ne {a b : List UInt8} {k : Nat} (h : lowL (a.take k) ≠ lowL (b.take k)) : eqL a b = false := by
 unfold eqL
 rw [beq_eq_false_iff_ne]
 intro e
 apply h
 simp only [lowL, List.map_take] at e ⊢
 rw [e]
theorem Equal_any (a b : ByteArray) (w : World) (ha : a.size ≤ maxLen) (hb : b.size ≤ maxLen) :
  Calls Try.prog 73 #[.string a, .string b] w fun e w' => e = .returned (.bool (eqL a.data.toList b.data.toList)) ∧ Qb w w' := by
 unfold maxLen at ha hb
 go_enter Try.func73, Try.ntmps73
 by_cases hl : a.size = b.size
 ·have HL := Lib.hid hl
  have hl1 : a.size ≤ b.size := by omega
  have hb1 : ((a.size : Int) != (b.size : Int)) = false := by simp [hl]
  clear hl
  go_wp2_with fail
  go_loopw [5, 13] (fun _ i wr => ∃ k : Nat, k ≤ a.size ∧ i = .int .i64 k ∧ Hid (lowL (a.data.toList.take k) = lowL (b.data.toList.take k)) ∧ Qb w wr) (fun _ i _ => a.size - (intOf i).toNat)
  case atStart => exact ⟨0, Nat.zero_le _, rfl, Lib.hid rfl, Qb.refl w⟩
  case round =>
   obtain ⟨k, hk, rfl, HA, hq⟩ := hrel
   by_cases hlt : k < a.size
   ·have hlt2 : k < b.size := by omega
    have HT := Lib.hid (low_snoc a k hlt)
    have HU := Lib.hid (low_snoc b k hlt2)
    go_wp2_with fail
    go_quiet ((go_at_call 78; exact quiet_left (lower_any _ _)))
    go_wp2_with fail
    ·have hd : ((lowB a[k]).toNat : Int) != ((lowB b[k]).toNat : Int) := by assumption
     go_ret
     refine ⟨ret_bool (eqL_ne (k := k + 1) ?_).symm, hq.drewN _⟩
     rw [HT.out, HU.out, HA.out]
     intro e
     have e1 := List.append_cancel_left e
     injection e1 with e1
     rw [e1] at hd
     simp at hd
    ·have hd : (((lowB a[k]).toNat : Int) != ((lowB b[k]).toNat : Int)) = false := by assumption
     go_roundw
     case rel =>
      refine ⟨k + 1, by omega, by go_num, Lib.hid ?_, hq.drewN _⟩
      rw [HT.out, HU.out, HA.out]
      have e1 : (lowB a[k]).toNat = (lowB b[k]).toNat := by simp only [bne_eq_false_iff_eq] at hd; omega
      rw [UInt8.toNat_inj.1 e1]
     case measure => simp [intOf]; omega
   ·go_wp2_with fail
    go_ret
    refine ⟨ret_bool ?_, hq⟩
    have h := HA.out
    rw [take_all a k hlt, take_all b k (by have := HL.out; omega)] at h
    unfold eqL
    rw [h, beq_self_eq_true]
 ·have hb1 : ((a.size : Int) != (b.size : Int)) = true := by simp; omega
  have HL := Lib.hid hl
  clear hl
  go_wp2_with fail
  go_ret
  exact ⟨ret_bool (eqL_len (by rw [size_list, size_list]; exact HL.out)).symm, Qb.refl w⟩
theorem low_set2 (s : ByteArray) (k : Nat) (hk : k < s.size) :
  (lowL (s.data.toList.take k) ++ s.data.toList.drop k).set k (lowB s[k]) = lowL (s.data.toList.take (k + 1)) ++ s.data.toList.drop (k + 1) := by
 have h1 : (lowL (s.data.toList.take k)).length = k := by simp only [lowL, List.length_map, List.length_take, size_list]; omega
 rw [List.set_append_right _ _ (by omega), h1, Nat.sub_self, drop_cons s k hk, List.set_cons_zero, take_snoc s k hk]
 simp only [lowL, List.map_append, List.map_cons, List.map_nil, List.append_assoc, List.singleton_append]
theorem low_get2 (s : ByteArray) (k : Nat) (hk : k < s.size) (h : k < (lowL (s.data.toList.take k) ++ s.data.toList.drop k).length) :
  (lowL (s.data.toList.take k) ++ s.data.toList.drop k)[k]'h = s[k] := by
 have h1 : (lowL (s.data.toList.take k)).length = k := by simp only [lowL, List.length_map, List.length_take, size_list]; omega
 rw [List.getElem_append_right (by omega)]
 simp only [h1, Nat.sub_self]
 simp only [drop_cons s k hk, List.getElem_cons_zero]
theorem lowB_cap {c : UInt8} (h1 : 65 ≤ (c.toNat : Int)) (h2 : (c.toNat : Int) ≤ 90) : ((c.toNat : Int) + 32) % 256 = ((lowB c).toNat : Int) := by
 have : isCap c = true := by unfold isCap; exact decide_eq_true (by omega)
 simp [lowB, this, UInt8.toNat_add]
theorem lowB_cap' {c : UInt8} (h1 : 65 ≤ (c.toNat : Int)) (h2 : (c.toNat : Int) ≤ 90) : ((c.toNat : Int) + 32) = ((lowB c).toNat : Int) := by
 rw [← lowB_cap h1 h2]; omega
theorem lowB_not {c : UInt8} (h : ¬ (65 ≤ (c.toNat : Int) ∧ (c.toNat : Int) ≤ 90)) : lowB c = c := by
 have : isCap c = false := by unfold isCap; exact decide_eq_false (by omega)
 simp [lowB, this]
theorem rLower_any (s : ByteArray) (w : World) (hs : s.size ≤ 140737488351232) :
  Calls Try.prog 60 #[.string s] w fun e w' => e = .returned (.string (S (lowL s.data.toList))) ∧ Qb w w' := by
 have hcv := conv_bytes s
 go_enter Try.func60, Try.ntmps60
 go_wp2_with fail
 clear hcv
 go_loopw [4, 9] (fun _ i wr => ∃ k : Nat, k ≤ s.size ∧ i = .int .i64 k ∧ Crow wr w.heap.size (lowL (s.data.toList.take k) ++ s.data.toList.drop k) ∧ Qb w wr) (fun _ i _ => s.size - (intOf i).toNat)
 case atStart => exact ⟨0, Nat.zero_le _, rfl, crow_string w s, qb_bytesWorld w _ s⟩
 case round =>
  obtain ⟨k, hk, rfl, hrow, hq⟩ := hrel
  by_cases hlt : k < s.size
  ·have hlen : k < (lowL (s.data.toList.take k) ++ s.data.toList.drop k).length := by simp only [lowL, List.length_append, List.length_map, List.length_take, List.length_drop, size_list]; omega
   obtain ⟨hc, hf⟩ := hrow k hlen
   rw [low_get2 s k hlt] at hc
   have hrow' := hrow.stored k hlen (lowB s[k])
   rw [low_set2 s k hlt] at hrow'
   have hsame : lowB s[k] = s[k] → Crow wr w.heap.size (lowL (s.data.toList.take (k + 1)) ++ s.data.toList.drop (k + 1)) := fun e => by
    rw [← low_set2 s k hlt, e, ← low_get2 s k hlt hlen, List.set_getElem_self]
    exact hrow
   clear hrow hlen
   have HR := Lib.hid (And.intro hrow' hsame)
   clear hsame
   clear hrow'
   go_wp2_with fail
   ·have h1 : 65 ≤ (s[k].toNat : Int) := by assumption
    have h2 : (s[k].toNat : Int) ≤ 90 := by assumption
    go_roundw
    case rel =>
     refine ⟨k + 1, by omega, by go_num, ?_, hq.set (Nat.le_refl _) _⟩
     rw [lowB_cap' h1 h2]
     exact HR.out.1
    case measure => simp [intOf]; omega
   ·have h2 : 90 < (s[k].toNat : Int) := by assumption
    go_roundw
    case rel => exact ⟨k + 1, by omega, by go_num, HR.out.2 (lowB_not (by omega)), hq⟩
    case measure => simp [intOf]; omega
   ·have h2 : ¬ 65 ≤ (s[k].toNat : Int) := by assumption
    go_roundw
    case rel => exact ⟨k + 1, by omega, by go_num, HR.out.2 (lowB_not (by omega)), hq⟩
    case measure => simp [intOf]; omega
  ·obtain rfl : k = s.size := by omega
   have hl : lowL (s.data.toList.take s.size) ++ s.data.toList.drop s.size = lowL s.data.toList := by
    rw [take_all s _ (by omega), List.drop_of_length_le (by rw [size_list]; omega), List.append_nil]
   rw [hl] at hrow
   have hst := hrow.str s.size (grownCap w s.size 0 5) (by simp [lowL, size_list])
   clear hl hrow
   go_wp2
   go_ret
   exact ⟨rfl, hq⟩
def blank (c : UInt8) : Bool := decide (c.toNat = 32 ∨ c.toNat = 9)
theorem rBlank_any (c : UInt8) (w : World) :
  Calls Try.prog 84 #[.int .u8 c.toNat] w fun e w' => e = .returned (.bool (blank c)) ∧ w = w' := by
 go_enter Try.func84, Try.ntmps84
 go_wp2
 all_goals go_ret
 all_goals exact ⟨ret_bool (by unfold blank; first | exact dt (by omega) | exact df (by omega) | (rw [Bool.eq_iff_iff]; simp; omega)), rfl⟩
def rdw (l : List UInt8) : List UInt8 := (l.reverse.dropWhile blank).reverse
def trimL (l : List UInt8) : List UInt8 := rdw (l.dropWhile blank)
theorem rdw_snoc (l : List UInt8) (x : UInt8) : rdw (l ++ [x]) = if blank x = true then rdw l else l ++ [x] := by
 unfold rdw
 rw [List.reverse_append, List.reverse_singleton, List.singleton_append, List.dropWhile_cons]
 split <;> simp
def TP (n : Nat) (l : List UInt8) (f t : Nat) : Prop :=
 ∃ A M B, l = A ++ M ++ B ∧ (∀ a ∈ A, blank a = true) ∧ (∀ b ∈ B, blank b = true) ∧ M.dropWhile blank = M ∧ rdw M = M ∧
  ((M = [] ∧ f = n ∧ t = 0) ∨ (M ≠ [] ∧ f = A.length ∧ t = A.length + M.length))
theorem TP.other {n : Nat} {l : List UInt8} {f t : Nat} {c : UInt8} (h : TP n l f t) (hc : blank c = false) (hl : l.length < n) : TP n (l ++ [c]) (min f l.length) (l.length + 1) := by
 obtain ⟨A, M, B, rfl, hA, hB, h1, h2, h3⟩ := h
 rcases h3 with ⟨rfl, rfl, rfl⟩ | ⟨h3, rfl, rfl⟩
 ·refine ⟨A ++ B, [c], [], by simp, ?_, by simp, by simp [hc], by simp [rdw, hc], .inr ⟨by simp, ?_, ?_⟩⟩
  ·intro a ha
   rcases List.mem_append.1 ha with ha | ha
   ·exact hA a ha
   ·exact hB a ha
  ·simp at hl ⊢; omega
  ·simp
 ·refine ⟨A, M ++ B ++ [c], [], by simp, hA, by simp, ?_, ?_, .inr ⟨by simp, ?_, ?_⟩⟩
  ·cases M with
   | nil => exact absurd rfl h3
   | cons x M =>
    have hx : ¬ blank x = true := by
     intro hx
     rw [List.dropWhile_cons, if_pos hx] at h1
     have := congrArg List.length h1
     have h4 := (List.dropWhile_sublist (p := blank) (l := M)).length_le
     simp at this
     omega
    simp only [List.cons_append]
    rw [List.dropWhile_cons, if_neg hx]
  ·rw [rdw_snoc, if_neg (by rw [hc]; exact Bool.false_ne_true)]
  ·simp
  ·simp; omega
theorem rdw_append {B : List UInt8} (hB : ∀ b ∈ B, blank b = true) (l : List UInt8) : rdw (l ++ B) = rdw l := by
 unfold rdw
 rw [List.reverse_append, List.dropWhile_append_of_pos]
 intro a ha
 exact hB a (List.mem_reverse.1 ha)
theorem TP.done {l : List UInt8} {f t : Nat} (h : TP l.length l f t) : (t ≤ f ∧ trimL l = []) ∨ (f < t ∧ t ≤ l.length ∧ trimL l = (l.drop f).take (t - f)) := by
 obtain ⟨A, M, B, rfl, hA, hB, h1, h2, h3⟩ := h
 have ht : trimL (A ++ M ++ B) = rdw ((M ++ B).dropWhile blank) := by
  unfold trimL
  rw [List.append_assoc, List.dropWhile_append_of_pos hA]
 rcases h3 with ⟨rfl, rfl, rfl⟩ | ⟨h3, rfl, rfl⟩
 ·refine .inl ⟨Nat.zero_le _, ?_⟩
  rw [ht, List.nil_append, ← List.append_nil B, List.dropWhile_append_of_pos hB]
  rfl
 ·have hp : 0 < M.length := List.length_pos_iff.2 h3
  refine .inr ⟨by omega, by simp, ?_⟩
  have hm : (M ++ B).dropWhile blank = M ++ B := by
   cases M with
   | nil => exact absurd rfl h3
   | cons x M =>
    have hx : ¬ blank x = true := by
     intro hx
     rw [List.dropWhile_cons, if_pos hx] at h1
     have := congrArg List.length h1
     have h4 := (List.dropWhile_sublist (p := blank) (l := M)).length_le
     simp at this
     omega
    simp only [List.cons_append]
    rw [List.dropWhile_cons, if_neg hx]
  rw [ht, hm, rdw_append hB, h2, List.append_assoc, List.drop_left, Nat.add_sub_cancel_left, List.take_left]
theorem rEqual_any (a b : ByteArray) (w : World) (ha : a.size ≤ 140737488351232) (hb : b.size ≤ 140737488351232) :
  Calls Try.prog 74 #[.string a, .string b] w fun e w' => e = .returned (.bool (eqL a.data.toList b.data.toList)) ∧ Qb w w' := by
 go_enter Try.func74, Try.ntmps74
 go_wp2_with fail
 refine (rLower_any a _ ha).mono ?_
 rintro e w1 ⟨rfl, hq1⟩
 go_wp2_with fail
 refine (rLower_any b _ hb).mono ?_
 rintro e w2 ⟨rfl, hq2⟩
 go_wp2_with fail
 go_ret
 exact ⟨rfl, hq1.trans hq2⟩
end Go.Proofs.Ytkcaghhfnmeknaa
namespace Go.Proofs.Ytkcaghhfnmeknaa.Sx
open Go.RowKit
theorem sxA : type_of% (And.intro @rn_nil (And.intro @rn_seq (And.intro @rn_skip (And.intro @rn_reg (And.intro @rn_drw (And.intro @rn_blk (And.intro @rn_inblk (And.intro @rn_ops_nil (And.intro @rn_dops_nil (And.intro @rn_ret (And.intro @rn_exit (And.intro @xit_nil (And.intro @xit_code (And.intro @xit_ops (And.intro @xit_dops (And.intro @xit_blk (And.intro @xit_ap (And.intro @rn_ap (And.intro @apOk_n (And.intro @apOk_c (And.intro @apOne_p (And.intro @loopF_normal (And.intro @loopF_exit (And.intro @loopF_ret (And.intro @kO_some (And.intro @bxs_box (And.intro @endK_n (And.intro @endK_r (And.intro @outO_s (And.intro @outK_eq (And.intro @endI_n (And.intro @endI_r (And.intro @outJ_s (And.intro @outI_eq (And.intro @rn_mv (And.intro @kPick_t (And.intro @kPick_f (And.intro @rn_pick (And.intro @rn_alloc (@rn_box)))))))))))))))))))))))))))))))))))))))) := And.intro @rn_nil (And.intro @rn_seq (And.intro @rn_skip (And.intro @rn_reg (And.intro @rn_drw (And.intro @rn_blk (And.intro @rn_inblk (And.intro @rn_ops_nil (And.intro @rn_dops_nil (And.intro @rn_ret (And.intro @rn_exit (And.intro @xit_nil (And.intro @xit_code (And.intro @xit_ops (And.intro @xit_dops (And.intro @xit_blk (And.intro @xit_ap (And.intro @rn_ap (And.intro @apOk_n (And.intro @apOk_c (And.intro @apOne_p (And.intro @loopF_normal (And.intro @loopF_exit (And.intro @loopF_ret (And.intro @kO_some (And.intro @bxs_box (And.intro @endK_n (And.intro @endK_r (And.intro @outO_s (And.intro @outK_eq (And.intro @endI_n (And.intro @endI_r (And.intro @outJ_s (And.intro @outI_eq (And.intro @rn_mv (And.intro @kPick_t (And.intro @kPick_f (And.intro @rn_pick (And.intro @rn_alloc (@rn_box)))))))))))))))))))))))))))))))))))))))
theorem sxB : type_of% (And.intro @kLit_s (And.intro @rn_bslo (And.intro @rn_build (And.intro @rn_bslice (And.intro @kLd1_p (And.intro @kLd1_r (And.intro @rn_load1 (And.intro @kLdn_s (And.intro @kLdv_p (And.intro @kLdv_r (And.intro @rn_loadn (And.intro @kSt2_b (And.intro @kSt_p (And.intro @rn_store (And.intro @kNck_0 (And.intro @kNck_1 (And.intro @kNck_2 (And.intro @rn_nck (And.intro @kNot_0 (And.intro @rn_not (And.intro @kAr_i64 (And.intro @kAr_i8 (And.intro @kAr_i16 (And.intro @kAr_i32 (And.intro @kAr_u8 (And.intro @kAr_u16 (And.intro @kAr_u32 (And.intro @kAr_u64 (And.intro @kNeg_0 (And.intro @rn_neg (And.intro @kCvi_0 (And.intro @rn_cvi (And.intro @kCvs_0 (And.intro @rn_cvs (And.intro @kLens_0 (And.intro @rn_lens (And.intro @kFldn_0 (And.intro @rn_fldn (And.intro @kFad_0 (And.intro @kFad_1 (And.intro @rn_fad (@kFld1_0)))))))))))))))))))))))))))))))))))))))))) := And.intro @kLit_s (And.intro @rn_bslo (And.intro @rn_build (And.intro @rn_bslice (And.intro @kLd1_p (And.intro @kLd1_r (And.intro @rn_load1 (And.intro @kLdn_s (And.intro @kLdv_p (And.intro @kLdv_r (And.intro @rn_loadn (And.intro @kSt2_b (And.intro @kSt_p (And.intro @rn_store (And.intro @kNck_0 (And.intro @kNck_1 (And.intro @kNck_2 (And.intro @rn_nck (And.intro @kNot_0 (And.intro @rn_not (And.intro @kAr_i64 (And.intro @kAr_i8 (And.intro @kAr_i16 (And.intro @kAr_i32 (And.intro @kAr_u8 (And.intro @kAr_u16 (And.intro @kAr_u32 (And.intro @kAr_u64 (And.intro @kNeg_0 (And.intro @rn_neg (And.intro @kCvi_0 (And.intro @rn_cvi (And.intro @kCvs_0 (And.intro @rn_cvs (And.intro @kLens_0 (And.intro @rn_lens (And.intro @kFldn_0 (And.intro @rn_fldn (And.intro @kFad_0 (And.intro @kFad_1 (And.intro @rn_fad (@kFld1_0)))))))))))))))))))))))))))))))))))))))))
theorem sxC : type_of% (And.intro @rn_fld1 (And.intro @kExt_0 (And.intro @rn_ext (And.intro @kLr2_o (And.intro @kLenr_0 (And.intro @kLenr_1 (And.intro @kLenr_2 (And.intro @rn_lenr (And.intro @kBeq_true (And.intro @kEq_true (And.intro @kBeq_false (And.intro @kEq_false (And.intro @kEqs_a (And.intro @rn_beq (And.intro @rn_eqs (And.intro @kIad_0 (And.intro @rn_iad (And.intro @kIada_0 (And.intro @rn_iada (And.intro @kIdx_0 (And.intro @rn_idx (And.intro @kMks_0 (And.intro @rn_mks (And.intro @rn_bin (And.intro @kBin_add (And.intro @kBin_sub (And.intro @kBin_mul (And.intro @kBin_quo (And.intro @kBin_rem (And.intro @kBin_eql (And.intro @kBin_neq (And.intro @kBin_lss (And.intro @kBin_leq (And.intro @kBin_gtr (And.intro @kBin_geq (And.intro @kBin_cat (And.intro @kBin_seq (And.intro @kBin_sne (And.intro @svi_i (@svbS_none)))))))))))))))))))))))))))))))))))))))) := And.intro @rn_fld1 (And.intro @kExt_0 (And.intro @rn_ext (And.intro @kLr2_o (And.intro @kLenr_0 (And.intro @kLenr_1 (And.intro @kLenr_2 (And.intro @rn_lenr (And.intro @kBeq_true (And.intro @kEq_true (And.intro @kBeq_false (And.intro @kEq_false (And.intro @kEqs_a (And.intro @rn_beq (And.intro @rn_eqs (And.intro @kIad_0 (And.intro @rn_iad (And.intro @kIada_0 (And.intro @rn_iada (And.intro @kIdx_0 (And.intro @rn_idx (And.intro @kMks_0 (And.intro @rn_mks (And.intro @rn_bin (And.intro @kBin_add (And.intro @kBin_sub (And.intro @kBin_mul (And.intro @kBin_quo (And.intro @kBin_rem (And.intro @kBin_eql (And.intro @kBin_neq (And.intro @kBin_lss (And.intro @kBin_leq (And.intro @kBin_gtr (And.intro @kBin_geq (And.intro @kBin_cat (And.intro @kBin_seq (And.intro @kBin_sne (And.intro @svi_i (@svbS_none)))))))))))))))))))))))))))))))))))))))
theorem sxD : type_of% (And.intro @svbS_some (And.intro @kSl2_s (And.intro @kSl_s (And.intro @rn_slcs (And.intro @kAp_s (And.intro @kAp2_o (And.intro @kAp2_n (And.intro @kAp3_o (And.intro @kAs_o (And.intro @kAs_n (And.intro @kAs2_o (And.intro @rn_app (And.intro @rn_apps (And.intro @kCb_o (And.intro @kCb_n (And.intro @rn_cvbs (And.intro @rn_mkf (And.intro @kG_tt (And.intro @kG_tf (And.intro @kG_ft (And.intro @kG_ff (And.intro @kG_u (And.intro @kG_v (And.intro @kGD_tt (And.intro @kGD_tf (And.intro @kGD_ft (And.intro @kGD_ff (And.intro @kGD_u (And.intro @kGD_v (And.intro @rn_guard (And.intro @rn_dguard (And.intro @kC_t (And.intro @kC_f (And.intro @rn_cond (And.intro @rn_call (And.intro @rn_dcall (And.intro @rn_callv (And.intro @drn_mv (And.intro @drn_pick (@drn_build)))))))))))))))))))))))))))))))))))))))) := And.intro @svbS_some (And.intro @kSl2_s (And.intro @kSl_s (And.intro @rn_slcs (And.intro @kAp_s (And.intro @kAp2_o (And.intro @kAp2_n (And.intro @kAp3_o (And.intro @kAs_o (And.intro @kAs_n (And.intro @kAs2_o (And.intro @rn_app (And.intro @rn_apps (And.intro @kCb_o (And.intro @kCb_n (And.intro @rn_cvbs (And.intro @rn_mkf (And.intro @kG_tt (And.intro @kG_tf (And.intro @kG_ft (And.intro @kG_ff (And.intro @kG_u (And.intro @kG_v (And.intro @kGD_tt (And.intro @kGD_tf (And.intro @kGD_ft (And.intro @kGD_ff (And.intro @kGD_u (And.intro @kGD_v (And.intro @rn_guard (And.intro @rn_dguard (And.intro @kC_t (And.intro @kC_f (And.intro @rn_cond (And.intro @rn_call (And.intro @rn_dcall (And.intro @rn_callv (And.intro @drn_mv (And.intro @drn_pick (@drn_build)))))))))))))))))))))))))))))))))))))))
theorem sxE : type_of% (And.intro @drn_bslo (And.intro @drn_bslice (And.intro @drn_load1 (And.intro @drn_loadn (And.intro @drn_nck (And.intro @drn_bin (And.intro @drn_beq (And.intro @drn_eqs (And.intro @drn_not (And.intro @drn_neg (And.intro @drn_iada (And.intro @drn_cvi (And.intro @drn_cvs (And.intro @drn_cvbs (And.intro @drn_slcs (And.intro @drn_fad (And.intro @drn_fld1 (And.intro @drn_fldn (And.intro @drn_iad (And.intro @drn_idx (And.intro @drn_ext (And.intro @drn_lens (And.intro @drn_lenr (And.intro @drn_mkf (And.intro @drn_alloc (And.intro @drn_box (And.intro @drn_store (And.intro @drn_app (And.intro @drn_apps (@drn_mks)))))))))))))))))))))))))))))) := And.intro @drn_bslo (And.intro @drn_bslice (And.intro @drn_load1 (And.intro @drn_loadn (And.intro @drn_nck (And.intro @drn_bin (And.intro @drn_beq (And.intro @drn_eqs (And.intro @drn_not (And.intro @drn_neg (And.intro @drn_iada (And.intro @drn_cvi (And.intro @drn_cvs (And.intro @drn_cvbs (And.intro @drn_slcs (And.intro @drn_fad (And.intro @drn_fld1 (And.intro @drn_fldn (And.intro @drn_iad (And.intro @drn_idx (And.intro @drn_ext (And.intro @drn_lens (And.intro @drn_lenr (And.intro @drn_mkf (And.intro @drn_alloc (And.intro @drn_box (And.intro @drn_store (And.intro @drn_app (And.intro @drn_apps (@drn_mks)))))))))))))))))))))))))))))
theorem sxF : type_of% (And.intro @kO_if (And.intro @pq_and (And.intro @pq_or (And.intro @pq_xor (And.intro @pq_shl (And.intro @pq_shr (And.intro @pq_mn (And.intro @pq_mx (And.intro @pq_rsl (And.intro @pq_rsln (And.intro @pq_rslh (And.intro @pq_rslhn (And.intro @pq_rslb (And.intro @pq_lss (And.intro @pq_leq (And.intro @pq_gtr (And.intro @pq_geq (And.intro @rn_pu (@drn_pu))))))))))))))))))) := And.intro @kO_if (And.intro @pq_and (And.intro @pq_or (And.intro @pq_xor (And.intro @pq_shl (And.intro @pq_shr (And.intro @pq_mn (And.intro @pq_mx (And.intro @pq_rsl (And.intro @pq_rsln (And.intro @pq_rslh (And.intro @pq_rslhn (And.intro @pq_rslb (And.intro @pq_lss (And.intro @pq_leq (And.intro @pq_gtr (And.intro @pq_geq (And.intro @rn_pu (@drn_pu))))))))))))))))))
theorem sxL : type_of% (And.intro @List.length_cons.{0} (And.intro @List.length_nil.{0} (And.intro @List.length_append.{0} (And.intro @List.length_replicate.{0} (And.intro @List.length_set.{0} (And.intro @List.cons_append.{0} (And.intro @List.nil_append.{0} (And.intro @List.append_nil.{0} (And.intro @List.getElem?_cons_zero.{0} (And.intro @List.getElem?_cons_succ.{0} (And.intro @List.getElem?_nil.{0} (And.intro @Option.getD_some.{0} (And.intro @Option.getD_none.{0} (And.intro @List.set_cons_zero.{0} (And.intro @List.set_cons_succ.{0} (And.intro @List.set_nil.{0} (And.intro @List.map_cons.{0, 0} (And.intro @List.map_nil.{0, 0} (And.intro @List.take_succ_cons.{0} (And.intro @List.take_zero.{0} (And.intro @List.drop_succ_cons.{0} (And.intro @List.drop_zero.{0} (And.intro @List.take_nil.{0} (And.intro @List.drop_nil.{0} (And.intro @List.take_length.{0} (And.intro @Int.toNat_natCast (And.intro @Int.toNat_natCast_add_one (And.intro @Bool.not_true (And.intro @Bool.not_false (And.intro @Bool.and_true (And.intro @Bool.true_and (And.intro @Bool.and_false (And.intro @Bool.false_and (And.intro @true_and (And.intro @and_true (And.intro @true_implies (And.intro @false_implies (And.intro @Option.bind_some.{0, 0} (And.intro @Option.map_some.{0, 0} (And.intro @Bool.false_eq_true (And.intro @Bool.true_eq_false (And.intro @decide_true (And.intro @decide_false (And.intro @not_true_eq_false (And.intro @not_false_eq_true (@beq_self_eq_true.{0})))))))))))))))))))))))))))))))))))))))))))))) := And.intro @List.length_cons.{0} (And.intro @List.length_nil.{0} (And.intro @List.length_append.{0} (And.intro @List.length_replicate.{0} (And.intro @List.length_set.{0} (And.intro @List.cons_append.{0} (And.intro @List.nil_append.{0} (And.intro @List.append_nil.{0} (And.intro @List.getElem?_cons_zero.{0} (And.intro @List.getElem?_cons_succ.{0} (And.intro @List.getElem?_nil.{0} (And.intro @Option.getD_some.{0} (And.intro @Option.getD_none.{0} (And.intro @List.set_cons_zero.{0} (And.intro @List.set_cons_succ.{0} (And.intro @List.set_nil.{0} (And.intro @List.map_cons.{0, 0} (And.intro @List.map_nil.{0, 0} (And.intro @List.take_succ_cons.{0} (And.intro @List.take_zero.{0} (And.intro @List.drop_succ_cons.{0} (And.intro @List.drop_zero.{0} (And.intro @List.take_nil.{0} (And.intro @List.drop_nil.{0} (And.intro @List.take_length.{0} (And.intro @Int.toNat_natCast (And.intro @Int.toNat_natCast_add_one (And.intro @Bool.not_true (And.intro @Bool.not_false (And.intro @Bool.and_true (And.intro @Bool.true_and (And.intro @Bool.and_false (And.intro @Bool.false_and (And.intro @true_and (And.intro @and_true (And.intro @true_implies (And.intro @false_implies (And.intro @Option.bind_some.{0, 0} (And.intro @Option.map_some.{0, 0} (And.intro @Bool.false_eq_true (And.intro @Bool.true_eq_false (And.intro @decide_true (And.intro @decide_false (And.intro @not_true_eq_false (And.intro @not_false_eq_true (@beq_self_eq_true.{0})))))))))))))))))))))))))))))))))))))))))))))
theorem sxZ : type_of% (And.intro @rn_pcall (And.intro sxA (And.intro sxB (And.intro sxC (And.intro sxD (And.intro sxE (And.intro sxF (And.intro sxL (And.intro @forall_const.{1} (And.intro @implies_true.{1} (And.intro @implies_true.{0} (And.intro @if_true.{1} (And.intro @if_false.{1} (And.intro @ite_true.{1} (And.intro @ite_false.{1} (And.intro @exists_eq_left'.{1} (And.intro @exists_eq'.{1} (@ne_eq.{1})))))))))))))))))) := And.intro @rn_pcall (And.intro sxA (And.intro sxB (And.intro sxC (And.intro sxD (And.intro sxE (And.intro sxF (And.intro sxL (And.intro @forall_const.{1} (And.intro @implies_true.{1} (And.intro @implies_true.{0} (And.intro @if_true.{1} (And.intro @if_false.{1} (And.intro @ite_true.{1} (And.intro @ite_false.{1} (And.intro @exists_eq_left'.{1} (And.intro @exists_eq'.{1} (@ne_eq.{1})))))))))))))))))
end Go.Proofs.Ytkcaghhfnmeknaa.Sx
namespace Go.Proofs.Ytkcaghhfnmeknaa
open Go.RowKit Sx
class Shp (P : Program) [Tabs P] : Prop where
 sh : ∀ w : World, Tabs.T (P := P) w → w.ShapedOpen P
theorem shaped_keep {P : Program} {w w' : World} (h : w.ShapedOpen P) (hk : ∀ k, k < w.heap.size → w'.heap[k]? = w.heap[k]?) : w'.ShapedOpen P := by
 have lt : ∀ {k : Nat} {o : Obj}, w.heap[k]? = some o → k < w.heap.size := fun {k o} e => by
  rcases Nat.lt_or_ge k w.heap.size with h1 | h1
  ·exact h1
  ·rw [Array.getElem?_eq_none h1] at e; cases e
 refine ⟨fun g zero t hg hz => ?_, fun k hk1 hk2 => ?_⟩
 ·obtain ⟨cs, h1, h2, h3⟩ := h.1 g zero t hg hz
  refine ⟨cs, (hk g (lt h1)).trans h1, h2, fun hb => Row.ok_of_shape (fun b x hx => ?_) (h3 hb)⟩
  rcases Nat.lt_or_ge b w.heap.size with h4 | h4
  ·simpa [World.shape?, hk b h4] using hx
  ·simp [World.shape?, Array.getElem?_eq_none h4] at hx
 ·obtain ⟨o, o₀, h1, h2, h3⟩ := h.2 k hk1 hk2
  exact ⟨o, o₀, (hk k (lt h1)).trans h1, h2, h3⟩
mutual
/-- a value without memory, as it is -/
def val : AV → Option Value
 | .s l => some (.string ⟨l.toArray⟩)
 | .i k n => some (.int k n)
 | .b x => some (.bool x)
 | .agg cs => match vals cs with
  | some vs => if vs.all (·.oneCell') = true then some (.agg vs.toArray) else none
  | none => none
 | .tup cs => (vals cs).map fun vs => .tuple vs.toArray
 | _ => none
def vals : List AV → Option (List Value)
 | [] => some []
 | x :: xs => match val x, vals xs with
  | some v, some vs => some (v :: vs)
  | _, _ => none
end
mutual
theorem val_den (G : Gh) (I : Imm) : ∀ (x : AV) (v : Value), val x = some v → ∀ y, Den G I x y ↔ y = v
 | .s l, v, h, y => by simp only [val, Option.some.injEq] at h; subst h; simp [Den]
 | .i k n, v, h, y => by simp only [val, Option.some.injEq] at h; subst h; simp [Den]
 | .b x, v, h, y => by simp only [val, Option.some.injEq] at h; subst h; simp [Den]
 | .agg cs, v, h, y => by
  simp only [val] at h
  split at h
  ·rename_i vs h1
   split at h
   ·rename_i h2
    injection h with h; subst h
    simp only [Den]
    constructor
    ·rintro ⟨ys, rfl, k1, _⟩
     rw [(vals_den G I cs vs h1 ys).1 k1]
    ·rintro rfl
     exact ⟨vs, rfl, (vals_den G I cs vs h1 vs).2 rfl, fun u hu => (List.all_eq_true.1 h2) u hu⟩
   ·cases h
  ·cases h
 | .tup cs, v, h, y => by
  simp only [val, Option.map_eq_some_iff] at h
  obtain ⟨vs, h1, rfl⟩ := h
  simp only [Den]
  constructor
  ·rintro ⟨ys, rfl, k1⟩
   rw [(vals_den G I cs vs h1 ys).1 k1]
  ·rintro rfl
   exact ⟨vs, rfl, (vals_den G I cs vs h1 vs).2 rfl⟩
 | .p _ _, v, h, y => by simp [val] at h
 | .row _ _, v, h, y => by simp [val] at h
 | .prow _ _, v, h, y => by simp [val] at h
 | .orow _ _, v, h, y => by simp [val] at h
 | .porow _ _ _, v, h, y => by simp [val] at h
 | .nil, v, h, y => by simp [val] at h
 | .fn _ _ _, v, h, y => by simp [val] at h
 | .o _, v, h, y => by simp [val] at h
 | .u, v, h, y => by simp [val] at h
theorem vals_den (G : Gh) (I : Imm) : ∀ (xs : List AV) (vs : List Value), vals xs = some vs → ∀ ys, Dens G I xs ys ↔ ys = vs
 | [], vs, h, ys => by simp only [vals, Option.some.injEq] at h; subst h; simp [Dens]
 | x :: xs, vs, h, ys => by
  simp only [vals] at h
  split at h
  ·rename_i v vs' h1 h2
   injection h with h; subst h
   simp only [Dens]
   constructor
   ·rintro ⟨y, ys', rfl, k1, k2⟩
    rw [(val_den G I x v h1 y).1 k1, (vals_den G I xs vs' h2 ys').1 k2]
   ·rintro rfl
    exact ⟨v, vs', rfl, (val_den G I x v h1 v).2 rfl, (vals_den G I xs vs' h2 vs').2 rfl⟩
  ·cases h
end
section
variable {P : Program} [Tabs P] {f : FuncId} {args : List AV} {vs : List Value} {r : AV} {v : Value} {objs : List OB} {K : List OB → AV → Prop}
theorem conv (ha : vals args = some vs) (hr : val r = some v) (h : ∀ w, Calls P f vs.toArray w fun e w' => e = .returned v ∧ Qb w w') (hk : K objs r) : CallOk P f args objs K :=
 callok_pure r hk fun G I w ys hm hd => by
  rw [(vals_den G I args vs ha ys).1 hd]
  exact ⟨v, h w, (val_den G I r v hr v).2 rfl⟩
theorem convs (ha : vals args = some vs) (hr : val r = some v) (h : ∀ w, Calls P f vs.toArray w fun e w' => e = .returned v ∧ w = w') (hk : K objs r) : CallOk P f args objs K :=
 conv ha hr (fun w => (h w).mono (by rintro e w' ⟨rfl, rfl⟩; exact ⟨rfl, Qb.refl _⟩)) hk
end
end Go.Proofs.Ytkcaghhfnmeknaa
namespace Go.Proofs.Ytkcaghhfnmeknaa
open Sx
theorem gn1 (l : List OB) (x : OB) : (l ++ [x])[l.length]? = some x := by simp
theorem sn1 (l : List OB) (x y : OB) : (l ++ [x]).set l.length y = l ++ [y] := by simp
end Go.Proofs.Ytkcaghhfnmeknaa
namespace Go.Proofs.Ytkcaghhfnmeknaa
open Go.RowKit
def sv (ls : List (List UInt8)) : List Value := ls.map fun l => .string (S l)
theorem sv_get (ls : List (List UInt8)) (i : Nat) (h : i < ls.length) : (sv ls)[i]? = some (.string (S ls[i])) := by simp [sv, h]
def Srow (w : World) (base : Nat) (v : Value) (ls : List (List UInt8)) : Prop := w.ownsRow base 9 1 v ls.length (sv ls)
theorem Srow.nil (w : World) (base : Nat) : Srow w base (.slice none 0 0) [] := World.ownsRow_nil w base _ _
theorem Srow.drewN {w : World} {base : Nat} {v : Value} {l : List (List UInt8)} (h : Srow w base v l) (n : Nat) : Srow (w.drewN n) base v l := h
theorem Srow.alloc {w : World} {base : Nat} {v : Value} {l : List (List UInt8)} (h : Srow w base v l) (o : Obj) : Srow (w.alloc o) base v l := World.ownsRow.alloc h o
theorem Srow.cell {w : World} {B g n cap : Nat} {l : List (List UInt8)} (h : Srow w B (.slice (some ⟨g, 0, none⟩) n cap) l) (j : Nat) (hj : j < l.length) : w.cell? ⟨g, j, none⟩ = some (.string (S l[j])) := by
 have h' := h
 rcases h'.2 with ⟨e, _⟩ | ⟨g', cap', cur, e, _⟩
 ·simp at e
 ·simp only [Value.slice.injEq] at e
  obtain ⟨_, rfl, _⟩ := e
  rw [World.ownsRow.cellAt (h : World.ownsRow _ _ _ _ _ _ _) j (by omega), sv_get l j hj]
end Go.Proofs.Ytkcaghhfnmeknaa
namespace Go.Proofs.Ytkcaghhfnmeknaa
open Go.RowKit
end Go.Proofs.Ytkcaghhfnmeknaa
namespace Go.Proofs.Ytkcaghhfnmeknaa
end Go.Proofs.Ytkcaghhfnmeknaa
namespace Go.Proofs.Ytkcaghhfnmeknaa
open Go.RowKit
def Obk (w : World) (g : Nat) (t : TypeId) (cs : Array Value) : Prop := w.heap[g]? = some (.cells cs t (0, 0))
theorem Obk.lt {w : World} {g : Nat} {t : TypeId} {cs : Array Value} (h : Obk w g t cs) : g < w.heap.size := by
 rcases Nat.lt_or_ge g w.heap.size with h1 | h1
 ·exact h1
 ·unfold Obk at h; rw [Array.getElem?_eq_none h1] at h; cases h
theorem Obk.cell {w : World} {g : Nat} {t : TypeId} {cs : Array Value} (h : Obk w g t cs) (i : Nat) : w.cell? ⟨g, i, none⟩ = cs[i]? := cell_of_row w g i cs t (0, 0) h
theorem Obk.frozen {w : World} {g : Nat} {t : TypeId} {cs : Array Value} (h : Obk w g t cs) (i : Nat) : w.frozen? ⟨g, i, none⟩ = false := by
 unfold Obk at h; simp [World.frozen?, h]
theorem Obk.alloc {w : World} {g : Nat} {t : TypeId} {cs : Array Value} (h : Obk w g t cs) (o : Obj) : Obk (w.alloc o) g t cs := (Below.heap_alloc w o g h.lt).trans h
theorem Obk.drewN {w : World} {g : Nat} {t : TypeId} {cs : Array Value} (h : Obk w g t cs) (n : Nat) : Obk (w.drewN n) g t cs := h
theorem Obk.put {w : World} {g : Nat} {t : TypeId} {cs : Array Value} (h : Obk w g t cs) (i : Nat) (u : Value) : Obk (w.setCell ⟨g, i, none⟩ u) g t (cs.setIfInBounds i u) := by
 unfold Obk at h ⊢
 simp [World.setCell, Array.getElem?_modify, h]
theorem Obk.far {w : World} {g : Nat} {t : TypeId} {cs : Array Value} (h : Obk w g t cs) {p : Addr} (hp : g ≠ p.block) (u : Value) : Obk (w.setCell p u) g t cs := (Below.heap_setCell w p u g hp).trans h
theorem Obk.st {w : World} {g : Nat} {t : TypeId} {cs : Array Value} (h : Obk w g t cs) (b o : Nat) (u : Value) (hne : g ≠ b) : Obk (w.setCell ⟨b, o, none⟩ u) g t cs := h.far (p := ⟨b, o, none⟩) hne u
theorem Qb.st {a c : World} (h : Qb a c) (b o : Nat) (u : Value) (hb : a.heap.size ≤ b) : Qb a (c.setCell ⟨b, o, none⟩ u) := h.set (p := ⟨b, o, none⟩) hb u
theorem Obk.other {w w' : World} {g b : Nat} {t : TypeId} {cs : Array Value} (h : Obk w g t cs) (hg : w.grownBy w' (some b)) (hne : g ≠ b) : Obk w' g t cs := (hg.block g h.lt (fun e => hne (Option.some.inj e))).trans h
end Go.Proofs.Ytkcaghhfnmeknaa
namespace Go.Proofs.Ytkcaghhfnmeknaa
open Go.RowKit
end Go.Proofs.Ytkcaghhfnmeknaa
namespace Go.Proofs.Ytkcaghhfnmeknaa
open Go.RowKit
end Go.Proofs.Ytkcaghhfnmeknaa
namespace Go.Proofs.Ytkcaghhfnmeknaa
end Go.Proofs.Ytkcaghhfnmeknaa
namespace Go.Proofs.Ytkcaghhfnmeknaa
open Go.RowKit
end Go.Proofs.Ytkcaghhfnmeknaa
namespace Go.Proofs.Ytkcaghhfnmeknaa
open Go.RowKit
end Go.Proofs.Ytkcaghhfnmeknaa
namespace Go.Proofs.Ytkcaghhfnmeknaa
end Go.Proofs.Ytkcaghhfnmeknaa
namespace Go.Proofs.Ytkcaghhfnmeknaa
open Go.RowKit Go.Sort
def Pw (w : World) : Prop := Lib.TabIs Try.prog w "internal/strconv.uint64pow10" .u64 Lib.pow10Tab
theorem Pw.keep {w w' : World} (h : Pw w) (hq : Qb w w') : Pw w' := Lib.tabBelow_of_tabIs h w' hq
theorem Pw.alloc {w : World} (h : Pw w) (o : Obj) : Pw (w.alloc o) := Lib.tabIs_alloc h o
end Go.Proofs.Ytkcaghhfnmeknaa
namespace Go.Proofs.Ytkcaghhfnmeknaa
open Go.RowKit
end Go.Proofs.Ytkcaghhfnmeknaa
namespace Go.Proofs.Ytkcaghhfnmeknaa.Sx
open Go.RowKit
set_option maxRecDepth 100000
def c_law20_MediaParses : SCode :=
 .seq (.reg [⟨some 2, .mv (.c (.b false)), none⟩])
 (.seq (.seq (.reg [⟨some 7, .call 14 [], none⟩,
 ⟨some 8, .not (.t 7), none⟩])
 (.cond (.t 8)
 (.seq (.reg [⟨some 2, .mv (.c (.b false)), none⟩])
 (.ret))
 (.skip)))
 (.seq (.seq (.reg [⟨some 9, .mv (.t 0), none⟩,
 ⟨some 10, .lens (.t 9), none⟩,
 ⟨some 11, .bin .gtr (.t 10) (.c (.i .i64 1000)), none⟩])
 (.cond (.t 11)
 (.seq (.reg [⟨some 2, .mv (.c (.b true)), none⟩])
 (.ret))
 (.skip)))
 (.seq (.reg [⟨some 13, .mv (.t 0), none⟩,
 ⟨some 14, .call 15 [.t 13], none⟩,
 ⟨some 12, .mv (.t 14), none⟩,
 ⟨some 15, .ext (.t 12) 0, none⟩,
 ⟨some 16, .ext (.t 12) 1, none⟩,
 ⟨some 3, .alloc 25 [.s [], .s [], .nil], none⟩,
 ⟨none, .store 3 (.t 3) (.t 15), none⟩,
 ⟨some 4, .mv (.t 16), none⟩])
 (.seq (.reg [⟨some 18, .mv (.t 0), none⟩,
 ⟨some 19, .call 16 [.t 18], none⟩,
 ⟨some 17, .mv (.t 19), none⟩,
 ⟨some 20, .ext (.t 17) 0, none⟩,
 ⟨some 21, .ext (.t 17) 1, none⟩,
 ⟨some 5, .alloc 25 [.s [], .s [], .nil], none⟩,
 ⟨none, .store 3 (.t 5) (.t 20), none⟩,
 ⟨some 6, .mv (.t 21), none⟩])
 (.seq (.drw [⟨some 22, .mv (.t 4), none⟩,
 ⟨some 23, .mv (.t 6), none⟩,
 ⟨some 24, .bin .eql (.t 22) (.t 23), none⟩,
 ⟨some 25, .mv (.t 24), none⟩,
 ⟨some 26, .loadn 3 (.t 3), some (25, true)⟩,
 ⟨some 27, .loadn 3 (.t 5), some (25, true)⟩,
 ⟨some 28, .call 17 [.t 26, .t 27], some (25, true)⟩,
 ⟨some 29, .pick (.t 25) (.t 28) (.c (.b false)), none⟩,
 ⟨some 30, .mv (.t 29), none⟩,
 ⟨some 31, .loadn 3 (.t 3), some (30, true)⟩,
 ⟨some 32, .call 18 [.t 31], some (30, true)⟩,
 ⟨some 33, .loadn 3 (.t 3), some (30, true)⟩,
 ⟨some 34, .call 19 [.t 33], some (30, true)⟩,
 ⟨some 35, .beq false (.t 32) (.t 34), some (30, true)⟩,
 ⟨some 36, .pick (.t 30) (.t 35) (.c (.b false)), none⟩,
 ⟨some 37, .mv (.t 36), none⟩,
 ⟨some 38, .loadn 3 (.t 3), some (37, true)⟩,
 ⟨some 39, .call 20 [.t 38], some (37, true)⟩,
 ⟨some 40, .loadn 3 (.t 3), some (37, true)⟩,
 ⟨some 41, .call 21 [.t 40], some (37, true)⟩,
 ⟨some 42, .beq false (.t 39) (.t 41), some (37, true)⟩,
 ⟨some 43, .pick (.t 37) (.t 42) (.c (.b false)), none⟩,
 ⟨some 2, .mv (.t 43), none⟩] 23 [])
 (.ret))))))
theorem is_law20_MediaParses : FnIs Try.prog 3 44 [.tmp 2] c_law20_MediaParses := ⟨⟨_, _, Try.func3, rfl, rfl, by kernel_rfl, by kernel_rfl⟩⟩
def c_law20_MediaFormats : SCode :=
 .seq (.reg [⟨some 1, .box 25 (.t 0), none⟩,
 ⟨some 2, .mv (.c (.b false)), none⟩])
 (.seq (.seq (.reg [⟨some 3, .call 14 [], none⟩,
 ⟨some 4, .not (.t 3), none⟩])
 (.cond (.t 4)
 (.seq (.reg [⟨some 2, .mv (.c (.b false)), none⟩])
 (.ret))
 (.skip)))
 (.seq (.seq (.reg [⟨some 5, .fad 2 (.t 1), none⟩,
 ⟨some 6, .load1 (.t 5), none⟩,
 ⟨some 7, .build [.i .i64 0, .i .i64 0, .nil] [(2, (1, .t 6))], none⟩,
 ⟨some 8, .call 22 [.t 7], none⟩,
 ⟨some 9, .not (.t 8), none⟩,
 ⟨some 10, .mv (.t 9), none⟩,
 ⟨some 11, .fad 0 (.t 1), some (10, false)⟩,
 ⟨some 12, .load1 (.t 11), some (10, false)⟩,
 ⟨some 13, .lens (.t 12), some (10, false)⟩,
 ⟨some 14, .fad 1 (.t 1), some (10, false)⟩,
 ⟨some 15, .load1 (.t 14), some (10, false)⟩,
 ⟨some 16, .lens (.t 15), some (10, false)⟩,
 ⟨some 17, .bin .add (.t 13) (.t 16), some (10, false)⟩,
 ⟨some 18, .bin .gtr (.t 17) (.c (.i .i64 300)), some (10, false)⟩,
 ⟨some 19, .pick (.t 10) (.c (.b true)) (.t 18), none⟩])
 (.cond (.t 19)
 (.seq (.reg [⟨some 2, .mv (.c (.b true)), none⟩])
 (.ret))
 (.skip)))
 (.seq (.drw [⟨some 20, .loadn 3 (.t 1), none⟩,
 ⟨some 21, .call 23 [.t 20], none⟩,
 ⟨some 22, .loadn 3 (.t 1), none⟩,
 ⟨some 23, .call 24 [.t 22], none⟩,
 ⟨some 24, .bin .eql (.t 21) (.t 23), none⟩,
 ⟨some 25, .mv (.t 24), none⟩,
 ⟨some 26, .loadn 3 (.t 1), some (25, true)⟩,
 ⟨some 27, .call 18 [.t 26], some (25, true)⟩,
 ⟨some 28, .loadn 3 (.t 1), some (25, true)⟩,
 ⟨some 29, .call 19 [.t 28], some (25, true)⟩,
 ⟨some 30, .beq false (.t 27) (.t 29), some (25, true)⟩,
 ⟨some 31, .pick (.t 25) (.t 30) (.c (.b false)), none⟩,
 ⟨some 32, .mv (.t 31), none⟩,
 ⟨some 33, .loadn 3 (.t 1), some (32, true)⟩,
 ⟨some 34, .call 20 [.t 33], some (32, true)⟩,
 ⟨some 35, .loadn 3 (.t 1), some (32, true)⟩,
 ⟨some 36, .call 21 [.t 35], some (32, true)⟩,
 ⟨some 37, .beq false (.t 34) (.t 36), some (32, true)⟩,
 ⟨some 38, .pick (.t 32) (.t 37) (.c (.b false)), none⟩,
 ⟨some 2, .mv (.t 38), none⟩] 20 [])
 (.ret))))
theorem is_law20_MediaFormats : FnIs Try.prog 4 39 [.tmp 2] c_law20_MediaFormats := ⟨⟨_, _, Try.func4, rfl, rfl, by kernel_rfl, by kernel_rfl⟩⟩
def c_law20_MediaBack : SCode :=
 .seq (.reg [⟨some 2, .mv (.c (.b false)), none⟩])
 (.seq (.seq (.reg [⟨some 7, .call 14 [], none⟩,
 ⟨some 8, .not (.t 7), none⟩])
 (.cond (.t 8)
 (.seq (.reg [⟨some 2, .mv (.c (.b false)), none⟩])
 (.ret))
 (.skip)))
 (.seq (.seq (.reg [⟨some 9, .mv (.t 0), none⟩,
 ⟨some 10, .lens (.t 9), none⟩,
 ⟨some 11, .bin .gtr (.t 10) (.c (.i .i64 1000)), none⟩])
 (.cond (.t 11)
 (.seq (.reg [⟨some 2, .mv (.c (.b true)), none⟩])
 (.ret))
 (.skip)))
 (.seq (.reg [⟨some 13, .mv (.t 0), none⟩,
 ⟨some 14, .call 15 [.t 13], none⟩,
 ⟨some 12, .mv (.t 14), none⟩,
 ⟨some 15, .ext (.t 12) 0, none⟩,
 ⟨some 16, .ext (.t 12) 1, none⟩,
 ⟨some 3, .alloc 25 [.s [], .s [], .nil], none⟩,
 ⟨none, .store 3 (.t 3) (.t 15), none⟩,
 ⟨some 4, .mv (.t 16), none⟩])
 (.seq (.seq (.reg [⟨some 17, .mv (.t 4), none⟩,
 ⟨some 18, .bin .neq (.t 17) (.c (.i .i64 0)), none⟩])
 (.cond (.t 18)
 (.seq (.reg [⟨some 19, .fad 0 (.t 3), none⟩,
 ⟨some 20, .load1 (.t 19), none⟩,
 ⟨some 21, .bin .eql (.t 20) (.c (.s [])), none⟩,
 ⟨some 22, .mv (.t 21), none⟩,
 ⟨some 23, .fad 2 (.t 3), some (22, true)⟩,
 ⟨some 24, .load1 (.t 23), some (22, true)⟩,
 ⟨some 25, .lenr (.t 24), some (22, true)⟩,
 ⟨some 26, .bin .eql (.t 25) (.c (.i .i64 0)), some (22, true)⟩,
 ⟨some 27, .pick (.t 22) (.t 26) (.c (.b false)), none⟩,
 ⟨some 2, .mv (.t 27), none⟩])
 (.ret))
 (.skip)))
 (.seq (.reg [⟨some 29, .loadn 3 (.t 3), none⟩,
 ⟨some 30, .call 23 [.t 29], none⟩,
 ⟨some 31, .call 15 [.t 30], none⟩,
 ⟨some 28, .mv (.t 31), none⟩,
 ⟨some 32, .ext (.t 28) 0, none⟩,
 ⟨some 33, .ext (.t 28) 1, none⟩,
 ⟨some 5, .alloc 25 [.s [], .s [], .nil], none⟩,
 ⟨none, .store 3 (.t 5) (.t 32), none⟩,
 ⟨some 6, .mv (.t 33), none⟩])
 (.seq (.reg [⟨some 34, .mv (.t 6), none⟩,
 ⟨some 35, .bin .eql (.t 34) (.c (.i .i64 0)), none⟩,
 ⟨some 36, .mv (.t 35), none⟩,
 ⟨some 37, .loadn 3 (.t 3), some (36, true)⟩,
 ⟨some 38, .loadn 3 (.t 5), some (36, true)⟩,
 ⟨some 39, .call 17 [.t 37, .t 38], some (36, true)⟩,
 ⟨some 40, .pick (.t 36) (.t 39) (.c (.b false)), none⟩,
 ⟨some 2, .mv (.t 40), none⟩])
 (.ret)))))))
theorem is_law20_MediaBack : FnIs Try.prog 5 41 [.tmp 2] c_law20_MediaBack := ⟨⟨_, _, Try.func5, rfl, rfl, by kernel_rfl, by kernel_rfl⟩⟩
def c_law20_sane : SCode :=
 .seq (.reg [⟨some 0, .mv (.c (.b false)), none⟩])
 (.seq (.reg [⟨some 4, .call 15 [.c (.s [32, 65, 112, 112, 108, 105, 99, 97, 116, 105, 111, 110, 47, 74, 82, 68, 43, 106, 115, 111, 110, 32, 59, 32, 99, 104, 97, 114, 115, 101, 116, 61, 34, 85, 84, 70, 45, 56, 34])], none⟩,
 ⟨some 3, .mv (.t 4), none⟩,
 ⟨some 5, .ext (.t 3) 0, none⟩,
 ⟨some 6, .ext (.t 3) 1, none⟩,
 ⟨some 1, .alloc 25 [.s [], .s [], .nil], none⟩,
 ⟨none, .store 3 (.t 1) (.t 5), none⟩,
 ⟨some 2, .mv (.t 6), none⟩])
 (.seq (.reg [⟨some 7, .mv (.t 2), none⟩,
 ⟨some 8, .bin .eql (.t 7) (.c (.i .i64 0)), none⟩,
 ⟨some 9, .mv (.t 8), none⟩,
 ⟨some 10, .fad 1 (.t 1), some (9, true)⟩,
 ⟨some 11, .load1 (.t 10), some (9, true)⟩,
 ⟨some 12, .bin .eql (.t 11) (.c (.s [106, 114, 100, 43, 106, 115, 111, 110])), some (9, true)⟩,
 ⟨some 13, .pick (.t 9) (.t 12) (.c (.b false)), none⟩,
 ⟨some 14, .mv (.t 13), none⟩,
 ⟨some 15, .fad 2 (.t 1), some (14, true)⟩,
 ⟨some 16, .load1 (.t 15), some (14, true)⟩,
 ⟨some 17, .lenr (.t 16), some (14, true)⟩,
 ⟨some 18, .bin .eql (.t 17) (.c (.i .i64 1)), some (14, true)⟩,
 ⟨some 19, .pick (.t 14) (.t 18) (.c (.b false)), none⟩,
 ⟨some 20, .mv (.t 19), none⟩,
 ⟨some 21, .loadn 3 (.t 1), some (20, true)⟩,
 ⟨some 22, .call 18 [.t 21], some (20, true)⟩,
 ⟨some 23, .pick (.t 20) (.t 22) (.c (.b false)), none⟩,
 ⟨some 24, .mv (.t 23), none⟩,
 ⟨some 25, .loadn 3 (.t 1), some (24, true)⟩,
 ⟨some 26, .call 20 [.t 25], some (24, true)⟩,
 ⟨some 27, .not (.t 26), some (24, true)⟩,
 ⟨some 28, .pick (.t 24) (.t 27) (.c (.b false)), none⟩,
 ⟨some 29, .mv (.t 28), none⟩,
 ⟨some 30, .loadn 3 (.t 1), some (29, true)⟩,
 ⟨some 31, .call 23 [.t 30], some (29, true)⟩,
 ⟨some 32, .bin .eql (.t 31) (.c (.s [97, 112, 112, 108, 105, 99, 97, 116, 105, 111, 110, 47, 106, 114, 100, 43, 106, 115, 111, 110, 59, 32, 99, 104, 97, 114, 115, 101, 116, 61, 85, 84, 70, 45, 56])), some (29, true)⟩,
 ⟨some 33, .pick (.t 29) (.t 32) (.c (.b false)), none⟩,
 ⟨some 0, .mv (.t 33), none⟩])
 (.ret)))
theorem is_law20_sane : FnIs Try.prog 14 34 [.tmp 0] c_law20_sane := ⟨⟨_, _, Try.func14, rfl, rfl, by kernel_rfl, by kernel_rfl⟩⟩
def c_media_Parse : SCode :=
 .seq (.reg [⟨some 1, .box 9 (.t 0), none⟩,
 ⟨some 2, .alloc 25 [.s [], .s [], .nil], none⟩,
 ⟨some 3, .mv (.c (.i .i64 0)), none⟩])
 (.seq (.reg [⟨some 12, .load1 (.t 1), none⟩,
 ⟨some 13, .call 44 [.t 12, .c (.i .i64 0)], none⟩,
 ⟨some 4, .alloc 3 [.i .i64 0], none⟩,
 ⟨none, .store 1 (.t 4) (.t 13), none⟩])
 (.seq (.reg [⟨some 14, .mkf 45 [] [.t 4, .t 1], none⟩,
 ⟨some 5, .alloc 58 [.o .nilFunc], none⟩,
 ⟨none, .store 1 (.t 5) (.t 14), none⟩])
 (.seq (.reg [⟨some 15, .mkf 46 [] [.t 4, .t 1], none⟩,
 ⟨some 6, .alloc 61 [.o .nilFunc], none⟩,
 ⟨none, .store 1 (.t 6) (.t 15), none⟩])
 (.seq (.reg [⟨some 16, .mkf 49 [] [.t 6, .t 5, .t 1, .t 4], none⟩,
 ⟨some 7, .mv (.t 16), none⟩])
 (.seq (.reg [⟨some 17, .load1 (.t 6), none⟩,
 ⟨some 18, .callv (.t 17) [], none⟩,
 ⟨some 19, .build [.s [], .s [], .nil] [(0, (1, .t 18))], none⟩,
 ⟨some 8, .alloc 25 [.s [], .s [], .nil], none⟩,
 ⟨none, .store 3 (.t 8) (.t 19), none⟩])
 (.seq (.reg [⟨some 20, .load1 (.t 5), none⟩,
 ⟨some 21, .callv (.t 20) [.c (.i .u8 47)], none⟩,
 ⟨some 9, .mv (.t 21), none⟩])
 (.seq (.reg [⟨some 22, .load1 (.t 6), none⟩,
 ⟨some 23, .callv (.t 22) [], none⟩,
 ⟨some 24, .fad 1 (.t 8), none⟩,
 ⟨none, .store 1 (.t 24) (.t 23), none⟩])
 (.seq (.seq (.reg [⟨some 25, .fad 0 (.t 8), none⟩,
 ⟨some 26, .load1 (.t 25), none⟩,
 ⟨some 27, .bin .eql (.t 26) (.c (.s [])), none⟩,
 ⟨some 28, .mv (.t 27), none⟩,
 ⟨some 29, .mv (.t 9), some (28, false)⟩,
 ⟨some 30, .not (.t 29), some (28, false)⟩,
 ⟨some 31, .pick (.t 28) (.c (.b true)) (.t 30), none⟩,
 ⟨some 32, .mv (.t 31), none⟩,
 ⟨some 33, .fad 1 (.t 8), some (32, false)⟩,
 ⟨some 34, .load1 (.t 33), some (32, false)⟩,
 ⟨some 35, .bin .eql (.t 34) (.c (.s [])), some (32, false)⟩,
 ⟨some 36, .pick (.t 32) (.c (.b true)) (.t 35), none⟩])
 (.cond (.t 36)
 (.seq (.reg [⟨some 37, .build [.s [], .s [], .nil] [], none⟩,
 ⟨none, .store 3 (.t 2) (.t 37), none⟩,
 ⟨some 3, .mv (.c (.i .i64 200)), none⟩])
 (.ret))
 (.skip)))
 (.seq (.seq (.reg [⟨some 38, .load1 (.t 1), none⟩,
 ⟨some 39, .load1 (.t 4), none⟩,
 ⟨some 40, .call 44 [.t 38, .t 39], none⟩,
 ⟨none, .store 1 (.t 4) (.t 40), none⟩])
 (.blk 0
 (.loop
 (.seq (.seq (.reg [⟨some 41, .load1 (.t 4), none⟩,
 ⟨some 42, .load1 (.t 1), none⟩,
 ⟨some 43, .lens (.t 42), none⟩,
 ⟨some 44, .bin .lss (.t 41) (.t 43), none⟩])
 (.cond (.t 44)
 (.skip)
 (.exit 0)))
 (.seq (.blk 1
 (.seq (.seq (.reg [⟨some 48, .load1 (.t 5), none⟩,
 ⟨some 49, .callv (.t 48) [.c (.i .u8 59)], none⟩,
 ⟨some 50, .not (.t 49), none⟩])
 (.cond (.t 50)
 (.seq (.reg [⟨some 51, .build [.s [], .s [], .nil] [], none⟩,
 ⟨none, .store 3 (.t 2) (.t 51), none⟩,
 ⟨some 3, .mv (.c (.i .i64 200)), none⟩])
 (.ret))
 (.skip)))
 (.seq (.reg [⟨some 52, .load1 (.t 1), none⟩,
 ⟨some 53, .load1 (.t 4), none⟩,
 ⟨some 54, .call 44 [.t 52, .t 53], none⟩,
 ⟨none, .store 1 (.t 4) (.t 54), none⟩])
 (.seq (.reg [⟨some 56, .mv (.t 7), none⟩,
 ⟨some 57, .callv (.t 56) [], none⟩,
 ⟨some 55, .mv (.t 57), none⟩,
 ⟨some 58, .ext (.t 55) 0, none⟩,
 ⟨some 59, .ext (.t 55) 1, none⟩,
 ⟨some 10, .alloc 63 [.s [], .s []], none⟩,
 ⟨none, .store 2 (.t 10) (.t 58), none⟩,
 ⟨some 11, .mv (.t 59), none⟩])
 (.seq (.seq (.reg [⟨some 60, .mv (.t 11), none⟩,
 ⟨some 61, .not (.t 60), none⟩])
 (.cond (.t 61)
 (.seq (.reg [⟨some 62, .build [.s [], .s [], .nil] [], none⟩,
 ⟨none, .store 3 (.t 2) (.t 62), none⟩,
 ⟨some 3, .mv (.c (.i .i64 200)), none⟩])
 (.ret))
 (.skip)))
 (.reg [⟨some 63, .fad 2 (.t 8), none⟩,
 ⟨some 64, .load1 (.t 63), none⟩,
 ⟨some 65, .loadn 2 (.t 10), none⟩,
 ⟨some 66, .bslice 1 [.s [], .s []] [(0, (2, .t 65))], none⟩,
 ⟨some 67, .app 63 2 32 (.t 64) (.t 66), none⟩,
 ⟨some 68, .fad 2 (.t 8), none⟩,
 ⟨none, .store 1 (.t 68) (.t 67), none⟩]))))))
 (.reg [⟨some 45, .load1 (.t 1), none⟩,
 ⟨some 46, .load1 (.t 4), none⟩,
 ⟨some 47, .call 44 [.t 45, .t 46], none⟩,
 ⟨none, .store 1 (.t 4) (.t 47), none⟩]))))))
 (.seq (.reg [⟨some 69, .loadn 3 (.t 8), none⟩,
 ⟨none, .store 3 (.t 2) (.t 69), none⟩,
 ⟨some 3, .mv (.c (.i .i64 0)), none⟩])
 (.ret)))))))))))
theorem is_media_Parse : FnIs Try.prog 15 70 [.celln 2 3, .tmp 3] c_media_Parse := ⟨⟨_, _, Try.func15, rfl, rfl, by kernel_rfl, by kernel_rfl⟩⟩
def c_ref20_Parse : SCode :=
 .seq (.reg [⟨some 2, .alloc 25 [.s [], .s [], .nil], none⟩,
 ⟨some 3, .mv (.c (.i .i64 0)), none⟩])
 (.seq (.reg [⟨some 7, .mv (.t 0), none⟩,
 ⟨some 8, .call 51 [.t 7], none⟩,
 ⟨some 6, .mv (.t 8), none⟩,
 ⟨some 9, .ext (.t 6) 0, none⟩,
 ⟨some 10, .ext (.t 6) 1, none⟩,
 ⟨some 4, .alloc 25 [.s [], .s [], .nil], none⟩,
 ⟨none, .store 3 (.t 4) (.t 9), none⟩,
 ⟨some 5, .mv (.t 10), none⟩])
 (.seq (.seq (.reg [⟨some 11, .mv (.t 5), none⟩,
 ⟨some 12, .not (.t 11), none⟩])
 (.cond (.t 12)
 (.seq (.reg [⟨some 13, .build [.s [], .s [], .nil] [], none⟩,
 ⟨none, .store 3 (.t 2) (.t 13), none⟩,
 ⟨some 3, .mv (.c (.i .i64 200)), none⟩])
 (.ret))
 (.skip)))
 (.seq (.reg [⟨some 14, .loadn 3 (.t 4), none⟩,
 ⟨none, .store 3 (.t 2) (.t 14), none⟩,
 ⟨some 3, .mv (.c (.i .i64 0)), none⟩])
 (.ret))))
theorem is_ref20_Parse : FnIs Try.prog 16 15 [.celln 2 3, .tmp 3] c_ref20_Parse := ⟨⟨_, _, Try.func16, rfl, rfl, by kernel_rfl, by kernel_rfl⟩⟩
def c_ref20_Same : SCode :=
 .seq (.reg [⟨some 2, .box 25 (.t 0), none⟩,
 ⟨some 3, .box 25 (.t 1), none⟩,
 ⟨some 4, .mv (.c (.b false)), none⟩])
 (.seq (.reg [⟨some 5, .fad 0 (.t 2), none⟩,
 ⟨some 6, .load1 (.t 5), none⟩,
 ⟨some 7, .fad 0 (.t 3), none⟩,
 ⟨some 8, .load1 (.t 7), none⟩,
 ⟨some 9, .bin .eql (.t 6) (.t 8), none⟩,
 ⟨some 10, .mv (.t 9), none⟩,
 ⟨some 11, .fad 1 (.t 2), some (10, true)⟩,
 ⟨some 12, .load1 (.t 11), some (10, true)⟩,
 ⟨some 13, .fad 1 (.t 3), some (10, true)⟩,
 ⟨some 14, .load1 (.t 13), some (10, true)⟩,
 ⟨some 15, .bin .eql (.t 12) (.t 14), some (10, true)⟩,
 ⟨some 16, .pick (.t 10) (.t 15) (.c (.b false)), none⟩,
 ⟨some 17, .mv (.t 16), none⟩,
 ⟨some 18, .fad 2 (.t 2), some (17, true)⟩,
 ⟨some 19, .load1 (.t 18), some (17, true)⟩,
 ⟨some 20, .fad 2 (.t 3), some (17, true)⟩,
 ⟨some 21, .load1 (.t 20), some (17, true)⟩,
 ⟨some 22, .call 28 [.t 19, .t 21], some (17, true)⟩,
 ⟨some 23, .pick (.t 17) (.t 22) (.c (.b false)), none⟩,
 ⟨some 4, .mv (.t 23), none⟩])
 (.ret))
theorem is_ref20_Same : FnIs Try.prog 17 24 [.tmp 4] c_ref20_Same := ⟨⟨_, _, Try.func17, rfl, rfl, by kernel_rfl, by kernel_rfl⟩⟩
def c_media_IsJRD : SCode :=
 .seq (.reg [⟨some 1, .box 25 (.t 0), none⟩,
 ⟨some 2, .mv (.c (.b false)), none⟩])
 (.seq (.reg [⟨some 3, .loadn 3 (.t 1), none⟩,
 ⟨some 4, .bslice 2 [.s [], .s []] [(0, (1, .c (.s [106, 114, 100, 43, 106, 115, 111, 110]))), (1, (1, .c (.s [106, 115, 111, 110])))], none⟩,
 ⟨some 5, .call 52 [.t 3, .t 4], none⟩,
 ⟨some 2, .mv (.t 5), none⟩])
 (.ret))
theorem is_media_IsJRD : FnIs Try.prog 18 6 [.tmp 2] c_media_IsJRD := ⟨⟨_, _, Try.func18, rfl, rfl, by kernel_rfl, by kernel_rfl⟩⟩
def c_ref20_IsJRD : SCode :=
 .seq (.reg [⟨some 1, .box 25 (.t 0), none⟩,
 ⟨some 2, .mv (.c (.b false)), none⟩])
 (.seq (.reg [⟨some 3, .fad 0 (.t 1), none⟩,
 ⟨some 4, .load1 (.t 3), none⟩,
 ⟨some 5, .bin .eql (.t 4) (.c (.s [97, 112, 112, 108, 105, 99, 97, 116, 105, 111, 110])), none⟩,
 ⟨some 6, .mv (.t 5), none⟩,
 ⟨some 7, .fad 1 (.t 1), some (6, true)⟩,
 ⟨some 8, .load1 (.t 7), some (6, true)⟩,
 ⟨some 9, .bin .eql (.t 8) (.c (.s [106, 114, 100, 43, 106, 115, 111, 110])), some (6, true)⟩,
 ⟨some 10, .mv (.t 9), some (6, true)⟩,
 ⟨some 11, .fad 1 (.t 1), some (10, false)⟩,
 ⟨some 12, .load1 (.t 11), some (10, false)⟩,
 ⟨some 13, .bin .eql (.t 12) (.c (.s [106, 115, 111, 110])), some (10, false)⟩,
 ⟨some 14, .pick (.t 10) (.c (.b true)) (.t 13), some (6, true)⟩,
 ⟨some 15, .pick (.t 6) (.t 14) (.c (.b false)), none⟩,
 ⟨some 16, .mv (.t 15), none⟩,
 ⟨some 17, .loadn 3 (.t 1), some (16, true)⟩,
 ⟨some 18, .call 53 [.t 17], some (16, true)⟩,
 ⟨some 19, .pick (.t 16) (.t 18) (.c (.b false)), none⟩,
 ⟨some 2, .mv (.t 19), none⟩])
 (.ret))
theorem is_ref20_IsJRD : FnIs Try.prog 19 20 [.tmp 2] c_ref20_IsJRD := ⟨⟨_, _, Try.func19, rfl, rfl, by kernel_rfl, by kernel_rfl⟩⟩
def c_media_IsDID : SCode :=
 .seq (.reg [⟨some 1, .box 25 (.t 0), none⟩,
 ⟨some 2, .mv (.c (.b false)), none⟩])
 (.seq (.reg [⟨some 3, .loadn 3 (.t 1), none⟩,
 ⟨some 4, .bslice 3 [.s [], .s [], .s []] [(0, (1, .c (.s [100, 105, 100, 43, 106, 115, 111, 110]))), (1, (1, .c (.s [100, 105, 100, 43, 108, 100, 43, 106, 115, 111, 110]))), (2, (1, .c (.s [106, 115, 111, 110])))], none⟩,
 ⟨some 5, .call 52 [.t 3, .t 4], none⟩,
 ⟨some 2, .mv (.t 5), none⟩])
 (.ret))
theorem is_media_IsDID : FnIs Try.prog 20 6 [.tmp 2] c_media_IsDID := ⟨⟨_, _, Try.func20, rfl, rfl, by kernel_rfl, by kernel_rfl⟩⟩
def c_ref20_IsDID : SCode :=
 .seq (.reg [⟨some 1, .box 25 (.t 0), none⟩,
 ⟨some 2, .mv (.c (.b false)), none⟩])
 (.seq (.reg [⟨some 3, .fad 0 (.t 1), none⟩,
 ⟨some 4, .load1 (.t 3), none⟩,
 ⟨some 5, .bin .eql (.t 4) (.c (.s [97, 112, 112, 108, 105, 99, 97, 116, 105, 111, 110])), none⟩,
 ⟨some 6, .mv (.t 5), none⟩,
 ⟨some 7, .fad 1 (.t 1), some (6, true)⟩,
 ⟨some 8, .load1 (.t 7), some (6, true)⟩,
 ⟨some 9, .bin .eql (.t 8) (.c (.s [100, 105, 100, 43, 106, 115, 111, 110])), some (6, true)⟩,
 ⟨some 10, .mv (.t 9), some (6, true)⟩,
 ⟨some 11, .fad 1 (.t 1), some (10, false)⟩,
 ⟨some 12, .load1 (.t 11), some (10, false)⟩,
 ⟨some 13, .bin .eql (.t 12) (.c (.s [100, 105, 100, 43, 108, 100, 43, 106, 115, 111, 110])), some (10, false)⟩,
 ⟨some 14, .pick (.t 10) (.c (.b true)) (.t 13), some (6, true)⟩,
 ⟨some 15, .mv (.t 14), some (6, true)⟩,
 ⟨some 16, .fad 1 (.t 1), some (15, false)⟩,
 ⟨some 17, .load1 (.t 16), some (15, false)⟩,
 ⟨some 18, .bin .eql (.t 17) (.c (.s [106, 115, 111, 110])), some (15, false)⟩,
 ⟨some 19, .pick (.t 15) (.c (.b true)) (.t 18), some (6, true)⟩,
 ⟨some 20, .pick (.t 6) (.t 19) (.c (.b false)), none⟩,
 ⟨some 21, .mv (.t 20), none⟩,
 ⟨some 22, .loadn 3 (.t 1), some (21, true)⟩,
 ⟨some 23, .call 53 [.t 22], some (21, true)⟩,
 ⟨some 24, .pick (.t 21) (.t 23) (.c (.b false)), none⟩,
 ⟨some 2, .mv (.t 24), none⟩])
 (.ret))
theorem is_ref20_IsDID : FnIs Try.prog 21 25 [.tmp 2] c_ref20_IsDID := ⟨⟨_, _, Try.func21, rfl, rfl, by kernel_rfl, by kernel_rfl⟩⟩
def c_keep_Head : SCode :=
 .seq (.reg [⟨some 1, .box 34 (.t 0), none⟩,
 ⟨some 2, .mv (.c (.b false)), none⟩])
 (.seq (.seq (.reg [⟨some 5, .fad 2 (.t 1), none⟩,
 ⟨some 6, .load1 (.t 5), none⟩,
 ⟨some 7, .lenr (.t 6), none⟩,
 ⟨some 8, .bin .gtr (.t 7) (.c (.i .i64 80)), none⟩])
 (.cond (.t 8)
 (.seq (.reg [⟨some 2, .mv (.c (.b false)), none⟩])
 (.ret))
 (.skip)))
 (.seq (.seq (.reg [⟨some 9, .fad 2 (.t 1), none⟩,
 ⟨some 10, .load1 (.t 9), none⟩,
 ⟨some 11, .lenr (.t 10), none⟩,
 ⟨some 12, .mv (.c (.i .i64 0)), none⟩])
 (.blk 0
 (.loop
 (.seq (.reg [⟨some 13, .bin .lss (.t 12) (.t 11), none⟩])
 (.seq (.cond (.t 13)
 (.skip)
 (.exit 0))
 (.seq (.blk 1
 (.seq (.reg [⟨some 14, .iad 2 (.t 10) (.t 12), none⟩,
 ⟨some 15, .loadn 2 (.t 14), none⟩,
 ⟨some 4, .alloc 63 [.s [], .s []], none⟩,
 ⟨none, .store 2 (.t 4) (.t 15), none⟩])
 (.seq (.reg [⟨some 16, .fad 0 (.t 4), none⟩,
 ⟨some 17, .load1 (.t 16), none⟩,
 ⟨some 18, .lens (.t 17), none⟩,
 ⟨some 19, .fad 1 (.t 4), none⟩,
 ⟨some 20, .load1 (.t 19), none⟩,
 ⟨some 21, .lens (.t 20), none⟩,
 ⟨some 22, .bin .add (.t 18) (.t 21), none⟩,
 ⟨some 23, .bin .gtr (.t 22) (.c (.i .i64 600)), none⟩])
 (.cond (.t 23)
 (.seq (.reg [⟨some 2, .mv (.c (.b false)), none⟩])
 (.ret))
 (.skip)))))
 (.reg [⟨some 24, .bin .add (.t 12) (.c (.i .i64 1)), none⟩,
 ⟨some 12, .mv (.t 24), none⟩])))))))
 (.seq (.reg [⟨some 2, .mv (.c (.b true)), none⟩])
 (.ret))))
theorem is_keep_Head : FnIs Try.prog 22 25 [.tmp 2] c_keep_Head := ⟨⟨_, _, Try.func22, rfl, rfl, by kernel_rfl, by kernel_rfl⟩⟩
def c_media_Format : SCode :=
 .seq (.reg [⟨some 1, .box 25 (.t 0), none⟩,
 ⟨some 2, .mv (.c (.s [])), none⟩])
 (.seq (.reg [⟨some 6, .fad 0 (.t 1), none⟩,
 ⟨some 7, .load1 (.t 6), none⟩,
 ⟨some 8, .fad 1 (.t 1), none⟩,
 ⟨some 9, .load1 (.t 8), none⟩,
 ⟨some 10, .bslo 9 1 3 [.s [], .s [], .s []] [(0, (1, .t 7)), (1, (1, .c (.s [47]))), (2, (1, .t 9))], none⟩,
 ⟨some 3, .mv (.t 10), none⟩])
 (.seq (.seq (.reg [⟨some 11, .fad 2 (.t 1), none⟩,
 ⟨some 12, .load1 (.t 11), none⟩,
 ⟨some 13, .lenr (.t 12), none⟩,
 ⟨some 14, .mv (.c (.i .i64 0)), none⟩])
 (.blk 0
 (.loop
 (.seq (.reg [⟨some 15, .bin .lss (.t 14) (.t 13), none⟩])
 (.seq (.cond (.t 15)
 (.skip)
 (.exit 0))
 (.seq (.blk 1
 (.seq (.reg [⟨some 16, .iad 2 (.t 12) (.t 14), none⟩,
 ⟨some 17, .loadn 2 (.t 16), none⟩,
 ⟨some 5, .alloc 63 [.s [], .s []], none⟩,
 ⟨none, .store 2 (.t 5) (.t 17), none⟩])
 (.drw [⟨some 18, .mv (.t 3), none⟩,
 ⟨some 19, .fad 0 (.t 5), none⟩,
 ⟨some 20, .load1 (.t 19), none⟩,
 ⟨some 21, .fad 1 (.t 5), none⟩,
 ⟨some 22, .load1 (.t 21), none⟩,
 ⟨some 23, .call 54 [.t 22], none⟩,
 ⟨some 24, .bslice 4 [.s [], .s [], .s [], .s []] [(0, (1, .c (.s [59, 32]))), (1, (1, .t 20)), (2, (1, .c (.s [61]))), (3, (1, .t 23))], none⟩,
 ⟨some 25, .app 9 1 16 (.t 18) (.t 24), none⟩,
 ⟨some 3, .mv (.t 25), none⟩] 7 [])))
 (.reg [⟨some 26, .bin .add (.t 14) (.c (.i .i64 1)), none⟩,
 ⟨some 14, .mv (.t 26), none⟩])))))))
 (.seq (.reg [⟨some 27, .mv (.t 3), none⟩,
 ⟨some 28, .call 55 [.t 27], none⟩,
 ⟨some 2, .mv (.t 28), none⟩])
 (.ret))))
theorem is_media_Format : FnIs Try.prog 23 29 [.tmp 2] c_media_Format := ⟨⟨_, _, Try.func23, rfl, rfl, by kernel_rfl, by kernel_rfl⟩⟩
def c_ref20_Format : SCode :=
 .seq (.reg [⟨some 1, .box 25 (.t 0), none⟩,
 ⟨some 2, .mv (.c (.s [])), none⟩])
 (.seq (.reg [⟨some 6, .fad 0 (.t 1), none⟩,
 ⟨some 7, .load1 (.t 6), none⟩,
 ⟨some 8, .bin .add (.t 7) (.c (.s [47])), none⟩,
 ⟨some 9, .fad 1 (.t 1), none⟩,
 ⟨some 10, .load1 (.t 9), none⟩,
 ⟨some 11, .bin .add (.t 8) (.t 10), none⟩,
 ⟨some 3, .mv (.t 11), none⟩])
 (.seq (.seq (.reg [⟨some 12, .fad 2 (.t 1), none⟩,
 ⟨some 13, .load1 (.t 12), none⟩,
 ⟨some 14, .lenr (.t 13), none⟩,
 ⟨some 15, .mv (.c (.i .i64 0)), none⟩])
 (.blk 0
 (.loop
 (.seq (.reg [⟨some 16, .bin .lss (.t 15) (.t 14), none⟩])
 (.seq (.cond (.t 16)
 (.skip)
 (.exit 0))
 (.seq (.blk 1
 (.seq (.reg [⟨some 17, .iad 2 (.t 13) (.t 15), none⟩,
 ⟨some 18, .loadn 2 (.t 17), none⟩,
 ⟨some 5, .alloc 63 [.s [], .s []], none⟩,
 ⟨none, .store 2 (.t 5) (.t 18), none⟩])
 (.drw [⟨some 19, .mv (.t 3), none⟩,
 ⟨some 20, .fad 0 (.t 5), none⟩,
 ⟨some 21, .load1 (.t 20), none⟩,
 ⟨some 22, .bin .add (.c (.s [59, 32])) (.t 21), none⟩,
 ⟨some 23, .bin .add (.t 22) (.c (.s [61])), none⟩,
 ⟨some 24, .fad 1 (.t 5), none⟩,
 ⟨some 25, .load1 (.t 24), none⟩,
 ⟨some 26, .call 56 [.t 25], none⟩,
 ⟨some 27, .bin .add (.t 23) (.t 26), none⟩,
 ⟨some 28, .bin .add (.t 19) (.t 27), none⟩,
 ⟨some 3, .mv (.t 28), none⟩] 11 [])))
 (.reg [⟨some 29, .bin .add (.t 15) (.c (.i .i64 1)), none⟩,
 ⟨some 15, .mv (.t 29), none⟩])))))))
 (.seq (.reg [⟨some 30, .mv (.t 3), none⟩,
 ⟨some 2, .mv (.t 30), none⟩])
 (.ret))))
theorem is_ref20_Format : FnIs Try.prog 24 31 [.tmp 2] c_ref20_Format := ⟨⟨_, _, Try.func24, rfl, rfl, by kernel_rfl, by kernel_rfl⟩⟩
def c_ref18_SameFields : SCode :=
 .seq (.reg [⟨some 4, .mv (.c (.b false)), none⟩])
 (.seq (.seq (.reg [⟨some 6, .mv (.t 0), none⟩,
 ⟨some 7, .lenr (.t 6), none⟩,
 ⟨some 8, .mv (.t 1), none⟩,
 ⟨some 9, .lenr (.t 8), none⟩,
 ⟨some 10, .bin .neq (.t 7) (.t 9), none⟩])
 (.cond (.t 10)
 (.seq (.reg [⟨some 4, .mv (.c (.b false)), none⟩])
 (.ret))
 (.skip)))
 (.seq (.seq (.reg [⟨some 11, .mv (.t 0), none⟩,
 ⟨some 12, .lenr (.t 11), none⟩,
 ⟨some 13, .mv (.c (.i .i64 0)), none⟩])
 (.blk 0
 (.loop
 (.seq (.reg [⟨some 14, .bin .lss (.t 13) (.t 12), none⟩])
 (.seq (.cond (.t 14)
 (.skip)
 (.exit 0))
 (.seq (.blk 1
 (.seq (.reg [⟨some 15, .mv (.t 13), none⟩,
 ⟨some 5, .mv (.t 15), none⟩])
 (.seq (.drw [⟨some 16, .mv (.t 0), none⟩,
 ⟨some 17, .mv (.t 5), none⟩,
 ⟨some 18, .iad 2 (.t 16) (.t 17), none⟩,
 ⟨some 19, .loadn 2 (.t 18), none⟩,
 ⟨some 20, .mv (.t 1), none⟩,
 ⟨some 21, .mv (.t 5), none⟩,
 ⟨some 22, .iad 2 (.t 20) (.t 21), none⟩,
 ⟨some 23, .loadn 2 (.t 22), none⟩,
 ⟨some 24, .eqs true (.str [(0, (none, .ts)), (1, (none, .ts))]) (.t 19) (.t 23), none⟩] 9 [])
 (.cond (.t 24)
 (.seq (.reg [⟨some 4, .mv (.c (.b false)), none⟩])
 (.ret))
 (.skip)))))
 (.reg [⟨some 25, .bin .add (.t 13) (.c (.i .i64 1)), none⟩,
 ⟨some 13, .mv (.t 25), none⟩])))))))
 (.seq (.reg [⟨some 4, .mv (.c (.b true)), none⟩])
 (.ret))))
theorem is_ref18_SameFields : FnIs Try.prog 28 26 [.tmp 4] c_ref18_SameFields := ⟨⟨_, _, Try.func28, rfl, rfl, by kernel_rfl, by kernel_rfl⟩⟩
def c_fieldtext_BlanksEnd : SCode :=
 .seq (.reg [⟨some 4, .mv (.c (.i .i64 0)), none⟩])
 (.seq (.blk 0
 (.loop
 (.seq (.seq (.reg [⟨some 5, .mv (.t 1), none⟩,
 ⟨some 6, .mv (.t 0), none⟩,
 ⟨some 7, .lens (.t 6), none⟩,
 ⟨some 8, .bin .lss (.t 5) (.t 7), none⟩,
 ⟨some 9, .mv (.t 8), none⟩,
 ⟨some 10, .mv (.t 0), some (9, true)⟩,
 ⟨some 11, .mv (.t 1), some (9, true)⟩,
 ⟨some 12, .idx (.t 10) (.t 11), some (9, true)⟩,
 ⟨some 13, .bin .eql (.t 12) (.c (.i .u8 32)), some (9, true)⟩,
 ⟨some 14, .mv (.t 13), some (9, true)⟩,
 ⟨some 15, .mv (.t 0), some (14, false)⟩,
 ⟨some 16, .mv (.t 1), some (14, false)⟩,
 ⟨some 17, .idx (.t 15) (.t 16), some (14, false)⟩,
 ⟨some 18, .bin .eql (.t 17) (.c (.i .u8 9)), some (14, false)⟩,
 ⟨some 19, .pick (.t 14) (.c (.b true)) (.t 18), some (9, true)⟩,
 ⟨some 20, .pick (.t 9) (.t 19) (.c (.b false)), none⟩])
 (.cond (.t 20)
 (.skip)
 (.exit 0)))
 (.blk 1
 (.reg [⟨some 21, .mv (.t 1), none⟩,
 ⟨some 22, .bin .add (.t 21) (.c (.i .i64 1)), none⟩,
 ⟨some 1, .mv (.t 22), none⟩])))))
 (.seq (.reg [⟨some 23, .mv (.t 1), none⟩,
 ⟨some 4, .mv (.t 23), none⟩])
 (.ret)))
theorem is_fieldtext_BlanksEnd : FnIs Try.prog 44 24 [.tmp 4] c_fieldtext_BlanksEnd := ⟨⟨_, _, Try.func44, rfl, rfl, by kernel_rfl, by kernel_rfl⟩⟩
def c_media_Parse_1 : SCode :=
 .seq (.reg [⟨some 4, .mv (.c (.b false)), none⟩])
 (.seq (.seq (.reg [⟨some 5, .load1 (.t 1), none⟩,
 ⟨some 6, .load1 (.t 2), none⟩,
 ⟨some 7, .lens (.t 6), none⟩,
 ⟨some 8, .bin .eql (.t 5) (.t 7), none⟩,
 ⟨some 9, .mv (.t 8), none⟩,
 ⟨some 10, .load1 (.t 2), some (9, false)⟩,
 ⟨some 11, .load1 (.t 1), some (9, false)⟩,
 ⟨some 12, .idx (.t 10) (.t 11), some (9, false)⟩,
 ⟨some 13, .mv (.t 0), some (9, false)⟩,
 ⟨some 14, .bin .neq (.t 12) (.t 13), some (9, false)⟩,
 ⟨some 15, .pick (.t 9) (.c (.b true)) (.t 14), none⟩])
 (.cond (.t 15)
 (.seq (.reg [⟨some 4, .mv (.c (.b false)), none⟩])
 (.ret))
 (.skip)))
 (.seq (.reg [⟨some 16, .load1 (.t 1), none⟩,
 ⟨some 17, .bin .add (.t 16) (.c (.i .i64 1)), none⟩,
 ⟨none, .store 1 (.t 1) (.t 17), none⟩])
 (.seq (.reg [⟨some 4, .mv (.c (.b true)), none⟩])
 (.ret))))
theorem is_media_Parse_1 : FnIs Try.prog 45 18 [.tmp 4] c_media_Parse_1 := ⟨⟨_, _, Try.func45, rfl, rfl, by kernel_rfl, by kernel_rfl⟩⟩
def c_media_Parse_2 : SCode :=
 .seq (.reg [⟨some 2, .mv (.c (.s [])), none⟩])
 (.seq (.reg [⟨some 4, .load1 (.t 0), none⟩,
 ⟨some 3, .mv (.t 4), none⟩])
 (.seq (.reg [⟨some 5, .load1 (.t 1), none⟩,
 ⟨some 6, .mv (.t 3), none⟩,
 ⟨some 7, .call 47 [.t 5, .t 6], none⟩,
 ⟨none, .store 1 (.t 0) (.t 7), none⟩])
 (.seq (.reg [⟨some 8, .load1 (.t 1), none⟩,
 ⟨some 9, .mv (.t 3), none⟩,
 ⟨some 10, .load1 (.t 0), none⟩,
 ⟨some 11, .slcs (.t 8) (some (.t 9)) (some (.t 10)), none⟩,
 ⟨some 12, .call 48 [.t 11], none⟩,
 ⟨some 2, .mv (.t 12), none⟩])
 (.ret))))
theorem is_media_Parse_2 : FnIs Try.prog 46 13 [.tmp 2] c_media_Parse_2 := ⟨⟨_, _, Try.func46, rfl, rfl, by kernel_rfl, by kernel_rfl⟩⟩
def c_fieldtext_TokenEnd : SCode :=
 .seq (.reg [⟨some 4, .mv (.c (.i .i64 0)), none⟩])
 (.seq (.blk 0
 (.loop
 (.seq (.seq (.reg [⟨some 5, .mv (.t 1), none⟩,
 ⟨some 6, .mv (.t 0), none⟩,
 ⟨some 7, .lens (.t 6), none⟩,
 ⟨some 8, .bin .lss (.t 5) (.t 7), none⟩,
 ⟨some 9, .mv (.t 8), none⟩,
 ⟨some 10, .mv (.t 0), some (9, true)⟩,
 ⟨some 11, .mv (.t 1), some (9, true)⟩,
 ⟨some 12, .idx (.t 10) (.t 11), some (9, true)⟩,
 ⟨some 13, .call 77 [.t 12], some (9, true)⟩,
 ⟨some 14, .pick (.t 9) (.t 13) (.c (.b false)), none⟩])
 (.cond (.t 14)
 (.skip)
 (.exit 0)))
 (.blk 1
 (.reg [⟨some 15, .mv (.t 1), none⟩,
 ⟨some 16, .bin .add (.t 15) (.c (.i .i64 1)), none⟩,
 ⟨some 1, .mv (.t 16), none⟩])))))
 (.seq (.reg [⟨some 17, .mv (.t 1), none⟩,
 ⟨some 4, .mv (.t 17), none⟩])
 (.ret)))
theorem is_fieldtext_TokenEnd : FnIs Try.prog 47 18 [.tmp 4] c_fieldtext_TokenEnd := ⟨⟨_, _, Try.func47, rfl, rfl, by kernel_rfl, by kernel_rfl⟩⟩
def c_media_Parse_3 : SCode :=
 .seq (.reg [⟨some 4, .alloc 63 [.s [], .s []], none⟩,
 ⟨some 5, .mv (.c (.b false)), none⟩])
 (.seq (.reg [⟨some 8, .load1 (.t 0), none⟩,
 ⟨some 9, .callv (.t 8) [], none⟩,
 ⟨some 10, .build [.s [], .s []] [(0, (1, .t 9))], none⟩,
 ⟨some 6, .alloc 63 [.s [], .s []], none⟩,
 ⟨none, .store 2 (.t 6) (.t 10), none⟩])
 (.seq (.seq (.reg [⟨some 11, .fad 0 (.t 6), none⟩,
 ⟨some 12, .load1 (.t 11), none⟩,
 ⟨some 13, .bin .eql (.t 12) (.c (.s [])), none⟩,
 ⟨some 14, .mv (.t 13), none⟩,
 ⟨some 15, .load1 (.t 1), some (14, false)⟩,
 ⟨some 16, .callv (.t 15) [.c (.i .u8 61)], some (14, false)⟩,
 ⟨some 17, .not (.t 16), some (14, false)⟩,
 ⟨some 18, .pick (.t 14) (.c (.b true)) (.t 17), none⟩])
 (.cond (.t 18)
 (.seq (.reg [⟨some 19, .loadn 2 (.t 6), none⟩,
 ⟨none, .store 2 (.t 4) (.t 19), none⟩,
 ⟨some 5, .mv (.c (.b false)), none⟩])
 (.ret))
 (.skip)))
 (.seq (.reg [⟨some 7, .mv (.c (.b false)), none⟩])
 (.seq (.reg [⟨some 21, .load1 (.t 2), none⟩,
 ⟨some 22, .load1 (.t 3), none⟩,
 ⟨some 23, .call 50 [.t 21, .t 22], none⟩,
 ⟨some 20, .mv (.t 23), none⟩,
 ⟨some 24, .ext (.t 20) 0, none⟩,
 ⟨some 25, .ext (.t 20) 1, none⟩,
 ⟨some 26, .ext (.t 20) 2, none⟩,
 ⟨some 27, .fad 1 (.t 6), none⟩,
 ⟨none, .store 1 (.t 27) (.t 24), none⟩,
 ⟨none, .store 1 (.t 3) (.t 25), none⟩,
 ⟨some 7, .mv (.t 26), none⟩])
 (.seq (.reg [⟨some 28, .loadn 2 (.t 6), none⟩,
 ⟨some 29, .mv (.t 7), none⟩,
 ⟨none, .store 2 (.t 4) (.t 28), none⟩,
 ⟨some 5, .mv (.t 29), none⟩])
 (.ret))))))
theorem is_media_Parse_3 : FnIs Try.prog 49 30 [.celln 4 2, .tmp 5] c_media_Parse_3 := ⟨⟨_, _, Try.func49, rfl, rfl, by kernel_rfl, by kernel_rfl⟩⟩
def c_fieldtext_Word : SCode :=
 .seq (.reg [⟨some 4, .mv (.c (.s [])), none⟩,
 ⟨some 5, .mv (.c (.i .i64 0)), none⟩,
 ⟨some 6, .mv (.c (.b false)), none⟩])
 (.seq (.seq (.reg [⟨some 8, .mv (.t 1), none⟩,
 ⟨some 9, .mv (.t 0), none⟩,
 ⟨some 10, .lens (.t 9), none⟩,
 ⟨some 11, .bin .lss (.t 8) (.t 10), none⟩,
 ⟨some 12, .mv (.t 11), none⟩,
 ⟨some 13, .mv (.t 0), some (12, true)⟩,
 ⟨some 14, .mv (.t 1), some (12, true)⟩,
 ⟨some 15, .idx (.t 13) (.t 14), some (12, true)⟩,
 ⟨some 16, .bin .eql (.t 15) (.c (.i .u8 34)), some (12, true)⟩,
 ⟨some 17, .pick (.t 12) (.t 16) (.c (.b false)), none⟩])
 (.cond (.t 17)
 (.seq (.reg [⟨some 18, .mv (.t 0), none⟩,
 ⟨some 19, .mv (.t 1), none⟩,
 ⟨some 20, .call 79 [.t 18, .t 19], none⟩,
 ⟨some 21, .ext (.t 20) 0, none⟩,
 ⟨some 22, .ext (.t 20) 1, none⟩,
 ⟨some 23, .ext (.t 20) 2, none⟩,
 ⟨some 4, .mv (.t 21), none⟩,
 ⟨some 5, .mv (.t 22), none⟩,
 ⟨some 6, .mv (.t 23), none⟩])
 (.ret))
 (.skip)))
 (.seq (.reg [⟨some 24, .mv (.t 0), none⟩,
 ⟨some 25, .mv (.t 1), none⟩,
 ⟨some 26, .call 47 [.t 24, .t 25], none⟩,
 ⟨some 7, .mv (.t 26), none⟩])
 (.seq (.reg [⟨some 27, .mv (.t 0), none⟩,
 ⟨some 28, .mv (.t 1), none⟩,
 ⟨some 29, .mv (.t 7), none⟩,
 ⟨some 30, .slcs (.t 27) (some (.t 28)) (some (.t 29)), none⟩,
 ⟨some 31, .mv (.t 7), none⟩,
 ⟨some 32, .mv (.t 7), none⟩,
 ⟨some 33, .mv (.t 1), none⟩,
 ⟨some 34, .bin .gtr (.t 32) (.t 33), none⟩,
 ⟨some 4, .mv (.t 30), none⟩,
 ⟨some 5, .mv (.t 31), none⟩,
 ⟨some 6, .mv (.t 34), none⟩])
 (.ret))))
theorem is_fieldtext_Word : FnIs Try.prog 50 35 [.tmp 4, .tmp 5, .tmp 6] c_fieldtext_Word := ⟨⟨_, _, Try.func50, rfl, rfl, by kernel_rfl, by kernel_rfl⟩⟩
def c_ref20_parse : SCode :=
 .seq (.reg [⟨some 2, .alloc 25 [.s [], .s [], .nil], none⟩,
 ⟨some 3, .mv (.c (.b false)), none⟩])
 (.seq (.reg [⟨some 14, .mv (.t 0), none⟩,
 ⟨some 15, .mv (.t 0), none⟩,
 ⟨some 16, .call 58 [.t 15, .c (.i .i64 0)], none⟩,
 ⟨some 17, .call 59 [.t 14, .t 16], none⟩,
 ⟨some 13, .mv (.t 17), none⟩,
 ⟨some 18, .ext (.t 13) 0, none⟩,
 ⟨some 19, .ext (.t 13) 1, none⟩,
 ⟨some 20, .ext (.t 13) 2, none⟩,
 ⟨some 4, .mv (.t 18), none⟩,
 ⟨some 5, .mv (.t 19), none⟩,
 ⟨some 6, .mv (.t 20), none⟩])
 (.seq (.seq (.reg [⟨some 21, .mv (.t 6), none⟩,
 ⟨some 22, .not (.t 21), none⟩,
 ⟨some 23, .mv (.t 22), none⟩,
 ⟨some 24, .mv (.t 5), some (23, false)⟩,
 ⟨some 25, .mv (.t 0), some (23, false)⟩,
 ⟨some 26, .lens (.t 25), some (23, false)⟩,
 ⟨some 27, .bin .eql (.t 24) (.t 26), some (23, false)⟩,
 ⟨some 28, .pick (.t 23) (.c (.b true)) (.t 27), none⟩,
 ⟨some 29, .mv (.t 28), none⟩,
 ⟨some 30, .mv (.t 0), some (29, false)⟩,
 ⟨some 31, .mv (.t 5), some (29, false)⟩,
 ⟨some 32, .idx (.t 30) (.t 31), some (29, false)⟩,
 ⟨some 33, .bin .neq (.t 32) (.c (.i .u8 47)), some (29, false)⟩,
 ⟨some 34, .pick (.t 29) (.c (.b true)) (.t 33), none⟩])
 (.cond (.t 34)
 (.seq (.reg [⟨some 35, .build [.s [], .s [], .nil] [], none⟩,
 ⟨none, .store 3 (.t 2) (.t 35), none⟩,
 ⟨some 3, .mv (.c (.b false)), none⟩])
 (.ret))
 (.skip)))
 (.seq (.reg [⟨some 37, .mv (.t 0), none⟩,
 ⟨some 38, .mv (.t 5), none⟩,
 ⟨some 39, .bin .add (.t 38) (.c (.i .i64 1)), none⟩,
 ⟨some 40, .call 59 [.t 37, .t 39], none⟩,
 ⟨some 36, .mv (.t 40), none⟩,
 ⟨some 41, .ext (.t 36) 0, none⟩,
 ⟨some 42, .ext (.t 36) 1, none⟩,
 ⟨some 43, .ext (.t 36) 2, none⟩,
 ⟨some 7, .mv (.t 41), none⟩,
 ⟨some 5, .mv (.t 42), none⟩,
 ⟨some 6, .mv (.t 43), none⟩])
 (.seq (.seq (.reg [⟨some 44, .mv (.t 6), none⟩,
 ⟨some 45, .not (.t 44), none⟩])
 (.cond (.t 45)
 (.seq (.reg [⟨some 46, .build [.s [], .s [], .nil] [], none⟩,
 ⟨none, .store 3 (.t 2) (.t 46), none⟩,
 ⟨some 3, .mv (.c (.b false)), none⟩])
 (.ret))
 (.skip)))
 (.seq (.reg [⟨some 47, .mv (.t 4), none⟩,
 ⟨some 48, .call 60 [.t 47], none⟩,
 ⟨some 49, .mv (.t 7), none⟩,
 ⟨some 50, .call 60 [.t 49], none⟩,
 ⟨some 51, .build [.s [], .s [], .nil] [(0, (1, .t 48)), (1, (1, .t 50))], none⟩,
 ⟨some 8, .alloc 25 [.s [], .s [], .nil], none⟩,
 ⟨none, .store 3 (.t 8) (.t 51), none⟩])
 (.blk 0
 (.loop
 (.blk 1
 (.seq (.seq (.reg [⟨some 52, .mv (.t 0), none⟩,
 ⟨some 53, .mv (.t 5), none⟩,
 ⟨some 54, .call 58 [.t 52, .t 53], none⟩,
 ⟨some 5, .mv (.t 54), none⟩])
 (.seq (.reg [⟨some 55, .mv (.t 5), none⟩,
 ⟨some 56, .mv (.t 0), none⟩,
 ⟨some 57, .lens (.t 56), none⟩,
 ⟨some 58, .bin .eql (.t 55) (.t 57), none⟩])
 (.cond (.t 58)
 (.seq (.reg [⟨some 59, .loadn 3 (.t 8), none⟩,
 ⟨none, .store 3 (.t 2) (.t 59), none⟩,
 ⟨some 3, .mv (.c (.b true)), none⟩])
 (.ret))
 (.skip))))
 (.seq (.seq (.reg [⟨some 60, .mv (.t 0), none⟩,
 ⟨some 61, .mv (.t 5), none⟩,
 ⟨some 62, .idx (.t 60) (.t 61), none⟩,
 ⟨some 63, .bin .neq (.t 62) (.c (.i .u8 59)), none⟩])
 (.cond (.t 63)
 (.seq (.reg [⟨some 64, .build [.s [], .s [], .nil] [], none⟩,
 ⟨none, .store 3 (.t 2) (.t 64), none⟩,
 ⟨some 3, .mv (.c (.b false)), none⟩])
 (.ret))
 (.skip)))
 (.seq (.reg [⟨some 66, .mv (.t 0), none⟩,
 ⟨some 67, .mv (.t 0), none⟩,
 ⟨some 68, .mv (.t 5), none⟩,
 ⟨some 69, .bin .add (.t 68) (.c (.i .i64 1)), none⟩,
 ⟨some 70, .call 58 [.t 67, .t 69], none⟩,
 ⟨some 71, .call 59 [.t 66, .t 70], none⟩,
 ⟨some 65, .mv (.t 71), none⟩,
 ⟨some 72, .ext (.t 65) 0, none⟩,
 ⟨some 73, .ext (.t 65) 1, none⟩,
 ⟨some 74, .ext (.t 65) 2, none⟩,
 ⟨some 9, .mv (.t 72), none⟩,
 ⟨some 10, .mv (.t 73), none⟩,
 ⟨some 11, .mv (.t 74), none⟩])
 (.seq (.seq (.reg [⟨some 75, .mv (.t 11), none⟩,
 ⟨some 76, .not (.t 75), none⟩,
 ⟨some 77, .mv (.t 76), none⟩,
 ⟨some 78, .mv (.t 10), some (77, false)⟩,
 ⟨some 79, .mv (.t 0), some (77, false)⟩,
 ⟨some 80, .lens (.t 79), some (77, false)⟩,
 ⟨some 81, .bin .eql (.t 78) (.t 80), some (77, false)⟩,
 ⟨some 82, .pick (.t 77) (.c (.b true)) (.t 81), none⟩,
 ⟨some 83, .mv (.t 82), none⟩,
 ⟨some 84, .mv (.t 0), some (83, false)⟩,
 ⟨some 85, .mv (.t 10), some (83, false)⟩,
 ⟨some 86, .idx (.t 84) (.t 85), some (83, false)⟩,
 ⟨some 87, .bin .neq (.t 86) (.c (.i .u8 61)), some (83, false)⟩,
 ⟨some 88, .pick (.t 83) (.c (.b true)) (.t 87), none⟩])
 (.cond (.t 88)
 (.seq (.reg [⟨some 89, .build [.s [], .s [], .nil] [], none⟩,
 ⟨none, .store 3 (.t 2) (.t 89), none⟩,
 ⟨some 3, .mv (.c (.b false)), none⟩])
 (.ret))
 (.skip)))
 (.seq (.reg [⟨some 91, .mv (.t 0), none⟩,
 ⟨some 92, .mv (.t 10), none⟩,
 ⟨some 93, .bin .add (.t 92) (.c (.i .i64 1)), none⟩,
 ⟨some 94, .call 61 [.t 91, .t 93], none⟩,
 ⟨some 90, .mv (.t 94), none⟩,
 ⟨some 95, .ext (.t 90) 0, none⟩,
 ⟨some 96, .ext (.t 90) 1, none⟩,
 ⟨some 97, .ext (.t 90) 2, none⟩,
 ⟨some 12, .mv (.t 95), none⟩,
 ⟨some 10, .mv (.t 96), none⟩,
 ⟨some 11, .mv (.t 97), none⟩])
 (.seq (.seq (.reg [⟨some 98, .mv (.t 11), none⟩,
 ⟨some 99, .not (.t 98), none⟩])
 (.cond (.t 99)
 (.seq (.reg [⟨some 100, .build [.s [], .s [], .nil] [], none⟩,
 ⟨none, .store 3 (.t 2) (.t 100), none⟩,
 ⟨some 3, .mv (.c (.b false)), none⟩])
 (.ret))
 (.skip)))
 (.drw [⟨some 101, .fad 2 (.t 8), none⟩,
 ⟨some 102, .load1 (.t 101), none⟩,
 ⟨some 103, .mv (.t 9), none⟩,
 ⟨some 104, .call 60 [.t 103], none⟩,
 ⟨some 105, .mv (.t 12), none⟩,
 ⟨some 106, .build [.s [], .s []] [(0, (1, .t 104)), (1, (1, .t 105))], none⟩,
 ⟨some 107, .bslice 1 [.s [], .s []] [(0, (2, .t 106))], none⟩,
 ⟨some 108, .app 63 2 32 (.t 102) (.t 107), none⟩,
 ⟨some 109, .mv (.t 10), none⟩,
 ⟨some 110, .fad 2 (.t 8), none⟩,
 ⟨none, .store 1 (.t 110) (.t 108), none⟩,
 ⟨some 5, .mv (.t 109), none⟩] 12 [])))))))))))))))
theorem is_ref20_parse : FnIs Try.prog 51 111 [.celln 2 3, .tmp 3] c_ref20_parse := ⟨⟨_, _, Try.func51, rfl, rfl, by kernel_rfl, by kernel_rfl⟩⟩
def c_media_isText : SCode :=
 .seq (.reg [⟨some 2, .box 25 (.t 0), none⟩,
 ⟨some 4, .mv (.c (.b false)), none⟩])
 (.seq (.seq (.reg [⟨some 7, .fad 0 (.t 2), none⟩,
 ⟨some 8, .load1 (.t 7), none⟩,
 ⟨some 9, .bin .neq (.t 8) (.c (.s [97, 112, 112, 108, 105, 99, 97, 116, 105, 111, 110])), none⟩,
 ⟨some 10, .mv (.t 9), none⟩,
 ⟨some 11, .mv (.t 1), some (10, false)⟩,
 ⟨some 12, .fad 1 (.t 2), some (10, false)⟩,
 ⟨some 13, .load1 (.t 12), some (10, false)⟩,
 ⟨some 14, .call 80 [.t 11, .t 13], some (10, false)⟩,
 ⟨some 15, .not (.t 14), some (10, false)⟩,
 ⟨some 16, .pick (.t 10) (.c (.b true)) (.t 15), none⟩])
 (.cond (.t 16)
 (.seq (.reg [⟨some 4, .mv (.c (.b false)), none⟩])
 (.ret))
 (.skip)))
 (.seq (.seq (.reg [⟨some 17, .fad 2 (.t 2), none⟩,
 ⟨some 18, .load1 (.t 17), none⟩,
 ⟨some 19, .lenr (.t 18), none⟩,
 ⟨some 20, .mv (.c (.i .i64 0)), none⟩])
 (.blk 0
 (.loop
 (.seq (.reg [⟨some 21, .bin .lss (.t 20) (.t 19), none⟩])
 (.seq (.cond (.t 21)
 (.skip)
 (.exit 0))
 (.seq (.blk 1
 (.seq (.reg [⟨some 22, .iad 2 (.t 18) (.t 20), none⟩,
 ⟨some 23, .loadn 2 (.t 22), none⟩,
 ⟨some 6, .alloc 63 [.s [], .s []], none⟩,
 ⟨none, .store 2 (.t 6) (.t 23), none⟩])
 (.seq (.reg [⟨some 24, .fad 0 (.t 6), none⟩,
 ⟨some 25, .load1 (.t 24), none⟩,
 ⟨some 26, .bin .eql (.t 25) (.c (.s [99, 104, 97, 114, 115, 101, 116])), none⟩,
 ⟨some 27, .mv (.t 26), none⟩,
 ⟨some 28, .fad 1 (.t 6), some (27, true)⟩,
 ⟨some 29, .load1 (.t 28), some (27, true)⟩,
 ⟨some 30, .call 73 [.t 29, .c (.s [117, 116, 102, 45, 56])], some (27, true)⟩,
 ⟨some 31, .not (.t 30), some (27, true)⟩,
 ⟨some 32, .pick (.t 27) (.t 31) (.c (.b false)), none⟩])
 (.cond (.t 32)
 (.seq (.reg [⟨some 4, .mv (.c (.b false)), none⟩])
 (.ret))
 (.skip)))))
 (.reg [⟨some 33, .bin .add (.t 20) (.c (.i .i64 1)), none⟩,
 ⟨some 20, .mv (.t 33), none⟩])))))))
 (.seq (.reg [⟨some 4, .mv (.c (.b true)), none⟩])
 (.ret))))
theorem is_media_isText : FnIs Try.prog 52 34 [.tmp 4] c_media_isText := ⟨⟨_, _, Try.func52, rfl, rfl, by kernel_rfl, by kernel_rfl⟩⟩
def c_ref20_plain : SCode :=
 .seq (.reg [⟨some 1, .box 25 (.t 0), none⟩,
 ⟨some 2, .mv (.c (.b false)), none⟩])
 (.seq (.seq (.reg [⟨some 5, .fad 2 (.t 1), none⟩,
 ⟨some 6, .load1 (.t 5), none⟩,
 ⟨some 7, .lenr (.t 6), none⟩,
 ⟨some 8, .mv (.c (.i .i64 0)), none⟩])
 (.blk 0
 (.loop
 (.seq (.reg [⟨some 9, .bin .lss (.t 8) (.t 7), none⟩])
 (.seq (.cond (.t 9)
 (.skip)
 (.exit 0))
 (.seq (.blk 1
 (.seq (.reg [⟨some 10, .iad 2 (.t 6) (.t 8), none⟩,
 ⟨some 11, .loadn 2 (.t 10), none⟩,
 ⟨some 4, .alloc 63 [.s [], .s []], none⟩,
 ⟨none, .store 2 (.t 4) (.t 11), none⟩])
 (.seq (.reg [⟨some 12, .fad 0 (.t 4), none⟩,
 ⟨some 13, .load1 (.t 12), none⟩,
 ⟨some 14, .bin .eql (.t 13) (.c (.s [99, 104, 97, 114, 115, 101, 116])), none⟩,
 ⟨some 15, .mv (.t 14), none⟩,
 ⟨some 16, .fad 1 (.t 4), some (15, true)⟩,
 ⟨some 17, .load1 (.t 16), some (15, true)⟩,
 ⟨some 18, .call 74 [.t 17, .c (.s [117, 116, 102, 45, 56])], some (15, true)⟩,
 ⟨some 19, .not (.t 18), some (15, true)⟩,
 ⟨some 20, .pick (.t 15) (.t 19) (.c (.b false)), none⟩])
 (.cond (.t 20)
 (.seq (.reg [⟨some 2, .mv (.c (.b false)), none⟩])
 (.ret))
 (.skip)))))
 (.reg [⟨some 21, .bin .add (.t 8) (.c (.i .i64 1)), none⟩,
 ⟨some 8, .mv (.t 21), none⟩])))))))
 (.seq (.reg [⟨some 2, .mv (.c (.b true)), none⟩])
 (.ret)))
theorem is_ref20_plain : FnIs Try.prog 53 22 [.tmp 2] c_ref20_plain := ⟨⟨_, _, Try.func53, rfl, rfl, by kernel_rfl, by kernel_rfl⟩⟩
def c_fieldtext_Write : SCode :=
 .seq (.reg [⟨some 2, .mv (.c (.s [])), none⟩])
 (.seq (.seq (.reg [⟨some 5, .mv (.t 0), none⟩,
 ⟨some 6, .call 81 [.t 5], none⟩])
 (.cond (.t 6)
 (.seq (.reg [⟨some 7, .mv (.t 0), none⟩,
 ⟨some 2, .mv (.t 7), none⟩])
 (.ret))
 (.skip)))
 (.seq (.reg [⟨some 8, .bslo 5 1 1 [.i .u8 0] [(0, (1, .c (.i .u8 34)))], none⟩,
 ⟨some 3, .mv (.t 8), none⟩])
 (.seq (.seq (.reg [⟨some 9, .mv (.t 0), none⟩,
 ⟨some 10, .lens (.t 9), none⟩,
 ⟨some 11, .mv (.c (.i .i64 0)), none⟩])
 (.blk 0
 (.loop
 (.seq (.reg [⟨some 12, .bin .lss (.t 11) (.t 10), none⟩])
 (.seq (.cond (.t 12)
 (.skip)
 (.exit 0))
 (.seq (.blk 1
 (.seq (.reg [⟨some 13, .mv (.t 11), none⟩,
 ⟨some 4, .mv (.t 13), none⟩])
 (.seq (.seq (.reg [⟨some 14, .mv (.t 0), none⟩,
 ⟨some 15, .mv (.t 4), none⟩,
 ⟨some 16, .idx (.t 14) (.t 15), none⟩,
 ⟨some 17, .bin .eql (.t 16) (.c (.i .u8 34)), none⟩,
 ⟨some 18, .mv (.t 17), none⟩,
 ⟨some 19, .mv (.t 0), some (18, false)⟩,
 ⟨some 20, .mv (.t 4), some (18, false)⟩,
 ⟨some 21, .idx (.t 19) (.t 20), some (18, false)⟩,
 ⟨some 22, .bin .eql (.t 21) (.c (.i .u8 92)), some (18, false)⟩,
 ⟨some 23, .pick (.t 18) (.c (.b true)) (.t 22), none⟩])
 (.cond (.t 23)
 (.reg [⟨some 24, .mv (.t 3), none⟩,
 ⟨some 25, .bslice 1 [.i .u8 0] [(0, (1, .c (.i .u8 92)))], none⟩,
 ⟨some 26, .app 5 1 1 (.t 24) (.t 25), none⟩,
 ⟨some 3, .mv (.t 26), none⟩])
 (.skip)))
 (.reg [⟨some 27, .mv (.t 3), none⟩,
 ⟨some 28, .mv (.t 0), none⟩,
 ⟨some 29, .mv (.t 4), none⟩,
 ⟨some 30, .idx (.t 28) (.t 29), none⟩,
 ⟨some 31, .bslice 1 [.i .u8 0] [(0, (1, .t 30))], none⟩,
 ⟨some 32, .app 5 1 1 (.t 27) (.t 31), none⟩,
 ⟨some 3, .mv (.t 32), none⟩]))))
 (.reg [⟨some 33, .bin .add (.t 11) (.c (.i .i64 1)), none⟩,
 ⟨some 11, .mv (.t 33), none⟩])))))))
 (.seq (.reg [⟨some 34, .mv (.t 3), none⟩,
 ⟨some 35, .bslice 1 [.i .u8 0] [(0, (1, .c (.i .u8 34)))], none⟩,
 ⟨some 36, .app 5 1 1 (.t 34) (.t 35), none⟩,
 ⟨some 37, .cvbs (.t 36), none⟩,
 ⟨some 2, .mv (.t 37), none⟩])
 (.ret)))))
theorem is_fieldtext_Write : FnIs Try.prog 54 38 [.tmp 2] c_fieldtext_Write := ⟨⟨_, _, Try.func54, rfl, rfl, by kernel_rfl, by kernel_rfl⟩⟩
def c_media_join : SCode :=
 .seq (.reg [⟨some 2, .mv (.c (.s [])), none⟩])
 (.seq (.reg [⟨some 3, .mv (.t 0), none⟩,
 ⟨some 4, .call 82 [.t 3, .c (.s [])], none⟩,
 ⟨some 2, .mv (.t 4), none⟩])
 (.ret))
theorem is_media_join : FnIs Try.prog 55 5 [.tmp 2] c_media_join := ⟨⟨_, _, Try.func55, rfl, rfl, by kernel_rfl, by kernel_rfl⟩⟩
def c_ref20_Write : SCode :=
 .seq (.reg [⟨some 2, .mv (.c (.s [])), none⟩])
 (.seq (.seq (.reg [⟨some 5, .mv (.t 0), none⟩,
 ⟨some 6, .call 83 [.t 5], none⟩])
 (.cond (.t 6)
 (.seq (.reg [⟨some 7, .mv (.t 0), none⟩,
 ⟨some 2, .mv (.t 7), none⟩])
 (.ret))
 (.skip)))
 (.seq (.reg [⟨some 3, .mv (.c (.s [34])), none⟩])
 (.seq (.seq (.reg [⟨some 4, .mv (.c (.i .i64 0)), none⟩])
 (.blk 0
 (.loop
 (.seq (.seq (.reg [⟨some 8, .mv (.t 4), none⟩,
 ⟨some 9, .mv (.t 0), none⟩,
 ⟨some 10, .lens (.t 9), none⟩,
 ⟨some 11, .bin .lss (.t 8) (.t 10), none⟩])
 (.cond (.t 11)
 (.skip)
 (.exit 0)))
 (.seq (.blk 1
 (.seq (.seq (.reg [⟨some 14, .mv (.t 0), none⟩,
 ⟨some 15, .mv (.t 4), none⟩,
 ⟨some 16, .idx (.t 14) (.t 15), none⟩,
 ⟨some 17, .bin .eql (.t 16) (.c (.i .u8 34)), none⟩,
 ⟨some 18, .mv (.t 17), none⟩,
 ⟨some 19, .mv (.t 0), some (18, false)⟩,
 ⟨some 20, .mv (.t 4), some (18, false)⟩,
 ⟨some 21, .idx (.t 19) (.t 20), some (18, false)⟩,
 ⟨some 22, .bin .eql (.t 21) (.c (.i .u8 92)), some (18, false)⟩,
 ⟨some 23, .pick (.t 18) (.c (.b true)) (.t 22), none⟩])
 (.cond (.t 23)
 (.reg [⟨some 24, .mv (.t 3), none⟩,
 ⟨some 25, .bin .add (.t 24) (.c (.s [92])), none⟩,
 ⟨some 3, .mv (.t 25), none⟩])
 (.skip)))
 (.reg [⟨some 26, .mv (.t 3), none⟩,
 ⟨some 27, .mv (.t 0), none⟩,
 ⟨some 28, .mv (.t 4), none⟩,
 ⟨some 29, .mv (.t 4), none⟩,
 ⟨some 30, .bin .add (.t 29) (.c (.i .i64 1)), none⟩,
 ⟨some 31, .slcs (.t 27) (some (.t 28)) (some (.t 30)), none⟩,
 ⟨some 32, .bin .add (.t 26) (.t 31), none⟩,
 ⟨some 3, .mv (.t 32), none⟩])))
 (.reg [⟨some 12, .mv (.t 4), none⟩,
 ⟨some 13, .bin .add (.t 12) (.c (.i .i64 1)), none⟩,
 ⟨some 4, .mv (.t 13), none⟩]))))))
 (.seq (.reg [⟨some 33, .mv (.t 3), none⟩,
 ⟨some 34, .bin .add (.t 33) (.c (.s [34])), none⟩,
 ⟨some 2, .mv (.t 34), none⟩])
 (.ret)))))
theorem is_ref20_Write : FnIs Try.prog 56 35 [.tmp 2] c_ref20_Write := ⟨⟨_, _, Try.func56, rfl, rfl, by kernel_rfl, by kernel_rfl⟩⟩
def c_ref20_Skip : SCode :=
 .seq (.reg [⟨some 4, .mv (.c (.i .i64 0)), none⟩])
 (.seq (.blk 0
 (.loop
 (.seq (.seq (.reg [⟨some 5, .mv (.t 1), none⟩,
 ⟨some 6, .mv (.t 0), none⟩,
 ⟨some 7, .lens (.t 6), none⟩,
 ⟨some 8, .bin .lss (.t 5) (.t 7), none⟩,
 ⟨some 9, .mv (.t 8), none⟩,
 ⟨some 10, .mv (.t 0), some (9, true)⟩,
 ⟨some 11, .mv (.t 1), some (9, true)⟩,
 ⟨some 12, .idx (.t 10) (.t 11), some (9, true)⟩,
 ⟨some 13, .call 84 [.t 12], some (9, true)⟩,
 ⟨some 14, .pick (.t 9) (.t 13) (.c (.b false)), none⟩])
 (.cond (.t 14)
 (.skip)
 (.exit 0)))
 (.blk 1
 (.reg [⟨some 15, .mv (.t 1), none⟩,
 ⟨some 16, .bin .add (.t 15) (.c (.i .i64 1)), none⟩,
 ⟨some 1, .mv (.t 16), none⟩])))))
 (.seq (.reg [⟨some 17, .mv (.t 1), none⟩,
 ⟨some 4, .mv (.t 17), none⟩])
 (.ret)))
theorem is_ref20_Skip : FnIs Try.prog 58 18 [.tmp 4] c_ref20_Skip := ⟨⟨_, _, Try.func58, rfl, rfl, by kernel_rfl, by kernel_rfl⟩⟩
def c_ref20_Token : SCode :=
 .seq (.reg [⟨some 4, .mv (.c (.s [])), none⟩,
 ⟨some 5, .mv (.c (.i .i64 0)), none⟩,
 ⟨some 6, .mv (.c (.b false)), none⟩])
 (.seq (.reg [⟨some 8, .mv (.t 1), none⟩,
 ⟨some 7, .mv (.t 8), none⟩])
 (.seq (.blk 0
 (.loop
 (.seq (.seq (.reg [⟨some 9, .mv (.t 7), none⟩,
 ⟨some 10, .mv (.t 0), none⟩,
 ⟨some 11, .lens (.t 10), none⟩,
 ⟨some 12, .bin .lss (.t 9) (.t 11), none⟩,
 ⟨some 13, .mv (.t 12), none⟩,
 ⟨some 14, .mv (.t 0), some (13, true)⟩,
 ⟨some 15, .mv (.t 7), some (13, true)⟩,
 ⟨some 16, .idx (.t 14) (.t 15), some (13, true)⟩,
 ⟨some 17, .call 85 [.t 16], some (13, true)⟩,
 ⟨some 18, .pick (.t 13) (.t 17) (.c (.b false)), none⟩])
 (.cond (.t 18)
 (.skip)
 (.exit 0)))
 (.blk 1
 (.reg [⟨some 19, .mv (.t 7), none⟩,
 ⟨some 20, .bin .add (.t 19) (.c (.i .i64 1)), none⟩,
 ⟨some 7, .mv (.t 20), none⟩])))))
 (.seq (.seq (.reg [⟨some 21, .mv (.t 7), none⟩,
 ⟨some 22, .mv (.t 1), none⟩,
 ⟨some 23, .bin .leq (.t 21) (.t 22), none⟩])
 (.cond (.t 23)
 (.seq (.reg [⟨some 4, .mv (.c (.s [])), none⟩,
 ⟨some 5, .mv (.c (.i .i64 0)), none⟩,
 ⟨some 6, .mv (.c (.b false)), none⟩])
 (.ret))
 (.skip)))
 (.seq (.reg [⟨some 24, .mv (.t 0), none⟩,
 ⟨some 25, .mv (.t 1), none⟩,
 ⟨some 26, .mv (.t 7), none⟩,
 ⟨some 27, .slcs (.t 24) (some (.t 25)) (some (.t 26)), none⟩,
 ⟨some 28, .mv (.t 7), none⟩,
 ⟨some 4, .mv (.t 27), none⟩,
 ⟨some 5, .mv (.t 28), none⟩,
 ⟨some 6, .mv (.c (.b true)), none⟩])
 (.ret)))))
theorem is_ref20_Token : FnIs Try.prog 59 29 [.tmp 4, .tmp 5, .tmp 6] c_ref20_Token := ⟨⟨_, _, Try.func59, rfl, rfl, by kernel_rfl, by kernel_rfl⟩⟩
def c_ref20_Value : SCode :=
 .seq (.reg [⟨some 4, .mv (.c (.s [])), none⟩,
 ⟨some 5, .mv (.c (.i .i64 0)), none⟩,
 ⟨some 6, .mv (.c (.b false)), none⟩])
 (.seq (.seq (.reg [⟨some 7, .mv (.t 1), none⟩,
 ⟨some 8, .mv (.t 0), none⟩,
 ⟨some 9, .lens (.t 8), none⟩,
 ⟨some 10, .bin .lss (.t 7) (.t 9), none⟩,
 ⟨some 11, .mv (.t 10), none⟩,
 ⟨some 12, .mv (.t 0), some (11, true)⟩,
 ⟨some 13, .mv (.t 1), some (11, true)⟩,
 ⟨some 14, .idx (.t 12) (.t 13), some (11, true)⟩,
 ⟨some 15, .bin .eql (.t 14) (.c (.i .u8 34)), some (11, true)⟩,
 ⟨some 16, .pick (.t 11) (.t 15) (.c (.b false)), none⟩])
 (.cond (.t 16)
 (.seq (.reg [⟨some 17, .mv (.t 0), none⟩,
 ⟨some 18, .mv (.t 1), none⟩,
 ⟨some 19, .call 86 [.t 17, .t 18], none⟩,
 ⟨some 20, .ext (.t 19) 0, none⟩,
 ⟨some 21, .ext (.t 19) 1, none⟩,
 ⟨some 22, .ext (.t 19) 2, none⟩,
 ⟨some 4, .mv (.t 20), none⟩,
 ⟨some 5, .mv (.t 21), none⟩,
 ⟨some 6, .mv (.t 22), none⟩])
 (.ret))
 (.skip)))
 (.seq (.reg [⟨some 23, .mv (.t 0), none⟩,
 ⟨some 24, .mv (.t 1), none⟩,
 ⟨some 25, .call 59 [.t 23, .t 24], none⟩,
 ⟨some 26, .ext (.t 25) 0, none⟩,
 ⟨some 27, .ext (.t 25) 1, none⟩,
 ⟨some 28, .ext (.t 25) 2, none⟩,
 ⟨some 4, .mv (.t 26), none⟩,
 ⟨some 5, .mv (.t 27), none⟩,
 ⟨some 6, .mv (.t 28), none⟩])
 (.ret)))
theorem is_ref20_Value : FnIs Try.prog 61 29 [.tmp 4, .tmp 5, .tmp 6] c_ref20_Value := ⟨⟨_, _, Try.func61, rfl, rfl, by kernel_rfl, by kernel_rfl⟩⟩
def c_fieldtext_quoted : SCode :=
 .seq (.reg [⟨some 4, .mv (.c (.s [])), none⟩,
 ⟨some 5, .mv (.c (.i .i64 0)), none⟩,
 ⟨some 6, .mv (.c (.b false)), none⟩])
 (.seq (.reg [⟨some 7, .mv (.c .nil), none⟩])
 (.seq (.seq (.reg [⟨some 9, .mv (.t 1), none⟩,
 ⟨some 10, .bin .add (.t 9) (.c (.i .i64 1)), none⟩,
 ⟨some 8, .mv (.t 10), none⟩])
 (.blk 0
 (.loop
 (.seq (.seq (.reg [⟨some 11, .mv (.t 8), none⟩,
 ⟨some 12, .mv (.t 0), none⟩,
 ⟨some 13, .lens (.t 12), none⟩,
 ⟨some 14, .bin .lss (.t 11) (.t 13), none⟩])
 (.cond (.t 14)
 (.skip)
 (.exit 0)))
 (.seq (.blk 1
 (.seq (.seq (.reg [⟨some 17, .mv (.t 0), none⟩,
 ⟨some 18, .mv (.t 8), none⟩,
 ⟨some 19, .idx (.t 17) (.t 18), none⟩,
 ⟨some 20, .bin .eql (.t 19) (.c (.i .u8 34)), none⟩])
 (.cond (.t 20)
 (.seq (.reg [⟨some 21, .mv (.t 7), none⟩,
 ⟨some 22, .cvbs (.t 21), none⟩,
 ⟨some 23, .mv (.t 8), none⟩,
 ⟨some 24, .bin .add (.t 23) (.c (.i .i64 1)), none⟩,
 ⟨some 4, .mv (.t 22), none⟩,
 ⟨some 5, .mv (.t 24), none⟩,
 ⟨some 6, .mv (.c (.b true)), none⟩])
 (.ret))
 (.skip)))
 (.seq (.seq (.reg [⟨some 25, .mv (.t 0), none⟩,
 ⟨some 26, .mv (.t 8), none⟩,
 ⟨some 27, .idx (.t 25) (.t 26), none⟩,
 ⟨some 28, .bin .eql (.t 27) (.c (.i .u8 92)), none⟩])
 (.cond (.t 28)
 (.reg [⟨some 29, .mv (.t 8), none⟩,
 ⟨some 30, .bin .add (.t 29) (.c (.i .i64 1)), none⟩,
 ⟨some 8, .mv (.t 30), none⟩])
 (.skip)))
 (.seq (.seq (.reg [⟨some 31, .mv (.t 8), none⟩,
 ⟨some 32, .mv (.t 0), none⟩,
 ⟨some 33, .lens (.t 32), none⟩,
 ⟨some 34, .bin .eql (.t 31) (.t 33), none⟩,
 ⟨some 35, .mv (.t 34), none⟩,
 ⟨some 36, .mv (.t 0), some (35, false)⟩,
 ⟨some 37, .mv (.t 8), some (35, false)⟩,
 ⟨some 38, .idx (.t 36) (.t 37), some (35, false)⟩,
 ⟨some 39, .call 102 [.t 38], some (35, false)⟩,
 ⟨some 40, .not (.t 39), some (35, false)⟩,
 ⟨some 41, .pick (.t 35) (.c (.b true)) (.t 40), none⟩])
 (.cond (.t 41)
 (.seq (.reg [⟨some 42, .mv (.t 8), none⟩,
 ⟨some 4, .mv (.c (.s [])), none⟩,
 ⟨some 5, .mv (.t 42), none⟩,
 ⟨some 6, .mv (.c (.b false)), none⟩])
 (.ret))
 (.skip)))
 (.reg [⟨some 43, .mv (.t 7), none⟩,
 ⟨some 44, .mv (.t 0), none⟩,
 ⟨some 45, .mv (.t 8), none⟩,
 ⟨some 46, .idx (.t 44) (.t 45), none⟩,
 ⟨some 47, .bslice 1 [.i .u8 0] [(0, (1, .t 46))], none⟩,
 ⟨some 48, .app 5 1 1 (.t 43) (.t 47), none⟩,
 ⟨some 7, .mv (.t 48), none⟩])))))
 (.reg [⟨some 15, .mv (.t 8), none⟩,
 ⟨some 16, .bin .add (.t 15) (.c (.i .i64 1)), none⟩,
 ⟨some 8, .mv (.t 16), none⟩]))))))
 (.seq (.reg [⟨some 49, .mv (.t 0), none⟩,
 ⟨some 50, .lens (.t 49), none⟩,
 ⟨some 4, .mv (.c (.s [])), none⟩,
 ⟨some 5, .mv (.t 50), none⟩,
 ⟨some 6, .mv (.c (.b false)), none⟩])
 (.ret))))
theorem is_fieldtext_quoted : FnIs Try.prog 79 51 [.tmp 4, .tmp 5, .tmp 6] c_fieldtext_quoted := ⟨⟨_, _, Try.func79, rfl, rfl, by kernel_rfl, by kernel_rfl⟩⟩
def c_fieldtext_IsToken : SCode :=
 .seq (.reg [⟨some 2, .mv (.c (.b false)), none⟩])
 (.seq (.reg [⟨some 3, .mv (.t 0), none⟩,
 ⟨some 4, .bin .neq (.t 3) (.c (.s [])), none⟩,
 ⟨some 5, .mv (.t 4), none⟩,
 ⟨some 6, .mv (.t 0), some (5, true)⟩,
 ⟨some 7, .call 47 [.t 6, .c (.i .i64 0)], some (5, true)⟩,
 ⟨some 8, .mv (.t 0), some (5, true)⟩,
 ⟨some 9, .lens (.t 8), some (5, true)⟩,
 ⟨some 10, .bin .eql (.t 7) (.t 9), some (5, true)⟩,
 ⟨some 11, .pick (.t 5) (.t 10) (.c (.b false)), none⟩,
 ⟨some 2, .mv (.t 11), none⟩])
 (.ret))
theorem is_fieldtext_IsToken : FnIs Try.prog 81 12 [.tmp 2] c_fieldtext_IsToken := ⟨⟨_, _, Try.func81, rfl, rfl, by kernel_rfl, by kernel_rfl⟩⟩
def c_ref01_Tokens : SCode :=
 .seq (.reg [⟨some 2, .mv (.c (.b false)), none⟩])
 (.seq (.seq (.reg [⟨some 3, .mv (.c (.i .i64 0)), none⟩])
 (.blk 0
 (.loop
 (.seq (.seq (.reg [⟨some 4, .mv (.t 3), none⟩,
 ⟨some 5, .mv (.t 0), none⟩,
 ⟨some 6, .lens (.t 5), none⟩,
 ⟨some 7, .bin .lss (.t 4) (.t 6), none⟩])
 (.cond (.t 7)
 (.skip)
 (.exit 0)))
 (.seq (.blk 1
 (.seq (.reg [⟨some 10, .mv (.t 0), none⟩,
 ⟨some 11, .mv (.t 3), none⟩,
 ⟨some 12, .idx (.t 10) (.t 11), none⟩,
 ⟨some 13, .call 85 [.t 12], none⟩,
 ⟨some 14, .not (.t 13), none⟩])
 (.cond (.t 14)
 (.seq (.reg [⟨some 2, .mv (.c (.b false)), none⟩])
 (.ret))
 (.skip))))
 (.reg [⟨some 8, .mv (.t 3), none⟩,
 ⟨some 9, .bin .add (.t 8) (.c (.i .i64 1)), none⟩,
 ⟨some 3, .mv (.t 9), none⟩]))))))
 (.seq (.reg [⟨some 15, .mv (.t 0), none⟩,
 ⟨some 16, .bin .neq (.t 15) (.c (.s [])), none⟩,
 ⟨some 2, .mv (.t 16), none⟩])
 (.ret)))
theorem is_ref01_Tokens : FnIs Try.prog 83 17 [.tmp 2] c_ref01_Tokens := ⟨⟨_, _, Try.func83, rfl, rfl, by kernel_rfl, by kernel_rfl⟩⟩
def c_ref20_Quoted : SCode :=
 .seq (.reg [⟨some 4, .mv (.c (.s [])), none⟩,
 ⟨some 5, .mv (.c (.i .i64 0)), none⟩,
 ⟨some 6, .mv (.c (.b false)), none⟩])
 (.seq (.reg [⟨some 7, .mv (.c (.s [])), none⟩])
 (.seq (.seq (.reg [⟨some 10, .mv (.t 1), none⟩,
 ⟨some 11, .mv (.t 0), none⟩,
 ⟨some 12, .lens (.t 11), none⟩,
 ⟨some 13, .bin .geq (.t 10) (.t 12), none⟩,
 ⟨some 14, .mv (.t 13), none⟩,
 ⟨some 15, .mv (.t 0), some (14, false)⟩,
 ⟨some 16, .mv (.t 1), some (14, false)⟩,
 ⟨some 17, .idx (.t 15) (.t 16), some (14, false)⟩,
 ⟨some 18, .bin .neq (.t 17) (.c (.i .u8 34)), some (14, false)⟩,
 ⟨some 19, .pick (.t 14) (.c (.b true)) (.t 18), none⟩])
 (.cond (.t 19)
 (.seq (.reg [⟨some 4, .mv (.c (.s [])), none⟩,
 ⟨some 5, .mv (.c (.i .i64 0)), none⟩,
 ⟨some 6, .mv (.c (.b false)), none⟩])
 (.ret))
 (.skip)))
 (.seq (.seq (.reg [⟨some 20, .mv (.t 1), none⟩,
 ⟨some 21, .bin .add (.t 20) (.c (.i .i64 1)), none⟩,
 ⟨some 8, .mv (.t 21), none⟩])
 (.blk 0
 (.loop
 (.seq (.seq (.reg [⟨some 22, .mv (.t 8), none⟩,
 ⟨some 23, .mv (.t 0), none⟩,
 ⟨some 24, .lens (.t 23), none⟩,
 ⟨some 25, .bin .lss (.t 22) (.t 24), none⟩])
 (.cond (.t 25)
 (.skip)
 (.exit 0)))
 (.seq (.blk 1
 (.seq (.reg [⟨some 28, .mv (.t 0), none⟩,
 ⟨some 29, .mv (.t 8), none⟩,
 ⟨some 30, .idx (.t 28) (.t 29), none⟩,
 ⟨some 9, .mv (.t 30), none⟩])
 (.seq (.seq (.reg [⟨some 31, .mv (.t 9), none⟩,
 ⟨some 32, .bin .eql (.t 31) (.c (.i .u8 34)), none⟩])
 (.cond (.t 32)
 (.seq (.reg [⟨some 33, .mv (.t 7), none⟩,
 ⟨some 34, .mv (.t 8), none⟩,
 ⟨some 35, .bin .add (.t 34) (.c (.i .i64 1)), none⟩,
 ⟨some 4, .mv (.t 33), none⟩,
 ⟨some 5, .mv (.t 35), none⟩,
 ⟨some 6, .mv (.c (.b true)), none⟩])
 (.ret))
 (.skip)))
 (.seq (.seq (.reg [⟨some 36, .mv (.t 9), none⟩,
 ⟨some 37, .bin .eql (.t 36) (.c (.i .u8 92)), none⟩])
 (.cond (.t 37)
 (.seq (.seq (.reg [⟨some 38, .mv (.t 8), none⟩,
 ⟨some 39, .bin .add (.t 38) (.c (.i .i64 1)), none⟩,
 ⟨some 8, .mv (.t 39), none⟩])
 (.seq (.reg [⟨some 40, .mv (.t 8), none⟩,
 ⟨some 41, .mv (.t 0), none⟩,
 ⟨some 42, .lens (.t 41), none⟩,
 ⟨some 43, .bin .eql (.t 40) (.t 42), none⟩])
 (.cond (.t 43)
 (.seq (.reg [⟨some 4, .mv (.c (.s [])), none⟩,
 ⟨some 5, .mv (.c (.i .i64 0)), none⟩,
 ⟨some 6, .mv (.c (.b false)), none⟩])
 (.ret))
 (.skip))))
 (.reg [⟨some 44, .mv (.t 0), none⟩,
 ⟨some 45, .mv (.t 8), none⟩,
 ⟨some 46, .idx (.t 44) (.t 45), none⟩,
 ⟨some 9, .mv (.t 46), none⟩]))
 (.skip)))
 (.seq (.seq (.reg [⟨some 47, .mv (.t 9), none⟩,
 ⟨some 48, .call 95 [.t 47], none⟩,
 ⟨some 49, .not (.t 48), none⟩])
 (.cond (.t 49)
 (.seq (.reg [⟨some 4, .mv (.c (.s [])), none⟩,
 ⟨some 5, .mv (.c (.i .i64 0)), none⟩,
 ⟨some 6, .mv (.c (.b false)), none⟩])
 (.ret))
 (.skip)))
 (.reg [⟨some 50, .mv (.t 7), none⟩,
 ⟨some 51, .mv (.t 9), none⟩,
 ⟨some 52, .bslice 1 [.i .u8 0] [(0, (1, .t 51))], none⟩,
 ⟨some 53, .cvbs (.t 52), none⟩,
 ⟨some 54, .bin .add (.t 50) (.t 53), none⟩,
 ⟨some 7, .mv (.t 54), none⟩]))))))
 (.reg [⟨some 26, .mv (.t 8), none⟩,
 ⟨some 27, .bin .add (.t 26) (.c (.i .i64 1)), none⟩,
 ⟨some 8, .mv (.t 27), none⟩]))))))
 (.seq (.reg [⟨some 4, .mv (.c (.s [])), none⟩,
 ⟨some 5, .mv (.c (.i .i64 0)), none⟩,
 ⟨some 6, .mv (.c (.b false)), none⟩])
 (.ret)))))
theorem is_ref20_Quoted : FnIs Try.prog 86 55 [.tmp 4, .tmp 5, .tmp 6] c_ref20_Quoted := ⟨⟨_, _, Try.func86, rfl, rfl, by kernel_rfl, by kernel_rfl⟩⟩
def c_ref18_Printable : SCode :=
 .seq (.reg [⟨some 2, .mv (.c (.b false)), none⟩])
 (.seq (.reg [⟨some 3, .mv (.t 0), none⟩,
 ⟨some 4, .bin .eql (.t 3) (.c (.i .u8 9)), none⟩,
 ⟨some 5, .mv (.t 4), none⟩,
 ⟨some 6, .mv (.t 0), some (5, false)⟩,
 ⟨some 7, .bin .geq (.t 6) (.c (.i .u8 32)), some (5, false)⟩,
 ⟨some 8, .mv (.t 7), some (5, false)⟩,
 ⟨some 9, .mv (.t 0), some (8, true)⟩,
 ⟨some 10, .bin .neq (.t 9) (.c (.i .u8 127)), some (8, true)⟩,
 ⟨some 11, .pick (.t 8) (.t 10) (.c (.b false)), some (5, false)⟩,
 ⟨some 12, .pick (.t 5) (.c (.b true)) (.t 11), none⟩,
 ⟨some 2, .mv (.t 12), none⟩])
 (.ret))
theorem is_ref18_Printable : FnIs Try.prog 95 13 [.tmp 2] c_ref18_Printable := ⟨⟨_, _, Try.func95, rfl, rfl, by kernel_rfl, by kernel_rfl⟩⟩
def c_fieldtext_IsByte : SCode :=
 .seq (.reg [⟨some 2, .mv (.c (.b false)), none⟩])
 (.seq (.reg [⟨some 3, .mv (.t 0), none⟩,
 ⟨some 4, .bin .geq (.t 3) (.c (.i .u8 32)), none⟩,
 ⟨some 5, .mv (.t 4), none⟩,
 ⟨some 6, .mv (.t 0), some (5, true)⟩,
 ⟨some 7, .bin .neq (.t 6) (.c (.i .u8 127)), some (5, true)⟩,
 ⟨some 8, .pick (.t 5) (.t 7) (.c (.b false)), none⟩,
 ⟨some 9, .mv (.t 8), none⟩,
 ⟨some 10, .mv (.t 0), some (9, false)⟩,
 ⟨some 11, .bin .eql (.t 10) (.c (.i .u8 9)), some (9, false)⟩,
 ⟨some 12, .pick (.t 9) (.c (.b true)) (.t 11), none⟩,
 ⟨some 2, .mv (.t 12), none⟩])
 (.ret))
theorem is_fieldtext_IsByte : FnIs Try.prog 102 13 [.tmp 2] c_fieldtext_IsByte := ⟨⟨_, _, Try.func102, rfl, rfl, by kernel_rfl, by kernel_rfl⟩⟩
end Go.Proofs.Ytkcaghhfnmeknaa.Sx
namespace Go.Proofs.Ytkcaghhfnmeknaa
open Go.RowKit Sx
theorem all_of {s : List UInt8} {p : UInt8 → Bool} (h : ∀ j (hj : j < s.length), p s[j] = true) : s.all p = true := by
 rw [List.all_eq_true]
 intro x hx
 obtain ⟨j, hj, rfl⟩ := List.mem_iff_getElem.1 hx
 exact h j hj
theorem all_not {s : List UInt8} {p : UInt8 → Bool} {j : Nat} (hj : j < s.length) (h : p s[j] = false) : s.all p = false := by
 rw [Bool.eq_false_iff]
 intro e
 have := List.all_eq_true.1 e s[j] (List.getElem_mem _)
 rw [h] at this; cases this
theorem getD_get {s : List UInt8} {j : Nat} (hj : j < s.length) : s.getD j 0 = s[j] := by
 rw [List.getD_eq_getElem?_getD, List.getElem?_eq_getElem hj]; rfl
section
variable [Tabs Try.prog] {objs : List OB} {K : List OB → AV → Prop}
theorem aEqual_k (a b : List UInt8) (ha : a.length ≤ maxLen) (hb : b.length ≤ maxLen) (hk : K objs (.b (eqL a b))) : CallOk Try.prog 73 [.s a, .s b] objs K :=
 conv (vs := [.string (S a), .string (S b)]) rfl rfl (fun w => Equal_any (S a) (S b) w (by rw [S_size]; exact ha) (by rw [S_size]; exact hb)) hk
theorem raEqual_k (a b : List UInt8) (ha : a.length ≤ 140737488351232) (hb : b.length ≤ 140737488351232) (hk : K objs (.b (eqL a b))) : CallOk Try.prog 74 [.s a, .s b] objs K :=
 conv (vs := [.string (S a), .string (S b)]) rfl rfl (fun w => rEqual_any (S a) (S b) w (by rw [S_size]; exact ha) (by rw [S_size]; exact hb)) hk
theorem aTok_k (c : UInt8) (hk : K objs (.b (isTok c))) : CallOk Try.prog 77 [.i .u8 c.toNat] objs K :=
 convs (vs := [.int .u8 c.toNat]) rfl rfl (fun w => IsTok_any c w) hk
theorem raTok_k (c : UInt8) (hk : K objs (.b (isTok c))) : CallOk Try.prog 85 [.i .u8 c.toNat] objs K :=
 convs (vs := [.int .u8 c.toNat]) rfl rfl (fun w => rIsTok_any c w) hk
end
end Go.Proofs.Ytkcaghhfnmeknaa
namespace Go.Proofs.Ytkcaghhfnmeknaa.Sx
open Go.RowKit
section
variable {P : Program} [Tabs P] {C : Cx}
variable {F : Post} {k : List IT} {objs : List OB} {tm : List AV}
end
end Go.Proofs.Ytkcaghhfnmeknaa.Sx
namespace Go.Proofs.Ytkcaghhfnmeknaa.Sx
open Go.RowKit
section
variable {P : Program} [Tabs P] {C : Cx} {F : Post} {k : List IT} {objs : List OB} {tm : List AV}
end
end Go.Proofs.Ytkcaghhfnmeknaa.Sx
namespace Go.Proofs.Ytkcaghhfnmeknaa
open List renaming replicate → z6
open Nat renaming reduceAdd → z7, reduceSub → z8, reduceLeDiff → q7, reduceLT → q8, reduceMul → q9, reduceEqDiff → j2
open Int renaming reduceToNat → j3, reduceAdd → j4, reduceSub → j5, reduceMul → j6, reduceNeg → j7, reduceLT → j8, reduceLE → j9, reduceEq → x0, reduceNe → x3
open Go.RowKit Sx
def isPrt (c : UInt8) : Bool := decide ((32 ≤ c.toNat ∧ c.toNat ≠ 127) ∨ c.toNat = 9)
def tokN : List UInt8 → Nat
 | [] => 0
 | c :: t => if isTok c = true then tokN t + 1 else 0
def tokenB (l : List UInt8) : Bool := !l.isEmpty && l.all isTok
theorem tokN_le : ∀ l : List UInt8, tokN l ≤ l.length
 | [] => Nat.le_refl _
 | c :: t => by
  have := tokN_le t
  unfold tokN
  split <;> simp only [List.length_cons] <;> omega
theorem tokN_all : ∀ l : List UInt8, (tokN l = l.length) ↔ l.all isTok = true
 | [] => by simp [tokN]
 | c :: t => by
  have h := tokN_all t
  have h2 := tokN_le t
  unfold tokN
  by_cases hc : isTok c = true
  ·rw [if_pos hc, List.length_cons, List.all_cons, hc, Bool.true_and, ← h]; omega
  ·rw [if_neg hc, List.length_cons, List.all_cons]
   simp only [hc, Bool.false_and]
   constructor
   ·intro h3; omega
   ·intro h3; cases h3
theorem tok_at (s : List UInt8) (i : Nat) (h : i < s.length) : tokN (s.drop i) = if isTok s[i] = true then tokN (s.drop (i + 1)) + 1 else 0 := by
 rw [List.drop_eq_getElem_cons h, tokN]
section
variable [Tabs Try.prog] {objs : List OB} {K : List OB → AV → Prop}
theorem fByte_k (c : UInt8) (hk : K objs (.b (isPrt c))) : CallOk Try.prog 102 [.i .u8 c.toNat] objs K := by
 refine fn_rn is_fieldtext_IsByte rfl fun C _ => ?_
 unfold isPrt at hk
 by_cases c1 : (32 : Int) ≤ c.toNat
 ·by_cases c2 : ((c.toNat : Nat) : Int) = 127
  ·have c3 : ¬ ((c.toNat : Nat) : Int) = 9 := by omega
   rw [decide_eq_false (by omega)] at hk
   simp only [c2, c_fieldtext_IsByte, sxZ, evs, evp, setd, SV.ev, AV.flat, AV.one, AV.cells, resAs, resA, tupA, pub, pubs, AV.plain, plains, srcOf, splice, fillA, eqA, eqAs, z6, z7, z8, q7, q8, q9, j2, j3, j4, j5, j6, j7, j8, j9, x0, x3, reduceCtorEq, ↓reduceIte]
   exact hk
  ·rw [decide_eq_true (by omega)] at hk
   simp only [c1, c2, c_fieldtext_IsByte, sxZ, evs, evp, setd, SV.ev, AV.flat, AV.one, AV.cells, resAs, resA, tupA, pub, pubs, AV.plain, plains, srcOf, splice, fillA, eqA, eqAs, z6, z7, z8, q7, q8, q9, j2, j3, j4, j5, j6, j7, j8, j9, x0, x3, reduceCtorEq, ↓reduceIte]
   exact hk
 ·have e : decide ((32 ≤ c.toNat ∧ c.toNat ≠ 127) ∨ c.toNat = 9) = decide (((c.toNat : Nat) : Int) = 9) := by
   by_cases c3 : ((c.toNat : Nat) : Int) = 9
   ·rw [decide_eq_true c3, decide_eq_true (by omega)]
   ·rw [decide_eq_false c3, decide_eq_false (by omega)]
  rw [e] at hk
  simp only [c1, c_fieldtext_IsByte, sxZ, evs, evp, setd, SV.ev, AV.flat, AV.one, AV.cells, resAs, resA, tupA, pub, pubs, AV.plain, plains, srcOf, splice, fillA, eqA, eqAs, z6, z7, z8, q7, q8, q9, j2, j3, j4, j5, j6, j7, j8, j9, x0, x3, reduceCtorEq, ↓reduceIte]
  exact hk
theorem rPrt_k (c : UInt8) (hk : K objs (.b (isPrt c))) : CallOk Try.prog 95 [.i .u8 c.toNat] objs K := by
 refine fn_rn is_ref18_Printable rfl fun C _ => ?_
 unfold isPrt at hk
 by_cases c3 : ((c.toNat : Nat) : Int) = 9
 ·rw [decide_eq_true (by omega)] at hk
  simp only [c3, c_ref18_Printable, sxZ, evs, evp, setd, SV.ev, AV.flat, AV.one, AV.cells, resAs, resA, tupA, pub, pubs, AV.plain, plains, srcOf, splice, fillA, eqA, eqAs, z6, z7, z8, q7, q8, q9, j2, j3, j4, j5, j6, j7, j8, j9, x0, x3, reduceCtorEq, ↓reduceIte]
  exact hk
 by_cases c1 : (32 : Int) ≤ c.toNat
 ·have e : decide ((32 ≤ c.toNat ∧ c.toNat ≠ 127) ∨ c.toNat = 9) = decide (¬ ((c.toNat : Nat) : Int) = 127) := by
   by_cases c2 : ((c.toNat : Nat) : Int) = 127
   ·rw [decide_eq_false (by omega), decide_eq_false (by omega)]
   ·rw [decide_eq_true (by omega), decide_eq_true c2]
  rw [e] at hk
  simp only [c3, c1, c_ref18_Printable, sxZ, evs, evp, setd, SV.ev, AV.flat, AV.one, AV.cells, resAs, resA, tupA, pub, pubs, AV.plain, plains, srcOf, splice, fillA, eqA, eqAs, z6, z7, z8, q7, q8, q9, j2, j3, j4, j5, j6, j7, j8, j9, x0, x3, reduceCtorEq, ↓reduceIte]
  exact hk
 ·rw [decide_eq_false (by omega)] at hk
  simp only [c3, c1, c_ref18_Printable, sxZ, evs, evp, setd, SV.ev, AV.flat, AV.one, AV.cells, resAs, resA, tupA, pub, pubs, AV.plain, plains, srcOf, splice, fillA, eqA, eqAs, z6, z7, z8, q7, q8, q9, j2, j3, j4, j5, j6, j7, j8, j9, x0, x3, reduceCtorEq, ↓reduceIte]
  exact hk
set_option maxRecDepth 100000 in
theorem fTokenEnd_k (s : List UInt8) (a : Nat) (ha : a ≤ s.length) (hs : s.length ≤ 9000000000000000000) (hk : K objs (.i .i64 ((a + tokN (s.drop a) : Nat) : Int))) : CallOk Try.prog 47 [.s s, .i .i64 (a : Nat)] objs K := by
 refine fn_rn is_fieldtext_TokenEnd rfl fun C _ => ?_
 simp only [c_fieldtext_TokenEnd, sxZ, evs, evp, setd, SV.ev, AV.flat, AV.one, AV.cells, resAs, resA, tupA, pub, pubs, AV.plain, plains, srcOf, splice, fillA, eqA, eqAs, z6, z7, z8, q7, q8, q9, j2, j3, j4, j5, j6, j7, j8, j9, x0, x3, reduceCtorEq, ↓reduceIte]
 refine rn_loop (fun n objs tm => ∃ i : Nat, i ≤ s.length ∧ n = s.length - i ∧ objs = [] ∧ a + tokN (s.drop a) = i + tokN (s.drop i) ∧ tm.length = 18 ∧ tm[0]? = some (.s s) ∧ tm[1]? = some (.i .i64 i)) (s.length - a) ⟨a, ha, rfl, rfl, rfl, rfl, rfl, rfl⟩ ?_
 rintro n _ tm ⟨i, hi, rfl, rfl, hr, hlen, t0, t1⟩
 by_cases hlt : (i : Int) < s.length
 ·have hlt' : i < s.length := by omega
  have hg := getD_get hlt'
  have hrn := tok_at s i hlt'
  simp only [sxZ, evs, evp, setd, SV.ev, AV.flat, AV.one, AV.cells, resAs, resA, tupA, pub, pubs, AV.plain, plains, srcOf, splice, fillA, eqA, eqAs, z6, z7, z8, q7, q8, q9, j2, j3, j4, j5, j6, j7, j8, j9, x0, x3, reduceCtorEq, ↓reduceIte, List.getElem?_set, hlen, t0, t1, hlt]
  refine ⟨by omega, ?_⟩
  rw [hg]
  refine kcall (aTok_k s[i] ?_)
  by_cases hd : isTok s[i] = true
  ·rw [if_pos hd] at hrn
   simp only [hd, sxZ, evs, evp, setd, SV.ev, AV.flat, AV.one, AV.cells, resAs, resA, tupA, pub, pubs, AV.plain, plains, srcOf, splice, fillA, eqA, eqAs, z6, z7, z8, q7, q8, q9, j2, j3, j4, j5, j6, j7, j8, j9, x0, x3, reduceCtorEq, ↓reduceIte, List.getElem?_set, hlen, t0, t1]
   exact ⟨⟨by omega, by omega⟩, s.length - (i + 1), by omega, i + 1, by omega, rfl, by omega, rfl⟩
  ·rw [if_neg hd] at hrn
   simp only [Bool.not_eq_true] at hd
   simp only [hd, sxZ, evs, evp, setd, SV.ev, AV.flat, AV.one, AV.cells, resAs, resA, tupA, pub, pubs, AV.plain, plains, srcOf, splice, fillA, eqA, eqAs, z6, z7, z8, q7, q8, q9, j2, j3, j4, j5, j6, j7, j8, j9, x0, x3, reduceCtorEq, ↓reduceIte, List.getElem?_set, hlen, t0, t1]
   rw [hr, hrn] at hk
   exact hk
 ·obtain rfl : i = s.length := by omega
  have he : tokN (s.drop s.length) = 0 := by rw [List.drop_length]; rfl
  simp only [sxZ, evs, evp, setd, SV.ev, AV.flat, AV.one, AV.cells, resAs, resA, tupA, pub, pubs, AV.plain, plains, srcOf, splice, fillA, eqA, eqAs, z6, z7, z8, q7, q8, q9, j2, j3, j4, j5, j6, j7, j8, j9, x0, x3, reduceCtorEq, ↓reduceIte, List.getElem?_set, hlen, t0, t1, hlt]
  rw [hr, he] at hk
  exact hk
theorem fToken_k (s : List UInt8) (hs : s.length ≤ 9000000000000000000) (hk : K objs (.b (tokenB s))) : CallOk Try.prog 81 [.s s] objs K := by
 refine fn_rn is_fieldtext_IsToken rfl fun C _ => ?_
 unfold tokenB at hk
 by_cases c0 : s = []
 ·subst c0
  simp only [c_fieldtext_IsToken, sxZ, evs, evp, setd, SV.ev, AV.flat, AV.one, AV.cells, resAs, resA, tupA, pub, pubs, AV.plain, plains, srcOf, splice, fillA, eqA, eqAs, z6, z7, z8, q7, q8, q9, j2, j3, j4, j5, j6, j7, j8, j9, x0, x3, reduceCtorEq, ↓reduceIte]
  exact hk
 ·have he : s.isEmpty = false := by cases s <;> simp_all
  rw [he] at hk
  simp only [c0, c_fieldtext_IsToken, sxZ, evs, evp, setd, SV.ev, AV.flat, AV.one, AV.cells, resAs, resA, tupA, pub, pubs, AV.plain, plains, srcOf, splice, fillA, eqA, eqAs, z6, z7, z8, q7, q8, q9, j2, j3, j4, j5, j6, j7, j8, j9, x0, x3, reduceCtorEq, ↓reduceIte]
  refine kcall (fTokenEnd_k s 0 (Nat.zero_le _) hs ?_)
  rw [List.drop_zero, Nat.zero_add]
  have h2 := tokN_all s
  have e : decide (((tokN s : Nat) : Int) = s.length) = (!false && s.all isTok) := by
   cases ha : s.all isTok with
   | true => rw [decide_eq_true (by rw [h2.2 ha])]; rfl
   | false =>
    rw [decide_eq_false (fun h => by
     have h3 := h2.1 (by omega)
     rw [ha] at h3; cases h3)]; rfl
  simp only [sxZ, evs, evp, setd, SV.ev, AV.flat, AV.one, AV.cells, resAs, resA, tupA, pub, pubs, AV.plain, plains, srcOf, splice, fillA, eqA, eqAs, z6, z7, z8, q7, q8, q9, j2, j3, j4, j5, j6, j7, j8, j9, x0, x3, reduceCtorEq, ↓reduceIte]
  rw [e]
  exact hk
end
end Go.Proofs.Ytkcaghhfnmeknaa
namespace Go.Proofs.Ytkcaghhfnmeknaa
open Go.RowKit Sx
def blkN : List UInt8 → Nat
 | [] => 0
 | c :: t => if blank c = true then blkN t + 1 else 0
theorem blkN_le : ∀ l : List UInt8, blkN l ≤ l.length
 | [] => Nat.le_refl _
 | c :: t => by
  have := blkN_le t
  unfold blkN
  split <;> simp only [List.length_cons] <;> omega
theorem blk_at (s : List UInt8) (i : Nat) (h : i < s.length) : blkN (s.drop i) = if blank s[i] = true then blkN (s.drop (i + 1)) + 1 else 0 := by
 rw [List.drop_eq_getElem_cons h, blkN]
def skipL (l : List UInt8) : List UInt8 := l.drop (blkN l)
theorem skipL_len (l : List UInt8) : (skipL l).length ≤ l.length := by unfold skipL; rw [List.length_drop]; omega
theorem skipL_eq (l : List UInt8) : skipL l = l.dropWhile blank := by
 unfold skipL
 induction l with
 | nil => rfl
 | cons c t ih =>
  rw [List.dropWhile_cons, blkN]
  split
  ·exact ih
  ·rfl
def quoE : List UInt8 → Option (List UInt8 × Nat)
 | [] => none
 | c :: t =>
  if c = 34 then some ([], 1)
  else if c = 92 then match t with
   | [] => none
   | d :: t' => if isPrt d = true then (quoE t').map fun p => (d :: p.1, p.2 + 2) else none
  else if isPrt c = true then (quoE t).map fun p => (c :: p.1, p.2 + 1) else none
theorem quoE_one (c : UInt8) : quoE [c] = if c = 34 then some ([], 1) else if c = 92 then none else if isPrt c = true then none else none := by
 unfold quoE
 split
 ·rfl
 ·split
  ·rfl
  ·rfl
theorem quoE_two (c d : UInt8) (t : List UInt8) : quoE (c :: d :: t) = if c = 34 then some ([], 1) else if c = 92 then (if isPrt d = true then (quoE t).map fun p => (d :: p.1, p.2 + 2) else none) else if isPrt c = true then (quoE (d :: t)).map fun p => (c :: p.1, p.2 + 1) else none := by
 conv => lhs; unfold quoE
theorem quoE_le : ∀ (n : Nat) (l x : List UInt8) (k : Nat), l.length ≤ n → quoE l = some (x, k) → k ≤ l.length ∧ 1 ≤ k ∧ x.length + 1 ≤ k
 | n, [], x, k, hn, h => by simp [quoE] at h
 | n, c :: t, x, k, hn, h => by
  unfold quoE at h
  split at h
  ·injection h with h; injection h with h1 h2; subst h1 h2; simp
  ·split at h
   ·cases t with
    | nil => cases h
    | cons d t' =>
     simp only at h
     split at h
     ·obtain ⟨p, hp, he⟩ := Option.map_eq_some_iff.1 h
      injection he with h1 h2
      subst h1 h2
      match n, hn with
      | n + 1, hn =>
       have := quoE_le n t' p.1 p.2 (by simp at hn; omega) hp
       simp only [List.length_cons]; omega
     ·cases h
   ·split at h
    ·obtain ⟨p, hp, he⟩ := Option.map_eq_some_iff.1 h
     injection he with h1 h2
     subst h1 h2
     match n, hn with
     | n + 1, hn =>
      have := quoE_le n t p.1 p.2 (by simp at hn; omega) hp
      simp only [List.length_cons]; omega
    ·cases h
def wordE (l : List UInt8) : Option (List UInt8 × Nat) :=
 if l.head? = some 34 then (quoE l.tail).map fun p => (p.1, p.2 + 1)
 else if tokN l = 0 then none else some (l.take (tokN l), tokN l)
theorem wordE_le {l x : List UInt8} {k : Nat} (h : wordE l = some (x, k)) : k ≤ l.length ∧ 1 ≤ k ∧ x.length ≤ k := by
 unfold wordE at h
 split at h
 ·obtain ⟨p, hp, he⟩ := Option.map_eq_some_iff.1 h
  injection he with h1 h2
  subst h1 h2
  have := quoE_le _ _ p.1 p.2 (Nat.le_refl _) hp
  rename_i hh
  cases l with
  | nil => cases hh
  | cons c t => simp only [List.tail_cons, List.length_cons] at this ⊢; omega
 ·split at h
  ·cases h
  ·injection h with h; injection h with h1 h2
   subst h1 h2
   have := tokN_le l
   rw [List.length_take]; omega
end Go.Proofs.Ytkcaghhfnmeknaa
namespace Go.Proofs.Ytkcaghhfnmeknaa
open Go.RowKit Sx
section
variable [Tabs Try.prog] {objs : List OB} {K : List OB → AV → Prop}
theorem hLower_k (s : List UInt8) (hs : s.length ≤ 140737488351232) (hk : K objs (.s (lowL s))) : CallOk Try.prog 48 [.s s] objs K :=
 conv (vs := [.string (S s)]) rfl rfl (fun w => Lower_any (S s) w (by rw [S_size]; exact hs)) hk
theorem hrLower_k (s : List UInt8) (hs : s.length ≤ 140737488351232) (hk : K objs (.s (lowL s))) : CallOk Try.prog 60 [.s s] objs K :=
 conv (vs := [.string (S s)]) rfl rfl (fun w => rLower_any (S s) w (by rw [S_size]; exact hs)) hk
end
end Go.Proofs.Ytkcaghhfnmeknaa
namespace Go.Proofs.Ytkcaghhfnmeknaa
open Go.RowKit Sx
end Go.Proofs.Ytkcaghhfnmeknaa
namespace Go.Proofs.Ytkcaghhfnmeknaa
open Go.RowKit Sx
section
variable [Tabs Try.prog] {objs : List OB} {K : List OB → AV → Prop}
end
end Go.Proofs.Ytkcaghhfnmeknaa
namespace Go.Proofs.Ytkcaghhfnmeknaa
open Go.RowKit Sx
section
variable [Tabs Try.prog] {objs : List OB} {K : List OB → AV → Prop}
end
end Go.Proofs.Ytkcaghhfnmeknaa
namespace Go.Proofs.Ytkcaghhfnmeknaa
open Go.RowKit Sx
theorem get_lt {α : Type} {l : List α} {b : Nat} {x : α} (h : l[b]? = some x) : b < l.length := by
 rcases Nat.lt_or_ge b l.length with h0 | h0
 ·exact h0
 ·rw [List.getElem?_eq_none h0] at h; cases h
theorem set_same {α : Type} {l : List α} {b : Nat} {x : α} (h : l[b]? = some x) : l.set b x = l := by
 apply List.ext_getElem?
 intro i
 rw [List.getElem?_set]
 split
 ·rename_i e; subst e; rw [if_pos (get_lt h), h]
 ·rfl
section
variable [Tabs Try.prog] {objs : List OB} {K : List OB → AV → Prop}
end
def BldIs (objs : List OB) (b : Nat) (T : TypeId) (l : List UInt8) : Prop :=
 (objs[b]? = some (.box T [.o (.pointer none), .nil]) ∧ l = []) ∨ ∃ r gen, objs[b]? = some (.box T [.p b 0, .orow r gen]) ∧ objs[r]? = some (.orow 5 1 gen l.length (byA l))
def rowOf (objs : List OB) (b : Nat) : Option Nat :=
 match objs[b]? with
 | some (.box _ [_, .orow r _]) => some r
 | _ => none
def Kept (objs : List OB) (b : Nat) (objs' : List OB) : Prop := objs.length ≤ objs'.length ∧ (∀ (j : Nat) ob, objs[j]? = some ob → j ≠ b → rowOf objs b ≠ some j → objs'[j]? = some ob ∧ rowOf objs' b ≠ some j)
theorem Kept.refl (objs : List OB) (b : Nat) : Kept objs b objs := ⟨Nat.le_refl _, fun j ob h _ h2 => ⟨h, h2⟩⟩
theorem Kept.trans {o1 o2 o3 : List OB} {b : Nat} (h : Kept o1 b o2) (k : Kept o2 b o3) : Kept o1 b o3 :=
 ⟨Nat.le_trans h.1 k.1, fun j ob h1 h2 h3 => by
  obtain ⟨a1, a2⟩ := h.2 j ob h1 h2 h3
  exact k.2 j ob a1 h2 a2⟩
theorem BldIs.lt {objs : List OB} {b : Nat} {T : TypeId} {l : List UInt8} (h : BldIs objs b T l) : b < objs.length ∧ ∀ r, rowOf objs b = some r → r < objs.length := by
 rcases h with ⟨h, _⟩ | ⟨r, gen, h, h2⟩
 ·refine ⟨get_lt h, fun r hr => ?_⟩
  unfold rowOf at hr; rw [h] at hr; cases hr
 ·refine ⟨get_lt h, fun r' hr => ?_⟩
  unfold rowOf at hr; rw [h] at hr; injection hr with hr; subst hr; exact get_lt h2
theorem BldIs.app {objs : List OB} {b : Nat} {T : TypeId} {l : List UInt8} (h : BldIs objs b T l) (more : List OB) : BldIs (objs ++ more) b T l ∧ rowOf (objs ++ more) b = rowOf objs b := by
 have hlt := h.lt.1
 have e : (objs ++ more)[b]? = objs[b]? := List.getElem?_append_left hlt
 refine ⟨?_, by unfold rowOf; rw [e]⟩
 rcases h with ⟨h, h2⟩ | ⟨r, gen, h, h2⟩
 ·exact .inl ⟨by rw [e]; exact h, h2⟩
 ·exact .inr ⟨r, gen, by rw [e]; exact h, by rw [List.getElem?_append_left (get_lt h2)]; exact h2⟩
theorem Kept.drop {objs more objs' : List OB} {b : Nat} {T : TypeId} {l : List UInt8} (h : BldIs objs b T l) (k : Kept (objs ++ more) b objs') : Kept objs b objs' := by
 refine ⟨by have := k.1; simp at this; omega, fun j ob h1 h2 h3 => k.2 j ob (by rw [List.getElem?_append_left (get_lt h1)]; exact h1) h2 (by rw [(h.app more).2]; exact h3)⟩
theorem byA_append (a b : List UInt8) : byA (a ++ b) = byA a ++ byA b := by simp [byA]
section
variable [Tabs Try.prog] {objs : List OB} {K : List OB → AV → Prop}
end
end Go.Proofs.Ytkcaghhfnmeknaa
namespace Go.Proofs.Ytkcaghhfnmeknaa
open Go.RowKit Sx
section
variable [Tabs Try.prog] {objs : List OB} {K : List OB → AV → Prop}
end
end Go.Proofs.Ytkcaghhfnmeknaa
namespace Go.Proofs.Ytkcaghhfnmeknaa
open Go.RowKit Sx
def fcells (l : List (List UInt8 × List UInt8)) : List AV := l.flatMap fun p => [.s p.1, .s p.2]
theorem fcells_len (l : List (List UInt8 × List UInt8)) : (fcells l).length = l.length * 2 := by
 induction l with
 | nil => rfl
 | cons p l ih => simp [fcells] at ih ⊢; omega
theorem fcells_snoc (l : List (List UInt8 × List UInt8)) (p : List UInt8 × List UInt8) : fcells (l ++ [p]) = fcells l ++ [.s p.1, .s p.2] := by simp [fcells]
theorem pubs_fields (objs : List OB) (d : Nat) : ∀ l : List (List UInt8 × List UInt8), pubs objs d (fcells l) = some (fcells l)
 | [] => by simp [pubs, fcells]
 | x :: l => by
  have h := pubs_fields objs d l
  have h1 : ∀ y, pub objs d (AV.s y) = some (AV.s y) := by intro y; cases d <;> simp [pub, AV.plain]
  show pubs objs d (AV.s x.1 :: AV.s x.2 :: fcells l) = _
  simp only [pubs, h1, h]
  rfl
theorem og_n (l : List OB) (x : OB) : (l ++ [x])[l.length]? = some x := by simp
theorem os_n (l : List OB) (x y : OB) : (l ++ [x]).set l.length y = l ++ [y] := by simp
section
variable [Tabs Try.prog] {objs : List OB} {K : List OB → AV → Prop}
end
end Go.Proofs.Ytkcaghhfnmeknaa
namespace Go.Proofs.Ytkcaghhfnmeknaa
open List renaming replicate → z6
open Nat renaming reduceAdd → z7, reduceSub → z8, reduceLeDiff → q7, reduceLT → q8, reduceMul → q9, reduceEqDiff → j2
open Int renaming reduceToNat → j3, reduceAdd → j4, reduceSub → j5, reduceMul → j6, reduceNeg → j7, reduceLT → j8, reduceLE → j9, reduceEq → x0, reduceNe → x3
open Go.RowKit Sx
section
variable [Tabs Try.prog] {objs : List OB} {K : List OB → AV → Prop}
set_option maxRecDepth 100000 in
theorem hrTokens_k (s : List UInt8) (hs : s.length ≤ 9000000000000000000) (hk : K objs (.b (tokenB s))) : CallOk Try.prog 83 [.s s] objs K := by
 refine fn_rn is_ref01_Tokens rfl fun C _ => ?_
 simp only [c_ref01_Tokens, sxZ, evs, evp, setd, SV.ev, AV.flat, AV.one, AV.cells, resAs, resA, tupA, pub, pubs, AV.plain, plains, srcOf, splice, fillA, eqA, eqAs, z6, z7, z8, q7, q8, q9, j2, j3, j4, j5, j6, j7, j8, j9, x0, x3, reduceCtorEq, ↓reduceIte]
 unfold tokenB at hk
 refine rn_loop (fun n objs tm => ∃ i : Nat, i ≤ s.length ∧ n = s.length - i ∧ objs = [] ∧ (∀ j (h : j < s.length), j < i → isTok s[j] = true) ∧ tm.length = 17 ∧ tm[0]? = some (.s s) ∧ tm[3]? = some (.i .i64 i)) s.length ⟨0, Nat.zero_le _, rfl, rfl, fun j h h0 => absurd h0 (by omega), rfl, rfl, rfl⟩ ?_
 rintro n _ tm ⟨i, hi, rfl, rfl, hall, hlen, t0, t3⟩
 by_cases hlt : (i : Int) < s.length
 ·have hlt' : i < s.length := by omega
  have hg := getD_get hlt'
  simp only [sxZ, evs, evp, setd, SV.ev, AV.flat, AV.one, AV.cells, resAs, resA, tupA, pub, pubs, AV.plain, plains, srcOf, splice, fillA, eqA, eqAs, z6, z7, z8, q7, q8, q9, j2, j3, j4, j5, j6, j7, j8, j9, x0, x3, reduceCtorEq, ↓reduceIte, List.getElem?_set, hlen, t0, t3, hlt]
  refine ⟨by omega, ?_⟩
  rw [hg]
  refine kcall (raTok_k s[i] ?_)
  by_cases hd : isTok s[i] = true
  ·simp only [hd, sxZ, evs, evp, setd, SV.ev, AV.flat, AV.one, AV.cells, resAs, resA, tupA, pub, pubs, AV.plain, plains, srcOf, splice, fillA, eqA, eqAs, z6, z7, z8, q7, q8, q9, j2, j3, j4, j5, j6, j7, j8, j9, x0, x3, reduceCtorEq, ↓reduceIte, List.getElem?_set, hlen, t0, t3]
   refine ⟨by omega, s.length - (i + 1), by omega, i + 1, by omega, rfl, ?_, rfl⟩
   intro j hj hji
   rcases Nat.lt_or_ge j i with h1 | h1
   ·exact hall j hj h1
   ·obtain rfl : j = i := by omega
    exact hd
  ·simp only [Bool.not_eq_true] at hd
   rw [all_not hlt' hd, Bool.and_false] at hk
   simp only [hd, sxZ, evs, evp, setd, SV.ev, AV.flat, AV.one, AV.cells, resAs, resA, tupA, pub, pubs, AV.plain, plains, srcOf, splice, fillA, eqA, eqAs, z6, z7, z8, q7, q8, q9, j2, j3, j4, j5, j6, j7, j8, j9, x0, x3, reduceCtorEq, ↓reduceIte, List.getElem?_set, hlen, t0, t3]
   exact hk
 ·obtain rfl : i = s.length := by omega
  rw [all_of fun j h => hall j h h, Bool.and_true] at hk
  have e : (!s.isEmpty) = decide (¬ s = []) := by cases s <;> simp
  rw [e] at hk
  simp only [sxZ, evs, evp, setd, SV.ev, AV.flat, AV.one, AV.cells, resAs, resA, tupA, pub, pubs, AV.plain, plains, srcOf, splice, fillA, eqA, eqAs, z6, z7, z8, q7, q8, q9, j2, j3, j4, j5, j6, j7, j8, j9, x0, x3, reduceCtorEq, ↓reduceIte, List.getElem?_set, hlen, t0, t3, hlt]
  exact hk
end
end Go.Proofs.Ytkcaghhfnmeknaa
namespace Go.Proofs.Ytkcaghhfnmeknaa
open Go.RowKit Sx
section
variable [Tabs Try.prog] {objs : List OB} {K : List OB → AV → Prop}
end
end Go.Proofs.Ytkcaghhfnmeknaa
namespace Go.Proofs.Ytkcaghhfnmeknaa
open Go.RowKit Sx
end Go.Proofs.Ytkcaghhfnmeknaa
namespace Go.Proofs.Ytkcaghhfnmeknaa
open Go.RowKit
end Go.Proofs.Ytkcaghhfnmeknaa
namespace Go.Proofs.Ytkcaghhfnmeknaa
open Go.RowKit
end Go.Proofs.Ytkcaghhfnmeknaa
namespace Go.Proofs.Ytkcaghhfnmeknaa
open Go.RowKit
theorem Brow.cap {w : World} {B g n cap : Nat} {l : List UInt8} (h : Brow w B (.slice (some ⟨g, 0, none⟩) n cap) l) : n = l.length ∧ n ≤ cap ∧ cap ≤ maxLen := by
 rcases h.2 with ⟨e, _⟩ | ⟨g', cap', cur, e, hb, hg, hnc, hcm, _⟩
 ·simp at e
 ·simp only [Value.slice.injEq] at e
  obtain ⟨_, rfl, rfl⟩ := e
  exact ⟨rfl, hnc, hcm⟩
end Go.Proofs.Ytkcaghhfnmeknaa
namespace Go.Proofs.Ytkcaghhfnmeknaa
open Go.RowKit
end Go.Proofs.Ytkcaghhfnmeknaa
namespace Go.Proofs.Ytkcaghhfnmeknaa
open Go.RowKit
attribute [local go_sem ↓] Go.wp_at_zero Go.wp_at_succ
end Go.Proofs.Ytkcaghhfnmeknaa
namespace Go.Proofs.Ytkcaghhfnmeknaa
open Go.RowKit Sx
theorem strs_den (G : Gh) (I : Imm) : ∀ (xs : List (List UInt8)) (ys : List Value), Dens G I (xs.map .s) ys → ys = xs.map fun l => .string ⟨l.toArray⟩
 | [], ys, h => by simpa [Dens] using h
 | x :: xs, ys, h => by
  simp only [List.map_cons, Dens, Den] at h
  obtain ⟨y, ys', rfl, rfl, h2⟩ := h
  rw [strs_den G I xs ys' h2]; rfl
section
variable [Tabs Try.prog] {objs : List OB} {K : List OB → AV → Prop}
end
end Go.Proofs.Ytkcaghhfnmeknaa
namespace Go.Proofs.Ytkcaghhfnmeknaa
open Go.RowKit Sx
theorem callok_res {P : Program} [Tabs P] {f : FuncId} {args : List AV} {objs : List OB} {K : List OB → AV → Prop} (r' : AV) (hc : CallOk P f args objs (fun o r => (∀ G I y, Den G I r y → Den G I r' y) ∧ K o r')) : CallOk P f args objs K := by
 intro C _ G I w hin hm ys hd
 refine (hc C G I w hin hm ys hd).mono ?_
 rintro e w' ⟨y, objs', r, G', I', he, ⟨hr, hk⟩, h1, h2, h3, h4, hy⟩
 exact ⟨y, objs', r', G', I', he, hk, h1, h2, h3, h4, hr _ _ _ hy⟩
theorem den_nil_row {G : Gh} {I : Imm} {y : Value} (h : Den G I .nil y) : Den G I (.row 0 []) y := by
 simp only [Den] at h ⊢
 exact ⟨none, 0, [], h, ⟨Nat.le_refl _, fun ad h => by cases h⟩, Dens.nil, by simp, by simp⟩
def hdAV (mi st : Int) (l : List (List UInt8 × List UInt8)) : AV := .agg [.i .i64 mi, .i .i64 st, .row l.length (fcells l)]
theorem fc_plain : ∀ l : List (List UInt8 × List UInt8), plains (fcells l) = true
 | [] => rfl
 | p :: l => fc_plain l
theorem strs_plain : ∀ l : List (List UInt8), plains (l.map AV.s) = true
 | [] => rfl
 | x :: l => strs_plain l
theorem fc_at {l : List (List UInt8 × List UInt8)} {i : Nat} (h : i < l.length) : ((fcells l).drop (i * 2)).take 2 = [.s l[i].1, .s l[i].2] := by
 induction l generalizing i with
 | nil => simp at h
 | cons p l ih =>
  cases i with
  | zero => rfl
  | succ i =>
   have e : (i + 1) * 2 = i * 2 + 1 + 1 := by omega
   rw [e]
   show ((fcells l).drop (i * 2)).take 2 = _
   rw [ih (by simpa using h)]
   rfl
structure Few (l : List (List UInt8 × List UInt8)) : Prop where
 num : l.length ≤ 100
 len : ∀ p ∈ l, p.1.length + p.2.length ≤ 20000
section
variable [Tabs Try.prog] {objs : List OB} {K : List OB → AV → Prop}
end
end Go.Proofs.Ytkcaghhfnmeknaa
namespace Go.Proofs.Ytkcaghhfnmeknaa
open List renaming replicate → z6
open Nat renaming reduceAdd → z7, reduceSub → z8, reduceLeDiff → q7, reduceLT → q8, reduceMul → q9, reduceEqDiff → j2
open Int renaming reduceToNat → j3, reduceAdd → j4, reduceSub → j5, reduceMul → j6, reduceNeg → j7, reduceLT → j8, reduceLE → j9, reduceEq → x0, reduceNe → x3
open Go.RowKit Sx
def keepL (l : List (List UInt8 × List UInt8)) : Bool := decide (l.length ≤ 80) && l.all fun p => decide (p.1.length + p.2.length ≤ 600)
theorem keepL_few {l : List (List UInt8 × List UInt8)} (h : keepL l = true) : l.length ≤ 80 ∧ Few l := by
 unfold keepL at h
 rw [Bool.and_eq_true, List.all_eq_true] at h
 have h1 := of_decide_eq_true h.1
 refine ⟨h1, by omega, fun p hp => ?_⟩
 have := of_decide_eq_true (h.2 p hp)
 omega
section
variable [Tabs Try.prog] {objs : List OB} {K : List OB → AV → Prop}
set_option maxRecDepth 100000 in
theorem keepHead_k (mi st : Int) (l : List (List UInt8 × List UInt8)) (hp : ∀ p ∈ l, p.1.length ≤ 140737488351232 ∧ p.2.length ≤ 140737488351232) (hk : K objs (.b (keepL l))) : CallOk Try.prog 22 [hdAV mi st l] objs K := by
 refine fn_rn is_keep_Head (by simp [hdAV, plains, AV.plain, fc_plain]) fun C _ => ?_
 unfold keepL at hk
 by_cases c1 : (80 : Int) < l.length
 ·rw [decide_eq_false (by omega)] at hk
  simp only [hdAV, c1, c_keep_Head, sxZ, evs, evp, setd, SV.ev, AV.flat, AV.one, AV.cells, resAs, resA, tupA, pub, pubs, AV.plain, plains, srcOf, splice, fillA, eqA, eqAs, z6, z7, z8, q7, q8, q9, j2, j3, j4, j5, j6, j7, j8, j9, x0, x3, reduceCtorEq, ↓reduceIte]
  exact hk
 ·rw [decide_eq_true (by omega), Bool.true_and] at hk
  simp only [hdAV, c1, c_keep_Head, sxZ, evs, evp, setd, SV.ev, AV.flat, AV.one, AV.cells, resAs, resA, tupA, pub, pubs, AV.plain, plains, srcOf, splice, fillA, eqA, eqAs, z6, z7, z8, q7, q8, q9, j2, j3, j4, j5, j6, j7, j8, j9, x0, x3, reduceCtorEq, ↓reduceIte]
  refine rn_loop (fun n objs tm => ∃ i : Nat, i ≤ l.length ∧ n = l.length - i ∧ tm.length = 25 ∧ tm[10]? = some (.row l.length (fcells l)) ∧ tm[11]? = some (.i .i64 l.length) ∧ tm[12]? = some (.i .i64 i) ∧ ∀ p ∈ l.take i, p.1.length + p.2.length ≤ 600) l.length ⟨0, Nat.zero_le _, rfl, rfl, rfl, rfl, rfl, by simp⟩ ?_
  rintro n objs tm ⟨i, hi, rfl, hlen, t10, t11, t12, hall⟩
  by_cases hlt : (i : Int) < l.length
  ·have hlt' : i < l.length := by omega
   have hat := fc_at hlt'
   have hfl := fcells_len l
   have hpl := hp _ (List.getElem_mem hlt')
   by_cases c2 : (600 : Int) < (l[i].1.length : Int) + l[i].2.length
   ·have e : (l.all fun p => decide (p.1.length + p.2.length ≤ 600)) = false := by
     rw [List.all_eq_false]
     exact ⟨l[i], List.getElem_mem hlt', by rw [decide_eq_true_iff]; omega⟩
    rw [e] at hk
    simp only [sxZ, evs, evp, setd, SV.ev, AV.flat, AV.one, AV.cells, resAs, resA, tupA, pub, pubs, AV.plain, plains, srcOf, splice, fillA, eqA, eqAs, z6, z7, z8, q7, q8, q9, j2, j3, j4, j5, j6, j7, j8, j9, x0, x3, reduceCtorEq, ↓reduceIte, List.getElem?_set, hlen, t10, t11, t12, hlt, c2, Int.toNat_natCast, hat, gn1, sn1]
    exact ⟨by omega, by omega, ⟨by omega, by omega⟩, hk⟩
   ·simp only [sxZ, evs, evp, setd, SV.ev, AV.flat, AV.one, AV.cells, resAs, resA, tupA, pub, pubs, AV.plain, plains, srcOf, splice, fillA, eqA, eqAs, z6, z7, z8, q7, q8, q9, j2, j3, j4, j5, j6, j7, j8, j9, x0, x3, reduceCtorEq, ↓reduceIte, List.getElem?_set, hlen, t10, t11, t12, hlt, c2, Int.toNat_natCast, hat, gn1, sn1]
    refine ⟨by omega, by omega, ⟨by omega, by omega⟩, ⟨by omega, by omega⟩, l.length - (i + 1), by omega, i + 1, by omega, rfl, rfl, ?_⟩
    intro p hpm
    rw [List.take_succ_eq_append_getElem hlt'] at hpm
    rcases List.mem_append.1 hpm with h | h
    ·exact hall p h
    ·rw [List.mem_singleton] at h; subst h; omega
  ·obtain rfl : i = l.length := by omega
   rw [List.take_of_length_le (Nat.le_refl _)] at hall
   have e : (l.all fun p => decide (p.1.length + p.2.length ≤ 600)) = true := List.all_eq_true.2 fun p hp => decide_eq_true (hall p hp)
   rw [e] at hk
   simp only [sxZ, evs, evp, setd, SV.ev, AV.flat, AV.one, AV.cells, resAs, resA, tupA, pub, pubs, AV.plain, plains, srcOf, splice, fillA, eqA, eqAs, z6, z7, z8, q7, q8, q9, j2, j3, j4, j5, j6, j7, j8, j9, x0, x3, reduceCtorEq, ↓reduceIte, List.getElem?_set, hlen, t10, t11, t12, hlt]
   exact hk
set_option maxRecDepth 100000 in
theorem sameFields_k (a b : List (List UInt8 × List UInt8)) (ha : a.length ≤ 1000000) (hk : K objs (.b (decide (a = b)))) : CallOk Try.prog 28 [.row a.length (fcells a), .row b.length (fcells b)] objs K := by
 refine fn_rn is_ref18_SameFields (by simp [plains, AV.plain, fc_plain]) fun C _ => ?_
 by_cases c1 : (a.length : Int) = b.length
 ·simp only [c1, c_ref18_SameFields, sxZ, evs, evp, setd, SV.ev, AV.flat, AV.one, AV.cells, resAs, resA, tupA, pub, pubs, AV.plain, plains, srcOf, splice, fillA, eqA, eqAs, z6, z7, z8, q7, q8, q9, j2, j3, j4, j5, j6, j7, j8, j9, x0, x3, reduceCtorEq, ↓reduceIte]
  have c1' : a.length = b.length := by omega
  refine rn_loop (fun n objs tm => ∃ i : Nat, i ≤ a.length ∧ n = a.length - i ∧ tm.length = 26 ∧ tm[0]? = some (.row a.length (fcells a)) ∧ tm[1]? = some (.row b.length (fcells b)) ∧ tm[12]? = some (.i .i64 b.length) ∧ tm[13]? = some (.i .i64 i) ∧ a.take i = b.take i) a.length ⟨0, Nat.zero_le _, rfl, rfl, rfl, rfl, rfl, rfl, rfl⟩ ?_
  rintro n objs tm ⟨i, hi, rfl, hlen, t0, t1, t12, t13, hall⟩
  by_cases hlt : (i : Int) < b.length
  ·have hlt' : i < a.length := by omega
   have hltb : i < b.length := by omega
   have hat := fc_at hlt'
   have hbt := fc_at hltb
   have hfl := fcells_len a
   have hfb := fcells_len b
   have hne : a[i] ≠ b[i] → a ≠ b := by
    rintro h rfl; exact h rfl
   have e : (decide (a[i].1 = b[i].1) && decide (a[i].2 = b[i].2)) = decide (a[i] = b[i]) := by
    rw [← Bool.decide_and, decide_eq_decide]
    exact ⟨fun h => Prod.ext h.1 h.2, fun h => by rw [h]; exact ⟨rfl, rfl⟩⟩
   by_cases c2 : a[i] = b[i]
   ·rw [decide_eq_true c2] at e
    simp only [sxZ, evs, evp, setd, SV.ev, AV.flat, AV.one, AV.cells, resAs, resA, tupA, pub, pubs, AV.plain, plains, srcOf, splice, fillA, eqA, eqAs, z6, z7, z8, q7, q8, q9, j2, j3, j4, j5, j6, j7, j8, j9, x0, x3, reduceCtorEq, ↓reduceIte, List.getElem?_set, hlen, t0, t1, t12, t13, hlt, Int.toNat_natCast, hat, hbt, e]
    refine ⟨⟨by omega, by omega⟩, by omega, ⟨by omega, by omega⟩, by omega, ⟨by omega, by omega⟩, a.length - (i + 1), by omega, i + 1, by omega, rfl, rfl, ?_⟩
    rw [List.take_succ_eq_append_getElem hlt', List.take_succ_eq_append_getElem hltb, hall, c2]
   ·rw [decide_eq_false c2] at e
    rw [decide_eq_false (hne c2)] at hk
    simp only [sxZ, evs, evp, setd, SV.ev, AV.flat, AV.one, AV.cells, resAs, resA, tupA, pub, pubs, AV.plain, plains, srcOf, splice, fillA, eqA, eqAs, z6, z7, z8, q7, q8, q9, j2, j3, j4, j5, j6, j7, j8, j9, x0, x3, reduceCtorEq, ↓reduceIte, List.getElem?_set, hlen, t0, t1, t12, t13, hlt, Int.toNat_natCast, hat, hbt, e]
    exact ⟨⟨by omega, by omega⟩, by omega, ⟨by omega, by omega⟩, by omega, hk⟩
  ·obtain rfl : i = a.length := by omega
   rw [List.take_of_length_le (Nat.le_refl _), List.take_of_length_le (by omega)] at hall
   rw [decide_eq_true hall] at hk
   simp only [sxZ, evs, evp, setd, SV.ev, AV.flat, AV.one, AV.cells, resAs, resA, tupA, pub, pubs, AV.plain, plains, srcOf, splice, fillA, eqA, eqAs, z6, z7, z8, q7, q8, q9, j2, j3, j4, j5, j6, j7, j8, j9, x0, x3, reduceCtorEq, ↓reduceIte, List.getElem?_set, hlen, t0, t1, t12, t13, hlt]
   exact hk
 ·rw [decide_eq_false (by rintro rfl; exact c1 rfl)] at hk
  simp only [c1, c_ref18_SameFields, sxZ, evs, evp, setd, SV.ev, AV.flat, AV.one, AV.cells, resAs, resA, tupA, pub, pubs, AV.plain, plains, srcOf, splice, fillA, eqA, eqAs, z6, z7, z8, q7, q8, q9, j2, j3, j4, j5, j6, j7, j8, j9, x0, x3, reduceCtorEq, ↓reduceIte]
  exact hk
end
end Go.Proofs.Ytkcaghhfnmeknaa
namespace Go.Proofs.Ytkcaghhfnmeknaa
open Go.RowKit Sx
def parE (l : List UInt8) : Option ((List UInt8 × List UInt8) × Nat) :=
 if tokN l = 0 then none
 else if (l.drop (tokN l)).head? = some 61 then (wordE (l.drop (tokN l + 1))).map fun p => ((lowL (l.take (tokN l)), p.1), tokN l + 1 + p.2)
 else none
theorem parE_le {l : List UInt8} {d : List UInt8 × List UInt8} {k : Nat} (h : parE l = some (d, k)) : k ≤ l.length ∧ 1 ≤ k ∧ d.1.length + d.2.length ≤ k := by
 unfold parE at h
 have ht := tokN_le l
 split at h
 ·cases h
 ·split at h
  ·obtain ⟨p, hp, he⟩ := Option.map_eq_some_iff.1 h
   injection he with h1 h2
   subst h1 h2
   have := wordE_le (x := p.1) (k := p.2) hp
   simp only [List.length_drop] at this
   simp only [lowL, List.length_map, List.length_take]; omega
  ·cases h
def parsE : Nat → List UInt8 → List (List UInt8 × List UInt8) → Option (List (List UInt8 × List UInt8))
 | 0, _, _ => none
 | f + 1, l, acc => match l with
  | [] => some acc
  | c :: t => if c = 59 then match parE (skipL t) with
    | none => none
    | some (d, k) => parsE f (skipL ((skipL t).drop k)) (acc ++ [d])
   else none
theorem parsE_cons (f : Nat) (c : UInt8) (t : List UInt8) (acc : List (List UInt8 × List UInt8)) : parsE (f + 1) (c :: t) acc = if c = 59 then match parE (skipL t) with
    | none => none
    | some (d, k) => parsE f (skipL ((skipL t).drop k)) (acc ++ [d])
   else none := rfl
theorem parsE_fuel : ∀ (f g : Nat) (l : List UInt8) (acc : List (List UInt8 × List UInt8)), l.length < f → l.length < g → parsE f l acc = parsE g l acc
 | 0, g, l, acc, h, _ => absurd h (by omega)
 | f + 1, 0, l, acc, _, h => absurd h (by omega)
 | f + 1, g + 1, [], acc, _, _ => rfl
 | f + 1, g + 1, c :: t, acc, hf, hg => by
  rw [List.length_cons] at hf hg
  rw [parsE_cons, parsE_cons]
  have h1 := skipL_len t
  split
  ·cases hd : parE (skipL t) with
   | none => rfl
   | some p =>
    obtain ⟨d, k⟩ := p
    have h2 := parE_le hd
    have h3 := skipL_len ((skipL t).drop k)
    rw [List.length_drop] at h3
    simp only
    exact parsE_fuel f g _ _ (by omega) (by omega)
  ·rfl
def mediaE (s : List UInt8) : Option (List UInt8 × List UInt8 × List (List UInt8 × List UInt8)) :=
 if tokN (skipL s) = 0 then none
 else if ((skipL s).drop (tokN (skipL s))).head? = some 47 then
  if tokN ((skipL s).drop (tokN (skipL s) + 1)) = 0 then none
  else (parsE (s.length + 1) (skipL (((skipL s).drop (tokN (skipL s) + 1)).drop (tokN ((skipL s).drop (tokN (skipL s) + 1))))) []).map fun ps => (lowL ((skipL s).take (tokN (skipL s))), lowL (((skipL s).drop (tokN (skipL s) + 1)).take (tokN ((skipL s).drop (tokN (skipL s) + 1)))), ps)
 else none
def nxM (s : List UInt8) (a : Nat) : Nat := a + blkN (s.drop a)
theorem nxM_le {s : List UInt8} {a : Nat} (h : a ≤ s.length) : a ≤ nxM s a ∧ nxM s a ≤ s.length := by
 unfold nxM
 have := blkN_le (s.drop a)
 rw [List.length_drop] at this
 omega
theorem nxM_drop (s : List UInt8) (a : Nat) : s.drop (nxM s a) = skipL (s.drop a) := by
 unfold nxM skipL
 rw [List.drop_drop]
def parsAt (s : List UInt8) (p : Nat) (acc : List (List UInt8 × List UInt8)) : Option (List (List UInt8 × List UInt8)) := parsE ((s.drop p).length + 1) (s.drop p) acc
theorem parsAt_end (s : List UInt8) (acc : List (List UInt8 × List UInt8)) : parsAt s s.length acc = some acc := by
 unfold parsAt
 rw [List.drop_length]; rfl
theorem parsAt_step {s : List UInt8} {p : Nat} {acc : List (List UInt8 × List UInt8)} (h : p < s.length) : parsAt s p acc = if s[p] = 59 then match parE (s.drop (nxM s (p + 1))) with
  | none => none
  | some (d, k) => parsAt s (nxM s (nxM s (p + 1) + k)) (acc ++ [d])
 else none := by
 unfold parsAt
 rw [List.drop_eq_getElem_cons h, List.length_cons, parsE_cons, ← nxM_drop]
 split
 ·cases hd : parE (s.drop (nxM s (p + 1))) with
  | none => rfl
  | some q =>
   obtain ⟨d, k⟩ := q
   have h2 := parE_le hd
   obtain ⟨n1, n2⟩ := nxM_le (s := s) (a := p + 1) (by omega)
   rw [List.length_drop] at h2
   simp only
   rw [List.drop_drop, ← nxM_drop]
   obtain ⟨m1, m2⟩ := nxM_le (s := s) (a := nxM s (p + 1) + k) (by omega)
   exact parsE_fuel _ _ _ _ (by simp only [List.length_drop]; omega) (by omega)
 ·rfl
theorem mediaE_at (s : List UInt8) : mediaE s = if tokN (s.drop (nxM s 0)) = 0 then none
 else if (s.drop (nxM s 0 + tokN (s.drop (nxM s 0)))).head? = some 47 then
  if tokN (s.drop (nxM s 0 + tokN (s.drop (nxM s 0)) + 1)) = 0 then none
  else (parsAt s (nxM s (nxM s 0 + tokN (s.drop (nxM s 0)) + 1 + tokN (s.drop (nxM s 0 + tokN (s.drop (nxM s 0)) + 1)))) []).map fun ps => (lowL ((s.drop (nxM s 0)).take (tokN (s.drop (nxM s 0)))), lowL ((s.drop (nxM s 0 + tokN (s.drop (nxM s 0)) + 1)).take (tokN (s.drop (nxM s 0 + tokN (s.drop (nxM s 0)) + 1)))), ps)
 else none := by
 unfold mediaE parsAt
 have e : skipL s = s.drop (nxM s 0) := by rw [nxM_drop]; rfl
 rw [e]
 have h : ∀ a : Nat, parsE (s.length + 1) (skipL (s.drop a)) [] = parsE ((s.drop (nxM s a)).length + 1) (s.drop (nxM s a)) [] := by
  intro a
  rw [nxM_drop]
  have := skipL_len (s.drop a)
  rw [List.length_drop] at this
  exact parsE_fuel _ _ _ _ (by omega) (by omega)
 simp only [List.drop_drop, h, Nat.add_assoc]
def escL (s : List UInt8) : List UInt8 := s.flatMap fun c => if c = 34 ∨ c = 92 then [92, c] else [c]
def writeL (s : List UInt8) : List UInt8 := if tokenB s = true then s else 34 :: (escL s ++ [34])
def parL (p : List UInt8 × List UInt8) : List UInt8 := [59, 32] ++ p.1 ++ [61] ++ writeL p.2
def fmtM (t u : List UInt8) (ps : List (List UInt8 × List UInt8)) : List UInt8 := t ++ [47] ++ u ++ ps.flatMap parL
theorem escL_len (s : List UInt8) : (escL s).length ≤ 2 * s.length := by
 induction s with
 | nil => simp [escL]
 | cons c s ih =>
  unfold escL at ih ⊢
  rw [List.flatMap_cons, List.length_append, List.length_cons]
  split <;> simp only [List.length_cons, List.length_nil] <;> omega
theorem writeL_len (s : List UInt8) : (writeL s).length ≤ 2 * s.length + 2 := by
 have := escL_len s
 unfold writeL
 split
 ·omega
 ·simp only [List.length_cons, List.length_append, List.length_nil]; omega
theorem escL_snoc (s : List UInt8) (i : Nat) (h : i < s.length) : escL (s.take (i + 1)) = escL (s.take i) ++ (if s[i] = 34 ∨ s[i] = 92 then [92, s[i]] else [s[i]]) := by
 unfold escL
 rw [List.take_succ_eq_append_getElem h, List.flatMap_append]
 simp
def charN : List UInt8 := [99, 104, 97, 114, 115, 101, 116]
def utf8N : List UInt8 := [117, 116, 102, 45, 56]
def plainE (ps : List (List UInt8 × List UInt8)) : Bool := ps.all fun p => !(decide (p.1 = charN) && !eqL p.2 utf8N)
def appN : List UInt8 := [97, 112, 112, 108, 105, 99, 97, 116, 105, 111, 110]
def isTx (subs : List (List UInt8)) (t u : List UInt8) (ps : List (List UInt8 × List UInt8)) : Bool := decide (t = appN) && (decide (u ∈ subs) && plainE ps)
def jrdN : List UInt8 := [106, 114, 100, 43, 106, 115, 111, 110]
def jsonN : List UInt8 := [106, 115, 111, 110]
def didN : List UInt8 := [100, 105, 100, 43, 106, 115, 111, 110]
def ldN : List UInt8 := [100, 105, 100, 43, 108, 100, 43, 106, 115, 111, 110]
def mAV (t u : List UInt8) (ps : List (List UInt8 × List UInt8)) : AV := .agg [.s t, .s u, .row ps.length (fcells ps)]
end Go.Proofs.Ytkcaghhfnmeknaa
namespace Go.Proofs.Ytkcaghhfnmeknaa
open List renaming replicate → z6
open Nat renaming reduceAdd → z7, reduceSub → z8, reduceLeDiff → q7, reduceLT → q8, reduceMul → q9, reduceEqDiff → j2
open Int renaming reduceToNat → j3, reduceAdd → j4, reduceSub → j5, reduceMul → j6, reduceNeg → j7, reduceLT → j8, reduceLE → j9, reduceEq → x0, reduceNe → x3
open Go.RowKit Sx
section
attribute [local irreducible] run
theorem blank_nat (c : UInt8) : blank c = decide (((c.toNat : Nat) : Int) = 32 ∨ ((c.toNat : Nat) : Int) = 9) := by
 unfold blank
 rw [decide_eq_decide]
 omega
theorem slice_word (s : List UInt8) (a k : Nat) : List.drop a (List.take (a + k) s) = (s.drop a).take k := by
 rw [List.drop_take, Nat.add_sub_cancel_left]
theorem quo_at (s : List UInt8) (i : Nat) (h : i < s.length) : quoE (s.drop i) = (if s[i] = 34 then some ([], 1)
  else if s[i] = 92 then (if h2 : i + 1 < s.length then (if isPrt s[i + 1] = true then (quoE (s.drop (i + 2))).map fun p => (s[i + 1] :: p.1, p.2 + 2) else none) else none)
  else if isPrt s[i] = true then (quoE (s.drop (i + 1))).map fun p => (s[i] :: p.1, p.2 + 1) else none) := by
 rw [List.drop_eq_getElem_cons h]
 by_cases h2 : i + 1 < s.length
 ·rw [dif_pos h2, List.drop_eq_getElem_cons h2, quoE_two]
 ·rw [dif_neg h2, List.drop_eq_nil_of_le (by omega), quoE_one]
  rfl
theorem byte_eq (c : UInt8) (n : Nat) (hn : n < 256) : (((c.toNat : Nat) : Int) = n) ↔ c = UInt8.ofNat n := by
 constructor
 ·intro h
  apply UInt8.toNat_inj.1
  rw [UInt8.toNat_ofNat']; omega
 ·rintro rfl
  rw [UInt8.toNat_ofNat']; omega
theorem quo_step {s : List UInt8} {a i k : Nat} {acc x : List UInt8} (hq : quoE (s.drop (a + 1)) = (quoE (s.drop i)).map fun p => (acc ++ p.1, i - (a + 1) + p.2)) (h : quoE (s.drop i) = some (x, k)) : quoE (s.drop (a + 1)) = some (acc ++ x, i - (a + 1) + k) := by
 rw [hq, h]; rfl
theorem quo_none {s : List UInt8} {a i : Nat} {acc : List UInt8} (hq : quoE (s.drop (a + 1)) = (quoE (s.drop i)).map fun p => (acc ++ p.1, i - (a + 1) + p.2)) (h : quoE (s.drop i) = none) : quoE (s.drop (a + 1)) = none := by
 rw [hq, h]; rfl
theorem quo_more {s : List UInt8} {a i j d : Nat} {acc : List UInt8} {c : UInt8} (hi : a + 1 ≤ i) (hij : j = i + d) (hq : quoE (s.drop (a + 1)) = (quoE (s.drop i)).map fun p => (acc ++ p.1, i - (a + 1) + p.2)) (h : quoE (s.drop i) = (quoE (s.drop j)).map fun p => (c :: p.1, p.2 + d)) :
  quoE (s.drop (a + 1)) = (quoE (s.drop j)).map fun p => (acc ++ [c] ++ p.1, j - (a + 1) + p.2) := by
 rw [hq, h, Option.map_map]
 congr 1
 funext p
 simp only [Function.comp_def, Prod.mk.injEq]
 refine ⟨by simp, by omega⟩
theorem word_at {s : List UInt8} {a : Nat} (h : a < s.length) : (s.drop a).head? = some s[a] ∧ (s.drop a).tail = s.drop (a + 1) := by
 rw [List.drop_eq_getElem_cons h]; exact ⟨rfl, rfl⟩
section
variable [Tabs Try.prog] {objs : List OB} {K : List OB → AV → Prop}
theorem raBlank_k (c : UInt8) (hk : K objs (.b (blank c))) : CallOk Try.prog 84 [.i .u8 c.toNat] objs K :=
 convs (vs := [.int .u8 c.toNat]) rfl rfl (fun w => rBlank_any c w) hk
set_option maxRecDepth 100000 in
theorem fBlanks_k (s : List UInt8) (a : Nat) (ha : a ≤ s.length) (hs : s.length ≤ 9000000000000000000) (hk : K objs (.i .i64 ((a + blkN (s.drop a) : Nat) : Int))) : CallOk Try.prog 44 [.s s, .i .i64 (a : Nat)] objs K := by
 refine fn_rn is_fieldtext_BlanksEnd rfl fun C _ => ?_
 simp only [c_fieldtext_BlanksEnd, sxZ, evs, evp, setd, SV.ev, AV.flat, AV.one, AV.cells, resAs, resA, tupA, pub, pubs, AV.plain, plains, srcOf, splice, fillA, eqA, eqAs, z6, z7, z8, q7, q8, q9, j2, j3, j4, j5, j6, j7, j8, j9, x0, x3, reduceCtorEq, ↓reduceIte]
 refine rn_loop (fun n objs tm => ∃ i : Nat, i ≤ s.length ∧ n = s.length - i ∧ objs = [] ∧ a + blkN (s.drop a) = i + blkN (s.drop i) ∧ tm.length = 24 ∧ tm[0]? = some (.s s) ∧ tm[1]? = some (.i .i64 i)) (s.length - a) ⟨a, ha, rfl, rfl, rfl, rfl, rfl, rfl⟩ ?_
 rintro n _ tm ⟨i, hi, rfl, rfl, hr, hlen, t0, t1⟩
 by_cases hlt : (i : Int) < s.length
 ·have hlt' : i < s.length := by omega
  have hg := getD_get hlt'
  have hrn := blk_at s i hlt'
  rw [blank_nat] at hrn
  by_cases c1 : (((s[i]).toNat : Nat) : Int) = 32
  ·rw [if_pos (decide_eq_true (.inl c1))] at hrn
   simp only [sxZ, evs, evp, setd, SV.ev, AV.flat, AV.one, AV.cells, resAs, resA, tupA, pub, pubs, AV.plain, plains, srcOf, splice, fillA, eqA, eqAs, z6, z7, z8, q7, q8, q9, j2, j3, j4, j5, j6, j7, j8, j9, x0, x3, reduceCtorEq, ↓reduceIte, List.getElem?_set, hlen, t0, t1, hlt, hg, c1]
   exact ⟨by omega, ⟨by omega, by omega⟩, s.length - (i + 1), by omega, i + 1, by omega, rfl, by omega, rfl⟩
  ·by_cases c2 : (((s[i]).toNat : Nat) : Int) = 9
   ·rw [if_pos (decide_eq_true (.inr c2))] at hrn
    simp only [sxZ, evs, evp, setd, SV.ev, AV.flat, AV.one, AV.cells, resAs, resA, tupA, pub, pubs, AV.plain, plains, srcOf, splice, fillA, eqA, eqAs, z6, z7, z8, q7, q8, q9, j2, j3, j4, j5, j6, j7, j8, j9, x0, x3, reduceCtorEq, ↓reduceIte, List.getElem?_set, hlen, t0, t1, hlt, hg, c1, c2]
    exact ⟨by omega, by omega, ⟨by omega, by omega⟩, s.length - (i + 1), by omega, i + 1, by omega, rfl, by omega, rfl⟩
   ·rw [if_neg (by rw [decide_eq_true_iff]; exact fun h => h.elim c1 c2)] at hrn
    simp only [sxZ, evs, evp, setd, SV.ev, AV.flat, AV.one, AV.cells, resAs, resA, tupA, pub, pubs, AV.plain, plains, srcOf, splice, fillA, eqA, eqAs, z6, z7, z8, q7, q8, q9, j2, j3, j4, j5, j6, j7, j8, j9, x0, x3, reduceCtorEq, ↓reduceIte, List.getElem?_set, hlen, t0, t1, hlt, hg, c1, c2]
    rw [hr, hrn] at hk
    exact ⟨by omega, by omega, hk⟩
 ·obtain rfl : i = s.length := by omega
  have he : blkN (s.drop s.length) = 0 := by rw [List.drop_length]; rfl
  simp only [sxZ, evs, evp, setd, SV.ev, AV.flat, AV.one, AV.cells, resAs, resA, tupA, pub, pubs, AV.plain, plains, srcOf, splice, fillA, eqA, eqAs, z6, z7, z8, q7, q8, q9, j2, j3, j4, j5, j6, j7, j8, j9, x0, x3, reduceCtorEq, ↓reduceIte, List.getElem?_set, hlen, t0, t1, hlt]
  rw [hr, he] at hk
  exact hk
set_option maxRecDepth 100000 in
theorem rSkip_k (s : List UInt8) (a : Nat) (ha : a ≤ s.length) (hs : s.length ≤ 9000000000000000000) (hk : K objs (.i .i64 ((a + blkN (s.drop a) : Nat) : Int))) : CallOk Try.prog 58 [.s s, .i .i64 (a : Nat)] objs K := by
 refine fn_rn is_ref20_Skip rfl fun C _ => ?_
 simp only [c_ref20_Skip, sxZ, evs, evp, setd, SV.ev, AV.flat, AV.one, AV.cells, resAs, resA, tupA, pub, pubs, AV.plain, plains, srcOf, splice, fillA, eqA, eqAs, z6, z7, z8, q7, q8, q9, j2, j3, j4, j5, j6, j7, j8, j9, x0, x3, reduceCtorEq, ↓reduceIte]
 refine rn_loop (fun n objs tm => ∃ i : Nat, i ≤ s.length ∧ n = s.length - i ∧ objs = [] ∧ a + blkN (s.drop a) = i + blkN (s.drop i) ∧ tm.length = 18 ∧ tm[0]? = some (.s s) ∧ tm[1]? = some (.i .i64 i)) (s.length - a) ⟨a, ha, rfl, rfl, rfl, rfl, rfl, rfl⟩ ?_
 rintro n _ tm ⟨i, hi, rfl, rfl, hr, hlen, t0, t1⟩
 by_cases hlt : (i : Int) < s.length
 ·have hlt' : i < s.length := by omega
  have hg := getD_get hlt'
  have hrn := blk_at s i hlt'
  simp only [sxZ, evs, evp, setd, SV.ev, AV.flat, AV.one, AV.cells, resAs, resA, tupA, pub, pubs, AV.plain, plains, srcOf, splice, fillA, eqA, eqAs, z6, z7, z8, q7, q8, q9, j2, j3, j4, j5, j6, j7, j8, j9, x0, x3, reduceCtorEq, ↓reduceIte, List.getElem?_set, hlen, t0, t1, hlt]
  refine ⟨by omega, ?_⟩
  rw [hg]
  refine kcall (raBlank_k s[i] ?_)
  by_cases hd : blank s[i] = true
  ·rw [if_pos hd] at hrn
   simp only [hd, sxZ, evs, evp, setd, SV.ev, AV.flat, AV.one, AV.cells, resAs, resA, tupA, pub, pubs, AV.plain, plains, srcOf, splice, fillA, eqA, eqAs, z6, z7, z8, q7, q8, q9, j2, j3, j4, j5, j6, j7, j8, j9, x0, x3, reduceCtorEq, ↓reduceIte, List.getElem?_set, hlen, t0, t1]
   exact ⟨⟨by omega, by omega⟩, s.length - (i + 1), by omega, i + 1, by omega, rfl, by omega, rfl⟩
  ·rw [if_neg hd] at hrn
   simp only [Bool.not_eq_true] at hd
   simp only [hd, sxZ, evs, evp, setd, SV.ev, AV.flat, AV.one, AV.cells, resAs, resA, tupA, pub, pubs, AV.plain, plains, srcOf, splice, fillA, eqA, eqAs, z6, z7, z8, q7, q8, q9, j2, j3, j4, j5, j6, j7, j8, j9, x0, x3, reduceCtorEq, ↓reduceIte, List.getElem?_set, hlen, t0, t1]
   rw [hr, hrn] at hk
   exact hk
 ·obtain rfl : i = s.length := by omega
  have he : blkN (s.drop s.length) = 0 := by rw [List.drop_length]; rfl
  simp only [sxZ, evs, evp, setd, SV.ev, AV.flat, AV.one, AV.cells, resAs, resA, tupA, pub, pubs, AV.plain, plains, srcOf, splice, fillA, eqA, eqAs, z6, z7, z8, q7, q8, q9, j2, j3, j4, j5, j6, j7, j8, j9, x0, x3, reduceCtorEq, ↓reduceIte, List.getElem?_set, hlen, t0, t1, hlt]
  rw [hr, he] at hk
  exact hk
set_option maxRecDepth 100000 in
theorem rTokenAt_k (s : List UInt8) (a : Nat) (ha : a ≤ s.length) (hs : s.length ≤ 9000000000000000000) (h1 : tokN (s.drop a) ≠ 0 → K objs (.tup [.s ((s.drop a).take (tokN (s.drop a))), .i .i64 ((a + tokN (s.drop a) : Nat) : Int), .b true])) (h0 : tokN (s.drop a) = 0 → K objs (.tup [.s [], .i .i64 0, .b false])) : CallOk Try.prog 59 [.s s, .i .i64 (a : Nat)] objs K := by
 refine fn_rn is_ref20_Token rfl fun C _ => ?_
 have hle := tokN_le (s.drop a)
 rw [List.length_drop] at hle
 simp only [c_ref20_Token, sxZ, evs, evp, setd, SV.ev, AV.flat, AV.one, AV.cells, resAs, resA, tupA, pub, pubs, AV.plain, plains, srcOf, splice, fillA, eqA, eqAs, z6, z7, z8, q7, q8, q9, j2, j3, j4, j5, j6, j7, j8, j9, x0, x3, reduceCtorEq, ↓reduceIte]
 refine rn_loop (fun n objs tm => ∃ i : Nat, i ≤ s.length ∧ n = s.length - i ∧ objs = [] ∧ a + tokN (s.drop a) = i + tokN (s.drop i) ∧ tm.length = 29 ∧ tm[0]? = some (.s s) ∧ tm[1]? = some (.i .i64 a) ∧ tm[7]? = some (.i .i64 i)) (s.length - a) ⟨a, ha, rfl, rfl, rfl, rfl, rfl, rfl, rfl⟩ ?_
 rintro n _ tm ⟨i, hi, rfl, rfl, hr, hlen, t0, t1, t7⟩
 have fin : tokN (s.drop i) = 0 → ∀ tm : List AV, True := fun _ _ => trivial
 by_cases hlt : (i : Int) < s.length
 ·have hlt' : i < s.length := by omega
  have hg := getD_get hlt'
  have hrn := tok_at s i hlt'
  simp only [sxZ, evs, evp, setd, SV.ev, AV.flat, AV.one, AV.cells, resAs, resA, tupA, pub, pubs, AV.plain, plains, srcOf, splice, fillA, eqA, eqAs, z6, z7, z8, q7, q8, q9, j2, j3, j4, j5, j6, j7, j8, j9, x0, x3, reduceCtorEq, ↓reduceIte, List.getElem?_set, hlen, t0, t1, t7, hlt]
  refine ⟨by omega, ?_⟩
  rw [hg]
  refine kcall (raTok_k s[i] ?_)
  by_cases hd : isTok s[i] = true
  ·rw [if_pos hd] at hrn
   simp only [hd, sxZ, evs, evp, setd, SV.ev, AV.flat, AV.one, AV.cells, resAs, resA, tupA, pub, pubs, AV.plain, plains, srcOf, splice, fillA, eqA, eqAs, z6, z7, z8, q7, q8, q9, j2, j3, j4, j5, j6, j7, j8, j9, x0, x3, reduceCtorEq, ↓reduceIte, List.getElem?_set, hlen, t0, t1, t7]
   exact ⟨⟨by omega, by omega⟩, s.length - (i + 1), by omega, i + 1, by omega, rfl, by omega, rfl⟩
  ·rw [if_neg hd] at hrn
   simp only [Bool.not_eq_true] at hd
   by_cases hz : (i : Int) ≤ a
   ·have := h0 (by omega)
    simp only [hd, sxZ, evs, evp, setd, SV.ev, AV.flat, AV.one, AV.cells, resAs, resA, tupA, pub, pubs, AV.plain, plains, srcOf, splice, fillA, eqA, eqAs, z6, z7, z8, q7, q8, q9, j2, j3, j4, j5, j6, j7, j8, j9, x0, x3, reduceCtorEq, ↓reduceIte, List.getElem?_set, hlen, t0, t1, t7, hz]
    exact this
   ·have hk := h1 (by omega)
    obtain rfl : i = a + tokN (s.drop a) := by omega
    simp only [hd, sxZ, evs, evp, setd, SV.ev, AV.flat, AV.one, AV.cells, resAs, resA, tupA, pub, pubs, AV.plain, plains, srcOf, splice, fillA, eqA, eqAs, z6, z7, z8, q7, q8, q9, j2, j3, j4, j5, j6, j7, j8, j9, x0, x3, reduceCtorEq, ↓reduceIte, List.getElem?_set, hlen, t0, t1, t7, hz, Int.toNat_natCast, slice_word]
    exact ⟨by omega, hk⟩
 ·obtain rfl : i = s.length := by omega
  have he : tokN (s.drop s.length) = 0 := by rw [List.drop_length]; rfl
  by_cases hz : (s.length : Int) ≤ a
  ·have := h0 (by omega)
   simp only [sxZ, evs, evp, setd, SV.ev, AV.flat, AV.one, AV.cells, resAs, resA, tupA, pub, pubs, AV.plain, plains, srcOf, splice, fillA, eqA, eqAs, z6, z7, z8, q7, q8, q9, j2, j3, j4, j5, j6, j7, j8, j9, x0, x3, reduceCtorEq, ↓reduceIte, List.getElem?_set, hlen, t0, t1, t7, hlt, hz]
   exact this
  ·have hk := h1 (by omega)
   have e : a + tokN (s.drop a) = s.length := by omega
   have e2 : (s.drop a).take (tokN (s.drop a)) = s.drop a := List.take_of_length_le (by rw [List.length_drop]; omega)
   rw [e, e2] at hk
   simp only [sxZ, evs, evp, setd, SV.ev, AV.flat, AV.one, AV.cells, resAs, resA, tupA, pub, pubs, AV.plain, plains, srcOf, splice, fillA, eqA, eqAs, z6, z7, z8, q7, q8, q9, j2, j3, j4, j5, j6, j7, j8, j9, x0, x3, reduceCtorEq, ↓reduceIte, List.getElem?_set, hlen, t0, t1, t7, hlt, hz, Int.toNat_natCast]
   exact ⟨by omega, hk⟩
set_option maxRecDepth 100000 in
set_option maxHeartbeats 1000000 in
theorem fQuoted_k (s : List UInt8) (a : Nat) (ha : a < s.length) (hs : s.length ≤ 100000000000) (h1 : ∀ x k, quoE (s.drop (a + 1)) = some (x, k) → K objs (.tup [.s x, .i .i64 ((a + 1 + k : Nat) : Int), .b true])) (h0 : quoE (s.drop (a + 1)) = none → ∀ t : Nat, t ≤ s.length → K objs (.tup [.s [], .i .i64 (t : Nat), .b false])) : CallOk Try.prog 79 [.s s, .i .i64 (a : Nat)] objs K := by
 refine fn_rn is_fieldtext_quoted rfl fun C _ => ?_
 simp only [c_fieldtext_quoted, sxZ, evs, evp, setd, SV.ev, AV.flat, AV.one, AV.cells, resAs, resA, tupA, pub, pubs, AV.plain, plains, srcOf, splice, fillA, eqA, eqAs, z6, z7, z8, q7, q8, q9, j2, j3, j4, j5, j6, j7, j8, j9, x0, x3, reduceCtorEq, ↓reduceIte]
 refine ⟨by omega, ?_⟩
 refine rn_loop (fun n objs tm => ∃ (i : Nat) (acc : List UInt8), a + 1 ≤ i ∧ i ≤ s.length ∧ n = s.length - i ∧ acc.length ≤ i ∧ quoE (s.drop (a + 1)) = (quoE (s.drop i)).map (fun p => (acc ++ p.1, i - (a + 1) + p.2)) ∧ tm.length = 51 ∧ tm[0]? = some (.s s) ∧ tm[8]? = some (.i .i64 i) ∧
  ((acc = [] ∧ objs = [] ∧ tm[7]? = some .nil) ∨ (∃ g, objs = [.orow 5 1 g acc.length (byA acc)] ∧ tm[7]? = some (.orow 0 g)))) (s.length - (a + 1)) ⟨a + 1, [], Nat.le_refl _, by omega, rfl, by simp, by simp, rfl, rfl, rfl, .inl ⟨rfl, rfl, rfl⟩⟩ ?_
 rintro n o tm ⟨i, acc, hai, hi, rfl, hal, hq, hlen, t0, t8, hO⟩
 by_cases hlt : (i : Int) < s.length
 ·have hlt' : i < s.length := by omega
  have hg := getD_get hlt'
  have hqa := quo_at s i hlt'
  by_cases c1 : (((s[i]).toNat : Nat) : Int) = 34
  ·rw [if_pos (show s[i] = 34 from (byte_eq s[i] 34 (by omega)).1 c1)] at hqa
   have hk := h1 _ _ (quo_step hq hqa)
   rw [List.append_nil, show ((a + 1 + (i - (a + 1) + 1) : Nat) : Int) = (i : Int) + 1 by omega] at hk
   rcases hO with ⟨rfl, rfl, t7⟩ | ⟨g, rfl, t7⟩
   ·simp only [sxZ, evs, evp, setd, SV.ev, AV.flat, AV.one, AV.cells, resAs, resA, tupA, pub, pubs, AV.plain, plains, srcOf, splice, fillA, eqA, eqAs, z6, z7, z8, q7, q8, q9, j2, j3, j4, j5, j6, j7, j8, j9, x0, x3, reduceCtorEq, ↓reduceIte, List.getElem?_set, hlen, t0, t7, t8, hlt, hg, c1]
    exact ⟨by omega, ⟨by omega, by omega⟩, hk⟩
   ·simp only [sxZ, evs, evp, setd, SV.ev, AV.flat, AV.one, AV.cells, resAs, resA, tupA, pub, pubs, AV.plain, plains, srcOf, splice, fillA, eqA, eqAs, z6, z7, z8, q7, q8, q9, j2, j3, j4, j5, j6, j7, j8, j9, x0, x3, reduceCtorEq, ↓reduceIte, List.getElem?_set, hlen, t0, t7, t8, hlt, hg, c1]
    refine ⟨by omega, kCb2_o _ _ _ acc ?_⟩
    simp only [sxZ, evs, evp, setd, SV.ev, AV.flat, AV.one, AV.cells, resAs, resA, tupA, pub, pubs, AV.plain, plains, srcOf, splice, fillA, eqA, eqAs, z6, z7, z8, q7, q8, q9, j2, j3, j4, j5, j6, j7, j8, j9, x0, x3, reduceCtorEq, ↓reduceIte, List.getElem?_set, hlen, t0, t7, t8, hlt, hg, c1]
    exact ⟨⟨by omega, by omega⟩, hk⟩
  ·have n1 : ¬ s[i] = 34 := fun h => c1 (by rw [h]; rfl)
   rw [if_neg n1] at hqa
   by_cases c2 : (((s[i]).toNat : Nat) : Int) = 92
   ·rw [if_pos (show s[i] = 92 from (byte_eq s[i] 92 (by omega)).1 c2)] at hqa
    by_cases c3 : (i : Int) + 1 = s.length
    ·rw [dif_neg (by omega)] at hqa
     have hk := h0 (quo_none hq hqa) s.length (Nat.le_refl _)
     simp only [sxZ, evs, evp, setd, SV.ev, AV.flat, AV.one, AV.cells, resAs, resA, tupA, pub, pubs, AV.plain, plains, srcOf, splice, fillA, eqA, eqAs, z6, z7, z8, q7, q8, q9, j2, j3, j4, j5, j6, j7, j8, j9, x0, x3, reduceCtorEq, ↓reduceIte, List.getElem?_set, hlen, t0, t8, hlt, hg, c1, c2, c3]
     exact ⟨by omega, by omega, ⟨by omega, by omega⟩, hk⟩
    ·have hlt2 : i + 1 < s.length := by omega
     have hg2 := getD_get hlt2
     rw [dif_pos hlt2] at hqa
     obtain ⟨d, hd⟩ : ∃ d, d = s[i + 1] := ⟨_, rfl⟩
     rw [← hd] at hg2 hqa
     simp only [sxZ, evs, evp, setd, SV.ev, AV.flat, AV.one, AV.cells, resAs, resA, tupA, pub, pubs, AV.plain, plains, srcOf, splice, fillA, eqA, eqAs, z6, z7, z8, q7, q8, q9, j2, j3, j4, j5, j6, j7, j8, j9, x0, x3, reduceCtorEq, ↓reduceIte, List.getElem?_set, hlen, t0, t8, hlt, hg, c1, c2, c3]
     refine ⟨by omega, by omega, ⟨by omega, by omega⟩, ⟨by omega, by omega⟩, ?_⟩
     rw [hg2]
     refine kcall (fByte_k d ?_)
     by_cases c4 : isPrt d = true
     ·rw [if_pos c4] at hqa
      have hm := quo_more (j := i + 2) (d := 2) hai rfl hq hqa
      rcases hO with ⟨rfl, rfl, t7⟩ | ⟨g, rfl, t7⟩
      ·simp only [sxZ, evs, evp, setd, SV.ev, AV.flat, AV.one, AV.cells, resAs, resA, tupA, pub, pubs, AV.plain, plains, srcOf, splice, fillA, eqA, eqAs, z6, z7, z8, q7, q8, q9, j2, j3, j4, j5, j6, j7, j8, j9, x0, x3, reduceCtorEq, ↓reduceIte, List.getElem?_set, hlen, t0, t7, t8, hg2, c4]
       exact ⟨⟨by omega, by omega⟩, ⟨by omega, by omega⟩, s.length - (i + 2), by omega, i + 2, [d], by omega, by omega, rfl, by simp only [List.length_cons, List.length_nil]; omega, hm, by rw [show (((i + 2 : Nat)) : Int) = (i : Int) + 1 + 1 by omega], .inr ⟨0, rfl, rfl⟩⟩
      ·simp only [sxZ, evs, evp, setd, SV.ev, AV.flat, AV.one, AV.cells, resAs, resA, tupA, pub, pubs, AV.plain, plains, srcOf, splice, fillA, eqA, eqAs, z6, z7, z8, q7, q8, q9, j2, j3, j4, j5, j6, j7, j8, j9, x0, x3, reduceCtorEq, ↓reduceIte, List.getElem?_set, hlen, t0, t7, t8, hg2, c4]
       exact ⟨⟨by omega, by omega⟩, ⟨by omega, by omega⟩, ⟨by omega, by omega⟩, s.length - (i + 2), by omega, i + 2, acc ++ [d], by omega, by omega, rfl, by simp only [List.length_append, List.length_cons, List.length_nil]; omega, hm, by rw [show (((i + 2 : Nat)) : Int) = (i : Int) + 1 + 1 by omega], .inr ⟨g + 1, by rw [byA_append, List.length_append]; rfl, rfl⟩⟩
     ·rw [if_neg c4] at hqa
      have hk := h0 (quo_none hq hqa) (i + 1) (by omega)
      rw [show (((i + 1 : Nat)) : Int) = (i : Int) + 1 by omega] at hk
      simp only [Bool.not_eq_true] at c4
      simp only [sxZ, evs, evp, setd, SV.ev, AV.flat, AV.one, AV.cells, resAs, resA, tupA, pub, pubs, AV.plain, plains, srcOf, splice, fillA, eqA, eqAs, z6, z7, z8, q7, q8, q9, j2, j3, j4, j5, j6, j7, j8, j9, x0, x3, reduceCtorEq, ↓reduceIte, List.getElem?_set, hlen, t0, t8, hg, c4]
      exact hk
   ·have n2 : ¬ s[i] = 92 := fun h => c2 (by rw [h]; rfl)
    rw [if_neg n2] at hqa
    have c3 : ¬ (i : Int) = s.length := by omega
    simp only [sxZ, evs, evp, setd, SV.ev, AV.flat, AV.one, AV.cells, resAs, resA, tupA, pub, pubs, AV.plain, plains, srcOf, splice, fillA, eqA, eqAs, z6, z7, z8, q7, q8, q9, j2, j3, j4, j5, j6, j7, j8, j9, x0, x3, reduceCtorEq, ↓reduceIte, List.getElem?_set, hlen, t0, t8, hlt, hg, c1, c2, c3]
    refine ⟨by omega, by omega, by omega, ?_⟩
    refine kcall (fByte_k s[i] ?_)
    by_cases c4 : isPrt s[i] = true
    ·rw [if_pos c4] at hqa
     have hm := quo_more (j := i + 1) (d := 1) hai rfl hq hqa
     rcases hO with ⟨rfl, rfl, t7⟩ | ⟨g, rfl, t7⟩
     ·simp only [sxZ, evs, evp, setd, SV.ev, AV.flat, AV.one, AV.cells, resAs, resA, tupA, pub, pubs, AV.plain, plains, srcOf, splice, fillA, eqA, eqAs, z6, z7, z8, q7, q8, q9, j2, j3, j4, j5, j6, j7, j8, j9, x0, x3, reduceCtorEq, ↓reduceIte, List.getElem?_set, hlen, t0, t7, t8, hg, c4]
      exact ⟨⟨by omega, by omega⟩, ⟨by omega, by omega⟩, s.length - (i + 1), by omega, i + 1, [s[i]], by omega, by omega, rfl, by simp only [List.length_cons, List.length_nil]; omega, hm, rfl, .inr ⟨0, rfl, rfl⟩⟩
     ·simp only [sxZ, evs, evp, setd, SV.ev, AV.flat, AV.one, AV.cells, resAs, resA, tupA, pub, pubs, AV.plain, plains, srcOf, splice, fillA, eqA, eqAs, z6, z7, z8, q7, q8, q9, j2, j3, j4, j5, j6, j7, j8, j9, x0, x3, reduceCtorEq, ↓reduceIte, List.getElem?_set, hlen, t0, t7, t8, hg, c4]
      exact ⟨⟨by omega, by omega⟩, ⟨by omega, by omega⟩, ⟨by omega, by omega⟩, s.length - (i + 1), by omega, i + 1, acc ++ [s[i]], by omega, by omega, rfl, by simp only [List.length_append, List.length_cons, List.length_nil]; omega, hm, rfl, .inr ⟨g + 1, by rw [byA_append, List.length_append]; rfl, rfl⟩⟩
    ·rw [if_neg c4] at hqa
     have hk := h0 (quo_none hq hqa) i hi
     simp only [Bool.not_eq_true] at c4
     simp only [sxZ, evs, evp, setd, SV.ev, AV.flat, AV.one, AV.cells, resAs, resA, tupA, pub, pubs, AV.plain, plains, srcOf, splice, fillA, eqA, eqAs, z6, z7, z8, q7, q8, q9, j2, j3, j4, j5, j6, j7, j8, j9, x0, x3, reduceCtorEq, ↓reduceIte, List.getElem?_set, hlen, t0, t8, hg, c4]
     exact hk
 ·obtain rfl : i = s.length := by omega
  have hn : quoE (s.drop s.length) = none := by rw [List.drop_length]; rfl
  have hk := h0 (quo_none hq hn) s.length (Nat.le_refl _)
  simp only [sxZ, evs, evp, setd, SV.ev, AV.flat, AV.one, AV.cells, resAs, resA, tupA, pub, pubs, AV.plain, plains, srcOf, splice, fillA, eqA, eqAs, z6, z7, z8, q7, q8, q9, j2, j3, j4, j5, j6, j7, j8, j9, x0, x3, reduceCtorEq, ↓reduceIte, List.getElem?_set, hlen, t0, t8, hlt]
  exact hk
set_option maxRecDepth 100000 in
theorem fWord_k (s : List UInt8) (a : Nat) (ha : a ≤ s.length) (hs : s.length ≤ 100000000000) (h1 : ∀ x k, wordE (s.drop a) = some (x, k) → K objs (.tup [.s x, .i .i64 ((a + k : Nat) : Int), .b true])) (h0 : wordE (s.drop a) = none → ∀ t : Nat, t ≤ s.length → K objs (.tup [.s [], .i .i64 (t : Nat), .b false])) : CallOk Try.prog 50 [.s s, .i .i64 (a : Nat)] objs K := by
 refine fn_rn is_fieldtext_Word rfl fun C _ => ?_
 have hle := tokN_le (s.drop a)
 rw [List.length_drop] at hle
 have tok : ∀ hh : (s.drop a).head? ≠ some 34, K objs (.tup [.s (List.drop a (List.take (a + tokN (s.drop a)) s)), .i .i64 ((a + tokN (s.drop a) : Nat) : Int), .b (decide ((a : Int) < ((a + tokN (s.drop a) : Nat) : Int)))]) := by
  intro hh
  rw [slice_word]
  unfold wordE at h1 h0
  rw [if_neg hh] at h1 h0
  by_cases h : tokN (s.drop a) = 0
  ·have := h0 (by rw [if_pos h]) a ha
   rw [h, decide_eq_false (by omega)]
   exact this
  ·rw [decide_eq_true (by omega)]
   exact h1 _ _ (by rw [if_neg h])
 simp only [c_fieldtext_Word, sxZ, evs, evp, setd, SV.ev, AV.flat, AV.one, AV.cells, resAs, resA, tupA, pub, pubs, AV.plain, plains, srcOf, splice, fillA, eqA, eqAs, z6, z7, z8, q7, q8, q9, j2, j3, j4, j5, j6, j7, j8, j9, x0, x3, reduceCtorEq, ↓reduceIte]
 by_cases hlt : (a : Int) < s.length
 ·have hlt' : a < s.length := by omega
  have hg := getD_get hlt'
  obtain ⟨w1, w2⟩ := word_at hlt'
  by_cases c1 : (((s[a]).toNat : Nat) : Int) = 34
  ·have e34 : s[a] = 34 := (byte_eq s[a] 34 (by omega)).1 c1
   unfold wordE at h1 h0
   rw [w1, e34, if_pos rfl, w2] at h1 h0
   simp only [sxZ, evs, evp, setd, SV.ev, AV.flat, AV.one, AV.cells, resAs, resA, tupA, pub, pubs, AV.plain, plains, srcOf, splice, fillA, eqA, eqAs, z6, z7, z8, q7, q8, q9, j2, j3, j4, j5, j6, j7, j8, j9, x0, x3, reduceCtorEq, ↓reduceIte, hlt, hg, c1]
   refine ⟨by omega, ?_⟩
   refine kcall (fQuoted_k s a hlt' hs (fun x k hq => ?_) (fun hq t ht => ?_))
   ·have hk := h1 x (k + 1) (by rw [hq]; rfl)
    rw [show a + (k + 1) = a + 1 + k by omega] at hk
    simp only [sxZ, evs, evp, setd, SV.ev, AV.flat, AV.one, AV.cells, resAs, resA, tupA, pub, pubs, AV.plain, plains, srcOf, splice, fillA, eqA, eqAs, z6, z7, z8, q7, q8, q9, j2, j3, j4, j5, j6, j7, j8, j9, x0, x3, reduceCtorEq, ↓reduceIte]
    exact hk
   ·have hk := h0 (by rw [hq]; rfl) t ht
    simp only [sxZ, evs, evp, setd, SV.ev, AV.flat, AV.one, AV.cells, resAs, resA, tupA, pub, pubs, AV.plain, plains, srcOf, splice, fillA, eqA, eqAs, z6, z7, z8, q7, q8, q9, j2, j3, j4, j5, j6, j7, j8, j9, x0, x3, reduceCtorEq, ↓reduceIte]
    exact hk
  ·have n1 : ¬ s[a] = 34 := fun h => c1 (by rw [h]; rfl)
   have hk := tok (by rw [w1]; exact fun h => n1 (Option.some.inj h))
   simp only [sxZ, evs, evp, setd, SV.ev, AV.flat, AV.one, AV.cells, resAs, resA, tupA, pub, pubs, AV.plain, plains, srcOf, splice, fillA, eqA, eqAs, z6, z7, z8, q7, q8, q9, j2, j3, j4, j5, j6, j7, j8, j9, x0, x3, reduceCtorEq, ↓reduceIte, hlt, hg, c1]
   refine ⟨by omega, ?_⟩
   refine kcall (fTokenEnd_k s a ha (by omega) ?_)
   simp only [sxZ, evs, evp, setd, SV.ev, AV.flat, AV.one, AV.cells, resAs, resA, tupA, pub, pubs, AV.plain, plains, srcOf, splice, fillA, eqA, eqAs, z6, z7, z8, q7, q8, q9, j2, j3, j4, j5, j6, j7, j8, j9, x0, x3, reduceCtorEq, ↓reduceIte, Int.toNat_natCast]
   exact ⟨by omega, hk⟩
 ·have e : s.drop a = [] := List.drop_eq_nil_of_le (by omega)
  have hk := tok (by rw [e]; simp)
  simp only [sxZ, evs, evp, setd, SV.ev, AV.flat, AV.one, AV.cells, resAs, resA, tupA, pub, pubs, AV.plain, plains, srcOf, splice, fillA, eqA, eqAs, z6, z7, z8, q7, q8, q9, j2, j3, j4, j5, j6, j7, j8, j9, x0, x3, reduceCtorEq, ↓reduceIte, hlt]
  refine kcall (fTokenEnd_k s a ha (by omega) ?_)
  simp only [sxZ, evs, evp, setd, SV.ev, AV.flat, AV.one, AV.cells, resAs, resA, tupA, pub, pubs, AV.plain, plains, srcOf, splice, fillA, eqA, eqAs, z6, z7, z8, q7, q8, q9, j2, j3, j4, j5, j6, j7, j8, j9, x0, x3, reduceCtorEq, ↓reduceIte, Int.toNat_natCast]
  exact ⟨by omega, hk⟩
set_option maxRecDepth 100000 in
set_option maxHeartbeats 1000000 in
theorem rQuoted_k (s : List UInt8) (a : Nat) (ha : a < s.length) (h34 : s[a] = 34) (hs : s.length ≤ 100000000000) (h1 : ∀ x k, quoE (s.drop (a + 1)) = some (x, k) → K objs (.tup [.s x, .i .i64 ((a + 1 + k : Nat) : Int), .b true])) (h0 : quoE (s.drop (a + 1)) = none → K objs (.tup [.s [], .i .i64 0, .b false])) : CallOk Try.prog 86 [.s s, .i .i64 (a : Nat)] objs K := by
 refine fn_rn is_ref20_Quoted rfl fun C _ => ?_
 have hga := getD_get ha
 rw [h34] at hga
 have c0 : ¬ (s.length : Int) ≤ a := by omega
 have c34 : (((34 : UInt8).toNat : Nat) : Int) = 34 := rfl
 simp only [c_ref20_Quoted, c0, hga, c34, sxZ, evs, evp, setd, SV.ev, AV.flat, AV.one, AV.cells, resAs, resA, tupA, pub, pubs, AV.plain, plains, srcOf, splice, fillA, eqA, eqAs, z6, z7, z8, q7, q8, q9, j2, j3, j4, j5, j6, j7, j8, j9, x0, x3, reduceCtorEq, ↓reduceIte]
 refine ⟨by omega, by omega, ?_⟩
 refine rn_loop (fun n objs tm => ∃ (i : Nat) (acc : List UInt8), a + 1 ≤ i ∧ i ≤ s.length ∧ n = s.length - i ∧ objs = [] ∧ acc.length ≤ i ∧ quoE (s.drop (a + 1)) = (quoE (s.drop i)).map (fun p => (acc ++ p.1, i - (a + 1) + p.2)) ∧ tm.length = 55 ∧ tm[0]? = some (.s s) ∧ tm[8]? = some (.i .i64 i) ∧ tm[7]? = some (.s acc)) (s.length - (a + 1)) ⟨a + 1, [], Nat.le_refl _, by omega, rfl, rfl, by simp, by simp, rfl, rfl, rfl, rfl⟩ ?_
 rintro n o tm ⟨i, acc, hai, hi, rfl, rfl, hal, hq, hlen, t0, t8, t7⟩
 by_cases hlt : (i : Int) < s.length
 ·have hlt' : i < s.length := by omega
  have hg := getD_get hlt'
  have hqa := quo_at s i hlt'
  by_cases c1 : (((s[i]).toNat : Nat) : Int) = 34
  ·rw [if_pos (show s[i] = 34 from (byte_eq s[i] 34 (by omega)).1 c1)] at hqa
   have hk := h1 _ _ (quo_step hq hqa)
   rw [List.append_nil, show ((a + 1 + (i - (a + 1) + 1) : Nat) : Int) = (i : Int) + 1 by omega] at hk
   simp only [sxZ, evs, evp, setd, SV.ev, AV.flat, AV.one, AV.cells, resAs, resA, tupA, pub, pubs, AV.plain, plains, srcOf, splice, fillA, eqA, eqAs, z6, z7, z8, q7, q8, q9, j2, j3, j4, j5, j6, j7, j8, j9, x0, x3, reduceCtorEq, ↓reduceIte, List.getElem?_set, hlen, t0, t7, t8, hlt, hg, c1]
   exact ⟨by omega, ⟨by omega, by omega⟩, hk⟩
  ·have n1 : ¬ s[i] = 34 := fun h => c1 (by rw [h]; rfl)
   rw [if_neg n1] at hqa
   by_cases c2 : (((s[i]).toNat : Nat) : Int) = 92
   ·rw [if_pos (show s[i] = 92 from (byte_eq s[i] 92 (by omega)).1 c2)] at hqa
    by_cases c3 : (i : Int) + 1 = s.length
    ·rw [dif_neg (by omega)] at hqa
     have hk := h0 (quo_none hq hqa)
     simp only [sxZ, evs, evp, setd, SV.ev, AV.flat, AV.one, AV.cells, resAs, resA, tupA, pub, pubs, AV.plain, plains, srcOf, splice, fillA, eqA, eqAs, z6, z7, z8, q7, q8, q9, j2, j3, j4, j5, j6, j7, j8, j9, x0, x3, reduceCtorEq, ↓reduceIte, List.getElem?_set, hlen, t0, t7, t8, hlt, hg, c1, c2, c3]
     exact ⟨by omega, ⟨by omega, by omega⟩, hk⟩
    ·have hlt2 : i + 1 < s.length := by omega
     have hg2 := getD_get hlt2
     rw [dif_pos hlt2] at hqa
     obtain ⟨d, hd⟩ : ∃ d, d = s[i + 1] := ⟨_, rfl⟩
     rw [← hd] at hg2 hqa
     simp only [sxZ, evs, evp, setd, SV.ev, AV.flat, AV.one, AV.cells, resAs, resA, tupA, pub, pubs, AV.plain, plains, srcOf, splice, fillA, eqA, eqAs, z6, z7, z8, q7, q8, q9, j2, j3, j4, j5, j6, j7, j8, j9, x0, x3, reduceCtorEq, ↓reduceIte, List.getElem?_set, hlen, t0, t7, t8, hlt, hg, c1, c2, c3]
     refine ⟨by omega, ⟨by omega, by omega⟩, ⟨by omega, by omega⟩, ?_⟩
     rw [hg2]
     refine kcall (rPrt_k d ?_)
     by_cases c4 : isPrt d = true
     ·rw [if_pos c4] at hqa
      have hm := quo_more (j := i + 2) (d := 2) hai rfl hq hqa
      simp only [sxZ, evs, evp, setd, SV.ev, AV.flat, AV.one, AV.cells, resAs, resA, tupA, pub, pubs, AV.plain, plains, srcOf, splice, fillA, eqA, eqAs, z6, z7, z8, q7, q8, q9, j2, j3, j4, j5, j6, j7, j8, j9, x0, x3, reduceCtorEq, ↓reduceIte, List.getElem?_set, hlen, t0, t7, t8, hg2, c4]
      refine kCb_row [d] 1 rfl ?_
      simp only [sxZ, evs, evp, setd, SV.ev, AV.flat, AV.one, AV.cells, resAs, resA, tupA, pub, pubs, AV.plain, plains, srcOf, splice, fillA, eqA, eqAs, z6, z7, z8, q7, q8, q9, j2, j3, j4, j5, j6, j7, j8, j9, x0, x3, reduceCtorEq, ↓reduceIte, List.getElem?_set, hlen, t0, t7, t8]
      exact ⟨by omega, ⟨by omega, by omega⟩, s.length - (i + 2), by omega, i + 2, acc ++ [d], by omega, by omega, rfl, by simp only [List.length_append, List.length_cons, List.length_nil]; omega, hm, by rw [show (((i + 2 : Nat)) : Int) = (i : Int) + 1 + 1 by omega], rfl⟩
     ·rw [if_neg c4] at hqa
      have hk := h0 (quo_none hq hqa)
      simp only [Bool.not_eq_true] at c4
      simp only [sxZ, evs, evp, setd, SV.ev, AV.flat, AV.one, AV.cells, resAs, resA, tupA, pub, pubs, AV.plain, plains, srcOf, splice, fillA, eqA, eqAs, z6, z7, z8, q7, q8, q9, j2, j3, j4, j5, j6, j7, j8, j9, x0, x3, reduceCtorEq, ↓reduceIte, List.getElem?_set, hlen, t0, t7, t8, hg, c4]
      exact hk
   ·have n2 : ¬ s[i] = 92 := fun h => c2 (by rw [h]; rfl)
    rw [if_neg n2] at hqa
    simp only [sxZ, evs, evp, setd, SV.ev, AV.flat, AV.one, AV.cells, resAs, resA, tupA, pub, pubs, AV.plain, plains, srcOf, splice, fillA, eqA, eqAs, z6, z7, z8, q7, q8, q9, j2, j3, j4, j5, j6, j7, j8, j9, x0, x3, reduceCtorEq, ↓reduceIte, List.getElem?_set, hlen, t0, t7, t8, hlt, hg, c1, c2]
    refine ⟨by omega, ?_⟩
    refine kcall (rPrt_k s[i] ?_)
    by_cases c4 : isPrt s[i] = true
    ·rw [if_pos c4] at hqa
     have hm := quo_more (j := i + 1) (d := 1) hai rfl hq hqa
     simp only [sxZ, evs, evp, setd, SV.ev, AV.flat, AV.one, AV.cells, resAs, resA, tupA, pub, pubs, AV.plain, plains, srcOf, splice, fillA, eqA, eqAs, z6, z7, z8, q7, q8, q9, j2, j3, j4, j5, j6, j7, j8, j9, x0, x3, reduceCtorEq, ↓reduceIte, List.getElem?_set, hlen, t0, t7, t8, hg, c4]
     refine kCb_row [s[i]] 1 rfl ?_
     simp only [sxZ, evs, evp, setd, SV.ev, AV.flat, AV.one, AV.cells, resAs, resA, tupA, pub, pubs, AV.plain, plains, srcOf, splice, fillA, eqA, eqAs, z6, z7, z8, q7, q8, q9, j2, j3, j4, j5, j6, j7, j8, j9, x0, x3, reduceCtorEq, ↓reduceIte, List.getElem?_set, hlen, t0, t7, t8]
     exact ⟨by omega, ⟨by omega, by omega⟩, s.length - (i + 1), by omega, i + 1, acc ++ [s[i]], by omega, by omega, rfl, by simp only [List.length_append, List.length_cons, List.length_nil]; omega, hm, rfl, rfl⟩
    ·rw [if_neg c4] at hqa
     have hk := h0 (quo_none hq hqa)
     simp only [Bool.not_eq_true] at c4
     simp only [sxZ, evs, evp, setd, SV.ev, AV.flat, AV.one, AV.cells, resAs, resA, tupA, pub, pubs, AV.plain, plains, srcOf, splice, fillA, eqA, eqAs, z6, z7, z8, q7, q8, q9, j2, j3, j4, j5, j6, j7, j8, j9, x0, x3, reduceCtorEq, ↓reduceIte, List.getElem?_set, hlen, t0, t7, t8, hg, c4]
     exact hk
 ·obtain rfl : i = s.length := by omega
  have hn : quoE (s.drop s.length) = none := by rw [List.drop_length]; rfl
  have hk := h0 (quo_none hq hn)
  simp only [sxZ, evs, evp, setd, SV.ev, AV.flat, AV.one, AV.cells, resAs, resA, tupA, pub, pubs, AV.plain, plains, srcOf, splice, fillA, eqA, eqAs, z6, z7, z8, q7, q8, q9, j2, j3, j4, j5, j6, j7, j8, j9, x0, x3, reduceCtorEq, ↓reduceIte, List.getElem?_set, hlen, t0, t7, t8, hlt]
  exact hk
set_option maxRecDepth 100000 in
theorem rValue_k (s : List UInt8) (a : Nat) (ha : a ≤ s.length) (hs : s.length ≤ 100000000000) (h1 : ∀ x k, wordE (s.drop a) = some (x, k) → K objs (.tup [.s x, .i .i64 ((a + k : Nat) : Int), .b true])) (h0 : wordE (s.drop a) = none → K objs (.tup [.s [], .i .i64 0, .b false])) : CallOk Try.prog 61 [.s s, .i .i64 (a : Nat)] objs K := by
 refine fn_rn is_ref20_Value rfl fun C _ => ?_
 simp only [c_ref20_Value, sxZ, evs, evp, setd, SV.ev, AV.flat, AV.one, AV.cells, resAs, resA, tupA, pub, pubs, AV.plain, plains, srcOf, splice, fillA, eqA, eqAs, z6, z7, z8, q7, q8, q9, j2, j3, j4, j5, j6, j7, j8, j9, x0, x3, reduceCtorEq, ↓reduceIte]
 unfold wordE at h1 h0
 by_cases hlt : (a : Int) < s.length
 ·have hlt' : a < s.length := by omega
  have hg := getD_get hlt'
  obtain ⟨w1, w2⟩ := word_at hlt'
  by_cases c1 : (((s[a]).toNat : Nat) : Int) = 34
  ·have e34 : s[a] = 34 := (byte_eq s[a] 34 (by omega)).1 c1
   rw [w1, e34, if_pos rfl, w2] at h1 h0
   simp only [sxZ, evs, evp, setd, SV.ev, AV.flat, AV.one, AV.cells, resAs, resA, tupA, pub, pubs, AV.plain, plains, srcOf, splice, fillA, eqA, eqAs, z6, z7, z8, q7, q8, q9, j2, j3, j4, j5, j6, j7, j8, j9, x0, x3, reduceCtorEq, ↓reduceIte, hlt, hg, c1]
   refine ⟨by omega, ?_⟩
   refine kcall (rQuoted_k s a hlt' e34 hs (fun x k hq => ?_) (fun hq => ?_))
   ·have hk := h1 x (k + 1) (by rw [hq]; rfl)
    rw [show a + (k + 1) = a + 1 + k by omega] at hk
    simp only [sxZ, evs, evp, setd, SV.ev, AV.flat, AV.one, AV.cells, resAs, resA, tupA, pub, pubs, AV.plain, plains, srcOf, splice, fillA, eqA, eqAs, z6, z7, z8, q7, q8, q9, j2, j3, j4, j5, j6, j7, j8, j9, x0, x3, reduceCtorEq, ↓reduceIte]
    exact hk
   ·have hk := h0 (by rw [hq]; rfl)
    simp only [sxZ, evs, evp, setd, SV.ev, AV.flat, AV.one, AV.cells, resAs, resA, tupA, pub, pubs, AV.plain, plains, srcOf, splice, fillA, eqA, eqAs, z6, z7, z8, q7, q8, q9, j2, j3, j4, j5, j6, j7, j8, j9, x0, x3, reduceCtorEq, ↓reduceIte]
    exact hk
  ·have n1 : ¬ s[a] = 34 := fun h => c1 (by rw [h]; rfl)
   rw [w1, if_neg (fun h => n1 (Option.some.inj h))] at h1 h0
   simp only [sxZ, evs, evp, setd, SV.ev, AV.flat, AV.one, AV.cells, resAs, resA, tupA, pub, pubs, AV.plain, plains, srcOf, splice, fillA, eqA, eqAs, z6, z7, z8, q7, q8, q9, j2, j3, j4, j5, j6, j7, j8, j9, x0, x3, reduceCtorEq, ↓reduceIte, hlt, hg, c1]
   refine ⟨by omega, ?_⟩
   refine kcall (rTokenAt_k s a ha (by omega) (fun hz => ?_) (fun hz => ?_))
   ·have hk := h1 _ _ (by rw [if_neg hz])
    simp only [sxZ, evs, evp, setd, SV.ev, AV.flat, AV.one, AV.cells, resAs, resA, tupA, pub, pubs, AV.plain, plains, srcOf, splice, fillA, eqA, eqAs, z6, z7, z8, q7, q8, q9, j2, j3, j4, j5, j6, j7, j8, j9, x0, x3, reduceCtorEq, ↓reduceIte]
    exact hk
   ·have hk := h0 (by rw [if_pos hz])
    simp only [sxZ, evs, evp, setd, SV.ev, AV.flat, AV.one, AV.cells, resAs, resA, tupA, pub, pubs, AV.plain, plains, srcOf, splice, fillA, eqA, eqAs, z6, z7, z8, q7, q8, q9, j2, j3, j4, j5, j6, j7, j8, j9, x0, x3, reduceCtorEq, ↓reduceIte]
    exact hk
 ·have e : s.drop a = [] := List.drop_eq_nil_of_le (by omega)
  have ez : tokN (s.drop a) = 0 := by rw [e]; rfl
  have hk := h0 (by rw [e]; rfl)
  simp only [sxZ, evs, evp, setd, SV.ev, AV.flat, AV.one, AV.cells, resAs, resA, tupA, pub, pubs, AV.plain, plains, srcOf, splice, fillA, eqA, eqAs, z6, z7, z8, q7, q8, q9, j2, j3, j4, j5, j6, j7, j8, j9, x0, x3, reduceCtorEq, ↓reduceIte, hlt]
  refine kcall (rTokenAt_k s a ha (by omega) (fun hz => absurd ez hz) (fun hz => ?_))
  simp only [sxZ, evs, evp, setd, SV.ev, AV.flat, AV.one, AV.cells, resAs, resA, tupA, pub, pubs, AV.plain, plains, srcOf, splice, fillA, eqA, eqAs, z6, z7, z8, q7, q8, q9, j2, j3, j4, j5, j6, j7, j8, j9, x0, x3, reduceCtorEq, ↓reduceIte]
  exact hk
end
end
end Go.Proofs.Ytkcaghhfnmeknaa
