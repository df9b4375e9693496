/- The code as a machine on states: each step is an equation. -/
import Derived.Test.YtkokcmpgebjiaaaSxc
namespace Go.Proofs.Ytkokcmpgebjiaaa.Sx
open Go.RowKit
set_option linter.unusedVariables false
set_option linter.unusedSimpArgs false

/-- what is still to be done -/
inductive IT where
  | code (c : SCode)
  | ops (l : List SO)
  | dops (l : List SO)
  | ap (l : List (Nat × Nat))
  | blk (id : Nat)
def cont (P : Program) [Tabs P] (C : Cx) (F : Post) : List IT → Post
  | [] => F
  | .code c :: k => thenK (fun o t => wpC P C c (cont P C F k) o t) (cont P C F k)
  | .ops l :: k => thenK (fun o t => wpR P l o t fun o t => cont P C F k .normal o t) (cont P C F k)
  | .dops l :: k => thenK (fun o t => wpD P l o t fun o t => cont P C F k .normal o t) (cont P C F k)
  | .ap l :: k => thenK (fun o t => apOk l t ∧ cont P C F k .normal o t) (cont P C F k)
  | .blk id :: k => blkK id (cont P C F k)
def run (P : Program) [Tabs P] (C : Cx) (k : List IT) (objs : List OB) (tm : List AV) (F : Post) : Prop := cont P C F k .normal objs tm
def xit (P : Program) [Tabs P] (C : Cx) (id : Nat) (k : List IT) (objs : List OB) (tm : List AV) (F : Post) : Prop := cont P C F k (.exit id) objs tm
def loopF (P : Program) [Tabs P] (C : Cx) (J : Nat → List OB → List AV → Prop) (n : Nat) (k : List IT) (F : Post) : Post := thenK (fun o t => ∃ m, m < n ∧ J m o t) (cont P C F k)
def evs (tm : List AV) : List SV → List AV
  | [] => []
  | x :: xs => x.ev tm :: evs tm xs
theorem evs_eq (tm : List AV) : ∀ l : List SV, evs tm l = l.map fun x => x.ev tm
  | [] => rfl
  | x :: l => by rw [evs, evs_eq tm l]; rfl
def evp (tm : List AV) : List (Nat × Nat × SV) → List (Nat × Nat × AV)
  | [] => []
  | (o, s, x) :: xs => (o, s, x.ev tm) :: evp tm xs
theorem evp_eq (tm : List AV) : ∀ l : List (Nat × Nat × SV), evp tm l = l.map fun p => (p.1, p.2.1, p.2.2.ev tm)
  | [] => rfl
  | (o, s, x) :: l => by rw [evp, evp_eq tm l]; rfl
def bxs : Option OB → Option (List AV)
  | some (.box _ cs) => some cs
  | _ => none
theorem bxs_box (T : TypeId) (cs : List AV) : bxs (some (.box T cs)) = some cs := Eq.trans rfl rfl

section
variable {P : Program} [Tabs P] {C : Cx} {F : Post} {k : List IT} {r : List SO} {objs : List OB} {tm : List AV} {d : Option Nat}
theorem rn_nil : run P C [] objs tm F = F .normal objs tm := Eq.trans rfl rfl
theorem rn_seq (x y : SCode) : run P C (.code (.seq x y) :: k) objs tm F = run P C (.code x :: .code y :: k) objs tm F := Eq.trans rfl rfl
theorem rn_skip : run P C (.code .skip :: k) objs tm F = run P C k objs tm F := Eq.trans rfl rfl
theorem rn_reg (l : List SO) : run P C (.code (.reg l) :: k) objs tm F = run P C (.ops l :: k) objs tm F := Eq.trans rfl rfl
theorem rn_ap (l : List (Nat × Nat)) : run P C (.ap l :: k) objs tm F = (apOk l tm ∧ run P C k objs tm F) := Eq.trans rfl rfl
theorem apOk_n : apOk [] tm = True := Eq.trans rfl rfl
theorem apOk_c (s s' : Nat) (l : List (Nat × Nat)) : apOk ((s, s') :: l) tm = (apOne tm[s]? tm[s']? ∧ apOk l tm) := Eq.trans rfl rfl
theorem apOne_p (b o b' o' : Nat) : apOne (some (.p b o)) (some (.p b' o')) = (¬ b = b') := Eq.trans rfl rfl
theorem rn_drw (l : List SO) (n : Nat) (ap : List (Nat × Nat)) : run P C (.code (.drw l n ap) :: k) objs tm F = run P C (.dops (l.take n) :: .ap ap :: .ops (l.drop n) :: k) objs tm F := Eq.trans rfl rfl
theorem rn_blk (id : Nat) (c : SCode) : run P C (.code (.blk id c) :: k) objs tm F = run P C (.code c :: .blk id :: k) objs tm F := Eq.trans rfl rfl
theorem rn_inblk (id : Nat) : run P C (.blk id :: k) objs tm F = run P C k objs tm F := Eq.trans rfl rfl
theorem rn_ops_nil : run P C (.ops [] :: k) objs tm F = run P C k objs tm F := Eq.trans rfl rfl
theorem rn_dops_nil : run P C (.dops [] :: k) objs tm F = run P C k objs tm F := Eq.trans rfl rfl
theorem cont_ret : ∀ (k : List IT), cont P C F k .ret objs tm = F .ret objs tm
  | [] => rfl
  | .code c :: k => cont_ret k
  | .ops l :: k => cont_ret k
  | .dops l :: k => cont_ret k
  | .ap l :: k => cont_ret k
  | .blk id :: k => cont_ret k
theorem rn_ret : run P C (.code .ret :: k) objs tm F = F .ret objs tm := cont_ret k
theorem rn_exit (id : Nat) : run P C (.code (.exit id) :: k) objs tm F = xit P C id k objs tm F := Eq.trans rfl rfl
theorem xit_nil (id : Nat) : xit P C id [] objs tm F = F (.exit id) objs tm := Eq.trans rfl rfl
theorem xit_code (id : Nat) (c : SCode) : xit P C id (.code c :: k) objs tm F = xit P C id k objs tm F := Eq.trans rfl rfl
theorem xit_ops (id : Nat) (l : List SO) : xit P C id (.ops l :: k) objs tm F = xit P C id k objs tm F := Eq.trans rfl rfl
theorem xit_dops (id : Nat) (l : List SO) : xit P C id (.dops l :: k) objs tm F = xit P C id k objs tm F := Eq.trans rfl rfl
theorem xit_ap (id : Nat) (l : List (Nat × Nat)) : xit P C id (.ap l :: k) objs tm F = xit P C id k objs tm F := Eq.trans rfl rfl
theorem xit_blk (id id' : Nat) : xit P C id (.blk id' :: k) objs tm F = if id = id' then run P C k objs tm F else xit P C id k objs tm F := Eq.trans rfl rfl
theorem loopF_normal (J : Nat → List OB → List AV → Prop) (n : Nat) : loopF P C J n k F .normal objs tm = ∃ m, m < n ∧ J m objs tm := Eq.trans rfl rfl
theorem loopF_exit (J : Nat → List OB → List AV → Prop) (n id : Nat) : loopF P C J n k F (.exit id) objs tm = xit P C id k objs tm F := Eq.trans rfl rfl
theorem loopF_ret (J : Nat → List OB → List AV → Prop) (n : Nat) : loopF P C J n k F .ret objs tm = F .ret objs tm := cont_ret k
/-- a loop: J holds at each round's head, and the number goes down -/
theorem rn_loop [On P C] {c : SCode} (J : Nat → List OB → List AV → Prop) (n : Nat) (h0 : J n objs tm) (round : ∀ n objs tm, J n objs tm → run P C [.code c] objs tm (loopF P C J n k F)) : run P C (.code (.loop c) :: k) objs tm F :=
  wps_loop J n h0 round
def kO (P : Program) [Tabs P] (C : Cx) (v : Option AV) (d : Option Nat) (r : List SO) (k : List IT) (objs : List OB) (tm : List AV) (F : Post) : Prop :=
  match v with
  | some v => run P C (.ops r :: k) objs (setd tm d v) F
  | none => False
theorem rn_op (op : SOp) : run P C (.ops (⟨d, op, none⟩ :: r) :: k) objs tm F = wpS P op objs tm fun o v => run P C (.ops r :: k) o (setd tm d v) F := Eq.trans rfl rfl
theorem kO_some (v : AV) : kO P C (some v) d r k objs tm F = run P C (.ops r :: k) objs (setd tm d v) F := Eq.trans rfl rfl
theorem rn_mv (x : SV) : run P C (.ops (⟨d, .mv x, none⟩ :: r) :: k) objs tm F = run P C (.ops r :: k) objs (setd tm d (x.ev tm)) F := Eq.trans rfl rfl
def kPick (P : Program) [Tabs P] (C : Cx) (c x y : AV) (d : Option Nat) (r : List SO) (k : List IT) (objs : List OB) (tm : List AV) (F : Post) : Prop :=
  match c with
  | .b t => (t = true → run P C (.ops r :: k) objs (setd tm d x) F) ∧ (t = false → run P C (.ops r :: k) objs (setd tm d y) F)
  | _ => False
theorem kPick_t (x y : AV) : kPick P C (.b true) x y d r k objs tm F = run P C (.ops r :: k) objs (setd tm d x) F := propext ⟨fun h => h.1 rfl, fun h => ⟨fun _ => h, fun e => absurd e.symm Bool.false_ne_true⟩⟩
theorem kPick_f (x y : AV) : kPick P C (.b false) x y d r k objs tm F = run P C (.ops r :: k) objs (setd tm d y) F := propext ⟨fun h => h.2 rfl, fun h => ⟨fun e => absurd e Bool.false_ne_true, fun _ => h⟩⟩
theorem rn_pick (c x y : SV) : run P C (.ops (⟨d, .pick c x y, none⟩ :: r) :: k) objs tm F = kPick P C (c.ev tm) (x.ev tm) (y.ev tm) d r k objs tm F := Eq.trans rfl rfl
theorem rn_alloc (T : Nat) (z : List AV) : run P C (.ops (⟨d, .alloc T z, none⟩ :: r) :: k) objs tm F = run P C (.ops r :: k) (objs ++ [.box T z]) (setd tm d (.p objs.length 0)) F := Eq.trans rfl rfl
theorem rn_box (T : Nat) (x : SV) : run P C (.ops (⟨d, .box T x, none⟩ :: r) :: k) objs tm F = ((x.ev tm).flat = true ∧ run P C (.ops r :: k) (objs ++ [.box T (x.ev tm).cells]) (setd tm d (.p objs.length 0)) F) := Eq.trans rfl rfl
theorem rn_build (z : List AV) (ps : List (Nat × Nat × SV)) : run P C (.ops (⟨d, .build z ps, none⟩ :: r) :: k) objs tm F = kO P C ((fillA z (evp tm ps)).map .agg) d r k objs tm F := by
  rw [evp_eq]
  rw [rn_op]
  simp only [wpS]
  cases fillA z (ps.map fun p => (p.1, p.2.1, p.2.2.ev tm)) <;> rfl
theorem rn_bslice (n : Nat) (z : List AV) (ps : List (Nat × Nat × SV)) : run P C (.ops (⟨d, .bslice n z ps, none⟩ :: r) :: k) objs tm F = kO P C ((fillA z (evp tm ps)).map (.row n)) d r k objs tm F := by
  rw [evp_eq]
  rw [rn_op]
  simp only [wpS]
  cases fillA z (ps.map fun p => (p.1, p.2.1, p.2.2.ev tm)) <;> rfl
def kLd1 (P : Program) [Tabs P] (C : Cx) (v : AV) (d : Option Nat) (r : List SO) (k : List IT) (objs : List OB) (tm : List AV) (F : Post) : Prop :=
  match v with
  | .p b off => kO P C ((bxs objs[b]?).bind fun cs => cs[off]?) d r k objs tm F
  | .prow xs j => kO P C xs[j]? d r k objs tm F
  | _ => False
theorem kLd1_p (b off : Nat) : kLd1 P C (.p b off) d r k objs tm F = kO P C ((bxs objs[b]?).bind fun cs => cs[off]?) d r k objs tm F := Eq.trans rfl rfl
theorem kLd1_r (xs : List AV) (j : Nat) : kLd1 P C (.prow xs j) d r k objs tm F = kO P C xs[j]? d r k objs tm F := Eq.trans rfl rfl
theorem rn_load1 (x : SV) : run P C (.ops (⟨d, .load1 x, none⟩ :: r) :: k) objs tm F = kLd1 P C (x.ev tm) d r k objs tm F := by
  rw [rn_op]
  simp only [wpS, kLd1]
  cases x.ev tm <;> try rfl
  case p b off =>
    dsimp only
    generalize objs[b]? = q
    cases q with
    | none => rfl
    | some ob =>
      cases ob <;> try rfl
      all_goals (dsimp only [bxs, Option.bind]; split <;> rfl)
  case prow xs j =>
    dsimp only
    cases hx : xs[j]? with
    | none => simp [kO]
    | some v => simp [kO]
def kLdn (P : Program) [Tabs P] (C : Cx) (c : Option (List AV)) (off sz : Nat) (d : Option Nat) (r : List SO) (k : List IT) (objs : List OB) (tm : List AV) (F : Post) : Prop :=
  match c with
  | some cs => off + sz ≤ cs.length ∧ run P C (.ops r :: k) objs (setd tm d (.agg ((cs.drop off).take sz))) F
  | none => False
def kLdv (P : Program) [Tabs P] (C : Cx) (v : AV) (sz : Nat) (d : Option Nat) (r : List SO) (k : List IT) (objs : List OB) (tm : List AV) (F : Post) : Prop :=
  match v with
  | .p b off => kLdn P C (bxs objs[b]?) off sz d r k objs tm F
  | .prow xs j => kLdn P C (some xs) j sz d r k objs tm F
  | _ => False
theorem kLdn_s (cs : List AV) (off sz : Nat) : kLdn P C (some cs) off sz d r k objs tm F = (off + sz ≤ cs.length ∧ run P C (.ops r :: k) objs (setd tm d (.agg ((cs.drop off).take sz))) F) := Eq.trans rfl rfl
theorem kLdv_p (b off sz : Nat) : kLdv P C (.p b off) sz d r k objs tm F = kLdn P C (bxs objs[b]?) off sz d r k objs tm F := Eq.trans rfl rfl
theorem kLdv_r (xs : List AV) (j sz : Nat) : kLdv P C (.prow xs j) sz d r k objs tm F = kLdn P C (some xs) j sz d r k objs tm F := Eq.trans rfl rfl
theorem rn_loadn (sz : Nat) (x : SV) : run P C (.ops (⟨d, .loadn sz x, none⟩ :: r) :: k) objs tm F = kLdv P C (x.ev tm) sz d r k objs tm F := by
  rw [rn_op]
  simp only [wpS, kLdv]
  cases x.ev tm <;> try rfl
  try (case p b off =>
    dsimp only
    generalize objs[b]? = q
    cases q with
    | none => rfl
    | some ob => cases ob <;> rfl)
def kSt2 (P : Program) [Tabs P] (C : Cx) (c : Option OB) (b off sz : Nat) (v : AV) (d : Option Nat) (r : List SO) (k : List IT) (objs : List OB) (tm : List AV) (F : Post) : Prop :=
  match c with
  | some (.box T cs) => (v.flat = true ∧ v.cells.length = sz ∧ off + sz ≤ cs.length) ∧ run P C (.ops r :: k) (objs.set b (.box T (splice cs off v.cells))) (setd tm d .u) F
  | _ => False
def kSt (P : Program) [Tabs P] (C : Cx) (p v : AV) (sz : Nat) (d : Option Nat) (r : List SO) (k : List IT) (objs : List OB) (tm : List AV) (F : Post) : Prop :=
  match p with
  | .p b off => kSt2 P C objs[b]? b off sz v d r k objs tm F
  | _ => False
theorem kSt2_b (T : TypeId) (cs : List AV) (b off sz : Nat) (v : AV) : kSt2 P C (some (.box T cs)) b off sz v d r k objs tm F = ((v.flat = true ∧ v.cells.length = sz ∧ off + sz ≤ cs.length) ∧ run P C (.ops r :: k) (objs.set b (.box T (splice cs off v.cells))) (setd tm d .u) F) := Eq.trans rfl rfl
theorem kSt_p (b off sz : Nat) (v : AV) : kSt P C (.p b off) v sz d r k objs tm F = kSt2 P C objs[b]? b off sz v d r k objs tm F := Eq.trans rfl rfl
theorem rn_store (sz : Nat) (x y : SV) : run P C (.ops (⟨d, .store sz x y, none⟩ :: r) :: k) objs tm F = kSt P C (x.ev tm) (y.ev tm) sz d r k objs tm F := by
  rw [rn_op]
  simp only [wpS, kSt]
  cases x.ev tm <;> try rfl
  try (case p b off =>
    dsimp only
    generalize objs[b]? = q
    cases q with
    | none => rfl
    | some ob => cases ob <;> rfl)
def kNck (P : Program) [Tabs P] (C : Cx) (v : AV)  (d : Option Nat) (r : List SO) (k : List IT) (objs : List OB) (tm : List AV) (F : Post) : Prop :=
  match v with
  | .p b o => run P C (.ops r :: k) objs (setd tm d (.p b o)) F
  | .prow xs j => run P C (.ops r :: k) objs (setd tm d (.prow xs j)) F
  | .fn f fs cs => run P C (.ops r :: k) objs (setd tm d (.fn f fs cs)) F
  | _ => False
theorem kNck_0 (b o : Nat)  : kNck P C (.p b o)  d r k objs tm F = (run P C (.ops r :: k) objs (setd tm d (.p b o)) F) := Eq.trans rfl rfl
theorem kNck_1 (xs : List AV) (j : Nat)  : kNck P C (.prow xs j)  d r k objs tm F = (run P C (.ops r :: k) objs (setd tm d (.prow xs j)) F) := Eq.trans rfl rfl
theorem kNck_2 (f : Nat) (fs cs : List AV)  : kNck P C (.fn f fs cs)  d r k objs tm F = (run P C (.ops r :: k) objs (setd tm d (.fn f fs cs)) F) := Eq.trans rfl rfl
theorem rn_nck (x : SV) : run P C (.ops (⟨d, .nck x, none⟩ :: r) :: k) objs tm F = kNck P C (x.ev tm)  d r k objs tm F := by
  rw [rn_op]
  simp only [wpS, kNck]
  cases (x.ev tm) <;> rfl
def kNot (P : Program) [Tabs P] (C : Cx) (v : AV)  (d : Option Nat) (r : List SO) (k : List IT) (objs : List OB) (tm : List AV) (F : Post) : Prop :=
  match v with
  | .b t => run P C (.ops r :: k) objs (setd tm d (.b (!t))) F
  | _ => False
theorem kNot_0 (t : Bool)  : kNot P C (.b t)  d r k objs tm F = (run P C (.ops r :: k) objs (setd tm d (.b (!t))) F) := Eq.trans rfl rfl
theorem rn_not (x : SV) : run P C (.ops (⟨d, .not x, none⟩ :: r) :: k) objs tm F = kNot P C (x.ev tm)  d r k objs tm F := by
  rw [rn_op]
  simp only [wpS, kNot]
  cases (x.ev tm) <;> rfl
def kAr (P : Program) [Tabs P] (C : Cx) (q : IntKind) (z : Int) (d : Option Nat) (r : List SO) (k : List IT) (objs : List OB) (tm : List AV) (F : Post) : Prop := arK q z fun z => run P C (.ops r :: k) objs (setd tm d (.i q z)) F
theorem kAr_i64 (z : Int) : kAr P C .i64 z d r k objs tm F = ((-9223372036854775808 ≤ z ∧ z ≤ 9223372036854775807) ∧ run P C (.ops r :: k) objs (setd tm d (.i .i64 z)) F) := Eq.trans rfl rfl
theorem kAr_i8 (z : Int) : kAr P C .i8 z d r k objs tm F = run P C (.ops r :: k) objs (setd tm d (.i .i8 (IntKind.wrap .i8 z))) F := Eq.trans rfl rfl
theorem kAr_i16 (z : Int) : kAr P C .i16 z d r k objs tm F = run P C (.ops r :: k) objs (setd tm d (.i .i16 (IntKind.wrap .i16 z))) F := Eq.trans rfl rfl
theorem kAr_i32 (z : Int) : kAr P C .i32 z d r k objs tm F = run P C (.ops r :: k) objs (setd tm d (.i .i32 (IntKind.wrap .i32 z))) F := Eq.trans rfl rfl
theorem kAr_u8 (z : Int) : kAr P C .u8 z d r k objs tm F = run P C (.ops r :: k) objs (setd tm d (.i .u8 (IntKind.wrap .u8 z))) F := Eq.trans rfl rfl
theorem kAr_u16 (z : Int) : kAr P C .u16 z d r k objs tm F = run P C (.ops r :: k) objs (setd tm d (.i .u16 (IntKind.wrap .u16 z))) F := Eq.trans rfl rfl
theorem kAr_u32 (z : Int) : kAr P C .u32 z d r k objs tm F = run P C (.ops r :: k) objs (setd tm d (.i .u32 (IntKind.wrap .u32 z))) F := Eq.trans rfl rfl
theorem kAr_u64 (z : Int) : kAr P C .u64 z d r k objs tm F = run P C (.ops r :: k) objs (setd tm d (.i .u64 (IntKind.wrap .u64 z))) F := Eq.trans rfl rfl
def kNeg (P : Program) [Tabs P] (C : Cx) (v : AV)  (d : Option Nat) (r : List SO) (k : List IT) (objs : List OB) (tm : List AV) (F : Post) : Prop :=
  match v with
  | .i q n => kAr P C q (0 - n) d r k objs tm F
  | _ => False
theorem kNeg_0 (q : IntKind) (n : Int)  : kNeg P C (.i q n)  d r k objs tm F = (kAr P C q (0 - n) d r k objs tm F) := Eq.trans rfl rfl
theorem rn_neg (x : SV) : run P C (.ops (⟨d, .neg x, none⟩ :: r) :: k) objs tm F = kNeg P C (x.ev tm)  d r k objs tm F := by
  rw [rn_op]
  simp only [wpS, kNeg, kAr]
  cases x.ev tm <;> rfl
def kCvi (P : Program) [Tabs P] (C : Cx) (v : AV) (q : IntKind) (d : Option Nat) (r : List SO) (k : List IT) (objs : List OB) (tm : List AV) (F : Post) : Prop :=
  match v with
  | .i kk n => run P C (.ops r :: k) objs (setd tm d (.i q (q.wrap n))) F
  | _ => False
theorem kCvi_0 (kk : IntKind) (n : Int) (q : IntKind) : kCvi P C (.i kk n) q d r k objs tm F = (run P C (.ops r :: k) objs (setd tm d (.i q (q.wrap n))) F) := Eq.trans rfl rfl
theorem rn_cvi (q : IntKind) (x : SV) : run P C (.ops (⟨d, .cvi q x, none⟩ :: r) :: k) objs tm F = kCvi P C (x.ev tm) q d r k objs tm F := by
  rw [rn_op]
  simp only [wpS, kCvi]
  cases (x.ev tm) <;> rfl
def kCvs (P : Program) [Tabs P] (C : Cx) (v : AV)  (d : Option Nat) (r : List SO) (k : List IT) (objs : List OB) (tm : List AV) (F : Post) : Prop :=
  match v with
  | .s l => run P C (.ops r :: k) objs (setd tm d (.s l)) F
  | _ => False
theorem kCvs_0 (l : List UInt8)  : kCvs P C (.s l)  d r k objs tm F = (run P C (.ops r :: k) objs (setd tm d (.s l)) F) := Eq.trans rfl rfl
theorem rn_cvs (x : SV) : run P C (.ops (⟨d, .cvs x, none⟩ :: r) :: k) objs tm F = kCvs P C (x.ev tm)  d r k objs tm F := by
  rw [rn_op]
  simp only [wpS, kCvs]
  cases (x.ev tm) <;> rfl
def kLens (P : Program) [Tabs P] (C : Cx) (v : AV)  (d : Option Nat) (r : List SO) (k : List IT) (objs : List OB) (tm : List AV) (F : Post) : Prop :=
  match v with
  | .s l => run P C (.ops r :: k) objs (setd tm d (.i .i64 l.length)) F
  | _ => False
theorem kLens_0 (l : List UInt8)  : kLens P C (.s l)  d r k objs tm F = (run P C (.ops r :: k) objs (setd tm d (.i .i64 l.length)) F) := Eq.trans rfl rfl
theorem rn_lens (x : SV) : run P C (.ops (⟨d, .lens x, none⟩ :: r) :: k) objs tm F = kLens P C (x.ev tm)  d r k objs tm F := by
  rw [rn_op]
  simp only [wpS, kLens]
  cases (x.ev tm) <;> rfl
def kFldn (P : Program) [Tabs P] (C : Cx) (v : AV) (off sz : Nat) (d : Option Nat) (r : List SO) (k : List IT) (objs : List OB) (tm : List AV) (F : Post) : Prop :=
  match v with
  | .agg cs => run P C (.ops r :: k) objs (setd tm d (.agg ((cs.drop off).take sz))) F
  | _ => False
theorem kFldn_0 (cs : List AV) (off sz : Nat) : kFldn P C (.agg cs) off sz d r k objs tm F = (run P C (.ops r :: k) objs (setd tm d (.agg ((cs.drop off).take sz))) F) := Eq.trans rfl rfl
theorem rn_fldn (off sz : Nat) (x : SV) : run P C (.ops (⟨d, .fldn off sz x, none⟩ :: r) :: k) objs tm F = kFldn P C (x.ev tm) off sz d r k objs tm F := by
  rw [rn_op]
  simp only [wpS, kFldn]
  cases (x.ev tm) <;> rfl
def kFad (P : Program) [Tabs P] (C : Cx) (v : AV) (off : Nat) (d : Option Nat) (r : List SO) (k : List IT) (objs : List OB) (tm : List AV) (F : Post) : Prop :=
  match v with
  | .p b o => run P C (.ops r :: k) objs (setd tm d (.p b (o + off))) F
  | .prow xs j => run P C (.ops r :: k) objs (setd tm d (.prow xs (j + off))) F
  | _ => False
theorem kFad_0 (b o : Nat) (off : Nat) : kFad P C (.p b o) off d r k objs tm F = (run P C (.ops r :: k) objs (setd tm d (.p b (o + off))) F) := Eq.trans rfl rfl
theorem kFad_1 (xs : List AV) (j : Nat) (off : Nat) : kFad P C (.prow xs j) off d r k objs tm F = (run P C (.ops r :: k) objs (setd tm d (.prow xs (j + off))) F) := Eq.trans rfl rfl
theorem rn_fad (off : Nat) (x : SV) : run P C (.ops (⟨d, .fad off x, none⟩ :: r) :: k) objs tm F = kFad P C (x.ev tm) off d r k objs tm F := by
  rw [rn_op]
  simp only [wpS, kFad]
  cases (x.ev tm) <;> rfl
def kFld1 (P : Program) [Tabs P] (C : Cx) (v : AV) (off : Nat) (d : Option Nat) (r : List SO) (k : List IT) (objs : List OB) (tm : List AV) (F : Post) : Prop :=
  match v with
  | .agg cs => kO P C cs[off]? d r k objs tm F
  | _ => False
theorem kFld1_0 (cs : List AV) (off : Nat) : kFld1 P C (.agg cs) off d r k objs tm F = (kO P C cs[off]? d r k objs tm F) := Eq.trans rfl rfl
theorem rn_fld1 (off : Nat) (x : SV) : run P C (.ops (⟨d, .fld1 off x, none⟩ :: r) :: k) objs tm F = kFld1 P C (x.ev tm) off d r k objs tm F := by
  rw [rn_op]
  simp only [wpS, kFld1]
  cases x.ev tm <;> try rfl
  try (case agg cs => dsimp only; cases cs[off]? <;> rfl)
def kExt (P : Program) [Tabs P] (C : Cx) (v : AV) (j : Nat) (d : Option Nat) (r : List SO) (k : List IT) (objs : List OB) (tm : List AV) (F : Post) : Prop :=
  match v with
  | .tup cs => kO P C cs[j]? d r k objs tm F
  | _ => False
theorem kExt_0 (cs : List AV) (j : Nat) : kExt P C (.tup cs) j d r k objs tm F = (kO P C cs[j]? d r k objs tm F) := Eq.trans rfl rfl
theorem rn_ext (x : SV) (j : Nat) : run P C (.ops (⟨d, .ext x j, none⟩ :: r) :: k) objs tm F = kExt P C (x.ev tm) j d r k objs tm F := by
  rw [rn_op]
  simp only [wpS, kExt]
  cases x.ev tm <;> try rfl
  try (case tup cs => dsimp only; cases cs[j]? <;> rfl)
def kLr2 (P : Program) [Tabs P] (C : Cx) (c : Option OB) (gen : Nat) (d : Option Nat) (r : List SO) (k : List IT) (objs : List OB) (tm : List AV) (F : Post) : Prop :=
  match c with
  | some (.orow _ _ gen' n _) => gen' = gen ∧ run P C (.ops r :: k) objs (setd tm d (.i .i64 n)) F
  | _ => False
theorem kLr2_o (E sz gen' n gen : Nat) (xs : List AV) : kLr2 P C (some (.orow E sz gen' n xs)) gen d r k objs tm F = (gen' = gen ∧ run P C (.ops r :: k) objs (setd tm d (.i .i64 n)) F) := Eq.trans rfl rfl
def kLenr (P : Program) [Tabs P] (C : Cx) (v : AV)  (d : Option Nat) (r : List SO) (k : List IT) (objs : List OB) (tm : List AV) (F : Post) : Prop :=
  match v with
  | .row n xs => run P C (.ops r :: k) objs (setd tm d (.i .i64 n)) F
  | .nil => run P C (.ops r :: k) objs (setd tm d (.i .i64 0)) F
  | .orow b gen => kLr2 P C objs[b]? gen d r k objs tm F
  | _ => False
theorem kLenr_0 (n : Nat) (xs : List AV)  : kLenr P C (.row n xs)  d r k objs tm F = (run P C (.ops r :: k) objs (setd tm d (.i .i64 n)) F) := Eq.trans rfl rfl
theorem kLenr_1   : kLenr P C (.nil)  d r k objs tm F = (run P C (.ops r :: k) objs (setd tm d (.i .i64 0)) F) := Eq.trans rfl rfl
theorem kLenr_2 (b gen : Nat)  : kLenr P C (.orow b gen)  d r k objs tm F = (kLr2 P C objs[b]? gen d r k objs tm F) := Eq.trans rfl rfl
theorem rn_lenr (x : SV) : run P C (.ops (⟨d, .lenr x, none⟩ :: r) :: k) objs tm F = kLenr P C (x.ev tm)  d r k objs tm F := by
  rw [rn_op]
  simp only [wpS, kLenr]
  cases x.ev tm <;> try rfl
  try (case orow b gen =>
    dsimp only
    generalize objs[b]? = q
    cases q with
    | none => rfl
    | some ob => cases ob <;> rfl)
def kBeq (P : Program) [Tabs P] (C : Cx) (ne : Bool) (x y : AV) (d : Option Nat) (r : List SO) (k : List IT) (objs : List OB) (tm : List AV) (F : Post) : Prop :=
  match x, y with
  | .b l, .b m => run P C (.ops r :: k) objs (setd tm d (.b (if ne then !(l == m) else (l == m)))) F
  | _, _ => False
def kEq (P : Program) [Tabs P] (C : Cx) (ne : Bool) (x : Option Bool) (d : Option Nat) (r : List SO) (k : List IT) (objs : List OB) (tm : List AV) (F : Post) : Prop :=
  match x with
  | some q => run P C (.ops r :: k) objs (setd tm d (.b (if ne then !q else q))) F
  | none => False
def kEqs (P : Program) [Tabs P] (C : Cx) (ne : Bool) (e : ET) (x y : AV) (d : Option Nat) (r : List SO) (k : List IT) (objs : List OB) (tm : List AV) (F : Post) : Prop :=
  match x, y with
  | .agg xs, .agg ys => kEq P C ne (eqA e (.agg xs) (.agg ys)) d r k objs tm F
  | _, _ => False
theorem kBeq_true (l m : Bool) : kBeq P C true (.b l) (.b m) d r k objs tm F = run P C (.ops r :: k) objs (setd tm d (.b (!(l == m)))) F := Eq.trans rfl rfl
theorem kEq_true (q : Bool) : kEq P C true (some q) d r k objs tm F = run P C (.ops r :: k) objs (setd tm d (.b (!q))) F := Eq.trans rfl rfl
theorem kBeq_false (l m : Bool) : kBeq P C false (.b l) (.b m) d r k objs tm F = run P C (.ops r :: k) objs (setd tm d (.b (l == m))) F := Eq.trans rfl rfl
theorem kEq_false (q : Bool) : kEq P C false (some q) d r k objs tm F = run P C (.ops r :: k) objs (setd tm d (.b q)) F := Eq.trans rfl rfl
theorem kEqs_a (ne : Bool) (e : ET) (xs ys : List AV) : kEqs P C ne e (.agg xs) (.agg ys) d r k objs tm F = kEq P C ne (eqA e (.agg xs) (.agg ys)) d r k objs tm F := Eq.trans rfl rfl
theorem rn_beq (ne : Bool) (x y : SV) : run P C (.ops (⟨d, .beq ne x y, none⟩ :: r) :: k) objs tm F = kBeq P C ne (x.ev tm) (y.ev tm) d r k objs tm F := by
  rw [rn_op]
  simp only [wpS, kBeq]
  cases x.ev tm <;> try rfl
  try (cases y.ev tm <;> rfl)
theorem rn_eqs (ne : Bool) (e : ET) (x y : SV) : run P C (.ops (⟨d, .eqs ne e x y, none⟩ :: r) :: k) objs tm F = kEqs P C ne e (x.ev tm) (y.ev tm) d r k objs tm F := by
  rw [rn_op]
  simp only [wpS, kEqs]
  cases x.ev tm <;> try rfl
  try (cases y.ev tm <;> try rfl)
  try (simp only [kEq]; cases eqA e _ _ <;> rfl)
def kIad (P : Program) [Tabs P] (C : Cx) (x y : AV) (sz : Nat) (d : Option Nat) (r : List SO) (k : List IT) (objs : List OB) (tm : List AV) (F : Post) : Prop :=
  match x, y with
  | .row n xs, .i kk i => (0 ≤ i ∧ i < n ∧ n * sz ≤ xs.length) ∧ run P C (.ops r :: k) objs (setd tm d (.prow xs (i.toNat * sz))) F
  | _, _ => False
theorem kIad_0 (n : Nat) (xs : List AV) (kk : IntKind) (i : Int) (sz : Nat) : kIad P C (.row n xs) (.i kk i) sz d r k objs tm F = ((0 ≤ i ∧ i < n ∧ n * sz ≤ xs.length) ∧ run P C (.ops r :: k) objs (setd tm d (.prow xs (i.toNat * sz))) F) := Eq.trans rfl rfl
theorem rn_iad (sz : Nat) (x y : SV) : run P C (.ops (⟨d, .iad sz x y, none⟩ :: r) :: k) objs tm F = kIad P C (x.ev tm) (y.ev tm) sz d r k objs tm F := by
  rw [rn_op]
  simp only [wpS, kIad]
  cases x.ev tm <;> try rfl
  try (cases y.ev tm <;> rfl)
def kIada (P : Program) [Tabs P] (C : Cx) (x y : AV) (sz len : Nat) (d : Option Nat) (r : List SO) (k : List IT) (objs : List OB) (tm : List AV) (F : Post) : Prop :=
  match x, y with
  | .p b off, .i kk i => (0 ≤ i ∧ i < len) ∧ run P C (.ops r :: k) objs (setd tm d (.p b (off + i.toNat * sz))) F
  | _, _ => False
theorem kIada_0 (b off : Nat) (kk : IntKind) (i : Int) (sz len : Nat) : kIada P C (.p b off) (.i kk i) sz len d r k objs tm F = ((0 ≤ i ∧ i < len) ∧ run P C (.ops r :: k) objs (setd tm d (.p b (off + i.toNat * sz))) F) := Eq.trans rfl rfl
theorem rn_iada (sz len : Nat) (x y : SV) : run P C (.ops (⟨d, .iada sz len x y, none⟩ :: r) :: k) objs tm F = kIada P C (x.ev tm) (y.ev tm) sz len d r k objs tm F := by
  rw [rn_op]
  simp only [wpS, kIada]
  cases x.ev tm <;> try rfl
  try (cases y.ev tm <;> rfl)
def kIdx (P : Program) [Tabs P] (C : Cx) (x y : AV)  (d : Option Nat) (r : List SO) (k : List IT) (objs : List OB) (tm : List AV) (F : Post) : Prop :=
  match x, y with
  | .s l, .i kk i => (0 ≤ i ∧ i < l.length) ∧ run P C (.ops r :: k) objs (setd tm d (.i .u8 ((l.getD i.toNat 0).toNat : Int))) F
  | _, _ => False
theorem kIdx_0 (l : List UInt8) (kk : IntKind) (i : Int)  : kIdx P C (.s l) (.i kk i)  d r k objs tm F = ((0 ≤ i ∧ i < l.length) ∧ run P C (.ops r :: k) objs (setd tm d (.i .u8 ((l.getD i.toNat 0).toNat : Int))) F) := Eq.trans rfl rfl
theorem rn_idx (x y : SV) : run P C (.ops (⟨d, .idx x y, none⟩ :: r) :: k) objs tm F = kIdx P C (x.ev tm) (y.ev tm)  d r k objs tm F := by
  rw [rn_op]
  simp only [wpS, kIdx]
  cases x.ev tm <;> try rfl
  try (cases y.ev tm <;> rfl)
def kMks (P : Program) [Tabs P] (C : Cx) (x y : AV) (E sz by' : Nat) (d : Option Nat) (r : List SO) (k : List IT) (objs : List OB) (tm : List AV) (F : Post) : Prop :=
  match x, y with
  | .i k1 l, .i k2 c => (l = 0 ∧ 0 ≤ c ∧ (by' : Int) * c ≤ 281474976710656 ∧ c ≤ 140737488351232 + 4096) ∧ run P C (.ops r :: k) (objs ++ [.orow E sz 0 0 []]) (setd tm d (.orow objs.length 0)) F
  | _, _ => False
theorem kMks_0 (k1 : IntKind) (l : Int) (k2 : IntKind) (c : Int) (E sz by' : Nat) : kMks P C (.i k1 l) (.i k2 c) E sz by' d r k objs tm F = ((l = 0 ∧ 0 ≤ c ∧ (by' : Int) * c ≤ 281474976710656 ∧ c ≤ 140737488351232 + 4096) ∧ run P C (.ops r :: k) (objs ++ [.orow E sz 0 0 []]) (setd tm d (.orow objs.length 0)) F) := Eq.trans rfl rfl
theorem rn_mks (E sz by' : Nat) (x y : SV) : run P C (.ops (⟨d, .mks E sz by' x y, none⟩ :: r) :: k) objs tm F = kMks P C (x.ev tm) (y.ev tm) E sz by' d r k objs tm F := by
  rw [rn_op]
  simp only [wpS, kMks, show (140737488351232 + 4096 : Int) = 140737488355328 from rfl]
  cases x.ev tm <;> try rfl
  try (cases y.ev tm <;> rfl)
def kBin (P : Program) [Tabs P] (C : Cx) (op : BinOp) (x y : AV) (d : Option Nat) (r : List SO) (k : List IT) (objs : List OB) (tm : List AV) (F : Post) : Prop := binK op x y fun v => run P C (.ops r :: k) objs (setd tm d v) F
theorem rn_bin (q : BinOp) (x y : SV) : run P C (.ops (⟨d, .bin q x y, none⟩ :: r) :: k) objs tm F = kBin P C q (x.ev tm) (y.ev tm) d r k objs tm F := Eq.trans rfl rfl
theorem kBin_add (q : IntKind) (m n : Int) : kBin P C .add (.i q m) (.i q n) d r k objs tm F = kAr P C q (m + n) d r k objs tm F := propext ⟨fun h => h.2, fun h => ⟨rfl, h⟩⟩
theorem kBin_sub (q : IntKind) (m n : Int) : kBin P C .sub (.i q m) (.i q n) d r k objs tm F = kAr P C q (m - n) d r k objs tm F := propext ⟨fun h => h.2, fun h => ⟨rfl, h⟩⟩
theorem kBin_mul (q : IntKind) (m n : Int) : kBin P C .mul (.i q m) (.i q n) d r k objs tm F = kAr P C q (m * n) d r k objs tm F := propext ⟨fun h => h.2, fun h => ⟨rfl, h⟩⟩
theorem kBin_quo (q : IntKind) (m n : Int) : kBin P C .quo (.i q m) (.i q n) d r k objs tm F = (n ≠ 0 ∧ kAr P C q (m.tdiv n) d r k objs tm F) := propext ⟨fun h => h.2, fun h => ⟨rfl, h⟩⟩
theorem kBin_rem (q : IntKind) (m n : Int) : kBin P C .rem (.i q m) (.i q n) d r k objs tm F = (n ≠ 0 ∧ run P C (.ops r :: k) objs (setd tm d (.i q (m.tmod n))) F) := propext ⟨fun h => h.2, fun h => ⟨rfl, h⟩⟩
theorem kBin_eql (q : IntKind) (m n : Int) : kBin P C .eql (.i q m) (.i q n) d r k objs tm F = run P C (.ops r :: k) objs (setd tm d (.b (decide (m = n)))) F := propext ⟨fun h => h.2, fun h => ⟨rfl, h⟩⟩
theorem kBin_neq (q : IntKind) (m n : Int) : kBin P C .neq (.i q m) (.i q n) d r k objs tm F = run P C (.ops r :: k) objs (setd tm d (.b (decide (¬ m = n)))) F := propext ⟨fun h => h.2, fun h => ⟨rfl, h⟩⟩
theorem kBin_lss (q : IntKind) (m n : Int) : kBin P C .lss (.i q m) (.i q n) d r k objs tm F = run P C (.ops r :: k) objs (setd tm d (.b (decide (m < n)))) F := propext ⟨fun h => h.2, fun h => ⟨rfl, h⟩⟩
theorem kBin_leq (q : IntKind) (m n : Int) : kBin P C .leq (.i q m) (.i q n) d r k objs tm F = run P C (.ops r :: k) objs (setd tm d (.b (decide (m ≤ n)))) F := propext ⟨fun h => h.2, fun h => ⟨rfl, h⟩⟩
theorem kBin_gtr (q : IntKind) (m n : Int) : kBin P C .gtr (.i q m) (.i q n) d r k objs tm F = run P C (.ops r :: k) objs (setd tm d (.b (decide (n < m)))) F := propext ⟨fun h => h.2, fun h => ⟨rfl, h⟩⟩
theorem kBin_geq (q : IntKind) (m n : Int) : kBin P C .geq (.i q m) (.i q n) d r k objs tm F = run P C (.ops r :: k) objs (setd tm d (.b (decide (n ≤ m)))) F := propext ⟨fun h => h.2, fun h => ⟨rfl, h⟩⟩
theorem kBin_cat (l m : List UInt8) : kBin P C .add (.s l) (.s m) d r k objs tm F = (l.length + m.length ≤ 9223372036854775807 ∧ run P C (.ops r :: k) objs (setd tm d (.s (l ++ m))) F) := Eq.trans rfl rfl
theorem kBin_seq (l m : List UInt8) : kBin P C .eql (.s l) (.s m) d r k objs tm F = run P C (.ops r :: k) objs (setd tm d (.b (decide (l = m)))) F := Eq.trans rfl rfl
theorem kBin_sne (l m : List UInt8) : kBin P C .neq (.s l) (.s m) d r k objs tm F = run P C (.ops r :: k) objs (setd tm d (.b (decide (¬ l = m)))) F := Eq.trans rfl rfl
def kSl2 (P : Program) [Tabs P] (C : Cx) (l : List UInt8) (i j : Option Int) (d : Option Nat) (r : List SO) (k : List IT) (objs : List OB) (tm : List AV) (F : Post) : Prop :=
  match i, j with
  | some i, some j => (0 ≤ i ∧ i ≤ j ∧ j ≤ l.length) ∧ run P C (.ops r :: k) objs (setd tm d (.s ((l.take j.toNat).drop i.toNat))) F
  | _, _ => False
def kSl (P : Program) [Tabs P] (C : Cx) (v : AV) (lo hi : Option SV) (d : Option Nat) (r : List SO) (k : List IT) (objs : List OB) (tm : List AV) (F : Post) : Prop :=
  match v with
  | .s l => kSl2 P C l (svbS tm 0 lo) (svbS tm l.length hi) d r k objs tm F
  | _ => False
def svi : AV → Option Int
  | .i _ n => some n
  | _ => none
theorem svi_i (q : IntKind) (n : Int) : svi (.i q n) = some n := Eq.trans rfl rfl
theorem svbS_none (z : Int) : svbS tm z none = some z := Eq.trans rfl rfl
theorem svbS_some (z : Int) (x : SV) : svbS tm z (some x) = svi (x.ev tm) := by
  simp only [svbS]; cases x.ev tm <;> rfl
theorem kSl2_s (l : List UInt8) (i j : Int) : kSl2 P C l (some i) (some j) d r k objs tm F = ((0 ≤ i ∧ i ≤ j ∧ j ≤ l.length) ∧ run P C (.ops r :: k) objs (setd tm d (.s ((l.take j.toNat).drop i.toNat))) F) := Eq.trans rfl rfl
theorem kSl_s (l : List UInt8) (lo hi : Option SV) : kSl P C (.s l) lo hi d r k objs tm F = kSl2 P C l (svbS tm 0 lo) (svbS tm l.length hi) d r k objs tm F := Eq.trans rfl rfl
theorem rn_slcs (x : SV) (lo hi : Option SV) : run P C (.ops (⟨d, .slcs x lo hi, none⟩ :: r) :: k) objs tm F = kSl P C (x.ev tm) lo hi d r k objs tm F := by
  rw [rn_op]
  simp only [wpS, kSl]
  cases x.ev tm <;> try rfl
  try (case s l => dsimp only [kSl2]; cases svbS tm 0 lo <;> cases svbS tm l.length hi <;> rfl)
def kAp3 (P : Program) [Tabs P] (C : Cx) (c : Option OB) (b gen E sz by' m : Nat) (ys : List AV) (d : Option Nat) (r : List SO) (k : List IT) (objs : List OB) (tm : List AV) (F : Post) : Prop :=
  match c with
  | some (.orow E' sz' gen' n xs) => ((E' = E ∧ sz' = sz ∧ gen' = gen) ∧ ys.length = m * sz ∧ (n + m) * by' ≤ 140737488355328 ∧ n + m ≤ 140737488355328) ∧ run P C (.ops r :: k) (objs.set b (.orow E sz (gen + 1) (n + m) (xs ++ ys))) (setd tm d (.orow b (gen + 1))) F
  | _ => False
def kAp2 (P : Program) [Tabs P] (C : Cx) (v : AV) (E sz by' m : Nat) (ys : List AV) (d : Option Nat) (r : List SO) (k : List IT) (objs : List OB) (tm : List AV) (F : Post) : Prop :=
  match v with
  | .orow b gen => kAp3 P C objs[b]? b gen E sz by' m ys d r k objs tm F
  | .nil => (ys.length = m * sz ∧ m * by' ≤ 140737488355328 ∧ m ≤ 140737488355328) ∧ run P C (.ops r :: k) (objs ++ [.orow E sz 0 m ys]) (setd tm d (.orow objs.length 0)) F
  | _ => False
def kAp (P : Program) [Tabs P] (C : Cx) (v : AV) (s : Option (Nat × List AV)) (E sz by' : Nat) (d : Option Nat) (r : List SO) (k : List IT) (objs : List OB) (tm : List AV) (F : Post) : Prop :=
  match s with
  | some (m, ys) => kAp2 P C v E sz by' m ys d r k objs tm F
  | none => False
def kAs2 (P : Program) [Tabs P] (C : Cx) (c : Option OB) (b gen E : Nat) (l : List UInt8) (d : Option Nat) (r : List SO) (k : List IT) (objs : List OB) (tm : List AV) (F : Post) : Prop :=
  match c with
  | some (.orow E' sz' gen' n xs) => ((E' = E ∧ sz' = 1 ∧ gen' = gen) ∧ n + l.length ≤ 140737488355328) ∧ run P C (.ops r :: k) (objs.set b (.orow E 1 (gen + 1) (n + l.length) (xs ++ byA l))) (setd tm d (.orow b (gen + 1))) F
  | _ => False
def kAs (P : Program) [Tabs P] (C : Cx) (v y : AV) (E : Nat) (d : Option Nat) (r : List SO) (k : List IT) (objs : List OB) (tm : List AV) (F : Post) : Prop :=
  match y with
  | .s l => match v with
    | .orow b gen => kAs2 P C objs[b]? b gen E l d r k objs tm F
    | .nil => l.length ≤ 140737488355328 ∧ run P C (.ops r :: k) (objs ++ [.orow E 1 0 l.length (byA l)]) (setd tm d (.orow objs.length 0)) F
    | _ => False
  | _ => False
theorem kAp_s (v : AV) (m : Nat) (ys : List AV) (E sz by' : Nat) : kAp P C v (some (m, ys)) E sz by' d r k objs tm F = kAp2 P C v E sz by' m ys d r k objs tm F := Eq.trans rfl rfl
theorem kAp2_o (b gen E sz by' m : Nat) (ys : List AV) : kAp2 P C (.orow b gen) E sz by' m ys d r k objs tm F = kAp3 P C objs[b]? b gen E sz by' m ys d r k objs tm F := Eq.trans rfl rfl
theorem kAp2_n (E sz by' m : Nat) (ys : List AV) : kAp2 P C .nil E sz by' m ys d r k objs tm F = ((ys.length = m * sz ∧ m * by' ≤ 140737488355328 ∧ m ≤ 140737488355328) ∧ run P C (.ops r :: k) (objs ++ [.orow E sz 0 m ys]) (setd tm d (.orow objs.length 0)) F) := Eq.trans rfl rfl
theorem kAp3_o (b gen E sz by' m n : Nat) (ys xs : List AV) : kAp3 P C (some (.orow E sz gen n xs)) b gen E sz by' m ys d r k objs tm F = ((ys.length = m * sz ∧ (n + m) * by' ≤ 140737488355328 ∧ n + m ≤ 140737488355328) ∧ run P C (.ops r :: k) (objs.set b (.orow E sz (gen + 1) (n + m) (xs ++ ys))) (setd tm d (.orow b (gen + 1))) F) := propext ⟨fun h => ⟨h.1.2, h.2⟩, fun h => ⟨⟨⟨rfl, rfl, rfl⟩, h.1⟩, h.2⟩⟩
theorem kAs_o (b gen E : Nat) (l : List UInt8) : kAs P C (.orow b gen) (.s l) E d r k objs tm F = kAs2 P C objs[b]? b gen E l d r k objs tm F := Eq.trans rfl rfl
theorem kAs_n (E : Nat) (l : List UInt8) : kAs P C .nil (.s l) E d r k objs tm F = (l.length ≤ 140737488355328 ∧ run P C (.ops r :: k) (objs ++ [.orow E 1 0 l.length (byA l)]) (setd tm d (.orow objs.length 0)) F) := Eq.trans rfl rfl
theorem kAs2_o (b gen E n : Nat) (l : List UInt8) (xs : List AV) : kAs2 P C (some (.orow E 1 gen n xs)) b gen E l d r k objs tm F = (n + l.length ≤ 140737488355328 ∧ run P C (.ops r :: k) (objs.set b (.orow E 1 (gen + 1) (n + l.length) (xs ++ byA l))) (setd tm d (.orow b (gen + 1))) F) := propext ⟨fun h => ⟨h.1.2, h.2⟩, fun h => ⟨⟨⟨rfl, rfl, rfl⟩, h.1⟩, h.2⟩⟩
theorem rn_app (E sz by' : Nat) (x y : SV) : run P C (.ops (⟨d, .app E sz by' x y, none⟩ :: r) :: k) objs tm F = kAp P C (x.ev tm) (srcOf objs (y.ev tm)) E sz by' d r k objs tm F := by
  rw [rn_op]
  simp only [wpS, kAp]
  cases hs : srcOf objs (y.ev tm) with
  | none => rfl
  | some p =>
    obtain ⟨m, ys⟩ := p
    simp only [kAp2]
    cases x.ev tm <;> try rfl
    try (case orow b gen =>
      dsimp only [kAp3]
      generalize objs[b]? = q
      cases q with
      | none => rfl
      | some ob => cases ob <;> rfl)
theorem rn_apps (E : Nat) (x y : SV) : run P C (.ops (⟨d, .apps E x y, none⟩ :: r) :: k) objs tm F = kAs P C (x.ev tm) (y.ev tm) E d r k objs tm F := by
  rw [rn_op]
  simp only [wpS, kAs]
  cases y.ev tm <;> try rfl
  try (case s l =>
    cases x.ev tm <;> try rfl
    try (case orow b gen =>
      dsimp only [kAs2]
      generalize objs[b]? = q
      cases q with
      | none => rfl
      | some ob => cases ob <;> rfl))
def kCb2 (P : Program) [Tabs P] (C : Cx) (c : Option OB) (gen : Nat) (d : Option Nat) (r : List SO) (k : List IT) (objs : List OB) (tm : List AV) (F : Post) : Prop :=
  match c with
  | some (.orow _ sz gen' _ xs) => (gen' = gen ∧ sz = 1) ∧ ∃ l, xs = byA l ∧ run P C (.ops r :: k) objs (setd tm d (.s l)) F
  | _ => False
def kCb (P : Program) [Tabs P] (C : Cx) (v : AV) (d : Option Nat) (r : List SO) (k : List IT) (objs : List OB) (tm : List AV) (F : Post) : Prop :=
  match v with
  | .orow b gen => kCb2 P C objs[b]? gen d r k objs tm F
  | .row n xs => ∃ l, (xs = byA l ∧ n = l.length) ∧ run P C (.ops r :: k) objs (setd tm d (.s l)) F
  | .nil => run P C (.ops r :: k) objs (setd tm d (.s [])) F
  | _ => False
theorem kCb2_o (E n gen : Nat) (l : List UInt8) (h : run P C (.ops r :: k) objs (setd tm d (.s l)) F) : kCb2 P C (some (.orow E 1 gen n (byA l))) gen d r k objs tm F := ⟨⟨rfl, rfl⟩, l, rfl, h⟩
theorem kCb_row (l : List UInt8) (n : Nat) (hn : n = l.length) (h : run P C (.ops r :: k) objs (setd tm d (.s l)) F) : kCb P C (.row n (byA l)) d r k objs tm F := ⟨l, ⟨rfl, hn⟩, h⟩
theorem kCb_o (b gen : Nat) : kCb P C (.orow b gen) d r k objs tm F = kCb2 P C objs[b]? gen d r k objs tm F := Eq.trans rfl rfl
theorem kCb_n  : kCb P C .nil d r k objs tm F = run P C (.ops r :: k) objs (setd tm d (.s [])) F := Eq.trans rfl rfl
theorem rn_cvbs (x : SV) : run P C (.ops (⟨d, .cvbs x, none⟩ :: r) :: k) objs tm F = kCb P C (x.ev tm) d r k objs tm F := by
  rw [rn_op]
  simp only [wpS, kCb]
  cases x.ev tm <;> try rfl
  try (case orow b gen =>
    dsimp only
    generalize objs[b]? = q
    cases q with
    | none => rfl
    | some ob => cases ob <;> rfl)
theorem rn_mkf (f : Nat) (fs cs : List SV) : run P C (.ops (⟨d, .mkf f fs cs, none⟩ :: r) :: k) objs tm F = run P C (.ops r :: k) objs (setd tm d (.fn f (evs tm fs) (evs tm cs))) F := by rw [evs_eq, evs_eq]; rfl
def kG (P : Program) [Tabs P] (C : Cx) (v : AV) (op : SOp) (t : Nat) (w : Bool) (d : Option Nat) (r : List SO) (k : List IT) (objs : List OB) (tm : List AV) (F : Post) : Prop :=
  match v with
  | .b x => (x = w → run P C (.ops (⟨d, op, none⟩ :: r) :: k) objs (tm.set t (.b w)) F) ∧ (x = !w → run P C (.ops r :: k) objs (setd (tm.set t (.b (!w))) d (.o undef)) F)
  | .o (.tuple _) => run P C (.ops r :: k) objs (setd tm d (.o undef)) F
  | _ => False
def kGD (P : Program) [Tabs P] (C : Cx) (v : AV) (op : SOp) (t : Nat) (w : Bool) (d : Option Nat) (r : List SO) (k : List IT) (objs : List OB) (tm : List AV) (F : Post) : Prop :=
  match v with
  | .b x => (x = w → run P C (.dops (⟨d, op, none⟩ :: r) :: k) objs (tm.set t (.b w)) F) ∧ (x = !w → run P C (.dops r :: k) objs (setd (tm.set t (.b (!w))) d (.o undef)) F)
  | .o (.tuple _) => run P C (.dops r :: k) objs (setd tm d (.o undef)) F
  | _ => False
theorem kG_tt (op : SOp) (t : Nat) : kG P C (.b true) op t true d r k objs tm F = run P C (.ops (⟨d, op, none⟩ :: r) :: k) objs (tm.set t (.b true)) F := propext ⟨fun h => h.1 rfl, fun h => ⟨fun _ => h, fun e => absurd e (by decide)⟩⟩
theorem kG_tf (op : SOp) (t : Nat) : kG P C (.b true) op t false d r k objs tm F = run P C (.ops r :: k) objs (setd (tm.set t (.b true)) d (.o undef)) F := propext ⟨fun h => h.2 rfl, fun h => ⟨fun e => absurd e (by decide), fun _ => h⟩⟩
theorem kG_ft (op : SOp) (t : Nat) : kG P C (.b false) op t true d r k objs tm F = run P C (.ops r :: k) objs (setd (tm.set t (.b false)) d (.o undef)) F := propext ⟨fun h => h.2 rfl, fun h => ⟨fun e => absurd e (by decide), fun _ => h⟩⟩
theorem kG_ff (op : SOp) (t : Nat) : kG P C (.b false) op t false d r k objs tm F = run P C (.ops (⟨d, op, none⟩ :: r) :: k) objs (tm.set t (.b false)) F := propext ⟨fun h => h.1 rfl, fun h => ⟨fun _ => h, fun e => absurd e (by decide)⟩⟩
theorem kG_u (op : SOp) (t : Nat) (w : Bool) : kG P C (.o undef) op t w d r k objs tm F = run P C (.ops r :: k) objs (setd tm d (.o undef)) F := Eq.trans rfl rfl
theorem kG_v (op : SOp) (t : Nat) (w : Bool) (vs : Array Value) : kG P C (.o (.tuple vs)) op t w d r k objs tm F = run P C (.ops r :: k) objs (setd tm d (.o undef)) F := Eq.trans rfl rfl
theorem kGD_tt (op : SOp) (t : Nat) : kGD P C (.b true) op t true d r k objs tm F = run P C (.dops (⟨d, op, none⟩ :: r) :: k) objs (tm.set t (.b true)) F := propext ⟨fun h => h.1 rfl, fun h => ⟨fun _ => h, fun e => absurd e (by decide)⟩⟩
theorem kGD_tf (op : SOp) (t : Nat) : kGD P C (.b true) op t false d r k objs tm F = run P C (.dops r :: k) objs (setd (tm.set t (.b true)) d (.o undef)) F := propext ⟨fun h => h.2 rfl, fun h => ⟨fun e => absurd e (by decide), fun _ => h⟩⟩
theorem kGD_ft (op : SOp) (t : Nat) : kGD P C (.b false) op t true d r k objs tm F = run P C (.dops r :: k) objs (setd (tm.set t (.b false)) d (.o undef)) F := propext ⟨fun h => h.2 rfl, fun h => ⟨fun e => absurd e (by decide), fun _ => h⟩⟩
theorem kGD_ff (op : SOp) (t : Nat) : kGD P C (.b false) op t false d r k objs tm F = run P C (.dops (⟨d, op, none⟩ :: r) :: k) objs (tm.set t (.b false)) F := propext ⟨fun h => h.1 rfl, fun h => ⟨fun _ => h, fun e => absurd e (by decide)⟩⟩
theorem kGD_u (op : SOp) (t : Nat) (w : Bool) : kGD P C (.o undef) op t w d r k objs tm F = run P C (.dops r :: k) objs (setd tm d (.o undef)) F := Eq.trans rfl rfl
theorem kGD_v (op : SOp) (t : Nat) (w : Bool) (vs : Array Value) : kGD P C (.o (.tuple vs)) op t w d r k objs tm F = run P C (.dops r :: k) objs (setd tm d (.o undef)) F := Eq.trans rfl rfl
theorem rn_guard (op : SOp) (t : Nat) (w : Bool) : run P C (.ops (⟨d, op, some (t, w)⟩ :: r) :: k) objs tm F = kG P C ((tm[t]?).getD .u) op t w d r k objs tm F := by
  show wpR P _ _ _ _ = _
  simp only [wpR, kG]
  cases (tm[t]?).getD .u <;> try rfl
  try (case o v => cases v <;> rfl)
theorem rn_dguard (op : SOp) (t : Nat) (w : Bool) : run P C (.dops (⟨d, op, some (t, w)⟩ :: r) :: k) objs tm F = kGD P C ((tm[t]?).getD .u) op t w d r k objs tm F := by
  show wpD P _ _ _ _ = _
  simp only [wpD, kGD]
  cases (tm[t]?).getD .u <;> try rfl
  try (case o v => cases v <;> rfl)
/-- the way parts at a guard -/
theorem kG_split {op : SOp} {t : Nat} {w x : Bool} (h1 : x = w → kG P C (.b w) op t w d r k objs tm F) (h2 : x = !w → kG P C (.b (!w)) op t w d r k objs tm F) : kG P C (.b x) op t w d r k objs tm F := by
  refine ⟨fun e => (h1 e).1 rfl, fun e => (h2 e).2 rfl⟩
def kC (P : Program) [Tabs P] (C : Cx) (v : AV) (x y : SCode) (k : List IT) (objs : List OB) (tm : List AV) (F : Post) : Prop :=
  match v with
  | .b t => (t = true → run P C (.code x :: k) objs tm F) ∧ (t = false → run P C (.code y :: k) objs tm F)
  | _ => False
theorem kC_t (x y : SCode) : kC P C (.b true) x y k objs tm F = run P C (.code x :: k) objs tm F := propext ⟨fun h => h.1 rfl, fun h => ⟨fun _ => h, fun e => absurd e (by decide)⟩⟩
theorem kC_f (x y : SCode) : kC P C (.b false) x y k objs tm F = run P C (.code y :: k) objs tm F := propext ⟨fun h => h.2 rfl, fun h => ⟨fun e => absurd e (by decide), fun _ => h⟩⟩
theorem rn_cond (c : SV) (x y : SCode) : run P C (.code (.cond c x y) :: k) objs tm F = kC P C (c.ev tm) x y k objs tm F := by
  show wpC P C _ _ _ _ = _
  simp only [wpC, kC]
  cases c.ev tm <;> rfl
theorem kC_split {x y : SCode} {t : Bool} (h1 : t = true → run P C (.code x :: k) objs tm F) (h2 : t = false → run P C (.code y :: k) objs tm F) : kC P C (.b t) x y k objs tm F := ⟨h1, h2⟩
/-- calls -/
def kCall (P : Program) [Tabs P] (C : Cx) (f : Nat) (args : List AV) (d : Option Nat) (r : List SO) (k : List IT) (objs : List OB) (tm : List AV) (F : Post) : Prop := CallOk P f args objs fun o v => run P C (.ops r :: k) o (setd tm d v) F
theorem rn_call (f : Nat) (args : List SV) : run P C (.ops (⟨d, .call f args, none⟩ :: r) :: k) objs tm F = kCall P C f (evs tm args) d r k objs tm F := by
  show wpR P _ _ _ _ = _
  simp only [wpR, wpS, kCall, evs_eq]; rfl
theorem kcall {f : Nat} {args : List AV} (h : CallOk P f args objs fun o v => run P C (.ops r :: k) o (setd tm d v) F) : kCall P C f args d r k objs tm F := h
def kDCall (P : Program) [Tabs P] (C : Cx) (f : Nat) (args : List AV) (d : Option Nat) (r : List SO) (k : List IT) (objs : List OB) (tm : List AV) (F : Post) : Prop := ∃ v, (CallOk P f args objs fun o x => o = objs ∧ x = v) ∧ run P C (.dops r :: k) objs (setd tm d v) F
theorem rn_dcall (f : Nat) (args : List SV) : run P C (.dops (⟨d, .call f args, none⟩ :: r) :: k) objs tm F = kDCall P C f (evs tm args) d r k objs tm F := by
  show wpD P _ _ _ _ = _
  simp only [wpD, wpS, kDCall, evs_eq, SOp.isCall, if_true]; rfl
/-- a call of plain values in a drawn region, beside any objects -/
def kPCall (P : Program) [Tabs P] (C : Cx) (f : Nat) (args : List AV) (d : Option Nat) (r : List SO) (k : List IT) (objs : List OB) (tm : List AV) (F : Post) : Prop := ∃ v, (plains args = true ∧ CallOk P f args [] fun _ x => x.plain = true ∧ objs = objs ∧ x = v) ∧ run P C (.dops r :: k) objs (setd tm d v) F
theorem rn_pcall (f : Nat) (args : List SV) : run P C (.dops (⟨d, .pcall f args, none⟩ :: r) :: k) objs tm F = kPCall P C f (evs tm args) d r k objs tm F := by
  show wpD P (⟨d, .pcall f args, none⟩ :: r) objs tm _ = _
  simp only [wpD, wpS, kPCall, evs_eq, SOp.isCall, if_true]; rfl
theorem kpcall {f : Nat} {args : List AV} {v : AV} (h : CallOk P f args [] fun _ x => x = v) (hp : plains args = true) (hv : v.plain = true) (hr : run P C (.dops r :: k) objs (setd tm d v) F) : kPCall P C f args d r k objs tm F :=
  ⟨v, ⟨hp, h.mono fun _ x e => by subst e; exact ⟨hv, rfl, rfl⟩⟩, hr⟩
theorem kdcall {f : Nat} {args : List AV} {v : AV} (h : CallOk P f args objs fun o x => o = objs ∧ x = v) (hr : run P C (.dops r :: k) objs (setd tm d v) F) : kDCall P C f args d r k objs tm F := ⟨v, h, hr⟩
def IsFn (P : Program) (f : Nat) : Prop := ∃ fn, P.funcs[f]? = some fn ∧ fn.body.isSome = true ∧ fn.name ≠ "runtime.NumGoroutine"
def kCallv (P : Program) [Tabs P] (C : Cx) (x : AV) (args : List AV) (d : Option Nat) (r : List SO) (k : List IT) (objs : List OB) (tm : List AV) (F : Post) : Prop :=
  match x with
  | .fn f fs cs => IsFn P f ∧ CallOk P f (fs ++ args ++ cs) objs fun o v => run P C (.ops r :: k) o (setd tm d v) F
  | _ => False
theorem rn_callv (x : SV) (args : List SV) : run P C (.ops (⟨d, .callv x args, none⟩ :: r) :: k) objs tm F = kCallv P C (x.ev tm) (evs tm args) d r k objs tm F := by
  show wpR P _ _ _ _ = _
  simp only [wpR, wpS, kCallv, evs_eq]
  cases x.ev tm <;> rfl
theorem kcallv {f : Nat} {fs cs args : List AV} (hf : IsFn P f) (h : CallOk P f (fs ++ args ++ cs) objs fun o v => run P C (.ops r :: k) o (setd tm d v) F) : kCallv P C (.fn f fs cs) args d r k objs tm F := ⟨hf, h⟩
theorem drn_mv (x : SV) : run P C (.dops (⟨d, .mv x, none⟩ :: r) :: k) objs tm F = run P C (.ops [⟨d, .mv x, none⟩] :: .dops r :: k) objs tm F := Eq.trans rfl rfl
theorem drn_pick (c x y : SV) : run P C (.dops (⟨d, .pick c x y, none⟩ :: r) :: k) objs tm F = run P C (.ops [⟨d, .pick c x y, none⟩] :: .dops r :: k) objs tm F := Eq.trans rfl rfl
theorem drn_build (z : List AV) (ps : List (Nat × Nat × SV)) : run P C (.dops (⟨d, .build z ps, none⟩ :: r) :: k) objs tm F = run P C (.ops [⟨d, .build z ps, none⟩] :: .dops r :: k) objs tm F := Eq.trans rfl rfl
theorem drn_bslice (n : Nat) (z : List AV) (ps : List (Nat × Nat × SV)) : run P C (.dops (⟨d, .bslice n z ps, none⟩ :: r) :: k) objs tm F = run P C (.ops [⟨d, .bslice n z ps, none⟩] :: .dops r :: k) objs tm F := Eq.trans rfl rfl
theorem drn_load1 (x : SV) : run P C (.dops (⟨d, .load1 x, none⟩ :: r) :: k) objs tm F = run P C (.ops [⟨d, .load1 x, none⟩] :: .dops r :: k) objs tm F := Eq.trans rfl rfl
theorem drn_loadn (sz : Nat) (x : SV) : run P C (.dops (⟨d, .loadn sz x, none⟩ :: r) :: k) objs tm F = run P C (.ops [⟨d, .loadn sz x, none⟩] :: .dops r :: k) objs tm F := Eq.trans rfl rfl
theorem drn_nck (x : SV) : run P C (.dops (⟨d, .nck x, none⟩ :: r) :: k) objs tm F = run P C (.ops [⟨d, .nck x, none⟩] :: .dops r :: k) objs tm F := Eq.trans rfl rfl
theorem drn_bin (q : BinOp) (x y : SV) : run P C (.dops (⟨d, .bin q x y, none⟩ :: r) :: k) objs tm F = run P C (.ops [⟨d, .bin q x y, none⟩] :: .dops r :: k) objs tm F := Eq.trans rfl rfl
theorem drn_beq (ne : Bool) (x y : SV) : run P C (.dops (⟨d, .beq ne x y, none⟩ :: r) :: k) objs tm F = run P C (.ops [⟨d, .beq ne x y, none⟩] :: .dops r :: k) objs tm F := Eq.trans rfl rfl
theorem drn_eqs (ne : Bool) (e : ET) (x y : SV) : run P C (.dops (⟨d, .eqs ne e x y, none⟩ :: r) :: k) objs tm F = run P C (.ops [⟨d, .eqs ne e x y, none⟩] :: .dops r :: k) objs tm F := Eq.trans rfl rfl
theorem drn_not (x : SV) : run P C (.dops (⟨d, .not x, none⟩ :: r) :: k) objs tm F = run P C (.ops [⟨d, .not x, none⟩] :: .dops r :: k) objs tm F := Eq.trans rfl rfl
theorem drn_neg (x : SV) : run P C (.dops (⟨d, .neg x, none⟩ :: r) :: k) objs tm F = run P C (.ops [⟨d, .neg x, none⟩] :: .dops r :: k) objs tm F := Eq.trans rfl rfl
theorem drn_iada (sz len : Nat) (x y : SV) : run P C (.dops (⟨d, .iada sz len x y, none⟩ :: r) :: k) objs tm F = run P C (.ops [⟨d, .iada sz len x y, none⟩] :: .dops r :: k) objs tm F := Eq.trans rfl rfl
theorem drn_cvi (q : IntKind) (x : SV) : run P C (.dops (⟨d, .cvi q x, none⟩ :: r) :: k) objs tm F = run P C (.ops [⟨d, .cvi q x, none⟩] :: .dops r :: k) objs tm F := Eq.trans rfl rfl
theorem drn_cvs (x : SV) : run P C (.dops (⟨d, .cvs x, none⟩ :: r) :: k) objs tm F = run P C (.ops [⟨d, .cvs x, none⟩] :: .dops r :: k) objs tm F := Eq.trans rfl rfl
theorem drn_cvbs (x : SV) : run P C (.dops (⟨d, .cvbs x, none⟩ :: r) :: k) objs tm F = run P C (.ops [⟨d, .cvbs x, none⟩] :: .dops r :: k) objs tm F := Eq.trans rfl rfl
theorem drn_slcs (x : SV) (lo hi : Option SV) : run P C (.dops (⟨d, .slcs x lo hi, none⟩ :: r) :: k) objs tm F = run P C (.ops [⟨d, .slcs x lo hi, none⟩] :: .dops r :: k) objs tm F := Eq.trans rfl rfl
theorem drn_fad (off : Nat) (x : SV) : run P C (.dops (⟨d, .fad off x, none⟩ :: r) :: k) objs tm F = run P C (.ops [⟨d, .fad off x, none⟩] :: .dops r :: k) objs tm F := Eq.trans rfl rfl
theorem drn_fld1 (off : Nat) (x : SV) : run P C (.dops (⟨d, .fld1 off x, none⟩ :: r) :: k) objs tm F = run P C (.ops [⟨d, .fld1 off x, none⟩] :: .dops r :: k) objs tm F := Eq.trans rfl rfl
theorem drn_fldn (off sz : Nat) (x : SV) : run P C (.dops (⟨d, .fldn off sz x, none⟩ :: r) :: k) objs tm F = run P C (.ops [⟨d, .fldn off sz x, none⟩] :: .dops r :: k) objs tm F := Eq.trans rfl rfl
theorem drn_iad (sz : Nat) (x y : SV) : run P C (.dops (⟨d, .iad sz x y, none⟩ :: r) :: k) objs tm F = run P C (.ops [⟨d, .iad sz x y, none⟩] :: .dops r :: k) objs tm F := Eq.trans rfl rfl
theorem drn_idx (x y : SV) : run P C (.dops (⟨d, .idx x y, none⟩ :: r) :: k) objs tm F = run P C (.ops [⟨d, .idx x y, none⟩] :: .dops r :: k) objs tm F := Eq.trans rfl rfl
theorem drn_ext (x : SV) (j : Nat) : run P C (.dops (⟨d, .ext x j, none⟩ :: r) :: k) objs tm F = run P C (.ops [⟨d, .ext x j, none⟩] :: .dops r :: k) objs tm F := Eq.trans rfl rfl
theorem drn_lens (x : SV) : run P C (.dops (⟨d, .lens x, none⟩ :: r) :: k) objs tm F = run P C (.ops [⟨d, .lens x, none⟩] :: .dops r :: k) objs tm F := Eq.trans rfl rfl
theorem drn_lenr (x : SV) : run P C (.dops (⟨d, .lenr x, none⟩ :: r) :: k) objs tm F = run P C (.ops [⟨d, .lenr x, none⟩] :: .dops r :: k) objs tm F := Eq.trans rfl rfl
theorem drn_mkf (f : Nat) (fs cs : List SV) : run P C (.dops (⟨d, .mkf f fs cs, none⟩ :: r) :: k) objs tm F = run P C (.ops [⟨d, .mkf f fs cs, none⟩] :: .dops r :: k) objs tm F := Eq.trans rfl rfl
theorem drn_alloc (T : Nat) (z : List AV) : run P C (.dops (⟨d, .alloc T z, none⟩ :: r) :: k) objs tm F = run P C (.ops [⟨d, .alloc T z, none⟩] :: .dops r :: k) objs tm F := Eq.trans rfl rfl
theorem drn_box (T : Nat) (x : SV) : run P C (.dops (⟨d, .box T x, none⟩ :: r) :: k) objs tm F = run P C (.ops [⟨d, .box T x, none⟩] :: .dops r :: k) objs tm F := Eq.trans rfl rfl
theorem drn_store (sz : Nat) (x y : SV) : run P C (.dops (⟨d, .store sz x y, none⟩ :: r) :: k) objs tm F = run P C (.ops [⟨d, .store sz x y, none⟩] :: .dops r :: k) objs tm F := Eq.trans rfl rfl
theorem drn_app (E sz by' : Nat) (x y : SV) : run P C (.dops (⟨d, .app E sz by' x y, none⟩ :: r) :: k) objs tm F = run P C (.ops [⟨d, .app E sz by' x y, none⟩] :: .dops r :: k) objs tm F := Eq.trans rfl rfl
theorem drn_apps (E : Nat) (x y : SV) : run P C (.dops (⟨d, .apps E x y, none⟩ :: r) :: k) objs tm F = run P C (.ops [⟨d, .apps E x y, none⟩] :: .dops r :: k) objs tm F := Eq.trans rfl rfl
theorem drn_mks (E sz by' : Nat) (x y : SV) : run P C (.dops (⟨d, .mks E sz by' x y, none⟩ :: r) :: k) objs tm F = run P C (.ops [⟨d, .mks E sz by' x y, none⟩] :: .dops r :: k) objs tm F := Eq.trans rfl rfl
/-- a function's contract out of its run -/
theorem fn_rn {f : FuncId} {n : Nat} {ss : List SRes} {sc : SCode} (hf : FnIs P f n ss sc) {args : List AV} {objs : List OB} {K : List OB → AV → Prop} (hp : plains args = true)
    (h : ∀ (C : Cx) [On P C], run P C [.code sc] [] (args ++ List.replicate (n - args.length) (.o undef)) (endK ss fun r => K objs r)) : CallOk P f args objs K :=
  fn_ok hf hp h
theorem fn_rin {f : FuncId} {n : Nat} {ss : List SRes} {sc : SCode} (hf : FnIs P f n ss sc) {args : List AV} {objs : List OB} {K : List OB → AV → Prop}
    (h : ∀ (C : Cx) [On P C], run P C [.code sc] objs (args ++ List.replicate (n - args.length) (.o undef)) (endI ss K)) : CallOk P f args objs K :=
  fn_in hf h
theorem endI_n (ss : List SRes) (K : List OB → AV → Prop) : endI ss K .normal objs tm = outI ss K objs tm := Eq.trans rfl rfl
theorem endI_r (ss : List SRes) (K : List OB → AV → Prop) : endI ss K .ret objs tm = outI ss K objs tm := Eq.trans rfl rfl
def outJ (K : List OB → AV → Prop) (objs : List OB) : Option (List AV) → Prop
  | some xs => K objs (tupA xs)
  | none => False
theorem outJ_s (K : List OB → AV → Prop) (xs : List AV) : outJ K objs (some xs) = K objs (tupA xs) := Eq.trans rfl rfl
theorem outI_eq (ss : List SRes) (K : List OB → AV → Prop) : outI ss K objs tm = outJ K objs (resAs objs tm ss) := by
  unfold outI
  cases resAs objs tm ss <;> rfl
theorem endK_n (ss : List SRes) (K : AV → Prop) : endK ss K .normal objs tm = outK ss K objs tm := Eq.trans rfl rfl
theorem endK_r (ss : List SRes) (K : AV → Prop) : endK ss K .ret objs tm = outK ss K objs tm := Eq.trans rfl rfl
def outO (K : AV → Prop) : Option AV → Prop
  | some r => K r
  | none => False
theorem outO_s (K : AV → Prop) (r : AV) : outO K (some r) = K r := Eq.trans rfl rfl
theorem outK_eq (ss : List SRes) (K : AV → Prop) : outK ss K objs tm = outO K ((resAs objs tm ss).bind fun xs => pub objs 5 (tupA xs)) := by
  unfold outK
  cases (resAs objs tm ss).bind (fun xs => pub objs 5 (tupA xs)) <;> rfl
end
end Go.Proofs.Ytkokcmpgebjiaaa.Sx
