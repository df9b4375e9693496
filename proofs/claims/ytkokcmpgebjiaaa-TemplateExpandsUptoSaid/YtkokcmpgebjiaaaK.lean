/- Contracts of the old form in the form of the calculus.  | Objects that were made last, read and written. -/
import Derived.Test.YtkokcmpgebjiaaaSxd
import Derived.Test.YtkokcmpgebjiaaaAsciiS
import Derived.Lib.LaidTab
import Derived.Lib.ItoaNum
import Derived.ChangeAgain
import Derived.Test.YtkokcmpgebjiaaaSxa
namespace Go.Proofs.Ytkokcmpgebjiaaa.Sx
open Go.RowKit
theorem sxA : type_of% (And.intro @rn_nil (And.intro @rn_seq (And.intro @rn_skip (And.intro @rn_reg (And.intro @rn_drw (And.intro @rn_blk (And.intro @rn_inblk (And.intro @rn_ops_nil (And.intro @rn_dops_nil (And.intro @rn_ret (And.intro @rn_exit (And.intro @xit_nil (And.intro @xit_code (And.intro @xit_ops (And.intro @xit_dops (And.intro @xit_blk (And.intro @xit_ap (And.intro @rn_ap (And.intro @apOk_n (And.intro @apOk_c (And.intro @apOne_p (And.intro @loopF_normal (And.intro @loopF_exit (And.intro @loopF_ret (And.intro @kO_some (And.intro @bxs_box (And.intro @endK_n (And.intro @endK_r (And.intro @outO_s (And.intro @outK_eq (And.intro @endI_n (And.intro @endI_r (And.intro @outJ_s (And.intro @outI_eq (And.intro @rn_mv (And.intro @kPick_t (And.intro @kPick_f (And.intro @rn_pick (And.intro @rn_alloc (@rn_box)))))))))))))))))))))))))))))))))))))))) := And.intro @rn_nil (And.intro @rn_seq (And.intro @rn_skip (And.intro @rn_reg (And.intro @rn_drw (And.intro @rn_blk (And.intro @rn_inblk (And.intro @rn_ops_nil (And.intro @rn_dops_nil (And.intro @rn_ret (And.intro @rn_exit (And.intro @xit_nil (And.intro @xit_code (And.intro @xit_ops (And.intro @xit_dops (And.intro @xit_blk (And.intro @xit_ap (And.intro @rn_ap (And.intro @apOk_n (And.intro @apOk_c (And.intro @apOne_p (And.intro @loopF_normal (And.intro @loopF_exit (And.intro @loopF_ret (And.intro @kO_some (And.intro @bxs_box (And.intro @endK_n (And.intro @endK_r (And.intro @outO_s (And.intro @outK_eq (And.intro @endI_n (And.intro @endI_r (And.intro @outJ_s (And.intro @outI_eq (And.intro @rn_mv (And.intro @kPick_t (And.intro @kPick_f (And.intro @rn_pick (And.intro @rn_alloc (@rn_box)))))))))))))))))))))))))))))))))))))))
theorem sxB : type_of% (And.intro @rn_build (And.intro @rn_bslice (And.intro @kLd1_p (And.intro @kLd1_r (And.intro @rn_load1 (And.intro @kLdn_s (And.intro @kLdv_p (And.intro @kLdv_r (And.intro @rn_loadn (And.intro @kSt2_b (And.intro @kSt_p (And.intro @rn_store (And.intro @kNck_0 (And.intro @kNck_1 (And.intro @kNck_2 (And.intro @rn_nck (And.intro @kNot_0 (And.intro @rn_not (And.intro @kAr_i64 (And.intro @kAr_i8 (And.intro @kAr_i16 (And.intro @kAr_i32 (And.intro @kAr_u8 (And.intro @kAr_u16 (And.intro @kAr_u32 (And.intro @kAr_u64 (And.intro @kNeg_0 (And.intro @rn_neg (And.intro @kCvi_0 (And.intro @rn_cvi (And.intro @kCvs_0 (And.intro @rn_cvs (And.intro @kLens_0 (And.intro @rn_lens (And.intro @kFldn_0 (And.intro @rn_fldn (And.intro @kFad_0 (And.intro @kFad_1 (And.intro @rn_fad (@kFld1_0)))))))))))))))))))))))))))))))))))))))) := And.intro @rn_build (And.intro @rn_bslice (And.intro @kLd1_p (And.intro @kLd1_r (And.intro @rn_load1 (And.intro @kLdn_s (And.intro @kLdv_p (And.intro @kLdv_r (And.intro @rn_loadn (And.intro @kSt2_b (And.intro @kSt_p (And.intro @rn_store (And.intro @kNck_0 (And.intro @kNck_1 (And.intro @kNck_2 (And.intro @rn_nck (And.intro @kNot_0 (And.intro @rn_not (And.intro @kAr_i64 (And.intro @kAr_i8 (And.intro @kAr_i16 (And.intro @kAr_i32 (And.intro @kAr_u8 (And.intro @kAr_u16 (And.intro @kAr_u32 (And.intro @kAr_u64 (And.intro @kNeg_0 (And.intro @rn_neg (And.intro @kCvi_0 (And.intro @rn_cvi (And.intro @kCvs_0 (And.intro @rn_cvs (And.intro @kLens_0 (And.intro @rn_lens (And.intro @kFldn_0 (And.intro @rn_fldn (And.intro @kFad_0 (And.intro @kFad_1 (And.intro @rn_fad (@kFld1_0)))))))))))))))))))))))))))))))))))))))
theorem sxC : type_of% (And.intro @rn_fld1 (And.intro @kExt_0 (And.intro @rn_ext (And.intro @kLr2_o (And.intro @kLenr_0 (And.intro @kLenr_1 (And.intro @kLenr_2 (And.intro @rn_lenr (And.intro @kBeq_true (And.intro @kEq_true (And.intro @kBeq_false (And.intro @kEq_false (And.intro @kEqs_a (And.intro @rn_beq (And.intro @rn_eqs (And.intro @kIad_0 (And.intro @rn_iad (And.intro @kIada_0 (And.intro @rn_iada (And.intro @kIdx_0 (And.intro @rn_idx (And.intro @kMks_0 (And.intro @rn_mks (And.intro @rn_bin (And.intro @kBin_add (And.intro @kBin_sub (And.intro @kBin_mul (And.intro @kBin_quo (And.intro @kBin_rem (And.intro @kBin_eql (And.intro @kBin_neq (And.intro @kBin_lss (And.intro @kBin_leq (And.intro @kBin_gtr (And.intro @kBin_geq (And.intro @kBin_cat (And.intro @kBin_seq (And.intro @kBin_sne (And.intro @svi_i (@svbS_none)))))))))))))))))))))))))))))))))))))))) := And.intro @rn_fld1 (And.intro @kExt_0 (And.intro @rn_ext (And.intro @kLr2_o (And.intro @kLenr_0 (And.intro @kLenr_1 (And.intro @kLenr_2 (And.intro @rn_lenr (And.intro @kBeq_true (And.intro @kEq_true (And.intro @kBeq_false (And.intro @kEq_false (And.intro @kEqs_a (And.intro @rn_beq (And.intro @rn_eqs (And.intro @kIad_0 (And.intro @rn_iad (And.intro @kIada_0 (And.intro @rn_iada (And.intro @kIdx_0 (And.intro @rn_idx (And.intro @kMks_0 (And.intro @rn_mks (And.intro @rn_bin (And.intro @kBin_add (And.intro @kBin_sub (And.intro @kBin_mul (And.intro @kBin_quo (And.intro @kBin_rem (And.intro @kBin_eql (And.intro @kBin_neq (And.intro @kBin_lss (And.intro @kBin_leq (And.intro @kBin_gtr (And.intro @kBin_geq (And.intro @kBin_cat (And.intro @kBin_seq (And.intro @kBin_sne (And.intro @svi_i (@svbS_none)))))))))))))))))))))))))))))))))))))))
theorem sxD : type_of% (And.intro @svbS_some (And.intro @kSl2_s (And.intro @kSl_s (And.intro @rn_slcs (And.intro @kAp_s (And.intro @kAp2_o (And.intro @kAp2_n (And.intro @kAp3_o (And.intro @kAs_o (And.intro @kAs_n (And.intro @kAs2_o (And.intro @rn_app (And.intro @rn_apps (And.intro @kCb_o (And.intro @kCb_n (And.intro @rn_cvbs (And.intro @rn_mkf (And.intro @kG_tt (And.intro @kG_tf (And.intro @kG_ft (And.intro @kG_ff (And.intro @kG_u (And.intro @kG_v (And.intro @kGD_tt (And.intro @kGD_tf (And.intro @kGD_ft (And.intro @kGD_ff (And.intro @kGD_u (And.intro @kGD_v (And.intro @rn_guard (And.intro @rn_dguard (And.intro @kC_t (And.intro @kC_f (And.intro @rn_cond (And.intro @rn_call (And.intro @rn_dcall (And.intro @rn_callv (And.intro @drn_mv (And.intro @drn_pick (@drn_build)))))))))))))))))))))))))))))))))))))))) := And.intro @svbS_some (And.intro @kSl2_s (And.intro @kSl_s (And.intro @rn_slcs (And.intro @kAp_s (And.intro @kAp2_o (And.intro @kAp2_n (And.intro @kAp3_o (And.intro @kAs_o (And.intro @kAs_n (And.intro @kAs2_o (And.intro @rn_app (And.intro @rn_apps (And.intro @kCb_o (And.intro @kCb_n (And.intro @rn_cvbs (And.intro @rn_mkf (And.intro @kG_tt (And.intro @kG_tf (And.intro @kG_ft (And.intro @kG_ff (And.intro @kG_u (And.intro @kG_v (And.intro @kGD_tt (And.intro @kGD_tf (And.intro @kGD_ft (And.intro @kGD_ff (And.intro @kGD_u (And.intro @kGD_v (And.intro @rn_guard (And.intro @rn_dguard (And.intro @kC_t (And.intro @kC_f (And.intro @rn_cond (And.intro @rn_call (And.intro @rn_dcall (And.intro @rn_callv (And.intro @drn_mv (And.intro @drn_pick (@drn_build)))))))))))))))))))))))))))))))))))))))
theorem sxE : type_of% (And.intro @drn_bslice (And.intro @drn_load1 (And.intro @drn_loadn (And.intro @drn_nck (And.intro @drn_bin (And.intro @drn_beq (And.intro @drn_eqs (And.intro @drn_not (And.intro @drn_neg (And.intro @drn_iada (And.intro @drn_cvi (And.intro @drn_cvs (And.intro @drn_cvbs (And.intro @drn_slcs (And.intro @drn_fad (And.intro @drn_fld1 (And.intro @drn_fldn (And.intro @drn_iad (And.intro @drn_idx (And.intro @drn_ext (And.intro @drn_lens (And.intro @drn_lenr (And.intro @drn_mkf (And.intro @drn_alloc (And.intro @drn_box (And.intro @drn_store (And.intro @drn_app (And.intro @drn_apps (@drn_mks))))))))))))))))))))))))))))) := And.intro @drn_bslice (And.intro @drn_load1 (And.intro @drn_loadn (And.intro @drn_nck (And.intro @drn_bin (And.intro @drn_beq (And.intro @drn_eqs (And.intro @drn_not (And.intro @drn_neg (And.intro @drn_iada (And.intro @drn_cvi (And.intro @drn_cvs (And.intro @drn_cvbs (And.intro @drn_slcs (And.intro @drn_fad (And.intro @drn_fld1 (And.intro @drn_fldn (And.intro @drn_iad (And.intro @drn_idx (And.intro @drn_ext (And.intro @drn_lens (And.intro @drn_lenr (And.intro @drn_mkf (And.intro @drn_alloc (And.intro @drn_box (And.intro @drn_store (And.intro @drn_app (And.intro @drn_apps (@drn_mks))))))))))))))))))))))))))))
theorem sxL : type_of% (And.intro @List.length_cons.{0} (And.intro @List.length_nil.{0} (And.intro @List.length_append.{0} (And.intro @List.length_replicate.{0} (And.intro @List.length_set.{0} (And.intro @List.cons_append.{0} (And.intro @List.nil_append.{0} (And.intro @List.append_nil.{0} (And.intro @List.getElem?_cons_zero.{0} (And.intro @List.getElem?_cons_succ.{0} (And.intro @List.getElem?_nil.{0} (And.intro @Option.getD_some.{0} (And.intro @Option.getD_none.{0} (And.intro @List.set_cons_zero.{0} (And.intro @List.set_cons_succ.{0} (And.intro @List.set_nil.{0} (And.intro @List.map_cons.{0, 0} (And.intro @List.map_nil.{0, 0} (And.intro @List.take_succ_cons.{0} (And.intro @List.take_zero.{0} (And.intro @List.drop_succ_cons.{0} (And.intro @List.drop_zero.{0} (And.intro @List.take_nil.{0} (And.intro @List.drop_nil.{0} (And.intro @List.take_length.{0} (And.intro @Int.toNat_natCast (And.intro @Int.toNat_natCast_add_one (And.intro @Bool.not_true (And.intro @Bool.not_false (And.intro @Bool.and_true (And.intro @Bool.true_and (And.intro @Bool.and_false (And.intro @Bool.false_and (And.intro @true_and (And.intro @and_true (And.intro @true_implies (And.intro @false_implies (And.intro @Option.bind_some.{0, 0} (And.intro @Option.map_some.{0, 0} (And.intro @Bool.false_eq_true (And.intro @Bool.true_eq_false (And.intro @decide_true (And.intro @decide_false (And.intro @not_true_eq_false (And.intro @not_false_eq_true (@beq_self_eq_true.{0})))))))))))))))))))))))))))))))))))))))))))))) := And.intro @List.length_cons.{0} (And.intro @List.length_nil.{0} (And.intro @List.length_append.{0} (And.intro @List.length_replicate.{0} (And.intro @List.length_set.{0} (And.intro @List.cons_append.{0} (And.intro @List.nil_append.{0} (And.intro @List.append_nil.{0} (And.intro @List.getElem?_cons_zero.{0} (And.intro @List.getElem?_cons_succ.{0} (And.intro @List.getElem?_nil.{0} (And.intro @Option.getD_some.{0} (And.intro @Option.getD_none.{0} (And.intro @List.set_cons_zero.{0} (And.intro @List.set_cons_succ.{0} (And.intro @List.set_nil.{0} (And.intro @List.map_cons.{0, 0} (And.intro @List.map_nil.{0, 0} (And.intro @List.take_succ_cons.{0} (And.intro @List.take_zero.{0} (And.intro @List.drop_succ_cons.{0} (And.intro @List.drop_zero.{0} (And.intro @List.take_nil.{0} (And.intro @List.drop_nil.{0} (And.intro @List.take_length.{0} (And.intro @Int.toNat_natCast (And.intro @Int.toNat_natCast_add_one (And.intro @Bool.not_true (And.intro @Bool.not_false (And.intro @Bool.and_true (And.intro @Bool.true_and (And.intro @Bool.and_false (And.intro @Bool.false_and (And.intro @true_and (And.intro @and_true (And.intro @true_implies (And.intro @false_implies (And.intro @Option.bind_some.{0, 0} (And.intro @Option.map_some.{0, 0} (And.intro @Bool.false_eq_true (And.intro @Bool.true_eq_false (And.intro @decide_true (And.intro @decide_false (And.intro @not_true_eq_false (And.intro @not_false_eq_true (@beq_self_eq_true.{0})))))))))))))))))))))))))))))))))))))))))))))
end Go.Proofs.Ytkokcmpgebjiaaa.Sx
namespace Go.Proofs.Ytkokcmpgebjiaaa
open Go.RowKit Sx
set_option linter.unusedVariables false
set_option linter.unusedSimpArgs false

/-- what the tables say -/
class Shp (P : Program) [Tabs P] : Prop where
  sh : ∀ w : World, Tabs.T (P := P) w → w.ShapedOpen P
class Pow (P : Program) [Tabs P] : Prop where
  pw : ∀ w : World, Tabs.T (P := P) w → Lib.TabIs P w "internal/strconv.uint64pow10" .u64 Lib.pow10Tab
theorem shaped_keep {P : Program} {w w' : World} (h : w.ShapedOpen P) (hk : ∀ k, k < w.heap.size → w'.heap[k]? = w.heap[k]?) : w'.ShapedOpen P := by
  have lt : ∀ {k : Nat} {o : Obj}, w.heap[k]? = some o → k < w.heap.size := fun {k o} e => by
    rcases Nat.lt_or_ge k w.heap.size with h1 | h1
    · exact h1
    · rw [Array.getElem?_eq_none h1] at e; cases e
  refine ⟨fun g zero t hg hz => ?_, fun k hk1 hk2 => ?_⟩
  · obtain ⟨cs, h1, h2, h3⟩ := h.1 g zero t hg hz
    refine ⟨cs, (hk g (lt h1)).trans h1, h2, fun hb => Row.ok_of_shape (fun b x hx => ?_) (h3 hb)⟩
    rcases Nat.lt_or_ge b w.heap.size with h4 | h4
    · simpa [World.shape?, hk b h4] using hx
    · simp [World.shape?, Array.getElem?_eq_none h4] at hx
  · obtain ⟨o, o₀, h1, h2, h3⟩ := h.2 k hk1 hk2
    exact ⟨o, o₀, (hk k (lt h1)).trans h1, h2, h3⟩

mutual
/-- a value without memory, as it is -/
def val : AV → Option Value
  | .s l => some (.string ⟨l.toArray⟩)
  | .i k n => some (.int k n)
  | .b x => some (.bool x)
  | .agg cs => match vals cs with
    | some vs => if vs.all (·.oneCell') = true then some (.agg vs.toArray) else none
    | none => none
  | .tup cs => (vals cs).map fun vs => .tuple vs.toArray
  | _ => none
def vals : List AV → Option (List Value)
  | [] => some []
  | x :: xs => match val x, vals xs with
    | some v, some vs => some (v :: vs)
    | _, _ => none
end
mutual
theorem val_den (G : Gh) (I : Imm) : ∀ (x : AV) (v : Value), val x = some v → ∀ y, Den G I x y ↔ y = v
  | .s l, v, h, y => by simp only [val, Option.some.injEq] at h; subst h; simp [Den]
  | .i k n, v, h, y => by simp only [val, Option.some.injEq] at h; subst h; simp [Den]
  | .b x, v, h, y => by simp only [val, Option.some.injEq] at h; subst h; simp [Den]
  | .agg cs, v, h, y => by
    simp only [val] at h
    split at h
    · rename_i vs h1
      split at h
      · rename_i h2
        injection h with h; subst h
        simp only [Den]
        constructor
        · rintro ⟨ys, rfl, k1, _⟩
          rw [(vals_den G I cs vs h1 ys).1 k1]
        · rintro rfl
          exact ⟨vs, rfl, (vals_den G I cs vs h1 vs).2 rfl, fun u hu => (List.all_eq_true.1 h2) u hu⟩
      · cases h
    · cases h
  | .tup cs, v, h, y => by
    simp only [val, Option.map_eq_some_iff] at h
    obtain ⟨vs, h1, rfl⟩ := h
    simp only [Den]
    constructor
    · rintro ⟨ys, rfl, k1⟩
      rw [(vals_den G I cs vs h1 ys).1 k1]
    · rintro rfl
      exact ⟨vs, rfl, (vals_den G I cs vs h1 vs).2 rfl⟩
  | .p _ _, v, h, y => by simp [val] at h
  | .row _ _, v, h, y => by simp [val] at h
  | .prow _ _, v, h, y => by simp [val] at h
  | .orow _ _, v, h, y => by simp [val] at h
  | .porow _ _ _, v, h, y => by simp [val] at h
  | .nil, v, h, y => by simp [val] at h
  | .fn _ _ _, v, h, y => by simp [val] at h
  | .o _, v, h, y => by simp [val] at h
  | .u, v, h, y => by simp [val] at h
theorem vals_den (G : Gh) (I : Imm) : ∀ (xs : List AV) (vs : List Value), vals xs = some vs → ∀ ys, Dens G I xs ys ↔ ys = vs
  | [], vs, h, ys => by simp only [vals, Option.some.injEq] at h; subst h; simp [Dens]
  | x :: xs, vs, h, ys => by
    simp only [vals] at h
    split at h
    · rename_i v vs' h1 h2
      injection h with h; subst h
      simp only [Dens]
      constructor
      · rintro ⟨y, ys', rfl, k1, k2⟩
        rw [(val_den G I x v h1 y).1 k1, (vals_den G I xs vs' h2 ys').1 k2]
      · rintro rfl
        exact ⟨v, vs', rfl, (val_den G I x v h1 v).2 rfl, (vals_den G I xs vs' h2 vs').2 rfl⟩
    · cases h
end
section
variable {P : Program} [Tabs P] {f : FuncId} {args : List AV} {vs : List Value} {r : AV} {v : Value} {objs : List OB} {K : List OB → AV → Prop}
theorem conv (ha : vals args = some vs) (hr : val r = some v) (h : ∀ w, Calls P f vs.toArray w fun e w' => e = .returned v ∧ Qb w w') (hk : K objs r) : CallOk P f args objs K :=
  callok_pure r hk fun G I w ys hm hd => by
    rw [(vals_den G I args vs ha ys).1 hd]
    exact ⟨v, h w, (val_den G I r v hr v).2 rfl⟩
theorem convs (ha : vals args = some vs) (hr : val r = some v) (h : ∀ w, Calls P f vs.toArray w fun e w' => e = .returned v ∧ w = w') (hk : K objs r) : CallOk P f args objs K :=
  conv ha hr (fun w => (h w).mono (by rintro e w' ⟨rfl, rfl⟩; exact ⟨rfl, Qb.refl _⟩)) hk
theorem convT (ha : vals args = some vs) (hr : val r = some v) (h : ∀ w, Tabs.T (P := P) w → Calls P f vs.toArray w fun e w' => e = .returned v ∧ Qb w w') (hk : K objs r) : CallOk P f args objs K :=
  callok_tab r hk fun G I w ys hT hm hd => by
    rw [(vals_den G I args vs ha ys).1 hd]
    exact ⟨v, h w hT, (val_den G I r v hr v).2 rfl⟩
end
end Go.Proofs.Ytkokcmpgebjiaaa
namespace Go.Proofs.Ytkokcmpgebjiaaa
open Sx
theorem gn1 (l : List OB) (x : OB) : (l ++ [x])[l.length]? = some x := by simp
theorem sn1 (l : List OB) (x y : OB) : (l ++ [x]).set l.length y = l ++ [y] := by simp
theorem gn20 (l : List OB) (x y : OB) : (l ++ [x] ++ [y])[l.length]? = some x := by simp
theorem gn21 (l : List OB) (x y : OB) : (l ++ [x] ++ [y])[l.length + 1]? = some y := by simp
theorem sn20 (l : List OB) (x y z : OB) : (l ++ [x] ++ [y]).set l.length z = l ++ [z] ++ [y] := by simp
theorem sn21 (l : List OB) (x y z : OB) : (l ++ [x] ++ [y]).set (l.length + 1) z = l ++ [x] ++ [z] := by simp
theorem gn30 (l : List OB) (x y z : OB) : (l ++ [x] ++ [y] ++ [z])[l.length]? = some x := by simp
theorem gn31 (l : List OB) (x y z : OB) : (l ++ [x] ++ [y] ++ [z])[l.length + 1]? = some y := by simp
theorem gn32 (l : List OB) (x y z : OB) : (l ++ [x] ++ [y] ++ [z])[l.length + 1 + 1]? = some z := by
  have h := gn1 (l ++ [x] ++ [y]) z
  simp only [List.length_append, List.length_cons, List.length_nil, Nat.zero_add] at h
  exact h
theorem sn32 (l : List OB) (x y z w : OB) : (l ++ [x] ++ [y] ++ [z]).set (l.length + 1 + 1) w = l ++ [x] ++ [y] ++ [w] := by
  have h := sn1 (l ++ [x] ++ [y]) z w
  simp only [List.length_append, List.length_cons, List.length_nil, Nat.zero_add] at h
  exact h
end Go.Proofs.Ytkokcmpgebjiaaa
