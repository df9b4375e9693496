/- The statement TemplateExpands: webfinger/webfingerlaw23.TemplateExpands returns true for every input and leaves what it was given as it was. Where what it reads is of bulk at most 1048576. No other condition. -/
import Derived.Test.YtkokcmpgebjiaaaRows
import Derived.Deep.DeepHandedRow
import Derived.Lib.LaidTab
import Derived.Stop.LaidErr
import Derived.Test.YtkokcmpgebjiaaaTplE
import Derived.Test.YtkokcmpgebjiaaaFrm
import Derived.Test.YtkokcmpgebjiaaaUpto
import Derived.Test.YtkokcmpgebjiaaaTab
namespace Go.Proofs.Ytkokcmpgebjiaaa.templateExpandsUpto
open Go.ChangeShapes Go.WideShapes Go.ChangeAt Go.RowKit Go.Proofs.Ytkokcmpgebjiaaa.Sx
set_option linter.unusedVariables false

theorem own : ownKnob Try.prog.godebug = none := by kernel_rfl
theorem rec_ok : ∀ t ∈ Try.f6.params.toList, Try.prog.readableRec t = true ∧ t < Try.prog.types.size := by
  rw [Try.params6]
  intro t ht
  simp only [List.mem_cons, List.not_mem_nil, or_false] at ht
  rcases ht with rfl | rfl
  all_goals exact ⟨by kernel_rfl, of_decide_eq_true (by kernel_rfl)⟩

set_option maxRecDepth 100000 in
theorem contract (H : Type) (enc : TypeId × Value → H) (W : World) (base : Nat) (args : Array Value) (ds gs : List (DataW H)) (before : List MemPlace)
    (hval0 : ∀ (j : Nat) t v, Try.f6.params[j]? = some t → args[j]? = some v → Value.okWide Try.prog W .any base t v)
    (hW : DataW.Whole enc Try.prog Try.f6.params.toList Rows.templateExpandsSpec.vars false W args.toList ds gs before)
    (hk1 : Rows.uptoSmall H (ds ++ gs) = true) (hSh : W.ShapedOpen Try.prog) :
    Calls Try.prog 6 args W fun e W' => ∃ v, e = .returned v ∧ Rows.templateExpandsSpec.post enc Try.prog Try.f6 false true false false W args v W' := by
  have hval : ∀ (j : Nat) (t : TypeId) (v : Value), Try.f6.params.toList[j]? = some t → args.toList[j]? = some v → Value.okWide Try.prog W .any base t v := fun j t v h1 h2 => hval0 j t v (by simpa using h1) (by simpa using h2)
  obtain ⟨p, q, hA, hV, hbe, hfz, hnd⟩ := id hW
  have hgs : gs = [] := by
    cases gs with
    | nil => rfl
    | cons g gs => exact hV.elim
  subst hgs
  have hk0 : Rows.uptoSmall H ds = true := by rw [List.append_nil] at hk1; exact hk1
  have hwt : Rows.uptoBulkAll ds ≤ 1048576 := by simpa [Rows.uptoSmall] using hk0
  obtain ⟨xs, hd, hsh⟩ := openU_args (G := Gh.none) (I := fun g o v => W.cell? ⟨g, o, none⟩ = some v) _ [.s, .s] _ _ _ (by kernel_rfl) hval hA hwt
  obtain ⟨_, _, rfl, ⟨l0, e0, w0⟩, ⟨_, _, rfl, ⟨l1, e1, w1⟩, rfl⟩⟩ := hsh
  injection e0 with e0 _
  subst e0
  injection e1 with e1 _
  subst e1
  have hc := law_ok (P := Try.prog) hd hSh (templateExpands_c l0 w0 l1 w1)
  rw [Array.toArray_toList] at hc
  refine hc.mono fun e W' ⟨he, hb⟩ => ?_
  subst he
  rw [Try.params6] at hA
  obtain ⟨v0, vs0, d0, ds0, p0, q0, _, rfl, _, _, r0⟩ := trodAll_cons hA
  obtain ⟨v1, vs1, d1, ds1, p1, q1, _, e1d, _, _, r1⟩ := trodAll_cons r0
  subst e1d
  obtain ⟨_, e0z, _⟩ := trodAll_nil r1
  subst e0z
  exact ⟨_, rfl, post_true (by kernel_rfl) rec_ok (tb := Try.f6.resultTypes.getD 0 0) (by kernel_rfl) (by kernel_rfl) rfl hW rfl hb⟩

noncomputable def laidWorld (os : Os) : World := World.holding Try.prog os ⟨#[], #[], []⟩
theorem laid_met (os : Os) : laidMet Try.prog Rows.templateExpandsUptoRow.laid ((laidWorld os).forCall (fun _ _ => 0) ⟨#[], #[.string ByteArray.empty, .string ByteArray.empty], []⟩).memory :=
  laidMet_of_run' 8 (by kernel_rfl) (by kernel_rfl)
theorem reads (os : Os) {H : Type} (enc : TypeId × Value → H) : ∃ places, DataW.whole enc Try.prog ((laidWorld os).forCall (fun _ _ => 0) ⟨#[], #[.string ByteArray.empty, .string ByteArray.empty], []⟩).memory Try.f6.params.toList Rows.templateExpandsSpec.vars false (#[.string ByteArray.empty, .string ByteArray.empty] : Array Value).toList 8 = some ([.lit (.string []), .lit (.string [])], [], places) :=
  ⟨[], by kernel_rfl⟩

set_option maxRecDepth 100000 in
theorem lifted (os : Os) (started : os.Started) (H : Type) (enc : TypeId × Value → H) (F : Stop.Interp) :
    ReturnsInHanded {} Try.checked os 6 .any ((Rows.OpenSpec.upto Rows.templateExpandsSpec).preRow enc Try.prog Try.f6 Rows.templateExpandsUptoRow.domain false Rows.templateExpandsUptoRow.laid) (((Rows.OpenSpec.upto Rows.templateExpandsSpec).at F).post enc Try.prog Try.f6 false true false false) := by
  obtain ⟨places, hx⟩ := reads os enc
  refine returnsInHanded_of_row (C := Try.checked) (s := Rows.OpenSpec.upto Rows.templateExpandsSpec) own started (by kernel_rfl) Try.func6
    (witness_row_at (enc := enc) (C := Try.checked) false (laidWorld os) #[.string ByteArray.empty, .string ByteArray.empty] rfl (by kernel_rfl) (by kernel_rfl) (by kernel_rfl)
      (OpenSpec.preRow_of_cond 8 hx (by kernel_rfl) (fun k hk => by cases hk; kernel_rfl) (by kernel_rfl) (laid_met os))) ?_
  intro W base args ds gs before hval hW _ hk hwt hL hSh _
  exact contract H enc W base args ds gs before hval hW (hk _ rfl) hSh

theorem proved : Rows.TemplateExpandsUptoSaid :=
  OpenClaim.holds_of_cond 6 Try.f6 rfl rfl rfl rfl rfl rfl rfl ⟨rfl, rfl, rfl, rfl, rfl⟩ rfl rfl rfl rfl rfl (by kernel_rfl) Try.func6 (by kernel_rfl)
    (of_decide_eq_true (by kernel_rfl)) (by unfold Func.isWrapper; first | (rw [if_pos (by decide +kernel)]; kernel_rfl) | (rw [if_neg (by decide +kernel)]; exact ⟨rfl, rfl⟩))
    (fun os started H enc _ F => by rw [OpenClaim.pre_eq_preRow]; exact lifted os started H enc F)
end Go.Proofs.Ytkokcmpgebjiaaa.templateExpandsUpto
