/- The statement JrdLimits: webfinger/webfingerlaw16.JrdLimits returns true for every input and leaves what it was given as it was. No condition. -/
import Derived.Test.YtceenajkieomoaaRows
import Derived.Test.YtceenajkieomoaaJu7
namespace Go.Proofs.Ytceenajkieomoaa.jrdLimits
open Go.ChangeShapes Go.WideShapes Go.ChangeAt Go.RowKit Go.Proofs.Ytceenajkieomoaa.Sx
set_option linter.unusedVariables false

theorem own : ownKnob Try.prog.godebug = none := by kernel_rfl
theorem rec_ok : ∀ t ∈ Try.f7.params.toList, Try.prog.readableRec t = true ∧ t < Try.prog.types.size := by
  rw [Try.params7]
  intro t ht
  simp only [List.mem_cons, List.not_mem_nil, or_false] at ht
  rcases ht with rfl | rfl
  all_goals exact ⟨by kernel_rfl, of_decide_eq_true (by kernel_rfl)⟩

set_option maxRecDepth 100000 in
theorem lifted (os : Os) (started : os.Started) (H : Type) (enc : TypeId × Value → H) :
    ReturnsInHanded {} Try.checked os 7 .any (Rows.jrdLimitsSpec.pre6 enc Try.prog Try.f7 Rows.jrdLimitsRow.domain false) (Rows.jrdLimitsSpec.post enc Try.prog Try.f7 false true false false) := by
  refine sized_shaped (C := Try.checked) own started (by kernel_rfl) Try.func7
    (ChangeSpec.witness6 (enc := enc) (C := Try.checked) false ⟨#[], #[.int .u8 0, .int .u8 0], []⟩ 8 (by kernel_rfl) (by kernel_rfl) (by kernel_rfl) (by kernel_rfl)) ?_
  intro W base args ds gs before hSh hval0 hW hwt0
  have hval : ∀ (j : Nat) (t : TypeId) (v : Value), Try.f7.params.toList[j]? = some t → args.toList[j]? = some v → Value.okWide Try.prog W .any base t v := fun j t v h1 h2 => hval0 j t v (by simpa using h1) (by simpa using h2)
  obtain ⟨p, q, hA, hV, hbe, hfz, hnd⟩ := id hW
  have hgs : gs = [] := by
    cases gs with
    | nil => rfl
    | cons g gs => exact hV.elim
  subst hgs
  have hwt : ∀ n ∈ DataW.weightsEach Try.prog Try.f7.params.toList ds, n ≤ reachBytes := by
    intro n hn
    have e : (Rows.jrdLimitsSpec.plain.varTypes Try.checked.prog) = [] := rfl
    rw [e, List.append_nil, List.append_nil] at hwt0
    exact of_decide_eq_true (List.all_eq_true.1 hwt0 n hn)
  obtain ⟨xs, hd, hsh⟩ := open_args (G := Gh.none) (I := fun g o v => W.cell? ⟨g, o, none⟩ = some v) (fun _ _ _ h => h) (fun _ => rfl) _ [(.i .u8), (.i .u8)] _ _ _ (by kernel_rfl) hval hA hwt
  obtain ⟨_, _, rfl, ⟨n0, e0, w0⟩, ⟨_, _, rfl, ⟨n1, e1, w1⟩, rfl⟩⟩ := hsh
  injection e0 with e0 _
  subst e0
  injection e1 with e1 _
  subst e1
  have hc := law_ok (P := Try.prog) hd hSh (jrdLimits_c n0 w0 n1 w1)
  rw [Array.toArray_toList] at hc
  refine hc.mono fun e W' ⟨he, hb⟩ => ?_
  subst he
  rw [Try.params7] at hA
  obtain ⟨v0, vs0, d0, ds0, p0, q0, _, rfl, _, _, r0⟩ := trodAll_cons hA
  obtain ⟨v1, vs1, d1, ds1, p1, q1, _, e1d, _, _, r1⟩ := trodAll_cons r0
  subst e1d
  obtain ⟨_, e0z, _⟩ := trodAll_nil r1
  subst e0z
  exact ⟨_, rfl, post_true (by kernel_rfl) rec_ok (tb := Try.f7.resultTypes.getD 0 0) (by kernel_rfl) (by kernel_rfl) rfl hW rfl hb⟩

theorem over : Rows.jrdLimitsRow.holds Try.pinned (OpenSpec.ofChange Rows.jrdLimitsSpec) :=
  OpenClaim.holds_of_wide 7 Try.f7 rfl rfl rfl rfl rfl rfl rfl ⟨rfl, rfl, rfl, rfl, rfl⟩ rfl rfl rfl rfl rfl (by kernel_rfl) Try.func7 (by kernel_rfl)
    (of_decide_eq_true (by kernel_rfl)) (by unfold Func.isWrapper; first | (rw [if_pos (by decide +kernel)]; kernel_rfl) | (rw [if_neg (by decide +kernel)]; exact ⟨rfl, rfl⟩))
    (fun os started H enc _ => lifted os started H enc)

theorem proved : Rows.JrdLimitsSaid :=
  over
end Go.Proofs.Ytceenajkieomoaa.jrdLimits
