/- The statement WeblinkFinds: webfinger/webfingerlaw22.WeblinkFinds returns true for every input and leaves what it was given as it was. No condition. -/
import Derived.Test.YtkcaghhfnmeknaaRows
import Derived.Test.YtkcaghhfnmeknaaWf3
namespace Go.Proofs.Ytkcaghhfnmeknaa.weblinkFinds
open Go.ChangeShapes Go.WideShapes Go.ChangeAt Go.RowKit Go.Proofs.Ytkcaghhfnmeknaa.Sx
set_option linter.unusedVariables false

theorem own : ownKnob Try.prog.godebug = none := by kernel_rfl
theorem rec_ok : ∀ t ∈ Try.f11.params.toList, Try.prog.readableRec t = true ∧ t < Try.prog.types.size := by
  rw [Try.params11]
  intro t ht
  simp only [List.mem_cons, List.not_mem_nil, or_false] at ht
  rcases ht with rfl | rfl
  all_goals exact ⟨by kernel_rfl, of_decide_eq_true (by kernel_rfl)⟩

set_option maxRecDepth 100000 in
theorem lifted (os : Os) (started : os.Started) (H : Type) (enc : TypeId × Value → H) :
    ReturnsInHanded {} Try.checked os 11 .any (Rows.weblinkFindsSpec.pre6 enc Try.prog Try.f11 Rows.weblinkFindsRow.domain false) (Rows.weblinkFindsSpec.post enc Try.prog Try.f11 false true false false) := by
  refine sized_shaped (C := Try.checked) own started (by kernel_rfl) Try.func11
    (ChangeSpec.witness6 (enc := enc) (C := Try.checked) false ⟨#[], #[.slice none 0 0, .string ByteArray.empty], []⟩ 8 (by kernel_rfl) (by kernel_rfl) (by kernel_rfl) (by kernel_rfl)) ?_
  intro W base args ds gs before hSh hval0 hW hwt0
  have hval : ∀ (j : Nat) (t : TypeId) (v : Value), Try.f11.params.toList[j]? = some t → args.toList[j]? = some v → Value.okWide Try.prog W .any base t v := fun j t v h1 h2 => hval0 j t v (by simpa using h1) (by simpa using h2)
  obtain ⟨p, q, hA, hV, hbe, hfz, hnd⟩ := id hW
  have hgs : gs = [] := by
    cases gs with
    | nil => rfl
    | cons g gs => exact hV.elim
  subst hgs
  have hwt : ∀ n ∈ DataW.weightsEach Try.prog Try.f11.params.toList ds, n ≤ reachBytes := by
    intro n hn
    have e : (Rows.weblinkFindsSpec.plain.varTypes Try.checked.prog) = [] := rfl
    rw [e, List.append_nil, List.append_nil] at hwt0
    exact of_decide_eq_true (List.all_eq_true.1 hwt0 n hn)
  obtain ⟨xs, hd, hsh⟩ := open_args (G := Gh.none) (I := fun g o v => W.cell? ⟨g, o, none⟩ = some v) (fun _ _ _ h => h) (fun _ => rfl) _ [(.sl (.st [.s, (.sl .s), (.sl (.st [.s, .s]))])), .s] _ _ _ (by kernel_rfl) hval hA hwt
  obtain ⟨_, _, rfl, ⟨g0, e0, w0, h0⟩, ⟨_, _, rfl, ⟨l1, e1, w1⟩, rfl⟩⟩ := hsh
  injection e0 with e0 _
  subst e0
  injection e1 with e1 _
  subst e1
  have hc := law_ok (P := Try.prog) hd hSh (weblinkFinds_c g0 w0 h0 l1 w1)
  rw [Array.toArray_toList] at hc
  refine hc.mono fun e W' ⟨he, hb⟩ => ?_
  subst he
  rw [Try.params11] at hA
  obtain ⟨v0, vs0, d0, ds0, p0, q0, _, rfl, _, _, r0⟩ := trodAll_cons hA
  obtain ⟨v1, vs1, d1, ds1, p1, q1, _, e1d, _, _, r1⟩ := trodAll_cons r0
  subst e1d
  obtain ⟨_, e0z, _⟩ := trodAll_nil r1
  subst e0z
  exact ⟨_, rfl, post_true (by kernel_rfl) rec_ok (tb := Try.f11.resultTypes.getD 0 0) (by kernel_rfl) (by kernel_rfl) rfl hW rfl hb⟩

theorem over : Rows.weblinkFindsRow.holds Try.pinned (OpenSpec.ofChange Rows.weblinkFindsSpec) :=
  OpenClaim.holds_of_wide 11 Try.f11 rfl rfl rfl rfl rfl rfl rfl ⟨rfl, rfl, rfl, rfl, rfl⟩ rfl rfl rfl rfl rfl (by kernel_rfl) Try.func11 (by kernel_rfl)
    (of_decide_eq_true (by kernel_rfl)) (by unfold Func.isWrapper; first | (rw [if_pos (by decide +kernel)]; kernel_rfl) | (rw [if_neg (by decide +kernel)]; exact ⟨rfl, rfl⟩))
    (fun os started H enc _ => lifted os started H enc)

theorem proved : Rows.WeblinkFindsSaid :=
  over
end Go.Proofs.Ytkcaghhfnmeknaa.weblinkFinds
