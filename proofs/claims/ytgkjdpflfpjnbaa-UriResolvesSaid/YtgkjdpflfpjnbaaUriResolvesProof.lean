/- The statement UriResolves: webfinger/webfingerlaw06.UriResolves returns true for every input and leaves what it was given as it was. No condition. -/
import Derived.Test.YtgkjdpflfpjnbaaRows
import Derived.Test.YtgkjdpflfpjnbaaUriW
import Derived.Test.YtgkjdpflfpjnbaaFrm
import Derived.Test.YtgkjdpflfpjnbaaTab
namespace Go.Proofs.Ytgkjdpflfpjnbaa.uriResolves
open Go.ChangeShapes Go.WideShapes Go.ChangeAt Go.RowKit Go.Proofs.Ytgkjdpflfpjnbaa.Sx
set_option linter.unusedVariables false

theorem own : ownKnob Try.prog.godebug = none := by kernel_rfl
theorem rec_ok : ∀ t ∈ Try.f9.params.toList, Try.prog.readableRec t = true ∧ t < Try.prog.types.size := by
  rw [Try.params9]
  intro t ht
  simp only [List.mem_cons, List.not_mem_nil, or_false] at ht
  rcases ht with rfl | rfl | rfl | rfl
  all_goals exact ⟨by kernel_rfl, of_decide_eq_true (by kernel_rfl)⟩

set_option maxRecDepth 100000 in
theorem lifted (os : Os) (started : os.Started) (H : Type) (enc : TypeId × Value → H) :
    ReturnsInHanded {} Try.checked os 9 .any (Rows.uriResolvesSpec.pre6 enc Try.prog Try.f9 Rows.uriResolvesRow.domain false) (Rows.uriResolvesSpec.post enc Try.prog Try.f9 false true false false) := by
  refine sized_shaped (C := Try.checked) own started (by kernel_rfl) Try.func9
    (ChangeSpec.witness6 (enc := enc) (C := Try.checked) false ⟨#[], #[.agg #[.string ByteArray.empty, .string ByteArray.empty, .string ByteArray.empty, .string ByteArray.empty, .string ByteArray.empty, .bool false, .bool false, .bool false, .bool false], .agg #[.string ByteArray.empty, .string ByteArray.empty, .string ByteArray.empty, .string ByteArray.empty, .string ByteArray.empty, .bool false, .bool false, .bool false, .bool false], .string ByteArray.empty, .string ByteArray.empty], []⟩ 8 (by kernel_rfl) (by kernel_rfl) (by kernel_rfl) (by kernel_rfl)) ?_
  intro W base args ds gs before hSh hval0 hW hwt0
  have hval : ∀ (j : Nat) (t : TypeId) (v : Value), Try.f9.params.toList[j]? = some t → args.toList[j]? = some v → Value.okWide Try.prog W .any base t v := fun j t v h1 h2 => hval0 j t v (by simpa using h1) (by simpa using h2)
  obtain ⟨p, q, hA, hV, hbe, hfz, hnd⟩ := id hW
  have hgs : gs = [] := by
    cases gs with
    | nil => rfl
    | cons g gs => exact hV.elim
  subst hgs
  have hwt : ∀ n ∈ DataW.weightsEach Try.prog Try.f9.params.toList ds, n ≤ reachBytes := by
    intro n hn
    have e : (Rows.uriResolvesSpec.plain.varTypes Try.checked.prog) = [] := rfl
    rw [e, List.append_nil, List.append_nil] at hwt0
    exact of_decide_eq_true (List.all_eq_true.1 hwt0 n hn)
  obtain ⟨xs, hd, hsh⟩ := open_args (G := Gh.none) (I := fun g o v => W.cell? ⟨g, o, none⟩ = some v) _ [(.st [.s, .s, .s, .s, .s, .b, .b, .b, .b]), (.st [.s, .s, .s, .s, .s, .b, .b, .b, .b]), .s, .s] _ _ _ (by kernel_rfl) hval hA hwt
  obtain ⟨_, _, rfl, ⟨_, rfl, ⟨_, _, rfl, ⟨l0, rfl, w0⟩, ⟨_, _, rfl, ⟨l1, rfl, w1⟩, ⟨_, _, rfl, ⟨l2, rfl, w2⟩, ⟨_, _, rfl, ⟨l3, rfl, w3⟩, ⟨_, _, rfl, ⟨l4, rfl, w4⟩, ⟨_, _, rfl, ⟨b5, rfl⟩, ⟨_, _, rfl, ⟨b6, rfl⟩, ⟨_, _, rfl, ⟨b7, rfl⟩, ⟨_, _, rfl, ⟨b8, rfl⟩, rfl⟩⟩⟩⟩⟩⟩⟩⟩⟩⟩, ⟨_, _, rfl, ⟨_, rfl, ⟨_, _, rfl, ⟨l9, rfl, w9⟩, ⟨_, _, rfl, ⟨l10, rfl, w10⟩, ⟨_, _, rfl, ⟨l11, rfl, w11⟩, ⟨_, _, rfl, ⟨l12, rfl, w12⟩, ⟨_, _, rfl, ⟨l13, rfl, w13⟩, ⟨_, _, rfl, ⟨b14, rfl⟩, ⟨_, _, rfl, ⟨b15, rfl⟩, ⟨_, _, rfl, ⟨b16, rfl⟩, ⟨_, _, rfl, ⟨b17, rfl⟩, rfl⟩⟩⟩⟩⟩⟩⟩⟩⟩⟩, ⟨_, _, rfl, ⟨l18, e18, w18⟩, ⟨_, _, rfl, ⟨l19, e19, w19⟩, rfl⟩⟩⟩⟩ := hsh
  injection e18 with e18 _
  subst e18
  injection e19 with e19 _
  subst e19
  have hc := law_ok (P := Try.prog) hd hSh (uriResolves_c l0 w0 l1 w1 l2 w2 l3 w3 l4 w4 b5 b6 b7 b8 l9 w9 l10 w10 l11 w11 l12 w12 l13 w13 b14 b15 b16 b17 l18 w18 l19 w19)
  rw [Array.toArray_toList] at hc
  refine hc.mono fun e W' ⟨he, hb⟩ => ?_
  subst he
  rw [Try.params9] at hA
  obtain ⟨v0, vs0, d0, ds0, p0, q0, _, rfl, _, _, r0⟩ := trodAll_cons hA
  obtain ⟨v1, vs1, d1, ds1, p1, q1, _, e1d, _, _, r1⟩ := trodAll_cons r0
  subst e1d
  obtain ⟨v2, vs2, d2, ds2, p2, q2, _, e2d, _, _, r2⟩ := trodAll_cons r1
  subst e2d
  obtain ⟨v3, vs3, d3, ds3, p3, q3, _, e3d, _, _, r3⟩ := trodAll_cons r2
  subst e3d
  obtain ⟨_, e0z, _⟩ := trodAll_nil r3
  subst e0z
  exact ⟨_, rfl, post_true (by kernel_rfl) rec_ok (tb := Try.f9.resultTypes.getD 0 0) (by kernel_rfl) (by kernel_rfl) rfl hW rfl hb⟩

theorem over : Rows.uriResolvesRow.holds Try.pinned (OpenSpec.ofChange Rows.uriResolvesSpec) :=
  OpenClaim.holds_of_wide 9 Try.f9 rfl rfl rfl rfl rfl rfl rfl ⟨rfl, rfl, rfl, rfl, rfl⟩ rfl rfl rfl rfl rfl (by kernel_rfl) Try.func9 (by kernel_rfl)
    (of_decide_eq_true (by kernel_rfl)) (by unfold Func.isWrapper; first | (rw [if_pos (by decide +kernel)]; kernel_rfl) | (rw [if_neg (by decide +kernel)]; exact ⟨rfl, rfl⟩))
    (fun os started H enc _ => lifted os started H enc)

theorem proved : Rows.UriResolvesSaid :=
  over
end Go.Proofs.Ytgkjdpflfpjnbaa.uriResolves
