/- strings.ContainsAny with "?#", on texts of any bytes that are longer than eight, or ASCII. -/
import Derived.Test.YtdominegknnbhaaMailF
namespace Go.Proofs.Ytdominegknnbhaa
open Go.RowKit
set_option linter.unusedVariables false
set_option linter.unusedSimpArgs false

theorem conAny_any (s : ByteArray) (w : World) (hs : s.size ≤ 1000000) (h8 : 8 < s.size ∨ ∀ (j : Nat) b, s.data.toList[j]? = some b → b.toNat < 128) :
    Calls Try.prog 38 #[.string s, .string ⟨#[63, 35]⟩] w fun e w' => e = .returned (.bool (Lib.containsAny s.data.toList [63, 35])) ∧ Qb w w' := by
  have hac : ∀ (j : Nat) b, (⟨#[63, 35]⟩ : ByteArray).data.toList[j]? = some b → b.toNat < 128 := by
    intro j b h
    rcases j with _ | _ | j
    · injection h with h; subst h; decide
    · injection h with h; subst h; decide
    · cases h
  rcases h8 with h8 | h8
  · go_enter Try.func38, Try.ntmps38
    go_wp2_with fail
    refine (Try.strings_IndexAny_long (zero_of_info (n := 256) (by kernel_rfl)).1 s ⟨#[63, 35]⟩ w (by decide) h8 (by omega) (by decide) hac).mono ?_
    rintro e w1 ⟨rfl, rfl⟩
    go_wp2_with fail
    go_ret
    exact ⟨rfl, ((Qb.refl w).alloc _).alloc _⟩
  · exact (Try.strings_ContainsAny_laid s ⟨#[63, 35]⟩ w (by omega) (by decide) h8 hac)
end Go.Proofs.Ytdominegknnbhaa
