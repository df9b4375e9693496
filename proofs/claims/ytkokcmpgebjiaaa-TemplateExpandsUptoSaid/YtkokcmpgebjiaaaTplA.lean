/- URI templates: the reference's parts in the form of the calculus. -/
import Derived.Test.YtkokcmpgebjiaaaTplK
import Derived.Test.YtkokcmpgebjiaaaTplR
import Derived.Test.YtkokcmpgebjiaaaRowK
namespace Go.Proofs.Ytkokcmpgebjiaaa
open Go.RowKit Sx
set_option linter.unusedVariables false
set_option linter.unusedSimpArgs false

section
variable [Tabs Try.prog]
theorem parts_k : PartsK := by
  intro s objs K hs hk
  have es : (S s).data.toList = s := by simp
  rcases ht : tplR 0 [] s with _ | ls
  · rw [ht] at hk
    refine callok_pure (litAV none) hk fun G I w ys hm hd => ?_
    obtain rfl : ys = [.string (S s)] := (vals_den G I [.s s] [.string (S s)] rfl ys).1 hd
    refine ⟨.tuple #[.slice none 0 0, .bool false], (rParts_any (S s) w (by rw [S_size]; exact hs)).mono ?_, by simp [litAV, Den, Dens]⟩
    rintro e w' (⟨h1, rfl, hq⟩ | ⟨ls, v, h1, rfl, hr, hb⟩)
    · exact ⟨rfl, hq⟩
    · rw [es, ht] at h1; cases h1
  · rw [ht] at hk
    intro C _ G I w hin hm ys hd
    obtain rfl : ys = [.string (S s)] := (vals_den G I [.s s] [.string (S s)] rfl ys).1 hd
    refine (rParts_any (S s) w (by rw [S_size]; exact hs)).mono ?_
    rintro e w' (⟨h1, rfl, hq⟩ | ⟨ls', v, h1, rfl, hr, hb⟩)
    · rw [es, ht] at h1; cases h1
    rw [es, ht] at h1
    injection h1 with h1
    subst h1
    have hne := (tpl_len s.length s [] ls (Nat.le_refl _) ht).1
    obtain ⟨g, cap, rfl, h1, h2, h3⟩ := hr.form hne
    have hg : w.grownBy w' none := ⟨hb.os, hb.tape, hb.output, Below.size hb, fun k hk _ => Below.block hb k hk⟩
    obtain ⟨I', s1, s2, s3, s4⟩ := newimm_at hin hm hg g ls.length cap (ls.map .s) (sv ls) h1 h3 (sv_dens G I ls) (sv_one ls) (fun j u hj => by
      have hjl : j < ls.length := by
        have := (List.getElem?_eq_some_iff.1 hj).1
        rwa [sv_length] at this
      rw [hr.cell j hjl, ← sv_get ls j hjl]; exact hj)
    have e : decide ((1 : Int) < ((ls.length : Nat) : Int)) = decide (1 < ls.length) := by
      by_cases h : 1 < ls.length
      · rw [decide_eq_true h, decide_eq_true (by omega)]
      · rw [decide_eq_false h, decide_eq_false (by omega)]
    refine ⟨_, objs, litAV (some ls), G, I', rfl, hk, Gh.le.refl G, s1, s2, s3, ?_⟩
    simp only [litAV, Den]
    exact ⟨[_, _], rfl, _, _, rfl, s4, _, _, rfl, by simp only [Den]; rw [e], by simp only [Dens]⟩
end
end Go.Proofs.Ytkokcmpgebjiaaa
