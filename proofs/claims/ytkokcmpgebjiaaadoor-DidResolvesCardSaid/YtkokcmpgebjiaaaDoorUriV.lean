/- The parts of a URI make it again. -/
import Derived.Test.YtkokcmpgebjiaaaDoorUriM
import Derived.Test.YtkokcmpgebjiaaaDoorUriO
import Derived.Test.YtkokcmpgebjiaaaDoorUriQ
namespace Go.Proofs.YtkokcmpgebjiaaaDoor
set_option linter.unusedVariables false
set_option linter.unusedSimpArgs false

theorem cut_join (c : UInt8) : ∀ l : List UInt8, l = (cutL c l).1 ++ (if (cutL c l).2.2 = true then [c] ++ (cutL c l).2.1 else [])
  | [] => rfl
  | x :: t => by
    have ih := cut_join c t
    rw [cutL_cons]
    by_cases hx : x = c
    · subst hx; simp
    · rw [if_neg hx]
      show x :: t = x :: ((cutL c t).1 ++ _)
      rw [← ih]
theorem cut_len (c : UInt8) (l : List UInt8) : (cutL c l).1.length ≤ l.length := by
  have h := congrArg List.length (cut_join c l)
  rw [List.length_append] at h
  omega
theorem sch_join (l : List UInt8) (h : (cutL 58 (firstL l)).2.2 = true) : l = (cutL 58 (firstL l)).1 ++ [58] ++ l.drop ((cutL 58 (firstL l)).1.length + 1) := by
  have sx := sch_idx l
  by_cases hk : ∃ hk : idxS l [58, 47] < l.length, l[idxS l [58, 47]] = 58
  · obtain ⟨h1, h2⟩ := hk
    obtain ⟨q1, q2, _⟩ := sx.1 h1 h2
    rw [q2]
    conv => lhs; rw [← List.take_append_drop (idxS l [58, 47]) l, List.drop_eq_getElem_cons h1, h2]
    rw [← q1]; simp
  · have := sx.2 (fun h1 h2 => hk ⟨h1, h2⟩)
    rw [h] at this; cases this
theorem hier_join (r : List UInt8) : r = (if twoSl r = true then [47, 47] ++ authL r else []) ++ pathL r := by
  by_cases h : twoSl r = true
  · have ea : authL r = firstL (r.drop 2) := by unfold authL; rw [if_pos h]
    have eb : pathL r = (r.drop 2).drop (authL r).length := by unfold pathL; rw [if_pos h]
    rw [if_pos h, eb]
    have hp : [47, 47] ++ r.drop 2 = r := by
      have := List.isPrefixOf_iff_prefix.1 (show Lib.hasPrefix r [47, 47] = true from h)
      obtain ⟨t, rfl⟩ := this
      simp
    have hf := (firstL_pre (r.drop 2)).1
    have : authL r ++ (r.drop 2).drop (authL r).length = r.drop 2 := by
      rw [ea]
      conv => lhs; lhs; rw [hf]
      exact List.take_append_drop _ _
    rw [List.append_assoc, this, hp]
  · unfold pathL
    rw [if_neg h, if_neg h]; simp
theorem split_join (s : List UInt8) (h : (splitE s).1 = 0) : joinU (splitE s).2 = s := by
  unfold splitE at h ⊢
  split
  · rename_i h1; rw [if_pos h1] at h; cases h
  · rename_i h1
    rw [if_neg h1] at h
    split
    · rename_i h2; rw [if_pos h2] at h; cases h
    · rename_i h2
      clear h h2 h1
      unfold joinU
      simp only
      have e1 := cut_join 35 s
      have e2 := cut_join 63 (cutL 35 s).1
      have e3 := hier_join (hierL s)
      have e4 : bodyL s = (if (schCut s).2.2 = true then (schCut s).1 ++ [58] else []) ++ hierL s := by
        unfold hierL
        by_cases h : (schCut s).2.2 = true
        · rw [if_pos h, if_pos h]; exact sch_join (bodyL s) h
        · rw [if_neg h, if_neg h]; rfl
      have e5 : (if (schCut s).2.2 = true then (if (schCut s).2.2 = true then (schCut s).1 else []) ++ [58] else []) = (if (schCut s).2.2 = true then (schCut s).1 ++ [58] else []) := by split <;> rfl
      rw [e5, List.append_assoc (if (schCut s).2.2 = true then (schCut s).1 ++ [58] else []), ← e3, ← e4]
      show (cutL 63 (cutL 35 s).1).1 ++ _ ++ _ = s
      rw [← e2, ← e1]
theorem split_err (s : List UInt8) (h : (splitE s).1 ≠ 0) : (splitE s).2 = uriZ := by
  unfold splitE at h ⊢
  split
  · rfl
  · rename_i h1; rw [if_neg h1] at h
    split
    · rfl
    · rename_i h2; rw [if_neg h2] at h; exact absurd rfl h
theorem split_path (s : List UInt8) : (splitE s).2.path.length ≤ s.length := by
  unfold splitE
  split
  · simp [uriZ]
  · split
    · simp [uriZ]
    · simp only
      have h1 : (pathL (hierL s)).length ≤ (hierL s).length := by
        unfold pathL; split <;> (try simp only [List.length_drop]) <;> omega
      have h2 : (hierL s).length ≤ (bodyL s).length := by
        unfold hierL; split <;> (try simp only [List.length_drop]) <;> omega
      have h3 : (bodyL s).length ≤ (cutL 35 s).1.length := cut_len 63 _
      have h4 := cut_len 35 s
      omega
theorem resolve_empty (b : UriP) : resolveU b uriZ = { b with frag := [], hf := false } := by
  unfold resolveU uriZ; simp
theorem resolve_scheme (b c u : UriP) (h : u.hs = true) : resolveU b u = resolveU c u := by
  unfold resolveU; rw [if_pos h, if_pos h]
end Go.Proofs.YtkokcmpgebjiaaaDoor
