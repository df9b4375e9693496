/- Contracts of the parts of URIs in the form of the calculus. -/
import Derived.Test.YtkokcmpgebjiaaaK
import Derived.Test.YtkokcmpgebjiaaaUriT
import Derived.Test.YtkokcmpgebjiaaaUriG
import Derived.Test.YtkokcmpgebjiaaaUriE
import Derived.Test.YtkokcmpgebjiaaaUriR
import Derived.Test.YtkokcmpgebjiaaaShelf
namespace Go.Proofs.Ytkokcmpgebjiaaa
open Go.RowKit Sx
set_option linter.unusedVariables false
set_option linter.unusedSimpArgs false

theorem maxLen_is' : maxLen = 2 ^ 63 - 1 := rfl
theorem Qb.rev {w w' : World} (h : w' = w) : Qb w w' := by subst h; exact Qb.refl _
def uriAV (u : UriP) : AV := .agg [.s u.scheme, .s u.auth, .s u.path, .s u.query, .s u.frag, .b u.hs, .b u.ha, .b u.hq, .b u.hf]
/-- a slice of strings: what its value looks like -/
theorem strs_den (G : Gh) (I : Imm) : ∀ (xs : List (List UInt8)) (ys : List Value), Dens G I (xs.map .s) ys → ys = xs.map fun l => .string ⟨l.toArray⟩
  | [], ys, h => by simpa [Dens] using h
  | x :: xs, ys, h => by
    simp only [List.map_cons, Dens, Den] at h
    obtain ⟨y, ys', rfl, rfl, h2⟩ := h
    rw [strs_den G I xs ys' h2]; rfl
theorem join_flat (xs : List (List UInt8)) : Lib.join xs [] = xs.flatten := by
  unfold Lib.join
  induction xs with
  | nil => rfl
  | cons x xs ih =>
    cases xs with
    | nil => simp [List.intercalate]
    | cons y ys =>
      rw [show List.intercalate ([] : List UInt8) (x :: y :: ys) = x ++ List.intercalate [] (y :: ys) by simp [List.intercalate, List.intersperse], ih]
      rfl
section
variable [Tabs Try.prog] {objs : List OB} {K : List OB → AV → Prop}
theorem uSplit_k (s : List UInt8) (hk : K objs (.tup [uriAV (splitE s).2, .i .i64 (splitE s).1])) : CallOk Try.prog 14 [.s s] objs K := by
  refine conv (vs := [.string (S s)]) rfl rfl (fun w => ?_) hk
  rcases Nat.lt_or_ge 16384 s.length with h | h
  · exact Split_long (S s) w (by rw [S_size]; exact h)
  · exact Split_short (S s) w (by rw [S_size]; exact h)
theorem uDots_k (s : List UInt8) (hs : s.length ≤ 1000000) (hk : K objs (.s (rdotsL s))) : CallOk Try.prog 12 [.s s] objs K :=
  conv (vs := [.string (S s)]) rfl rfl (fun w => pDots_any (S s) w (by rw [S_size]; exact hs)) hk
theorem rIndex_k (s set : List UInt8) (hs : s.length ≤ maxLen) (ha : set.length ≤ maxLen) (hk : K objs (.i .i64 (idxS s set))) : CallOk Try.prog 21 [.s s, .s set] objs K :=
  convs (vs := [.string (S s), .string (S set)]) rfl rfl (fun w => rIndex_any (S s) (S set) w (by rw [S_size]; exact hs) (by rw [S_size]; exact ha)) hk
theorem rPrefix_k (s p : List UInt8) (hs : s.length ≤ maxLen) (hk : K objs (.b (Lib.hasPrefix s p))) : CallOk Try.prog 55 [.s s, .s p] objs K :=
  convs (vs := [.string (S s), .string (S p)]) rfl rfl (fun w => rPrefix_any (S s) (S p) w (by rw [S_size]; exact hs)) hk
theorem lastIdx_k (s : List UInt8) (c : Int) (hs : s.length < 4611686018427387904) (hk : K objs (.i .i64 (Lib.lastIndexByte (S s) c))) : CallOk Try.prog 47 [.s s, .i .u8 c] objs K :=
  conv (vs := [.string (S s), .int .u8 c]) rfl rfl (fun w => (Try.strings_LastIndexByte (S s) c (by rw [S_size]; exact hs) w).mono fun e w' ⟨h1, h2⟩ => ⟨h1, Qb.rev h2⟩) hk
theorem sJoin_k (xs : List (List UInt8)) (sep : List UInt8) (hN : xs.length ≤ 140737488355328) (hl : (Lib.join xs sep).length ≤ 140737488355328) (hk : K objs (.s (Lib.join xs sep))) : CallOk Try.prog 36 [.row xs.length (xs.map .s), .s sep] objs K := by
  refine callok_pure (.s (Lib.join xs sep)) hk fun G I w ys hm hd => ?_
  simp only [Dens, Den] at hd
  obtain ⟨y, ys', rfl, ⟨a, c, zs, rfl, ⟨hc, _⟩, hz, _, hi⟩, y2, ys2, rfl, rfl, rfl⟩ := hd
  have hz := strs_den G I xs zs hz
  subst hz
  refine ⟨_, ?_, rfl⟩
  cases xs with
  | nil =>
    refine (Try.strings_Join_none a c (S sep) w).mono ?_
    rintro e w' ⟨rfl, rfl⟩
    exact ⟨by rw [show Lib.join [] sep = [] from rfl], Qb.refl _⟩
  | cons x xs =>
    obtain ⟨g, off, rfl, h0⟩ := hi 0 _ rfl
    have hcell : ∀ (j : Nat) z, ((x :: xs).map (fun l : List UInt8 => (⟨l.toArray⟩ : ByteArray)))[j]? = some z → w.cell? ⟨g, off + j, none⟩ = some (.string z) := by
      intro j z hj
      rw [List.getElem?_map] at hj
      obtain ⟨l, hl, rfl⟩ := Option.map_eq_some_iff.1 hj
      obtain ⟨g', off', e, h1⟩ := hi j _ (by rw [List.getElem?_map, hl]; rfl)
      cases e
      exact hm.imm _ _ _ h1
    have e1 : ((x :: xs).map (fun l : List UInt8 => (⟨l.toArray⟩ : ByteArray))).map (·.data.toList) = x :: xs := by
      rw [List.map_map]; simp [Function.comp_def]
    have := Try.strings_Join g off c ((x :: xs).map fun l => ⟨l.toArray⟩) (S sep) w hcell (World.block_lt_of_cell? (h := hcell 0 _ rfl)) (by simpa using hN) (by simpa using hc) (by rw [e1, S_list]; exact hl)
    rw [e1, S_list, List.length_map] at this
    exact this
end
end Go.Proofs.Ytkokcmpgebjiaaa
