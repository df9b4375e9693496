/- The statement's bytes as they come in. -/
import Derived.Test.YtljbdpihiboeaaaGreatDoorFu6
namespace Go.Proofs.YtljbdpihiboeaaaGreatDoor
open Sx Go.RowKit
set_option linter.unusedVariables false
set_option linter.unusedSimpArgs false
theorem fin_wf8 {c : Int} (h : (Lit.int .u8 c).wf = true) : ∃ u : UInt8, c = (u.toNat : Int) := by
  have h' : 0 ≤ c ∧ c ≤ 255 := by simpa [Lit.wf, IntKind.min, IntKind.max, IntKind.signed, IntKind.bits] using h
  exact ⟨UInt8.ofNat c.toNat, by rw [UInt8.toNat_ofNat']; omega⟩
theorem fin_u8 : ∀ {gs : List (List AV)}, (∀ g ∈ gs, ShT (.i .u8) g) → ∃ l : List UInt8, gs.flatten = byA l ∧ gs.length = l.length
  | [], _ => ⟨[], rfl, rfl⟩
  | g :: gs, h => by
    obtain ⟨l, h1, h2⟩ := fin_u8 (fun x hx => h x (List.mem_cons_of_mem _ hx))
    obtain ⟨n, rfl, hw⟩ := h g (List.mem_cons_self ..)
    obtain ⟨c, rfl⟩ := fin_wf8 hw
    exact ⟨c :: l, by rw [List.flatten_cons, h1]; rfl, by rw [List.length_cons, List.length_cons, h2]⟩
theorem fingerURLs_g (n0 : Int) (w0 : (Lit.int .i64 n0).wf = true) (l1 : List UInt8) (w1 : l1.length ≤ 140737488351232) (l2 : List UInt8) (w2 : l2.length ≤ 140737488351232) (n3 : Int) (w3 : (Lit.int .i64 n3).wf = true) (g4 : List (List AV)) (w4 : g4.length ≤ 140737488351232) (h4 : ∀ g ∈ g4, ShT (.i .u8) g) :
    zad Tryz.prog 3 [.agg [.i .i64 n0, .s l1, .s l2, .i .i64 n3], .row g4.length g4.flatten] [] (fun _ r => r = .b true) := by
  obtain ⟨l4, h1, h2⟩ := fin_u8 h4
  rw [h1, h2]
  exact fingerURLs_c n0 w0 l1 w1 l2 w2 n3 w3 l4 (h2 ▸ w4)
end Go.Proofs.YtljbdpihiboeaaaGreatDoor
