/- The texts that the proofs of these statements reach, in their order, as few files. -/
import Derived.ProofKit
import Derived.OpenShut
import Derived.ShutString
import Derived.Carry
import Derived.WideKeyArgs
import Derived.SizedLaws
import Derived.Test.YtecphoceobgncaaGreatDoorProg
import Derived.Test.YtecphoceobgncaaGreatDoorRe4
set_option linter.unusedVariables false
set_option linter.unusedSimpArgs false
namespace Go.Proofs.YtecphoceobgncaaGreatDoor.Sx
open Go.RowKit Go.WideShapes Go.ChangeShapes Go.ChangeAt
inductive TT where
 | s
 | b
 | i (k : IntKind)
 | st (ts : List TT)
 | sl (t : TT)
mutual
def ShT : TT → List AV → Prop
 | .s, xs => ∃ l : List UInt8, xs = [.s l] ∧ l.length ≤ 140737488351232
 | .b, xs => ∃ b, xs = [.b b]
 | .i k, xs => ∃ n, xs = [.i k n] ∧ (Lit.int k n).wf = true
 | .st ts, xs => ShTs ts xs
 | .sl t, xs => ∃ gs : List (List AV), xs = [.row gs.length gs.flatten] ∧ gs.length ≤ 140737488351232 ∧ ∀ g ∈ gs, ShT t g
def ShTs : List TT → List AV → Prop
 | [], xs => xs = []
 | t :: ts, xs => ∃ a b, xs = a ++ b ∧ ShT t a ∧ ShTs ts b
end
def ShA : TT → AV → Prop
 | .st ts, x => ∃ cs, x = .agg cs ∧ ShTs ts cs
 | t, x => ShT t [x]
def ShAs : List TT → List AV → Prop
 | [], xs => xs = []
 | t :: ts, xs => ∃ x ys, xs = x :: ys ∧ ShA t x ∧ ShAs ts ys
def trTs (P : Program) (rc : TypeId → Option TT) : Nat → List Field → Option (List TT)
 | o, [] => some []
 | o, f :: fs => match rc f.type, trTs P rc (o + P.cellsOf f.type) fs with
  | some t, some ts => if f.offset = o then some (t :: ts) else none
  | _, _ => none
def cellsTs (P : Program) : List Field → Nat
 | [] => 0
 | f :: fs => P.cellsOf f.type + cellsTs P fs
def trT (P : Program) : Nat → TypeId → Option TT
 | 0, _ => none
 | d + 1, t => match P.underlying t with
  | some .string => some .s
  | some .bool => some .b
  | some (.int k) => some (.i k)
  | some (.struct fs) => if P.cellsOf t = cellsTs P fs.toList then (trTs P (trT P d) 0 fs.toList).map .st else none
  | some (.slice e) => if 0 < P.cellsOf e ∧ 0 < P.bytesOf e then (trT P d e).map .sl else none
  | _ => none
theorem weights_mem_all {H : Type} {P : Program} {e : TypeId} : ∀ {ds : List (DataW H)} {d : DataW H}, d ∈ ds → ∀ n ∈ d.weights P e, n ∈ DataW.weightsAll P e ds
 | [], d, hd, n, hn => by cases hd
 | d0 :: ds, d, hd, n, hn => by
  simp only [DataW.weightsAll, List.mem_append]
  rcases List.mem_cons.1 hd with rfl | hd
  ·exact .inl hn
  ·exact .inr (weights_mem_all hd n hn)
theorem rows_den {w : World} {G : Gh} {I : Imm} {t : TT} (a : Addr) (c : Nat) (hI : ∀ g o v, w.cell? ⟨g, o, none⟩ = some v → I g o v) : ∀ k : Nat,
  (∀ i, i < k → ∃ (g : List AV) (ys : List Value), ys.length = c ∧ (∀ j, j < c → w.cell? ((a.add (i * c)).add j) = ys[j]?) ∧ Dens G I g ys ∧ ShT t g ∧ ∀ u ∈ ys, u.oneCell' = true) →
  ∃ (gs : List (List AV)) (ys : List Value), gs.length = k ∧ ys.length = k * c ∧ Dens G I gs.flatten ys ∧ (∀ g ∈ gs, ShT t g) ∧ (∀ u ∈ ys, u.oneCell' = true) ∧ ∀ j, j < k * c → w.cell? (a.add j) = ys[j]?
 | 0, _ => ⟨[], [], rfl, by simp, Dens.nil, by simp, by simp, fun j hj => by simp at hj⟩
 | k + 1, h => by
  obtain ⟨gs, ys, h1, h2, h3, h4, h5, h6⟩ := rows_den a c hI k (fun i hi => h i (by omega))
  obtain ⟨g, zs, k1, k2, k3, k4, k5⟩ := h k (by omega)
  have hm : (k + 1) * c = k * c + c := Nat.succ_mul k c
  refine ⟨gs ++ [g], ys ++ zs, by simp [h1], by rw [List.length_append, h2, k1, hm], ?_, ?_, ?_, ?_⟩
  ·rw [List.flatten_append, List.flatten_cons, List.flatten_nil, List.append_nil]
   exact Dens.append h3 k3
  ·intro x hx
   rcases List.mem_append.1 hx with hx | hx
   ·exact h4 x hx
   ·rw [List.mem_singleton] at hx; subst hx; exact k4
  ·intro u hu
   rcases List.mem_append.1 hu with hu | hu
   ·exact h5 u hu
   ·exact k5 u hu
  ·intro j hj
   by_cases hjk : j < k * c
   ·rw [h6 j hjk, List.getElem?_append_left (by omega)]
   ·have := k2 (j - k * c) (by omega)
    rw [Addr.add_add, show k * c + (j - k * c) = j by omega] at this
    rw [this, List.getElem?_append_right (by omega), h2]
theorem add_flat {a : Addr} {j : Nat} (ha : a.spot = none) : a.add j = ⟨a.block, a.off + j, none⟩ := by
 cases a
 simp only at ha
 subst ha
 unfold Addr.add
 split
 ·rename_i h; subst h; rfl
 ·rfl
section
variable {H : Type} {enc : TypeId × Value → H} {P : Program} {w : World} {base : Nat} {spare : Nat → Bool} {held : Bool} {G : Gh} {I : Imm}
theorem open_trods (d : Nat) (ih : ∀ (t : TypeId) (tt : TT) (fuel : Nat) (cs : List Value) (x : DataW H × List MemPlace), trT P d t = some tt → DataW.trod enc P w base spare held fuel t cs = some x → (∀ n ∈ x.1.weights P t, n ≤ reachBytes) → ∃ xs, Dens G I xs cs ∧ ShT tt xs ∧ ∀ u ∈ cs, u.oneCell' = true) (n : Nat) :
  ∀ (fs : List Field) (ts : List TT) (o : Nat) (cs : List Value), trTs P (trT P d) o fs = some ts → cs.length = o + cellsTs P fs → (∀ f ∈ fs, ∃ x, DataW.trod enc P w base spare held n f.type ((cs.drop f.offset).take (P.cellsOf f.type)) = some x ∧ ∀ m ∈ x.1.weights P f.type, m ≤ reachBytes) →
   ∃ xs, Dens G I xs (cs.drop o) ∧ ShTs ts xs ∧ ∀ u ∈ cs.drop o, u.oneCell' = true
 | [], ts, o, cs, ht, hl, hf => by
  simp only [trTs, Option.some.injEq] at ht; subst ht
  have : cs.drop o = [] := List.drop_eq_nil_of_le (by simp [cellsTs] at hl; omega)
  rw [this]
  exact ⟨[], Dens.nil, rfl, by simp⟩
 | f :: fs, ts, o, cs, ht, hl, hf => by
  simp only [trTs] at ht
  split at ht
  ·rename_i t ts' h1 h2
   split at ht
   ·rename_i ho
    injection ht with ht; subst ht
    obtain ⟨x, hx, hxw⟩ := hf f (List.mem_cons_self ..)
    rw [ho] at hx
    obtain ⟨xs, k1, k2, k3⟩ := ih _ _ _ _ _ h1 hx hxw
    simp only [cellsTs] at hl
    obtain ⟨ys, m1, m2, m3⟩ := open_trods d ih n fs ts' (o + P.cellsOf f.type) cs h2 (by omega) (fun f' hf' => hf f' (List.mem_cons_of_mem _ hf'))
    have e : cs.drop o = (cs.drop o).take (P.cellsOf f.type) ++ cs.drop (o + P.cellsOf f.type) := by
     rw [← List.drop_drop, List.take_append_drop]
    refine ⟨xs ++ ys, ?_, ?_, ?_⟩
    ·rw [e]; exact Dens.append k1 m1
    ·exact ⟨xs, ys, rfl, k2, m2⟩
    ·rw [e]; intro u hu
     rcases List.mem_append.1 hu with hu | hu
     ·exact k3 u hu
     ·exact m3 u hu
   ·cases ht
  ·cases ht
theorem open_trod (hI : ∀ g o v, w.cell? ⟨g, o, none⟩ = some v → I g o v) (hspa : ∀ b, spare b = true) : ∀ (d : Nat) (t : TypeId) (tt : TT) (fuel : Nat) (cs : List Value) (x : DataW H × List MemPlace), trT P d t = some tt → DataW.trod enc P w base spare held fuel t cs = some x → (∀ n ∈ x.1.weights P t, n ≤ reachBytes) → ∃ xs, Dens G I xs cs ∧ ShT tt xs ∧ ∀ u ∈ cs, u.oneCell' = true := by
 intro d
 induction d with
 | zero => intro t tt fuel cs x ht; simp [trT] at ht
 | succ d ih =>
  intro t tt fuel cs x ht h hwt
  simp only [trT] at ht
  split at ht
  ·rename_i hu
   injection ht with ht; subst ht
   obtain ⟨s, rfl, rfl, hs⟩ := DataW.trod_string hu h
   refine ⟨[.s s.data.toList], Dens.cons (by simp [Den]) Dens.nil, ⟨_, rfl, ?_⟩, by simp; rfl⟩
   exact hwt _ (by simp [DataW.weights])
  ·rename_i hu
   injection ht with ht; subst ht
   obtain ⟨b, rfl, _⟩ := DataW.trod_bool hu h
   exact ⟨[.b b], Dens.cons (by simp [Den]) Dens.nil, ⟨_, rfl⟩, by simp; rfl⟩
  ·rename_i k hu
   injection ht with ht; subst ht
   obtain ⟨n, rfl, _, hw⟩ := DataW.trod_int hu h
   exact ⟨[.i k n], Dens.cons (by simp [Den]) Dens.nil, ⟨_, rfl, hw⟩, by simp; rfl⟩
  ·rename_i fs hu
   split at ht
   ·rename_i hc
    cases hts : trTs P (trT P d) 0 fs.toList with
    | none => rw [hts] at ht; cases ht
    | some ts =>
     rw [hts] at ht; injection ht with ht; subst ht
     obtain ⟨xs, n, _, rfl, hlen, hxl, hf⟩ := DataW.trod_struct hu h
     have hall : ∀ f ∈ fs.toList, ∃ x, DataW.trod enc P w base spare held n f.type ((cs.drop f.offset).take (P.cellsOf f.type)) = some x ∧ ∀ m ∈ x.1.weights P f.type, m ≤ reachBytes := by
      intro f hfm
      obtain ⟨j, hj⟩ := List.mem_iff_getElem?.1 hfm
      have h1 := hf j f (by simpa using hj)
      have hjl : j < xs.length := by
       rw [hxl]
       have := (List.getElem?_eq_some_iff.1 hj).1
       simpa using this
      rw [List.getElem?_eq_getElem hjl] at h1
      refine ⟨_, h1, fun m hm => hwt m ?_⟩
      have hj2 : (fs.toList.map (·.type))[j]? = some f.type := by rw [List.getElem?_map, hj]; rfl
      have := DataW.weights_mem_each hj2 (show (xs.map (·.1))[j]? = some xs[j].1 by rw [List.getElem?_map, List.getElem?_eq_getElem hjl]; rfl) m hm
      simpa [DataW.weights, hu] using this
     obtain ⟨ys, k1, k2, k3⟩ := open_trods d ih n fs.toList ts 0 cs hts (by rw [hlen, hc]; omega) hall
     exact ⟨ys, by simpa using k1, k2, by simpa using k3⟩
   ·cases ht
  ·rename_i e hu
   split at ht
   ·rename_i hc
    cases hte : trT P d e with
    | none => rw [hte] at ht; cases ht
    | some te =>
     rw [hte] at ht; injection ht with ht; subst ht
     rcases DataW.trod_slice hu h with ⟨rfl, rfl⟩ | ⟨a, len, cap, elems, rest, n, _, rfl, rfl, hb, hl, hm, hlen, hel, hsr, _⟩
     ·exact ⟨[.row 0 []], Dens.cons (by simp only [Den]; exact ⟨none, 0, [], rfl, ⟨Nat.le_refl _, fun ad h => by cases h⟩, Dens.nil, by simp, by simp⟩) Dens.nil, ⟨[], rfl, by simp, by simp⟩, by simp; rfl⟩
     ·have hw2 : (elems.length + rest.length) * P.bytesOf e ≤ reachBytes := by
       have := hwt ((elems.map (·.1)).length + (rest.map (·.1)).length |> (· * P.bytesOf e)) (by simp [DataW.weights, hu])
       simpa using this
      have hel2 : elems.length ≤ 140737488351232 := by
       have h1 : elems.length * 1 ≤ (elems.length + rest.length) * P.bytesOf e := Nat.mul_le_mul (by omega) hc.2
       have : reachBytes = 140737488351232 := rfl
       omega
      have hel3 : ∀ i, i < len → ∃ (g : List AV) (ys : List Value), ys.length = P.cellsOf e ∧ (∀ j, j < P.cellsOf e → w.cell? ((a.add (i * P.cellsOf e)).add j) = ys[j]?) ∧ Dens G I g ys ∧ ShT te g ∧ ∀ u ∈ ys, u.oneCell' = true := by
       intro i hi
       have h1 := hel i hi
       have hil : i < elems.length := by omega
       rw [List.getElem?_eq_getElem hil, Option.bind_eq_some_iff] at h1
       obtain ⟨ys, y1, y2⟩ := h1
       obtain ⟨_, z1, z2⟩ := World.cells?_some y1
       obtain ⟨g, g1, g2, g3⟩ := ih e te n ys _ hte y2 (fun m hm => hwt m (by
        simp only [DataW.weights, hu, List.mem_cons, List.mem_append]
        exact .inr (.inl (weights_mem_all (List.mem_map.2 ⟨_, List.getElem_mem hil, rfl⟩) m hm))))
       exact ⟨g, ys, z1, z2, g1, g2, g3⟩
      obtain ⟨gs, ys, k1, k2, k3, k4, k5, k6⟩ := rows_den (G := G) a (P.cellsOf e) hI len hel3
      have hsp0 : cap ≠ 0 → a.spot = none := by
       intro hcap
       by_cases hl0 : 0 < len
       ·have hp : 0 < len * P.cellsOf e := Nat.mul_pos hl0 hc.1
        have h2 := k6 0 hp
        rw [List.getElem?_eq_getElem (by omega)] at h2
        have := World.cell?_spot h2
        simpa [Addr.add] using this
       ·have hr := (hsr (hspa _)).2 0 (by omega)
        have hrl := (hsr (hspa _)).1
        rw [List.getElem?_eq_getElem (by omega), Option.bind_eq_some_iff] at hr
        obtain ⟨zs, y1, _⟩ := hr
        obtain ⟨_, z1, z2⟩ := World.cells?_some y1
        have h2 := z2 0 hc.1
        rw [List.getElem?_eq_getElem (by omega)] at h2
        have := World.cell?_spot h2
        have hl1 : len = 0 := by omega
        subst hl1
        simpa [Addr.add] using this
      refine ⟨[.row gs.length gs.flatten], Dens.cons ?_ Dens.nil, ⟨gs, rfl, by omega, k4⟩, by simp; rfl⟩
      simp only [Den]
      refine ⟨some a, cap, ys, by rw [k1], ⟨by omega, fun ad h hc0 => by injection h with h; subst h; exact hsp0 hc0⟩, k3, k5, fun j u hj => ?_⟩
      have hjl := (List.getElem?_eq_some_iff.1 hj).1
      have hlp : len ≠ 0 := by rintro rfl; rw [k2, Nat.zero_mul] at hjl; omega
      have hs := hsp0 (by omega)
      refine ⟨a.block, a.off, by cases a; simp only at hs; subst hs; rfl, hI _ _ _ ?_⟩
      have h2 := k6 j (k2 ▸ hjl)
      rw [add_flat hs] at h2
      rw [h2, hj]
   ·cases ht
  ·cases ht
theorem open_arg (hI : ∀ g o v, w.cell? ⟨g, o, none⟩ = some v → I g o v) (hspa : ∀ b, spare b = true) {r : Reach} {b0 : Nat} {t : TypeId} {tt : TT} {v : Value} {dd : DataW H} {ps : List MemPlace} (ht : trT P 20 t = some tt) (hv : Value.okWide P w r b0 t v) (h : DataW.Trod enc P w base spare held t v dd ps) (hwt : ∀ n ∈ dd.weights P t, n ≤ reachBytes) : ∃ x, Den G I x v ∧ ShA tt x := by
 obtain ⟨fuel, hf⟩ := h
 obtain ⟨xs, h1, h2, h3⟩ := open_trod hI hspa 20 t tt fuel _ _ ht hf hwt
 have ht' := ht
 unfold trT at ht
 cases tt with
 | st ts =>
  split at ht <;> first | (injection ht with ht; cases ht; done) | skip
  ·rename_i fs hu
   obtain ⟨cs, rfl, _⟩ := okWide_struct hu hv
   refine ⟨.agg xs, ?_, ⟨xs, rfl, h2⟩⟩
   simp only [Den]
   exact ⟨cs.toList, by simp, h1, h3⟩
  ·split at ht
   ·cases hq : trT P 19 _ with
    | none => rw [hq] at ht; cases ht
    | some q => rw [hq] at ht; injection ht with ht; cases ht
   ·cases ht
  ·cases ht
 | sl t =>
  split at ht <;> first | (injection ht with ht; cases ht; done) | skip
  ·split at ht
   ·cases hq : trTs P (trT P 19) 0 _ with
    | none => rw [hq] at ht; cases ht
    | some q => rw [hq] at ht; injection ht with ht; cases ht
   ·cases ht
  ·rename_i e hu
   obtain ⟨a, len, cap, rfl⟩ := okWide_slice hu hv
   obtain ⟨gs, rfl, hl, hg⟩ := h2
   simp only [Dens] at h1
   obtain ⟨y, ys, e1, k1, k2⟩ := h1
   subst k2
   have e2 : [Value.slice a len cap] = [y] := e1
   injection e2 with e2 _
   subst e2
   exact ⟨.row gs.length gs.flatten, k1, ⟨gs, rfl, hl, hg⟩⟩
  ·cases ht
 | s =>
  split at ht <;> first | (injection ht with ht; cases ht; done) | skip
  ·rename_i hu
   obtain ⟨s, rfl⟩ := okWide_string hu hv
   obtain ⟨l, rfl, hl⟩ := h2
   simp only [Dens] at h1
   obtain ⟨y, ys, e, k1, k2⟩ := h1
   subst k2
   have e2 : [Value.string s] = [y] := e
   injection e2 with e2 _
   subst e2
   exact ⟨.s l, k1, ⟨l, rfl, hl⟩⟩
  ·split at ht
   ·cases hq : trTs P (trT P 19) 0 _ with
    | none => rw [hq] at ht; cases ht
    | some q => rw [hq] at ht; injection ht with ht; cases ht
   ·cases ht
  ·split at ht
   ·cases hq : trT P 19 _ with
    | none => rw [hq] at ht; cases ht
    | some q => rw [hq] at ht; injection ht with ht; cases ht
   ·cases ht
  ·cases ht
 | b =>
  split at ht <;> first | (injection ht with ht; cases ht; done) | skip
  ·rename_i hu
   obtain ⟨s, rfl⟩ := okWide_bool hu hv
   obtain ⟨l, rfl⟩ := h2
   simp only [Dens] at h1
   obtain ⟨y, ys, e, k1, k2⟩ := h1
   subst k2
   have e2 : [Value.bool s] = [y] := e
   injection e2 with e2 _
   subst e2
   exact ⟨.b l, k1, ⟨l, rfl⟩⟩
  ·split at ht
   ·cases hq : trTs P (trT P 19) 0 _ with
    | none => rw [hq] at ht; cases ht
    | some q => rw [hq] at ht; injection ht with ht; cases ht
   ·cases ht
  ·split at ht
   ·cases hq : trT P 19 _ with
    | none => rw [hq] at ht; cases ht
    | some q => rw [hq] at ht; injection ht with ht; cases ht
   ·cases ht
  ·cases ht
 | i k =>
  split at ht <;> first | (injection ht with ht; cases ht; done) | skip
  ·rename_i k' hu
   injection ht with ht; injection ht with ht; subst ht
   obtain ⟨s, rfl⟩ := okWide_int hu hv
   obtain ⟨l, rfl, hl⟩ := h2
   simp only [Dens] at h1
   obtain ⟨y, ys, e, k1, k2⟩ := h1
   subst k2
   have e2 : [Value.int _ s] = [y] := e
   injection e2 with e2 _
   subst e2
   exact ⟨.i _ l, k1, ⟨l, rfl, hl⟩⟩
  ·split at ht
   ·cases hq : trTs P (trT P 19) 0 _ with
    | none => rw [hq] at ht; cases ht
    | some q => rw [hq] at ht; injection ht with ht; cases ht
   ·cases ht
  ·split at ht
   ·cases hq : trT P 19 _ with
    | none => rw [hq] at ht; cases ht
    | some q => rw [hq] at ht; injection ht with ht; cases ht
   ·cases ht
  ·cases ht
theorem open_args (hI : ∀ g o v, w.cell? ⟨g, o, none⟩ = some v → I g o v) (hspa : ∀ b, spare b = true) {r : Reach} {b0 : Nat} : ∀ (ts : List TypeId) (tts : List TT) (vs : List Value) (ds : List (DataW H)) (ps : List MemPlace), ts.mapM (trT P 20) = some tts → (∀ (j : Nat) t v, ts[j]? = some t → vs[j]? = some v → Value.okWide P w r b0 t v) → DataW.TrodAll enc P w base spare held ts vs ds ps → (∀ n ∈ DataW.weightsEach P ts ds, n ≤ reachBytes) → ∃ xs, Dens G I xs vs ∧ ShAs tts xs
 | [], tts, vs, ds, ps, ht, hv, h, hwt => by
  simp at ht; subst ht
  obtain ⟨rfl, _, _⟩ := trodAll_nil h
  exact ⟨[], Dens.nil, rfl⟩
 | t :: ts, tts, vs, ds, ps, ht, hv, h, hwt => by
  simp only [List.mapM_cons, Option.bind_eq_bind, Option.pure_def] at ht
  cases h1 : trT P 20 t with
  | none => simp [h1] at ht
  | some tt =>
   cases h2 : ts.mapM (trT P 20) with
   | none => simp [h1, h2] at ht
   | some tts' =>
    simp [h1, h2] at ht
    subst ht
    obtain ⟨v, vs', d, ds', p, q, rfl, rfl, rfl, k1, k2⟩ := trodAll_cons h
    obtain ⟨x, x1, x2⟩ := open_arg (G := G) (I := I) hI hspa h1 (hv 0 t v rfl rfl) k1 (fun n hn => hwt n (by simp only [DataW.weightsEach, List.mem_append]; exact .inl hn))
    obtain ⟨xs, y1, y2⟩ := open_args hI hspa ts tts' vs' ds' q h2 (fun j t v hj hv' => hv (j + 1) t v (by simpa using hj) (by simpa using hv')) k2 (fun n hn => hwt n (by simp only [DataW.weightsEach, List.mem_append]; exact .inr hn))
    exact ⟨x :: xs, Dens.cons x1 y1, ⟨x, xs, rfl, x2, y2⟩⟩
theorem trodAll_stays (hl : laidOutB P = true) {W W' : World} {sp' : Nat → Bool} : ∀ (ts : List TypeId) (vs : List Value) (ds : List (DataW H)) (ps : List MemPlace), (∀ t ∈ ts, P.readableRec t = true ∧ t < P.types.size) → DataW.TrodAll enc P W 0 (fun _ => true) true ts vs ds ps → Below W.heap.size W W' → (∀ p ∈ ps, p.block < W.heap.size) → (∀ p ∈ ps, sp' p.block = true) → DataW.TrodAll enc P W' 0 sp' true ts vs ds ps
 | [], vs, ds, ps, hr, h, hb, hlt, hs => by
  obtain ⟨rfl, rfl, rfl⟩ := trodAll_nil h
  exact trodAll_mk0
 | t :: ts, vs, ds, ps, hr, h, hb, hlt, hs => by
  obtain ⟨v, vs', d, ds', p, q, rfl, rfl, rfl, k1, k2⟩ := trodAll_cons h
  have h1 := hr t (List.mem_cons_self ..)
  exact trodAll_cons_mk (WideElems.Trod_stays hl h1.1 h1.2 k1 (fun x hx => hb.same (hlt x (List.mem_append_left _ hx))) (fun x hx => hs x (List.mem_append_left _ hx)))
   (trodAll_stays hl ts vs' ds' q (fun t ht => hr t (List.mem_cons_of_mem _ ht)) k2 hb (fun x hx => hlt x (List.mem_append_right _ hx)) (fun x hx => hs x (List.mem_append_right _ hx)))
end
theorem post_true {H : Type} {enc : TypeId × Value → H} {P : Program} {f : Func} {s : ChangeSpec} {apart fresh handsOn again : Bool} {W W' : World} {args : Array Value} {ds gs : List (DataW H)} {before : List MemPlace}
  (hl : laidOutB P = true) (hts : ∀ t ∈ f.params.toList, P.readableRec t = true ∧ t < P.types.size) {tb : TypeId} (hrt : f.resultTypes = #[tb]) (hub : P.underlying tb = some .bool) (hsv : s.vars = [])
  (hW : DataW.Whole enc P f.params.toList s.vars apart W args.toList ds gs before) (hfn : s.fn H (ds ++ gs) = { results := [.lit (.bool true)], args := ds }) (hb : Below W.heap.size W W') : s.post enc P f apart fresh handsOn again W args (.bool true) W' := by
 have hlt : ∀ p ∈ before, p.block < W.heap.size := fun p hp => hW.lt p hp
 have hold : ∀ p ∈ before, (fun b => decide (b < W.heap.size)) p.block = true := fun p hp => by simpa using hlt p hp
 have hW' := hW
 obtain ⟨p, q, hA, hV, rfl, hz, hn⟩ := hW'
 rw [hsv] at hV
 have hvars : gs = [] ∧ q = [] := by
  cases gs with
  | nil => exact ⟨rfl, hV⟩
  | cons g gs => exact hV.elim
 obtain ⟨rfl, rfl⟩ := hvars
 simp only [List.append_nil] at *
 have hres : ∀ (b : Nat) (sp : Nat → Bool) (hd : Bool), DataW.TrodAll enc P W' b sp hd f.resultTypes.toList ((Value.bool true).resultList f.resultTypes.size) (s.fn H ds).results [] := by
  intro b sp hd
  rw [hfn, hrt]
  exact trodAll_cons_mk (shut_bool hub _) trodAll_mk0
 have hargs : ∀ sp : Nat → Bool, (∀ x ∈ p, sp x.block = true) → DataW.TrodAll enc P W' 0 sp true f.params.toList args.toList (s.fn H ds).args p := by
  intro sp hsp
  rw [hfn]
  exact trodAll_stays hl _ _ _ _ hts hA hb hlt hsp
 have hvs : ∀ sp : Nat → Bool, DataW.TrodVars enc P W' sp s.vars (s.fn H ds).vars [] := by
  intro sp
  rw [hsv, hfn]; rfl
 refine ⟨ds, [], p, [], p, [], hW, by simpa using hres _ _ _, by simpa using hargs _ hold, by simpa using hvs _, World.keptBut_mono (fun x hx => ⟨hx, ?_⟩) (hb.frame (· ∈ p)), fun _ => ?_⟩
 ·exact Or.inr (Or.inl hx)
 ·refine ⟨?_, _, _, ([] ++ p) ++ [], ⟨[] ++ p, [], trodAll_append (by simpa using hargs _ (fun _ _ => rfl)) (by simpa using hres _ _ _), by simpa using hvs _, rfl, ?_, ?_⟩, ?_⟩
  ·intro j t r hj hr
   rw [hrt] at hj hr
   cases j with
   | zero =>
    simp at hj; subst hj
    have : r = .bool true := by simpa [Value.resultList] using hr.symm
    subst this
    exact okWide_bool_mk hub _
   | succ j => simp at hj
  ·intro b off hp
   have hin : MemPlace.cell b off ∈ p := by simpa using hp
   rw [hb.frozen (hlt _ hin)]
   exact hz b off hin
  ·intro ha
   simpa using hn ha
  ·intro x hx _
   simpa using hx
section
variable {H : Type} {enc : TypeId × Value → H}
end
end Go.Proofs.YtecphoceobgncaaGreatDoor.Sx
namespace Go.Proofs.YtecphoceobgncaaGreatDoor
open Sx
theorem sl_str : ∀ {gs : List (List AV)}, (∀ g ∈ gs, ShT .s g) → ∃ l : List (List UInt8), gs.flatten = l.map .s ∧ gs.length = l.length ∧ ∀ x ∈ l, x.length ≤ 140737488351232
 | [], _ => ⟨[], rfl, rfl, by simp⟩
 | g :: gs, h => by
  obtain ⟨l, h1, h2, h3⟩ := sl_str (fun x hx => h x (List.mem_cons_of_mem _ hx))
  obtain ⟨x, rfl, hw⟩ := h g (List.mem_cons_self ..)
  refine ⟨x :: l, by rw [List.flatten_cons, h1]; rfl, by rw [List.length_cons, List.length_cons, h2], fun y hy => ?_⟩
  rcases List.mem_cons.1 hy with rfl | hy
  ·exact hw
  ·exact h3 y hy
end Go.Proofs.YtecphoceobgncaaGreatDoor
namespace Go.Proofs.YtecphoceobgncaaGreatDoor
open Go.RowKit Sx
theorem sl_fld : ∀ {gs : List (List AV)}, (∀ g ∈ gs, ShT (.st [.s, .s]) g) → ∃ l : List (List UInt8 × List UInt8), gs.flatten = fcells l ∧ gs.length = l.length ∧ ∀ p ∈ l, p.1.length ≤ 140737488351232 ∧ p.2.length ≤ 140737488351232
 | [], _ => ⟨[], rfl, rfl, by simp⟩
 | g :: gs, h => by
  obtain ⟨l, h1, h2, h3⟩ := sl_fld (fun x hx => h x (List.mem_cons_of_mem _ hx))
  obtain ⟨_, _, rfl, ⟨a, rfl, ha⟩, _, _, rfl, ⟨b, rfl, hb⟩, rfl⟩ := h g (List.mem_cons_self ..)
  refine ⟨(a, b) :: l, by rw [List.flatten_cons, h1]; rfl, by rw [List.length_cons, List.length_cons, h2], fun p hp => ?_⟩
  rcases List.mem_cons.1 hp with rfl | hp
  ·exact ⟨ha, hb⟩
  ·exact h3 p hp
end Go.Proofs.YtecphoceobgncaaGreatDoor
namespace Go.Proofs.YtecphoceobgncaaGreatDoor
open List renaming replicate → z6
open Nat renaming reduceAdd → z7, reduceSub → z8, reduceLeDiff → j2, reduceLT → j3, reduceMul → j4, reduceEqDiff → j5
open Int renaming reduceToNat → j6, reduceAdd → j7, reduceSub → j8, reduceMul → j9, reduceNeg → x0, reduceLT → x3, reduceLE → x4, reduceEq → x5, reduceNe → x6
open Go.RowKit Sx
section
attribute [local irreducible] run
def bareU (u : UrlP) : UrlP := ⟨u.host, u.port, u.path, u.query, [], u.hq, false⟩
def locL : List UInt8 := [108, 111, 99, 97, 116, 105, 111, 110]
def ucells (u : UrlP) : List AV := [.s u.host, .i .i64 u.port, .s u.path, .s u.query, .s u.frag, .b u.hq, .b u.hf]
def uscells (l : List UrlP) : List AV := l.flatMap ucells
def isRedir (st : Int) : Bool := decide (st = 301) || (decide (st = 302) || (decide (st = 303) || (decide (st = 307) || decide (st = 308))))
def nextR (seen : List UrlP) (r : Int × UrlP) : Int × UrlP := if r.1 = 0 then (if (seen.any fun u => decide (u = bareU r.2)) = true then (251, urlZ) else (0, bareU r.2)) else if r.1 = 253 then (253, urlZ) else (252, urlZ)
def nextE (b : UrlP) (l : List (List UInt8 × List UInt8)) (seen : List UrlP) (hops : Int) : Int × UrlP :=
 if 5 ≤ hops then (250, urlZ)
 else if ((valsL l locL).length : Int) ≠ 1 then (252, urlZ)
 else nextR seen (relW b ((valsL l locL).headD []))
theorem uscells_len (l : List UrlP) : (uscells l).length = l.length * 7 := by
 induction l with
 | nil => rfl
 | cons a l ih => rw [uscells, List.flatMap_cons, List.length_append, ← uscells, ih, List.length_cons]; simp [ucells]; omega
theorem uscells_cons (a : UrlP) (l : List UrlP) : uscells (a :: l) = ucells a ++ uscells l := rfl
theorem us_plain (l : List UrlP) : plains (uscells l) = true := by
 induction l with
 | nil => rfl
 | cons a l ih => rw [uscells_cons]; simp [ucells, plains, AV.plain, ih]
theorem uc_at : ∀ {l : List UrlP} {i : Nat} (hi : i < l.length), ((uscells l).drop (i * 7)).take 7 = ucells l[i]
 | a :: l, 0, hi => by simp [uscells_cons, ucells]
 | a :: l, i + 1, hi => by
  rw [uscells_cons, show (i + 1) * 7 = 7 + i * 7 by omega, ← List.drop_drop, show (ucells a ++ uscells l).drop 7 = uscells l from by simp [ucells]]
  simpa using uc_at (l := l) (i := i) (by simpa using hi)
def FewH (l : List (List UInt8 × List UInt8)) : Prop := l.length ≤ 1000000 ∧ (∀ p ∈ l, p.1.length ≤ 140737488351232) ∧ ∀ p ∈ l, p.2.length ≤ 100000
theorem vals_short {l : List (List UInt8 × List UInt8)} (h : FewH l) (name : List UInt8) : ∀ x ∈ valsL l name, x.length ≤ 100000 := by
 intro x hx
 unfold valsL at hx
 obtain ⟨p, hp, rfl⟩ := List.mem_map.1 hx
 exact h.2.2 p (List.mem_filter.1 hp).1
theorem eq_url (a b : UrlP) : (decide (a.host = b.host) && (decide (a.port = b.port) && (decide (a.path = b.path) && (decide (a.query = b.query) && (decide (a.frag = b.frag) && (a.hq == b.hq && a.hf == b.hf)))))) = decide (a = b) := eqW_is a b
section
variable [Tabs Tryz.prog] {objs : List OB} {K : List OB → AV → Prop}
set_option maxRecDepth 100000 in
theorem isRedir_k (st : Int) (hk : K objs (.b (isRedir st))) : CallOk Tryz.prog 43 [.i .i64 st] objs K := by
 refine fn_rn is_redirect_IsRedirect rfl fun C _ => ?_
 unfold isRedir at hk
 by_cases c1 : st = 301
 ·subst c1
  simp only [c_redirect_IsRedirect, sxZ, evs, evp, setd, SV.ev, AV.flat, AV.one, AV.cells, resAs, resA, tupA, pub, pubs, AV.plain, plains, srcOf, splice, fillA, eqA, eqAs, z6, z7, z8, j2, j3, j4, j5, j6, j7, j8, j9, x0, x3, x4, x5, x6, reduceCtorEq, ↓reduceIte]
  exact hk
 ·by_cases c2 : st = 302
  ·subst c2
   simp only [c_redirect_IsRedirect, sxZ, evs, evp, setd, SV.ev, AV.flat, AV.one, AV.cells, resAs, resA, tupA, pub, pubs, AV.plain, plains, srcOf, splice, fillA, eqA, eqAs, z6, z7, z8, j2, j3, j4, j5, j6, j7, j8, j9, x0, x3, x4, x5, x6, reduceCtorEq, ↓reduceIte]
   exact hk
  ·by_cases c3 : st = 303
   ·subst c3
    simp only [c_redirect_IsRedirect, sxZ, evs, evp, setd, SV.ev, AV.flat, AV.one, AV.cells, resAs, resA, tupA, pub, pubs, AV.plain, plains, srcOf, splice, fillA, eqA, eqAs, z6, z7, z8, j2, j3, j4, j5, j6, j7, j8, j9, x0, x3, x4, x5, x6, reduceCtorEq, ↓reduceIte]
    exact hk
   ·by_cases c4 : st = 307
    ·subst c4
     simp only [c_redirect_IsRedirect, sxZ, evs, evp, setd, SV.ev, AV.flat, AV.one, AV.cells, resAs, resA, tupA, pub, pubs, AV.plain, plains, srcOf, splice, fillA, eqA, eqAs, z6, z7, z8, j2, j3, j4, j5, j6, j7, j8, j9, x0, x3, x4, x5, x6, reduceCtorEq, ↓reduceIte]
     exact hk
    ·by_cases c5 : st = 308
     ·subst c5
      simp only [c_redirect_IsRedirect, sxZ, evs, evp, setd, SV.ev, AV.flat, AV.one, AV.cells, resAs, resA, tupA, pub, pubs, AV.plain, plains, srcOf, splice, fillA, eqA, eqAs, z6, z7, z8, j2, j3, j4, j5, j6, j7, j8, j9, x0, x3, x4, x5, x6, reduceCtorEq, ↓reduceIte]
      exact hk
     ·simp only [c1, c2, c3, c4, c5, decide_false, Bool.or_false] at hk
      simp only [c_redirect_IsRedirect, sxZ, evs, evp, setd, SV.ev, AV.flat, AV.one, AV.cells, resAs, resA, tupA, pub, pubs, AV.plain, plains, srcOf, splice, fillA, eqA, eqAs, z6, z7, z8, j2, j3, j4, j5, j6, j7, j8, j9, x0, x3, x4, x5, x6, reduceCtorEq, ↓reduceIte, c1, c2, c3, c4, c5]
      exact hk
set_option maxRecDepth 100000 in
theorem risRedir_k (st : Int) (hk : K objs (.b (isRedir st))) : CallOk Tryz.prog 44 [.i .i64 st] objs K := by
 refine fn_rn is_ref25_IsRedirect rfl fun C _ => ?_
 have e : isRedir st = (decide (301 ≤ st) && decide (st ≤ 303) || decide (st = 307) || decide (st = 308)) := by
  unfold isRedir
  rw [Bool.eq_iff_iff]
  simp only [Bool.or_eq_true, Bool.and_eq_true, decide_eq_true_eq]
  omega
 rw [e] at hk
 by_cases c1 : (301 : Int) ≤ st
 ·by_cases c2 : st ≤ 303
  ·simp only [c1, c2, decide_true, Bool.and_true, Bool.true_or] at hk
   simp only [c_ref25_IsRedirect, sxZ, evs, evp, setd, SV.ev, AV.flat, AV.one, AV.cells, resAs, resA, tupA, pub, pubs, AV.plain, plains, srcOf, splice, fillA, eqA, eqAs, z6, z7, z8, j2, j3, j4, j5, j6, j7, j8, j9, x0, x3, x4, x5, x6, reduceCtorEq, ↓reduceIte, c1, c2]
   exact hk
  ·by_cases c3 : st = 307
   ·subst c3
    simp only [c_ref25_IsRedirect, sxZ, evs, evp, setd, SV.ev, AV.flat, AV.one, AV.cells, resAs, resA, tupA, pub, pubs, AV.plain, plains, srcOf, splice, fillA, eqA, eqAs, z6, z7, z8, j2, j3, j4, j5, j6, j7, j8, j9, x0, x3, x4, x5, x6, reduceCtorEq, ↓reduceIte]
    exact hk
   ·by_cases c4 : st = 308
    ·subst c4
     simp only [c_ref25_IsRedirect, sxZ, evs, evp, setd, SV.ev, AV.flat, AV.one, AV.cells, resAs, resA, tupA, pub, pubs, AV.plain, plains, srcOf, splice, fillA, eqA, eqAs, z6, z7, z8, j2, j3, j4, j5, j6, j7, j8, j9, x0, x3, x4, x5, x6, reduceCtorEq, ↓reduceIte]
     exact hk
    ·simp only [c1, c2, c3, c4, decide_true, decide_false, Bool.and_false, Bool.or_false, Bool.false_or] at hk
     simp only [c_ref25_IsRedirect, sxZ, evs, evp, setd, SV.ev, AV.flat, AV.one, AV.cells, resAs, resA, tupA, pub, pubs, AV.plain, plains, srcOf, splice, fillA, eqA, eqAs, z6, z7, z8, j2, j3, j4, j5, j6, j7, j8, j9, x0, x3, x4, x5, x6, reduceCtorEq, ↓reduceIte, c1, c2, c3, c4]
     exact hk
 ·have c3 : ¬ st = 307 := by omega
  have c4 : ¬ st = 308 := by omega
  simp only [c1, c3, c4, decide_false, Bool.false_and, Bool.or_false] at hk
  simp only [c_ref25_IsRedirect, sxZ, evs, evp, setd, SV.ev, AV.flat, AV.one, AV.cells, resAs, resA, tupA, pub, pubs, AV.plain, plains, srcOf, splice, fillA, eqA, eqAs, z6, z7, z8, j2, j3, j4, j5, j6, j7, j8, j9, x0, x3, x4, x5, x6, reduceCtorEq, ↓reduceIte, c1, c3, c4]
  exact hk
set_option maxRecDepth 100000 in
theorem rNext_k [Pow Tryz.prog] (b : UrlP) (mi st : Int) (l : List (List UInt8 × List UInt8)) (seen : List UrlP) (hops : Int) (hb : ShortU b) (hf : FewH l) (hs : seen.length ≤ 1000000) (hk : K objs (.tup [urlAV (nextE b l seen hops).2, .i .i64 (nextE b l seen hops).1])) :
  CallOk Tryz.prog 41 [urlAV b, hdAV mi st l, .row seen.length (uscells seen), .i .i64 hops] objs K := by
 refine fn_rn is_redirect_Next (by simp [urlAV, hdAV, plains, AV.plain, fc_plain, us_plain]) fun C _ => ?_
 unfold nextE at hk
 have hv := vals_short hf locL
 rw [c_redirect_Next]
 refine rn_hide fun Y hY => ?_
 simp only [urlAV, hdAV, sxZ, evs, evp, setd, SV.ev, AV.flat, AV.one, AV.cells, resAs, resA, tupA, pub, pubs, AV.plain, plains, srcOf, splice, fillA, eqA, eqAs, z6, z7, z8, j2, j3, j4, j5, j6, j7, j8, j9, x0, x3, x4, x5, x6, reduceCtorEq, ↓reduceIte]
 subst hY
 refine rn_hide fun Y hY => ?_
 by_cases c1 : (5 : Int) ≤ hops
 ·rw [if_pos c1] at hk
  simp only [sxZ, evs, evp, setd, SV.ev, AV.flat, AV.one, AV.cells, resAs, resA, tupA, pub, pubs, AV.plain, plains, srcOf, splice, fillA, eqA, eqAs, z6, z7, z8, j2, j3, j4, j5, j6, j7, j8, j9, x0, x3, x4, x5, x6, reduceCtorEq, ↓reduceIte, c1]
  exact hk
 ·rw [if_neg c1] at hk
  simp only [sxZ, evs, evp, setd, SV.ev, AV.flat, AV.one, AV.cells, resAs, resA, tupA, pub, pubs, AV.plain, plains, srcOf, splice, fillA, eqA, eqAs, z6, z7, z8, j2, j3, j4, j5, j6, j7, j8, j9, x0, x3, x4, x5, x6, reduceCtorEq, ↓reduceIte, c1]
  subst hY
  refine rn_hide fun Y hY => ?_
  simp only [sxZ, evs, evp, setd, SV.ev, AV.flat, AV.one, AV.cells, resAs, resA, tupA, pub, pubs, AV.plain, plains, srcOf, splice, fillA, eqA, eqAs, z6, z7, z8, j2, j3, j4, j5, j6, j7, j8, j9, x0, x3, x4, x5, x6, reduceCtorEq, ↓reduceIte]
  refine kcall (callok_res _ (hVals_any mi st l locL hf.1 hf.2.1 (by decide) ⟨fun G I y => den_strs _, ?_⟩))
  generalize valsL l locL = v at hk hv ⊢
  simp only [sxZ, evs, evp, setd, SV.ev, AV.flat, AV.one, AV.cells, resAs, resA, tupA, pub, pubs, AV.plain, plains, srcOf, splice, fillA, eqA, eqAs, z6, z7, z8, j2, j3, j4, j5, j6, j7, j8, j9, x0, x3, x4, x5, x6, reduceCtorEq, ↓reduceIte]
  subst hY
  refine rn_hide fun Y hY => ?_
  by_cases c2 : (v.length : Int) = 1
  ·obtain ⟨r, rfl⟩ : ∃ r, v = [r] := by
    match v, c2 with
    | [r], _ => exact ⟨r, rfl⟩
    | [], c => simp at c
    | _ :: _ :: _, c => simp at c; omega
   rw [if_neg (by simp), List.headD_cons] at hk
   have hr := hv r (List.mem_cons_self ..)
   simp only [sxZ, evs, evp, setd, SV.ev, AV.flat, AV.one, AV.cells, resAs, resA, tupA, pub, pubs, AV.plain, plains, srcOf, splice, fillA, eqA, eqAs, z6, z7, z8, j2, j3, j4, j5, j6, j7, j8, j9, x0, x3, x4, x5, x6, reduceCtorEq, ↓reduceIte, List.map_cons, List.map_nil, List.length_cons, List.length_nil, Nat.zero_add, Int.cast_ofNat_Int]
   subst hY
   refine rn_hide fun Y hY => ?_
   simp only [sxZ, evs, evp, setd, SV.ev, AV.flat, AV.one, AV.cells, resAs, resA, tupA, pub, pubs, AV.plain, plains, srcOf, splice, fillA, eqA, eqAs, z6, z7, z8, j2, j3, j4, j5, j6, j7, j8, j9, x0, x3, x4, x5, x6, reduceCtorEq, ↓reduceIte]
   refine ⟨by omega, kpcall (wRel_k b r hb hr rfl) rfl rfl ?_⟩
   generalize relW b r = q at hk ⊢
   obtain ⟨e, u⟩ := q
   unfold nextR at hk
   simp only [urlAV, sxZ, evs, evp, setd, SV.ev, AV.flat, AV.one, AV.cells, resAs, resA, tupA, pub, pubs, AV.plain, plains, srcOf, splice, fillA, eqA, eqAs, z6, z7, z8, j2, j3, j4, j5, j6, j7, j8, j9, x0, x3, x4, x5, x6, reduceCtorEq, ↓reduceIte]
   subst hY
   by_cases c3 : e = 0
   ·subst c3
    refine rn_hide fun Y hY => ?_
    simp only [sxZ, evs, evp, setd, SV.ev, AV.flat, AV.one, AV.cells, resAs, resA, tupA, pub, pubs, AV.plain, plains, srcOf, splice, fillA, eqA, eqAs, z6, z7, z8, j2, j3, j4, j5, j6, j7, j8, j9, x0, x3, x4, x5, x6, reduceCtorEq, ↓reduceIte]
    subst hY
    refine rn_hide fun Y hY => ?_
    simp only [sxZ, evs, evp, setd, SV.ev, AV.flat, AV.one, AV.cells, resAs, resA, tupA, pub, pubs, AV.plain, plains, srcOf, splice, fillA, eqA, eqAs, z6, z7, z8, j2, j3, j4, j5, j6, j7, j8, j9, x0, x3, x4, x5, x6, reduceCtorEq, ↓reduceIte]
    subst hY
    refine rn_hide fun Y hY => ?_
    simp only [sxZ, evs, evp, setd, SV.ev, AV.flat, AV.one, AV.cells, resAs, resA, tupA, pub, pubs, AV.plain, plains, srcOf, splice, fillA, eqA, eqAs, z6, z7, z8, j2, j3, j4, j5, j6, j7, j8, j9, x0, x3, x4, x5, x6, reduceCtorEq, ↓reduceIte]
    rw [if_pos rfl] at hk
    have hk0 : (seen.any fun x => decide (x = bareU u)) = true → K objs (.tup [urlAV urlZ, .i .i64 251]) := fun h => by rw [if_pos h] at hk; exact hk
    have hk1 : (seen.any fun x => decide (x = bareU u)) = false → K objs (.tup [urlAV (bareU u), .i .i64 0]) := fun h => by rw [if_neg (by rw [h]; decide)] at hk; exact hk
    clear hk
    refine rn_loop (fun n o tm => ∃ (i : Nat) (more : List OB), i ≤ seen.length ∧ n = seen.length - i ∧ o = .box 48 (ucells b) :: .box 71 [.i .i64 mi, .i .i64 st, .row l.length (fcells l)] :: .box 48 (ucells urlZ) :: .box 48 (ucells (bareU u)) :: more ∧ tm.length = 53 ∧ tm[8]? = some (.p 2 0) ∧ tm[11]? = some (.p 3 0) ∧ tm[41]? = some (.row seen.length (uscells seen)) ∧ tm[42]? = some (.i .i64 seen.length) ∧ tm[43]? = some (.i .i64 i) ∧ (seen.any fun x => decide (x = bareU u)) = (seen.drop i).any fun x => decide (x = bareU u)) seen.length ⟨0, [], by omega, rfl, rfl, rfl, rfl, rfl, rfl, rfl, rfl, rfl⟩ ?_
    rintro n o tm ⟨i, more, hi, rfl, rfl, hlen, t8, t11, t41, t42, t43, hany⟩
    by_cases hlt : (i : Int) < seen.length
    ·have hlt' : i < seen.length := by omega
     have hat := uc_at hlt'
     rw [List.drop_eq_getElem_cons hlt', List.any_cons] at hany
     have hul := uscells_len seen
     obtain ⟨a, ha⟩ : ∃ a, a = seen[i] := ⟨_, rfl⟩
     rw [← ha] at hat hany
     simp only [ucells, sxZ, evs, evp, setd, SV.ev, AV.flat, AV.one, AV.cells, resAs, resA, tupA, pub, pubs, AV.plain, plains, srcOf, splice, fillA, eqA, eqAs, z6, z7, z8, j2, j3, j4, j5, j6, j7, j8, j9, x0, x3, x4, x5, x6, reduceCtorEq, ↓reduceIte, List.getElem?_set, hlen, t8, t11, t41, t42, t43, hlt, Int.toNat_natCast, hat, gn1, sn1]
     refine ⟨⟨by omega, by omega⟩, by omega, ?_⟩
     rw [eq_url]
     by_cases c5 : a = bareU u
     ·simp only [c5, decide_true, Bool.true_or] at hany
      simp only [c5, sxZ, evs, evp, setd, SV.ev, AV.flat, AV.one, AV.cells, resAs, resA, tupA, pub, pubs, AV.plain, plains, srcOf, splice, fillA, eqA, eqAs, z6, z7, z8, j2, j3, j4, j5, j6, j7, j8, j9, x0, x3, x4, x5, x6, reduceCtorEq, ↓reduceIte, List.getElem?_set, hlen, t8, t11, t41, t42, t43]
      exact hk0 hany
     ·simp only [c5, decide_false, Bool.false_or] at hany
      simp only [c5, sxZ, evs, evp, setd, SV.ev, AV.flat, AV.one, AV.cells, resAs, resA, tupA, pub, pubs, AV.plain, plains, srcOf, splice, fillA, eqA, eqAs, z6, z7, z8, j2, j3, j4, j5, j6, j7, j8, j9, x0, x3, x4, x5, x6, reduceCtorEq, ↓reduceIte, List.getElem?_set, hlen, t8, t11, t41, t42, t43]
      first | exact ⟨⟨by omega, by omega⟩, seen.length - (i + 1), by omega, i + 1, _, by omega, rfl, rfl, rfl, hany⟩ | exact ⟨⟨by omega, by omega⟩, seen.length - (i + 1), by omega, i + 1, by omega, rfl, ⟨_, rfl⟩, rfl, hany⟩
    ·obtain rfl : i = seen.length := by omega
     rw [List.drop_length] at hany
     simp only [ucells, urlZ, sxZ, evs, evp, setd, SV.ev, AV.flat, AV.one, AV.cells, resAs, resA, tupA, pub, pubs, AV.plain, plains, srcOf, splice, fillA, eqA, eqAs, z6, z7, z8, j2, j3, j4, j5, j6, j7, j8, j9, x0, x3, x4, x5, x6, reduceCtorEq, ↓reduceIte, List.getElem?_set, hlen, t8, t11, t41, t42, t43, hlt]
     subst hY
     simp only [sxZ, evs, evp, setd, SV.ev, AV.flat, AV.one, AV.cells, resAs, resA, tupA, pub, pubs, AV.plain, plains, srcOf, splice, fillA, eqA, eqAs, z6, z7, z8, j2, j3, j4, j5, j6, j7, j8, j9, x0, x3, x4, x5, x6, reduceCtorEq, ↓reduceIte, List.getElem?_set, hlen, t8, t11, t41, t42, t43, gn1, sn1]
     exact hk1 hany
   ·rw [if_neg c3] at hk
    refine rn_hide fun Y hY => ?_
    by_cases c4 : e = 253
    ·rw [if_pos c4] at hk
     simp only [sxZ, evs, evp, setd, SV.ev, AV.flat, AV.one, AV.cells, resAs, resA, tupA, pub, pubs, AV.plain, plains, srcOf, splice, fillA, eqA, eqAs, z6, z7, z8, j2, j3, j4, j5, j6, j7, j8, j9, x0, x3, x4, x5, x6, reduceCtorEq, ↓reduceIte, c3, c4]
     exact hk
    ·rw [if_neg c4] at hk
     simp only [sxZ, evs, evp, setd, SV.ev, AV.flat, AV.one, AV.cells, resAs, resA, tupA, pub, pubs, AV.plain, plains, srcOf, splice, fillA, eqA, eqAs, z6, z7, z8, j2, j3, j4, j5, j6, j7, j8, j9, x0, x3, x4, x5, x6, reduceCtorEq, ↓reduceIte, c3, c4]
     exact hk
  ·rw [if_pos c2] at hk
   simp only [sxZ, evs, evp, setd, SV.ev, AV.flat, AV.one, AV.cells, resAs, resA, tupA, pub, pubs, AV.plain, plains, srcOf, splice, fillA, eqA, eqAs, z6, z7, z8, j2, j3, j4, j5, j6, j7, j8, j9, x0, x3, x4, x5, x6, reduceCtorEq, ↓reduceIte, c2]
   exact hk
set_option maxRecDepth 100000 in
theorem rBare_k (u : UrlP) (hk : K objs (urlAV (bareU u))) : CallOk Tryz.prog 46 [urlAV u] objs K := by
 refine fn_rn is_ref07_Bare rfl fun C _ => ?_
 unfold urlAV bareU at hk
 simp only [urlAV, c_ref07_Bare, sxZ, evs, evp, setd, SV.ev, AV.flat, AV.one, AV.cells, resAs, resA, tupA, pub, pubs, AV.plain, plains, srcOf, splice, fillA, eqA, eqAs, z6, z7, z8, j2, j3, j4, j5, j6, j7, j8, j9, x0, x3, x4, x5, x6, reduceCtorEq, ↓reduceIte]
 exact hk
set_option maxRecDepth 100000 in
theorem rrNext_k (b : UrlP) (mi st : Int) (l : List (List UInt8 × List UInt8)) (seen : List UrlP) (hops : Int) (hb : ShortU b) (hf : FewH l) (hs : seen.length ≤ 1000000) (hk : K objs (.tup [urlAV (nextE b l seen hops).2, .i .i64 (nextE b l seen hops).1])) :
  CallOk Tryz.prog 42 [urlAV b, hdAV mi st l, .row seen.length (uscells seen), .i .i64 hops] objs K := by
 refine fn_rn is_ref25_Next (by simp [urlAV, hdAV, plains, AV.plain, fc_plain, us_plain]) fun C _ => ?_
 unfold nextE at hk
 have hv := vals_short hf locL
 rw [c_ref25_Next]
 refine rn_hide fun Y hY => ?_
 simp only [urlAV, hdAV, sxZ, evs, evp, setd, SV.ev, AV.flat, AV.one, AV.cells, resAs, resA, tupA, pub, pubs, AV.plain, plains, srcOf, splice, fillA, eqA, eqAs, z6, z7, z8, j2, j3, j4, j5, j6, j7, j8, j9, x0, x3, x4, x5, x6, reduceCtorEq, ↓reduceIte]
 subst hY
 refine rn_hide fun Y hY => ?_
 by_cases c1 : (5 : Int) ≤ hops
 ·rw [if_pos c1] at hk
  simp only [sxZ, evs, evp, setd, SV.ev, AV.flat, AV.one, AV.cells, resAs, resA, tupA, pub, pubs, AV.plain, plains, srcOf, splice, fillA, eqA, eqAs, z6, z7, z8, j2, j3, j4, j5, j6, j7, j8, j9, x0, x3, x4, x5, x6, reduceCtorEq, ↓reduceIte, c1]
  exact hk
 ·rw [if_neg c1] at hk
  simp only [sxZ, evs, evp, setd, SV.ev, AV.flat, AV.one, AV.cells, resAs, resA, tupA, pub, pubs, AV.plain, plains, srcOf, splice, fillA, eqA, eqAs, z6, z7, z8, j2, j3, j4, j5, j6, j7, j8, j9, x0, x3, x4, x5, x6, reduceCtorEq, ↓reduceIte, c1]
  subst hY
  refine rn_hide fun Y hY => ?_
  simp only [sxZ, evs, evp, setd, SV.ev, AV.flat, AV.one, AV.cells, resAs, resA, tupA, pub, pubs, AV.plain, plains, srcOf, splice, fillA, eqA, eqAs, z6, z7, z8, j2, j3, j4, j5, j6, j7, j8, j9, x0, x3, x4, x5, x6, reduceCtorEq, ↓reduceIte]
  refine kcall (callok_res _ (rhVals_any mi st l locL hf.1 hf.2.1 (by decide) ⟨fun G I y => den_strs _, ?_⟩))
  generalize valsL l locL = v at hk hv ⊢
  simp only [sxZ, evs, evp, setd, SV.ev, AV.flat, AV.one, AV.cells, resAs, resA, tupA, pub, pubs, AV.plain, plains, srcOf, splice, fillA, eqA, eqAs, z6, z7, z8, j2, j3, j4, j5, j6, j7, j8, j9, x0, x3, x4, x5, x6, reduceCtorEq, ↓reduceIte]
  subst hY
  refine rn_hide fun Y hY => ?_
  by_cases c2 : (v.length : Int) = 1
  ·obtain ⟨r, rfl⟩ : ∃ r, v = [r] := by
    match v, c2 with
    | [r], _ => exact ⟨r, rfl⟩
    | [], c => simp at c
    | _ :: _ :: _, c => simp at c; omega
   rw [if_neg (by simp), List.headD_cons] at hk
   have hr := hv r (List.mem_cons_self ..)
   simp only [sxZ, evs, evp, setd, SV.ev, AV.flat, AV.one, AV.cells, resAs, resA, tupA, pub, pubs, AV.plain, plains, srcOf, splice, fillA, eqA, eqAs, z6, z7, z8, j2, j3, j4, j5, j6, j7, j8, j9, x0, x3, x4, x5, x6, reduceCtorEq, ↓reduceIte, List.map_cons, List.map_nil, List.length_cons, List.length_nil, Nat.zero_add, Int.cast_ofNat_Int]
   subst hY
   refine rn_hide fun Y hY => ?_
   simp only [sxZ, evs, evp, setd, SV.ev, AV.flat, AV.one, AV.cells, resAs, resA, tupA, pub, pubs, AV.plain, plains, srcOf, splice, fillA, eqA, eqAs, z6, z7, z8, j2, j3, j4, j5, j6, j7, j8, j9, x0, x3, x4, x5, x6, reduceCtorEq, ↓reduceIte]
   refine ⟨by omega, kpcall (rwRel_k b r hb hr rfl) rfl rfl ?_⟩
   generalize relW b r = q at hk ⊢
   obtain ⟨e, u⟩ := q
   unfold nextR at hk
   simp only [urlAV, sxZ, evs, evp, setd, SV.ev, AV.flat, AV.one, AV.cells, resAs, resA, tupA, pub, pubs, AV.plain, plains, srcOf, splice, fillA, eqA, eqAs, z6, z7, z8, j2, j3, j4, j5, j6, j7, j8, j9, x0, x3, x4, x5, x6, reduceCtorEq, ↓reduceIte]
   subst hY
   by_cases c3 : e = 0
   ·subst c3
    refine rn_hide fun Y hY => ?_
    simp only [sxZ, evs, evp, setd, SV.ev, AV.flat, AV.one, AV.cells, resAs, resA, tupA, pub, pubs, AV.plain, plains, srcOf, splice, fillA, eqA, eqAs, z6, z7, z8, j2, j3, j4, j5, j6, j7, j8, j9, x0, x3, x4, x5, x6, reduceCtorEq, ↓reduceIte]
    subst hY
    refine rn_hide fun Y hY => ?_
    simp only [sxZ, evs, evp, setd, SV.ev, AV.flat, AV.one, AV.cells, resAs, resA, tupA, pub, pubs, AV.plain, plains, srcOf, splice, fillA, eqA, eqAs, z6, z7, z8, j2, j3, j4, j5, j6, j7, j8, j9, x0, x3, x4, x5, x6, reduceCtorEq, ↓reduceIte]
    refine kcall (rBare_k u ?_)
    simp only [bareU, urlAV, sxZ, evs, evp, setd, SV.ev, AV.flat, AV.one, AV.cells, resAs, resA, tupA, pub, pubs, AV.plain, plains, srcOf, splice, fillA, eqA, eqAs, z6, z7, z8, j2, j3, j4, j5, j6, j7, j8, j9, x0, x3, x4, x5, x6, reduceCtorEq, ↓reduceIte]
    subst hY
    refine rn_hide fun Y hY => ?_
    simp only [sxZ, evs, evp, setd, SV.ev, AV.flat, AV.one, AV.cells, resAs, resA, tupA, pub, pubs, AV.plain, plains, srcOf, splice, fillA, eqA, eqAs, z6, z7, z8, j2, j3, j4, j5, j6, j7, j8, j9, x0, x3, x4, x5, x6, reduceCtorEq, ↓reduceIte]
    rw [if_pos rfl] at hk
    have hk0 : (seen.any fun x => decide (x = bareU u)) = true → K objs (.tup [urlAV urlZ, .i .i64 251]) := fun h => by rw [if_pos h] at hk; exact hk
    have hk1 : (seen.any fun x => decide (x = bareU u)) = false → K objs (.tup [urlAV (bareU u), .i .i64 0]) := fun h => by rw [if_neg (by rw [h]; decide)] at hk; exact hk
    clear hk
    refine rn_loop (fun n o tm => ∃ (i : Nat) (more : List OB), i ≤ seen.length ∧ n = seen.length - i ∧ o = .box 48 (ucells b) :: .box 71 [.i .i64 mi, .i .i64 st, .row l.length (fcells l)] :: .box 48 (ucells urlZ) :: .box 48 (ucells (bareU u)) :: more ∧ tm.length = 55 ∧ tm[8]? = some (.p 2 0) ∧ tm[11]? = some (.p 3 0) ∧ tm[43]? = some (.row seen.length (uscells seen)) ∧ tm[44]? = some (.i .i64 seen.length) ∧ tm[45]? = some (.i .i64 i) ∧ (seen.any fun x => decide (x = bareU u)) = (seen.drop i).any fun x => decide (x = bareU u)) seen.length ⟨0, [], by omega, rfl, rfl, rfl, rfl, rfl, rfl, rfl, rfl, rfl⟩ ?_
    rintro n o tm ⟨i, more, hi, rfl, rfl, hlen, t8, t11, t43x, t42, t43, hany⟩
    by_cases hlt : (i : Int) < seen.length
    ·have hlt' : i < seen.length := by omega
     have hat := uc_at hlt'
     rw [List.drop_eq_getElem_cons hlt', List.any_cons] at hany
     have hul := uscells_len seen
     obtain ⟨a, ha⟩ : ∃ a, a = seen[i] := ⟨_, rfl⟩
     rw [← ha] at hat hany
     simp only [ucells, sxZ, evs, evp, setd, SV.ev, AV.flat, AV.one, AV.cells, resAs, resA, tupA, pub, pubs, AV.plain, plains, srcOf, splice, fillA, eqA, eqAs, z6, z7, z8, j2, j3, j4, j5, j6, j7, j8, j9, x0, x3, x4, x5, x6, reduceCtorEq, ↓reduceIte, List.getElem?_set, hlen, t8, t11, t43x, t42, t43, hlt, Int.toNat_natCast, hat, gn1, sn1]
     refine ⟨⟨by omega, by omega⟩, by omega, ?_⟩
     rw [eq_url]
     by_cases c5 : a = bareU u
     ·simp only [c5, decide_true, Bool.true_or] at hany
      simp only [c5, sxZ, evs, evp, setd, SV.ev, AV.flat, AV.one, AV.cells, resAs, resA, tupA, pub, pubs, AV.plain, plains, srcOf, splice, fillA, eqA, eqAs, z6, z7, z8, j2, j3, j4, j5, j6, j7, j8, j9, x0, x3, x4, x5, x6, reduceCtorEq, ↓reduceIte, List.getElem?_set, hlen, t8, t11, t43x, t42, t43]
      exact hk0 hany
     ·simp only [c5, decide_false, Bool.false_or] at hany
      simp only [c5, sxZ, evs, evp, setd, SV.ev, AV.flat, AV.one, AV.cells, resAs, resA, tupA, pub, pubs, AV.plain, plains, srcOf, splice, fillA, eqA, eqAs, z6, z7, z8, j2, j3, j4, j5, j6, j7, j8, j9, x0, x3, x4, x5, x6, reduceCtorEq, ↓reduceIte, List.getElem?_set, hlen, t8, t11, t43x, t42, t43]
      first | exact ⟨⟨by omega, by omega⟩, seen.length - (i + 1), by omega, i + 1, _, by omega, rfl, rfl, rfl, hany⟩ | exact ⟨⟨by omega, by omega⟩, seen.length - (i + 1), by omega, i + 1, by omega, rfl, ⟨_, rfl⟩, rfl, hany⟩
    ·obtain rfl : i = seen.length := by omega
     rw [List.drop_length] at hany
     simp only [ucells, urlZ, sxZ, evs, evp, setd, SV.ev, AV.flat, AV.one, AV.cells, resAs, resA, tupA, pub, pubs, AV.plain, plains, srcOf, splice, fillA, eqA, eqAs, z6, z7, z8, j2, j3, j4, j5, j6, j7, j8, j9, x0, x3, x4, x5, x6, reduceCtorEq, ↓reduceIte, List.getElem?_set, hlen, t8, t11, t43x, t42, t43, hlt]
     subst hY
     simp only [sxZ, evs, evp, setd, SV.ev, AV.flat, AV.one, AV.cells, resAs, resA, tupA, pub, pubs, AV.plain, plains, srcOf, splice, fillA, eqA, eqAs, z6, z7, z8, j2, j3, j4, j5, j6, j7, j8, j9, x0, x3, x4, x5, x6, reduceCtorEq, ↓reduceIte, List.getElem?_set, hlen, t8, t11, t43x, t42, t43, gn1, sn1]
     exact hk1 hany
   ·rw [if_neg c3] at hk
    refine rn_hide fun Y hY => ?_
    by_cases c4 : e = 253
    ·rw [if_pos c4] at hk
     simp only [sxZ, evs, evp, setd, SV.ev, AV.flat, AV.one, AV.cells, resAs, resA, tupA, pub, pubs, AV.plain, plains, srcOf, splice, fillA, eqA, eqAs, z6, z7, z8, j2, j3, j4, j5, j6, j7, j8, j9, x0, x3, x4, x5, x6, reduceCtorEq, ↓reduceIte, c3, c4]
     exact hk
    ·rw [if_neg c4] at hk
     simp only [sxZ, evs, evp, setd, SV.ev, AV.flat, AV.one, AV.cells, resAs, resA, tupA, pub, pubs, AV.plain, plains, srcOf, splice, fillA, eqA, eqAs, z6, z7, z8, j2, j3, j4, j5, j6, j7, j8, j9, x0, x3, x4, x5, x6, reduceCtorEq, ↓reduceIte, c3, c4]
     exact hk
  ·rw [if_pos c2] at hk
   simp only [sxZ, evs, evp, setd, SV.ev, AV.flat, AV.one, AV.cells, resAs, resA, tupA, pub, pubs, AV.plain, plains, srcOf, splice, fillA, eqA, eqAs, z6, z7, z8, j2, j3, j4, j5, j6, j7, j8, j9, x0, x3, x4, x5, x6, reduceCtorEq, ↓reduceIte, c2]
   exact hk
end
end
def keepHL (l : List (List UInt8 × List UInt8)) : Bool := decide (l.length ≤ 80) && l.all fun p => decide (p.1.length + p.2.length ≤ 600)
theorem keepHL_few {l : List (List UInt8 × List UInt8)} (h : keepHL l = true) : l.length ≤ 80 ∧ Few l := by
 unfold keepHL at h
 rw [Bool.and_eq_true, List.all_eq_true] at h
 have h1 := of_decide_eq_true h.1
 refine ⟨h1, by omega, fun p hp => ?_⟩
 have := of_decide_eq_true (h.2 p hp)
 omega
section
variable [Tabs Tryz.prog] {objs : List OB} {K : List OB → AV → Prop}
set_option maxRecDepth 100000 in
theorem keepHead_k (mi st : Int) (l : List (List UInt8 × List UInt8)) (hp : ∀ p ∈ l, p.1.length ≤ 140737488351232 ∧ p.2.length ≤ 140737488351232) (hk : K objs (.b (keepHL l))) : CallOk Tryz.prog 40 [hdAV mi st l] objs K := by
 refine fn_rn is_keep_Head (by simp [hdAV, plains, AV.plain, fc_plain]) fun C _ => ?_
 unfold keepHL at hk
 by_cases c1 : (80 : Int) < l.length
 ·rw [decide_eq_false (by omega)] at hk
  simp only [hdAV, c1, c_keep_Head, sxZ, evs, evp, setd, SV.ev, AV.flat, AV.one, AV.cells, resAs, resA, tupA, pub, pubs, AV.plain, plains, srcOf, splice, fillA, eqA, eqAs, z6, z7, z8, j2, j3, j4, j5, j6, j7, j8, j9, x0, x3, x4, x5, x6, reduceCtorEq, ↓reduceIte]
  exact hk
 ·rw [decide_eq_true (by omega), Bool.true_and] at hk
  simp only [hdAV, c1, c_keep_Head, sxZ, evs, evp, setd, SV.ev, AV.flat, AV.one, AV.cells, resAs, resA, tupA, pub, pubs, AV.plain, plains, srcOf, splice, fillA, eqA, eqAs, z6, z7, z8, j2, j3, j4, j5, j6, j7, j8, j9, x0, x3, x4, x5, x6, reduceCtorEq, ↓reduceIte]
  refine rn_loop (fun n objs tm => ∃ i : Nat, i ≤ l.length ∧ n = l.length - i ∧ tm.length = 25 ∧ tm[10]? = some (.row l.length (fcells l)) ∧ tm[11]? = some (.i .i64 l.length) ∧ tm[12]? = some (.i .i64 i) ∧ ∀ p ∈ l.take i, p.1.length + p.2.length ≤ 600) l.length ⟨0, Nat.zero_le _, rfl, rfl, rfl, rfl, rfl, by simp⟩ ?_
  rintro n objs tm ⟨i, hi, rfl, hlen, t10, t11, t12, hall⟩
  by_cases hlt : (i : Int) < l.length
  ·have hlt' : i < l.length := by omega
   have hat := fc_at hlt'
   have hfl := fcells_len l
   have hpl := hp _ (List.getElem_mem hlt')
   by_cases c2 : (600 : Int) < (l[i].1.length : Int) + l[i].2.length
   ·have e : (l.all fun p => decide (p.1.length + p.2.length ≤ 600)) = false := by
     rw [List.all_eq_false]
     exact ⟨l[i], List.getElem_mem hlt', by rw [decide_eq_true_iff]; omega⟩
    rw [e] at hk
    simp only [sxZ, evs, evp, setd, SV.ev, AV.flat, AV.one, AV.cells, resAs, resA, tupA, pub, pubs, AV.plain, plains, srcOf, splice, fillA, eqA, eqAs, z6, z7, z8, j2, j3, j4, j5, j6, j7, j8, j9, x0, x3, x4, x5, x6, reduceCtorEq, ↓reduceIte, List.getElem?_set, hlen, t10, t11, t12, hlt, c2, Int.toNat_natCast, hat, gn1, sn1]
    exact ⟨by omega, by omega, ⟨by omega, by omega⟩, hk⟩
   ·simp only [sxZ, evs, evp, setd, SV.ev, AV.flat, AV.one, AV.cells, resAs, resA, tupA, pub, pubs, AV.plain, plains, srcOf, splice, fillA, eqA, eqAs, z6, z7, z8, j2, j3, j4, j5, j6, j7, j8, j9, x0, x3, x4, x5, x6, reduceCtorEq, ↓reduceIte, List.getElem?_set, hlen, t10, t11, t12, hlt, c2, Int.toNat_natCast, hat, gn1, sn1]
    refine ⟨by omega, by omega, ⟨by omega, by omega⟩, ⟨by omega, by omega⟩, l.length - (i + 1), by omega, i + 1, by omega, rfl, rfl, ?_⟩
    intro p hpm
    rw [List.take_succ_eq_append_getElem hlt'] at hpm
    rcases List.mem_append.1 hpm with h | h
    ·exact hall p h
    ·rw [List.mem_singleton] at h; subst h; omega
  ·obtain rfl : i = l.length := by omega
   rw [List.take_of_length_le (Nat.le_refl _)] at hall
   have e : (l.all fun p => decide (p.1.length + p.2.length ≤ 600)) = true := List.all_eq_true.2 fun p hp => decide_eq_true (hall p hp)
   rw [e] at hk
   simp only [sxZ, evs, evp, setd, SV.ev, AV.flat, AV.one, AV.cells, resAs, resA, tupA, pub, pubs, AV.plain, plains, srcOf, splice, fillA, eqA, eqAs, z6, z7, z8, j2, j3, j4, j5, j6, j7, j8, j9, x0, x3, x4, x5, x6, reduceCtorEq, ↓reduceIte, List.getElem?_set, hlen, t10, t11, t12, hlt]
   exact hk
end
end Go.Proofs.YtecphoceobgncaaGreatDoor
namespace Go.Proofs.YtecphoceobgncaaGreatDoor
def jn (l : List (List UInt8)) : List UInt8 := l.flatMap fun s => 47 :: s
def OkSeg (s : List UInt8) : Prop := 47 ∉ s ∧ s ≠ [46] ∧ s ≠ [46, 46]
theorem jn_nil : jn [] = [] := rfl
theorem jn_cons (s : List UInt8) (l : List (List UInt8)) : jn (s :: l) = 47 :: (s ++ jn l) := by simp [jn]
theorem jn_snoc (s : List UInt8) (l : List (List UInt8)) : jn (l ++ [s]) = jn l ++ 47 :: s := by simp [jn]
theorem jn_form (l : List (List UInt8)) : jn l = [] ∨ ∃ r, jn l = 47 :: r := by
 cases l with
 | nil => exact .inl rfl
 | cons s l => exact .inr ⟨_, jn_cons s l⟩
theorem shortR_seg : ∀ a b : List UInt8, 47 ∉ a → shortR (a ++ 47 :: b) = b
 | [], b, _ => by rw [List.nil_append, shortR, if_pos rfl]
 | x :: a, b, h => by
  simp only [List.mem_cons, not_or] at h
  rw [List.cons_append, shortR, if_neg (fun e => h.1 e.symm)]
  exact shortR_seg a b h.2
theorem shortL_seg (l s : List UInt8) (h : 47 ∉ s) : shortL (l ++ 47 :: s) = l := by
 unfold shortL
 have : (l ++ 47 :: s).reverse = s.reverse ++ 47 :: l.reverse := by simp
 rw [this, shortR_seg _ _ (by simpa using h), List.reverse_reverse]
theorem shortL_jn (l : List (List UInt8)) (h : ∀ s ∈ l, OkSeg s) : shortL (jn l) = jn l.dropLast := by
 rcases List.eq_nil_or_concat l with rfl | ⟨l', s, rfl⟩
 ·rfl
 ·rw [List.concat_eq_append, jn_snoc, shortL_seg _ _ (h s (by simp)).1]; simp
theorem first_seg (s rest : List UInt8) (hs : 47 ∉ s) (hr : rest = [] ∨ ∃ r, rest = 47 :: r) : firstL (s ++ rest) = s := by
 unfold firstL
 rcases hr with rfl | ⟨r, rfl⟩
 ·rw [List.append_nil, cutL_none 47 s hs]
 ·rw [cutL_front 47 s r hs]
theorem step_one (rest o : List UInt8) (hr : rest = [] ∨ ∃ r, rest = 47 :: r) : dotStep (47 :: ([46] ++ rest)) o = (if rest = [] then [47] else rest, o) := by
 rcases hr with rfl | ⟨r, rfl⟩
 ·simp [dotStep, Lib.hasPrefix]
 ·simp [dotStep, Lib.hasPrefix]
theorem step_two (rest o : List UInt8) (hr : rest = [] ∨ ∃ r, rest = 47 :: r) : dotStep (47 :: ([46, 46] ++ rest)) o = (if rest = [] then [47] else rest, shortL o) := by
 rcases hr with rfl | ⟨r, rfl⟩
 ·simp [dotStep, Lib.hasPrefix]
 ·simp [dotStep, Lib.hasPrefix]
theorem hp_false {l p : List UInt8} (h : ∀ u, p ++ u = l → False) : Lib.hasPrefix l p = false := by
 rw [Bool.eq_false_iff]
 intro e
 obtain ⟨u, hu⟩ := List.isPrefixOf_iff_prefix.1 (show List.isPrefixOf p l = true from e)
 exact h u hu
theorem step_seg (s rest o : List UInt8) (hs : OkSeg s) (hr : rest = [] ∨ ∃ r, rest = 47 :: r) : dotStep (47 :: (s ++ rest)) o = (rest, o ++ 47 :: s) := by
 obtain ⟨h1, h2, h3⟩ := hs
 have hf := first_seg s rest h1 hr
 have hseg : segN (47 :: (s ++ rest)) = 1 + s.length := by
  unfold segN
  rw [List.drop_succ_cons, List.drop_zero, hf]
 have e1 : (47 :: (s ++ rest)).drop (1 + s.length) = rest := by
  rw [Nat.add_comm, List.drop_succ_cons]; simp
 have e2 : (47 :: (s ++ rest)).take (1 + s.length) = 47 :: s := by
  rw [Nat.add_comm, List.take_succ_cons]; simp
 have key : dotStep (47 :: (s ++ rest)) o = ((47 :: (s ++ rest)).drop (segN (47 :: (s ++ rest))), o ++ (47 :: (s ++ rest)).take (segN (47 :: (s ++ rest)))) := by
  unfold dotStep
  have p1 : Lib.hasPrefix (47 :: (s ++ rest)) [46, 46, 47] = false := hp_false fun u hu => by simp at hu
  have p2 : Lib.hasPrefix (47 :: (s ++ rest)) [46, 47] = false := hp_false fun u hu => by simp at hu
  have p7 : ¬ (47 :: (s ++ rest) = [46] ∨ 47 :: (s ++ rest) = [46, 46]) := by simp
  have p3 : Lib.hasPrefix (47 :: (s ++ rest)) [47, 46, 47] = false := hp_false fun u hu => by
   rcases s with _ | ⟨a, _ | ⟨b, s⟩⟩
   ·rcases hr with rfl | ⟨r, rfl⟩ <;> simp at hu
   ·simp only [List.cons_append, List.nil_append, List.cons.injEq, true_and] at hu
    exact h2 (by rw [← hu.1])
   ·simp only [List.cons_append, List.nil_append, List.cons.injEq, true_and] at hu
    exact h1 (by rw [hu.2.1]; simp)
  have p4 : ¬ 47 :: (s ++ rest) = [47, 46] := by
   rcases s with _ | ⟨a, s⟩
   ·rcases hr with rfl | ⟨r, rfl⟩ <;> simp
   ·intro e
    simp only [List.cons_append, List.cons.injEq, true_and, List.append_eq_nil_iff] at e
    exact h2 (by rw [e.1, e.2.1])
  have p5 : Lib.hasPrefix (47 :: (s ++ rest)) [47, 46, 46, 47] = false := hp_false fun u hu => by
   rcases s with _ | ⟨a, _ | ⟨b, _ | ⟨c, s⟩⟩⟩
   ·rcases hr with rfl | ⟨r, rfl⟩ <;> simp at hu
   ·rcases hr with rfl | ⟨r, rfl⟩ <;> simp at hu
   ·simp only [List.cons_append, List.nil_append, List.cons.injEq, true_and] at hu
    exact h3 (by rw [← hu.1, ← hu.2.1])
   ·simp only [List.cons_append, List.nil_append, List.cons.injEq, true_and] at hu
    exact h1 (by rw [hu.2.2.1]; simp)
  have p6 : ¬ 47 :: (s ++ rest) = [47, 46, 46] := by
   rcases s with _ | ⟨a, _ | ⟨b, s⟩⟩
   ·rcases hr with rfl | ⟨r, rfl⟩ <;> simp
   ·rcases hr with rfl | ⟨r, rfl⟩ <;> simp
   ·intro e
    simp only [List.cons_append, List.cons.injEq, true_and, List.append_eq_nil_iff] at e
    exact h3 (by rw [e.1, e.2.1, e.2.2.1])
  rw [p1, p2, p3, p5, if_neg Bool.false_ne_true, if_neg Bool.false_ne_true, if_neg Bool.false_ne_true, if_neg p4, if_neg Bool.false_ne_true, if_neg p6, if_neg p7]
 rw [key, hseg, e1, e2]
theorem dots_same : ∀ (l : List (List UInt8)) (o : List UInt8), (∀ s ∈ l, OkSeg s) → dotsL (jn l) o = o ++ jn l
 | [], o, _ => by rw [jn_nil, dotsL_nil, List.append_nil]
 | s :: l, o, h => by
  rw [jn_cons, dotsL_step (by simp), step_seg s (jn l) o (h s (by simp)) (jn_form l)]
  simp only
  rw [dots_same l _ (fun s hs => h s (by simp [hs]))]; simp
end Go.Proofs.YtecphoceobgncaaGreatDoor
namespace Go.Proofs.YtecphoceobgncaaGreatDoor
theorem split_of_join (p : UriP) (h1 : p.hs = true) (h2 : schemeB p.scheme = true) (h3 : ∀ c ∈ p.scheme, hasB c [58, 47, 63, 35] = false) (h4 : p.ha = true) (h5 : ∀ c ∈ p.auth, hasB c [47, 63, 35] = false)
  (h6 : p.path = [] ∨ ∃ r, p.path = 47 :: r) (h7 : ∀ c ∈ p.path, hasB c [63, 35] = false) (h8 : (35 : UInt8) ∉ p.query) (h9 : p.hq = false → p.query = []) (h10 : p.hf = false → p.frag = []) (h11 : (joinU p).length ≤ 16384) : splitE (joinU p) = (0, p) := by
 obtain ⟨sc, au, pa, qu, fr, hs, ha, hq, hf⟩ := p
 simp only at h1 h2 h3 h4 h5 h6 h7 h8 h9 h10
 subst h1 h4
 have n1 : ∀ c : UInt8, hasB c [58, 47, 63, 35] = true → c ∉ sc := fun c hc hm => by have := h3 c hm; rw [hc] at this; cases this
 have n2 : ∀ c : UInt8, hasB c [47, 63, 35] = true → c ∉ au := fun c hc hm => by have := h5 c hm; rw [hc] at this; cases this
 have n3 : ∀ c : UInt8, hasB c [63, 35] = true → c ∉ pa := fun c hc hm => by have := h7 c hm; rw [hc] at this; cases this
 have eb : joinU ⟨sc, au, pa, qu, fr, true, true, hq, hf⟩ = sc ++ 58 :: 47 :: 47 :: (au ++ pa ++ (if hq = true then [63] ++ qu else []) ++ (if hf = true then [35] ++ fr else [])) := by
  unfold joinU; simp
 have q35 : (35 : UInt8) ∉ (if hq = true then [63] ++ qu else []) := by
  split
  ·simp [h8]
  ·simp
 have m35 : (35 : UInt8) ∉ sc ++ 58 :: 47 :: 47 :: (au ++ pa ++ (if hq = true then [63] ++ qu else [])) := by
  simp only [List.mem_append, List.mem_cons, not_or]
  exact ⟨n1 35 (by decide), by decide, by decide, by decide, ⟨n2 35 (by decide), n3 35 (by decide)⟩, q35⟩
 have m63 : (63 : UInt8) ∉ sc ++ 58 :: 47 :: 47 :: (au ++ pa) := by
  simp only [List.mem_append, List.mem_cons, not_or]
  exact ⟨n1 63 (by decide), by decide, by decide, by decide, n2 63 (by decide), n3 63 (by decide)⟩
 have e35 : cutL 35 (joinU ⟨sc, au, pa, qu, fr, true, true, hq, hf⟩) = (sc ++ 58 :: 47 :: 47 :: (au ++ pa ++ (if hq = true then [63] ++ qu else [])), fr, hf) := by
  rw [eb]
  cases hf
  ·have := h10 rfl; subst this
   have : sc ++ 58 :: 47 :: 47 :: (au ++ pa ++ (if hq = true then [63] ++ qu else []) ++ (if false = true then [35] ++ [] else [])) = sc ++ 58 :: 47 :: 47 :: (au ++ pa ++ (if hq = true then [63] ++ qu else [])) := by simp
   rw [this, cutL_none 35 _ m35]
  ·have : sc ++ 58 :: 47 :: 47 :: (au ++ pa ++ (if hq = true then [63] ++ qu else []) ++ (if true = true then [35] ++ fr else [])) = (sc ++ 58 :: 47 :: 47 :: (au ++ pa ++ (if hq = true then [63] ++ qu else []))) ++ 35 :: fr := by simp
   rw [this, cutL_front 35 _ fr m35]
 have e63 : cutL 63 (sc ++ 58 :: 47 :: 47 :: (au ++ pa ++ (if hq = true then [63] ++ qu else []))) = (sc ++ 58 :: 47 :: 47 :: (au ++ pa), qu, hq) := by
  cases hq
  ·have := h9 rfl; subst this
   have : sc ++ 58 :: 47 :: 47 :: (au ++ pa ++ (if false = true then [63] ++ [] else [])) = sc ++ 58 :: 47 :: 47 :: (au ++ pa) := by simp
   rw [this, cutL_none 63 _ m63]
  ·have : sc ++ 58 :: 47 :: 47 :: (au ++ pa ++ (if true = true then [63] ++ qu else [])) = (sc ++ 58 :: 47 :: 47 :: (au ++ pa)) ++ 63 :: qu := by simp
   rw [this, cutL_front 63 _ qu m63]
 have ef : firstL (sc ++ 58 :: 47 :: 47 :: (au ++ pa)) = sc ++ [58] := by
  unfold firstL
  have : sc ++ 58 :: 47 :: 47 :: (au ++ pa) = (sc ++ [58]) ++ 47 :: (47 :: (au ++ pa)) := by simp
  rw [this, cutL_front 47 _ _ (by simp only [List.mem_append, List.mem_cons, List.not_mem_nil, or_false, not_or]; exact ⟨n1 47 (by decide), by decide⟩)]
 have ec : cutL 58 (sc ++ [58]) = (sc, [], true) := cutL_front 58 sc [] (n1 58 (by decide))
 have ed : (sc ++ 58 :: 47 :: 47 :: (au ++ pa)).drop (sc.length + 1) = 47 :: 47 :: (au ++ pa) := by
  have : sc ++ 58 :: 47 :: 47 :: (au ++ pa) = (sc ++ [58]) ++ (47 :: 47 :: (au ++ pa)) := by simp
  rw [this, List.drop_append_of_le_length (by simp)]; simp
 have et : twoSl (47 :: 47 :: (au ++ pa)) = true := by simp [twoSl, Lib.hasPrefix]
 have ea : authL (47 :: 47 :: (au ++ pa)) = au := by
  unfold authL
  rw [if_pos et]
  show firstL (au ++ pa) = au
  rcases h6 with rfl | ⟨r, rfl⟩
  ·exact first_seg au [] (n2 47 (by decide)) (.inl rfl)
  ·exact first_seg au _ (n2 47 (by decide)) (.inr ⟨r, rfl⟩)
 have ep : pathL (47 :: 47 :: (au ++ pa)) = pa := by
  unfold pathL
  rw [if_pos et, ea]
  show (au ++ pa).drop au.length = pa
  simp
 have hb : bodyL (joinU ⟨sc, au, pa, qu, fr, true, true, hq, hf⟩) = sc ++ 58 :: 47 :: 47 :: (au ++ pa) := by
  unfold bodyL; rw [e35]; simp only; rw [e63]
 have hsc : schCut (joinU ⟨sc, au, pa, qu, fr, true, true, hq, hf⟩) = (sc, [], true) := by
  unfold schCut; rw [hb, ef, ec]
 have hh : hierL (joinU ⟨sc, au, pa, qu, fr, true, true, hq, hf⟩) = 47 :: 47 :: (au ++ pa) := by
  unfold hierL; rw [hsc, hb, if_pos rfl, ed]
 unfold splitE
 rw [if_neg (by omega), hsc, h2]
 simp only [Bool.not_true, Bool.and_false, Bool.false_eq_true, if_false, if_true]
 rw [hh, ea, ep, et, e35]
 simp only
 rw [e63]
def Cn (keep l : List UInt8) : Prop := ∀ o r, rwS (addN keep) 0 (l ++ r) o = rwS (addN keep) 0 r (o ++ l)
theorem Cn.nil (keep : List UInt8) : Cn keep [] := by intro o r; simp
theorem Cn.append {keep a b : List UInt8} (ha : Cn keep a) (hb : Cn keep b) : Cn keep (a ++ b) := by
 intro o r
 rw [List.append_assoc, ha, hb, List.append_assoc]
theorem Cn.one {keep : List UInt8} {c : UInt8} (hp : plainB c keep = true) : Cn keep [c] := by
 intro o r
 have hc : c ≠ 37 := plainB_ne hp
 exact rwS_plain _ _ _ _ _ hc (addN_plain rfl hp)
theorem Cn.norm {keep l : List UInt8} (h : Cn keep l) (hl : l.length ≤ 16384) : normL l keep = (0, l) := by
 have := h [] []
 unfold normL limL
 rw [if_neg (by omega)]
 rw [List.append_nil, List.nil_append, rwS] at this
 exact this
theorem Cn.jn {keep : List UInt8} (h47 : plainB 47 keep = true) : ∀ l : List (List UInt8), (∀ s ∈ l, Cn keep s) → Cn keep (jn l)
 | [], _ => Cn.nil keep
 | s :: l, h => by
  rw [jn_cons]
  exact (Cn.one h47).append ((h s (by simp)).append (Cn.jn h47 l fun s hs => h s (by simp [hs])))
theorem pl47 : plainB 47 pathKeep = true := by decide
theorem esc47 : ∀ n : Fin 256, (47 : UInt8) ∉ escB (UInt8.ofNat n.val) := by decide +kernel
theorem esc_not47 (c : UInt8) : (47 : UInt8) ∉ escB c := by
 have := esc47 ⟨c.toNat, UInt8.toNat_lt c⟩
 simpa using this
theorem norm_segs : ∀ (n : Nat) (l out x : List UInt8), l.length ≤ n → rwS (addN pathKeep) 0 l out = (0, x) → ∃ s m, x = out ++ (s ++ jn m) ∧ (47 ∉ s ∧ Cn pathKeep s) ∧ (∀ q ∈ m, 47 ∉ q ∧ Cn pathKeep q) ∧ (l = [] → s = [] ∧ m = []) ∧ (∀ t, l = 47 :: t → s = [] ∧ m ≠ []) := by
 intro n
 induction n with
 | zero =>
  intro l out x hl h
  obtain rfl : l = [] := List.eq_nil_of_length_eq_zero (by omega)
  rw [rwS] at h
  obtain rfl : out = x := by injection h
  exact ⟨[], [], by simp [jn], ⟨by simp, Cn.nil _⟩, by simp, fun _ => ⟨rfl, rfl⟩, fun t e => by cases e⟩
 | succ n ih =>
  intro l out x hl h
  cases l with
  | nil =>
   rw [rwS] at h
   obtain rfl : out = x := by injection h
   exact ⟨[], [], by simp [jn], ⟨by simp, Cn.nil _⟩, by simp, fun _ => ⟨rfl, rfl⟩, fun t e => by cases e⟩
  | cons c t =>
   simp only [List.length_cons] at hl
   by_cases hc : c = 37
   ·subst hc
    rcases he : escOk (37 :: t) with _ | _
    ·rw [rwS, if_pos rfl, if_neg (by rw [he]; exact Bool.false_ne_true)] at h
     injection h with h1 _
     exact absurd h1 (by decide)
    ·obtain ⟨a, b, r, rfl⟩ := escOk_form he
     rcases hu : isUnres (escV (37 :: a :: b :: r)) with _ | _
     ·rw [rwS, if_pos rfl, if_pos he, addN_esc hu, if_pos rfl, rwS_drop] at h
      obtain ⟨s, m, e, ⟨h1, h1'⟩, h2, _, _⟩ := ih r _ x (by simp at hl; omega) h
      refine ⟨escB (escV (37 :: a :: b :: r)) ++ s, m, by rw [e]; simp, ⟨?_, ?_⟩, h2, (fun e => by cases e), (fun t e => by cases e)⟩
      ·simp only [List.mem_append, not_or]; exact ⟨esc_not47 _, h1⟩
      ·exact Cn.append (fun o r' => rwS_escB _ _ _ _ _ (addN_esc hu)) h1'
     ·rw [rwS, if_pos rfl, if_pos he, addN_plain (by rw [hu]; rfl) (plainB_unres hu), if_pos rfl, rwS_drop] at h
      obtain ⟨s, m, e, ⟨h1, h1'⟩, h2, _, _⟩ := ih r _ x (by simp at hl; omega) h
      refine ⟨[escV (37 :: a :: b :: r)] ++ s, m, by rw [e]; simp, ⟨?_, (Cn.one (plainB_unres hu)).append h1'⟩, h2, (fun e => by cases e), (fun t e => by cases e)⟩
      simp only [List.mem_append, List.mem_cons, List.not_mem_nil, or_false, not_or]
      refine ⟨fun e => ?_, h1⟩
      rw [← e] at hu
      exact absurd hu (by decide)
   ·rcases hp : plainB c pathKeep with _ | _
    ·rw [rwS, if_neg hc, addN_bad rfl hp, if_neg (by decide)] at h
     injection h with h1 _
     exact absurd h1 (by decide)
    ·rw [rwS, if_neg hc, addN_plain rfl hp, if_pos rfl] at h
     obtain ⟨s, m, e, ⟨h1, h1'⟩, h2, _, _⟩ := ih t _ x (by omega) h
     by_cases h47 : c = 47
     ·subst h47
      refine ⟨[], s :: m, by rw [e, jn_cons]; simp, ⟨by simp, Cn.nil _⟩, ?_, (fun e => by cases e), (fun t e => ⟨rfl, by simp⟩)⟩
      intro q hq
      rcases List.mem_cons.1 hq with rfl | hq
      ·exact ⟨h1, h1'⟩
      ·exact h2 q hq
     ·refine ⟨[c] ++ s, m, by rw [e]; simp, ⟨?_, (Cn.one hp).append h1'⟩, h2, (fun e => by cases e), (fun t e => by injection e with e _; exact absurd e h47)⟩
      simp only [List.mem_append, List.mem_cons, List.not_mem_nil, or_false, not_or]
      exact ⟨fun e => h47 e.symm, h1⟩
theorem dots_from (P : List UInt8 → Prop) (h0 : P []) : ∀ (n : Nat) (m l : List (List UInt8)), (jn m).length ≤ n → m ≠ [] → (∀ s ∈ m, 47 ∉ s ∧ P s) → (∀ s ∈ l, OkSeg s ∧ P s) → ∃ k, k ≠ [] ∧ (∀ s ∈ k, OkSeg s ∧ P s) ∧ dotsL (jn m) (jn l) = jn k := by
 intro n
 induction n with
 | zero =>
  intro m l hn hm _ _
  cases m with
  | nil => exact absurd rfl hm
  | cons s m => rw [jn_cons] at hn; simp at hn
 | succ n ih =>
  intro m l hn hm hmp hl
  cases m with
  | nil => exact absurd rfl hm
  | cons s m =>
   have hdl : ∀ s ∈ l.dropLast, OkSeg s ∧ P s := fun s hs => hl s (List.dropLast_subset l hs)
   have hs := hmp s (by simp)
   have hmp' : ∀ s ∈ m, 47 ∉ s ∧ P s := fun s hs => hmp s (by simp [hs])
   have hr := jn_form m
   have hnil : ∀ l : List (List UInt8), (∀ s ∈ l, OkSeg s ∧ P s) → ∃ k, k ≠ [] ∧ (∀ s ∈ k, OkSeg s ∧ P s) ∧ dotsL [47] (jn l) = jn k := by
    intro l hl
    refine ⟨l ++ [[]], by simp, ?_, ?_⟩
    ·intro s hs
     rcases List.mem_append.1 hs with hs | hs
     ·exact hl s hs
     ·simp at hs; subst hs; exact ⟨⟨by simp, by simp, by simp⟩, h0⟩
    ·have := step_seg [] [] (jn l) ⟨by simp, by simp, by simp⟩ (.inl rfl)
     rw [dotsL_step (by simp)]
     simp only [List.append_nil] at this
     rw [this, dotsL_nil, jn_snoc]
   rw [jn_cons] at hn ⊢
   simp only [List.length_cons, List.length_append] at hn
   rw [dotsL_step (by simp)]
   by_cases h2 : s = [46]
   ·subst h2
    rw [step_one (jn m) _ hr]
    by_cases hm0 : m = []
    ·subst hm0
     simp only [jn_nil, if_true]
     exact hnil l hl
    ·have : jn m ≠ [] := by
      cases m with
      | nil => exact absurd rfl hm0
      | cons q m => rw [jn_cons]; simp
     simp only [this, if_false]
     exact ih m l (by simp at hn; omega) hm0 hmp' hl
   ·by_cases h3 : s = [46, 46]
    ·subst h3
     rw [step_two (jn m) _ hr]
     simp only
     rw [shortL_jn l (fun s hs => (hl s hs).1)]
     by_cases hm0 : m = []
     ·subst hm0
      simp only [jn_nil, if_true]
      exact hnil _ hdl
     ·have : jn m ≠ [] := by
       cases m with
       | nil => exact absurd rfl hm0
       | cons q m => rw [jn_cons]; simp
      simp only [this, if_false]
      exact ih m _ (by simp at hn; omega) hm0 hmp' hdl
    ·rw [step_seg s (jn m) _ ⟨hs.1, h2, h3⟩ hr, ← jn_snoc]
     have hl2 : ∀ s' ∈ l ++ [s], OkSeg s' ∧ P s' := by
      intro s' hs'
      rcases List.mem_append.1 hs' with hs' | hs'
      ·exact hl s' hs'
      ·simp at hs'; subst hs'; exact ⟨⟨hs.1, h2, h3⟩, hs.2⟩
     by_cases hm0 : m = []
     ·subst hm0
      exact ⟨l ++ [s], by simp, hl2, by rw [jn_nil, dotsL_nil]⟩
     ·exact ih m _ (by omega) hm0 hmp' hl2
def PathC (l : List UInt8) : Prop := ∃ m, m ≠ [] ∧ (∀ s ∈ m, OkSeg s ∧ Cn pathKeep s) ∧ l = jn m
theorem path_canon (l : List UInt8) (hl : l = [] ∨ ∃ t, l = 47 :: t) (hn : (normL l pathKeep).1 = 0) : PathC (slashed (normL l pathKeep).2) := by
 have e : normL l pathKeep = (0, (normL l pathKeep).2) := by rw [← hn]
 have hlen := norm_len e
 have hr : rwS (addN pathKeep) 0 l [] = (0, (normL l pathKeep).2) := by
  have e2 := e
  unfold normL limL at e2
  rw [if_neg (by omega)] at e2
  rw [e2]
  unfold normL limL
  rw [if_neg (by omega)]
 obtain ⟨s, m, k1, k2, k3, k4, k5⟩ := norm_segs l.length l [] _ (Nat.le_refl _) hr
 rw [List.nil_append] at k1
 rw [k1]
 rcases hl with rfl | ⟨t, rfl⟩
 ·obtain ⟨rfl, rfl⟩ := k4 rfl
  refine ⟨[[]], by simp, ?_, ?_⟩
  ·intro q hq
   simp at hq; subst hq
   exact ⟨⟨by simp, by simp, by simp⟩, Cn.nil _⟩
  ·unfold slashed; rfl
 ·obtain ⟨rfl, hm⟩ := k5 t rfl
  rw [List.nil_append]
  obtain ⟨k, q1, q2, q3⟩ := dots_from (Cn pathKeep) (Cn.nil _) (jn m).length m [] (Nat.le_refl _) hm k3 (by simp)
  refine ⟨k, q1, q2, ?_⟩
  unfold slashed
  have : rdotsL (jn m) = jn k := q3
  rw [this, if_neg]
  cases k with
  | nil => exact absurd rfl q1
  | cons a k => rw [jn_cons]; simp
theorem PathC.form {l : List UInt8} (h : PathC l) : ∃ r, l = 47 :: r := by
 obtain ⟨m, hm, _, rfl⟩ := h
 cases m with
 | nil => exact absurd rfl hm
 | cons s m => exact ⟨_, jn_cons s m⟩
theorem PathC.dots {l : List UInt8} (h : PathC l) : rdotsL l = l := by
 obtain ⟨m, hm, hs, rfl⟩ := h
 have := dots_same m [] (fun s h => (hs s h).1)
 simpa [rdotsL] using this
theorem PathC.norm {l : List UInt8} (h : PathC l) (hl : l.length ≤ 16384) : normL l pathKeep = (0, l) := by
 obtain ⟨m, hm, hs, rfl⟩ := h
 exact (Cn.jn pl47 m fun s h => (hs s h).2).norm hl
theorem PathC.slash {l : List UInt8} (h : PathC l) : slashed l = l := by
 obtain ⟨r, hr⟩ := h.form
 unfold slashed
 rw [h.dots, if_neg (by rw [hr]; simp)]
end Go.Proofs.YtecphoceobgncaaGreatDoor
namespace Go.Proofs.YtecphoceobgncaaGreatDoor
open Go.RowKit Sx
theorem tabIs_keep {P : Program} {w w' : World} {name : String} {k : IntKind} {zs : List Int} (h : Lib.TabIs P w name k zs) (hk : ∀ k, k < w.heap.size → w'.heap[k]? = w.heap[k]?) : Lib.TabIs P w' name k zs := by
 unfold Lib.TabIs World.var? at *
 cases hg : P.globalNamed name with
 | none => simp [hg] at h
 | some g =>
  simp only [hg, Option.bind_some] at h ⊢
  have hlt : g < w.heap.size := by
   rcases Nat.lt_or_ge g w.heap.size with h' | h'
   ·exact h'
   ·rw [Array.getElem?_eq_none h'] at h; simp at h
  rw [hk g hlt]
  exact h
instance tabsN : Tabs Tryz.prog := ⟨fun w => w.ShapedOpen Tryz.prog ∧ Lib.TabIs Tryz.prog w "internal/strconv.uint64pow10" .u64 Lib.pow10Tab, fun _ _ h hk _ => ⟨shaped_keep h.1 hk, tabIs_keep h.2 hk⟩⟩
instance tabsN_shp : Shp Tryz.prog := ⟨fun _ h => h.1⟩
instance tabsN_pow : Pow Tryz.prog := ⟨fun _ h => h.2⟩
end Go.Proofs.YtecphoceobgncaaGreatDoor
namespace Go.Proofs.YtecphoceobgncaaGreatDoor
open Go.RowKit Sx
structure CanW (u : UrlP) : Prop where
 host : hostE u.host = (0, u.host)
 port : ∃ n : Nat, u.port = n ∧ n ≤ 65535 ∧ n ≠ 443
 path : PathC u.path
 query : normL u.query queryKeep = (0, u.query)
 frag : normL u.frag queryKeep = (0, u.frag)
 noq : u.hq = false → u.query = []
 nof : u.hf = false → u.frag = []
 len : (fmtW u).length ≤ 4096
def partsW (u : UrlP) : UriP := ⟨httpsL, fmtH u.host u.port, u.path, u.query, u.frag, true, true, u.hq, u.hf⟩
theorem join_parts (u : UrlP) : joinU (partsW u) = fmtW u := by
 obtain ⟨h, p, pa, q, f, hq, hf⟩ := u
 unfold joinU partsW fmtW targetW httpsL
 cases hq <;> cases hf <;> simp
theorem qk256 : ∀ n : Fin 256, (okB pathKeep (UInt8.ofNat n.val) = true → hasB (UInt8.ofNat n.val) [63, 35] = false) ∧ (okB queryKeep (UInt8.ofNat n.val) = true → UInt8.ofNat n.val ≠ 35) := by decide +kernel
theorem qk_facts (c : UInt8) : (okB pathKeep c = true → hasB c [63, 35] = false) ∧ (okB queryKeep c = true → c ≠ 35) := by
 have := qk256 ⟨c.toNat, UInt8.toNat_lt c⟩
 simpa using this
theorem dg256 : ∀ n : Fin 256, isDigit (UInt8.ofNat n.val) = true → hasB (UInt8.ofNat n.val) [47, 63, 35, 64] = false := by decide +kernel
theorem dg_facts (c : UInt8) (h : isDigit c = true) : hasB c [47, 63, 35, 64] = false := by
 have := dg256 ⟨c.toNat, UInt8.toNat_lt c⟩
 simp only [UInt8.ofNat_toNat] at this
 exact this h
theorem auth_bytes {h : List UInt8} {n : Nat} (hh : hostE h = (0, h)) : ∀ c ∈ fmtH h n, hasB c [47, 63, 35, 64] = false := by
 intro c hc
 have hb : ∀ c ∈ h, hasB c [47, 63, 35, 64] = false := by
  intro c hc
  have := hb_facts c (host_bytes (by rw [hh]) c hc)
  unfold hasB at this ⊢
  simp only [List.contains_cons, List.contains_nil, Bool.or_false, Bool.or_eq_false_iff] at this ⊢
  exact ⟨this.2.2.1, this.2.2.2.1, this.2.2.2.2, this.2.1⟩
 unfold fmtH at hc
 split at hc
 ·exact hb c hc
 ·rw [itoa_nat] at hc
  simp only [List.mem_append, List.mem_cons, List.not_mem_nil, or_false] at hc
  rcases hc with (hc | hc) | hc
  ·exact hb c hc
  ·subst hc; decide
  ·exact dg_facts c (List.all_eq_true.1 (dec_all n n (Nat.le_refl _)).1 c hc)
theorem has_sub {c : UInt8} (h : hasB c [47, 63, 35, 64] = false) : hasB c [47, 63, 35] = false ∧ c ≠ 64 := by
 unfold hasB at h ⊢
 simp only [List.contains_cons, List.contains_nil, Bool.or_false, Bool.or_eq_false_iff] at h ⊢
 refine ⟨⟨h.1, h.2.1, h.2.2.1⟩, ?_⟩
 have := h.2.2.2
 simpa using this
theorem fmtW_pathlen (u : UrlP) : u.path.length ≤ (fmtW u).length := by
 unfold fmtW targetW
 split <;> simp only [List.length_append] <;> omega
theorem CanW.split {u : UrlP} (h : CanW u) : splitE (fmtW u) = (0, partsW u) := by
 obtain ⟨n, hn, _, _⟩ := h.port
 rw [← join_parts]
 have hl := h.len
 refine split_of_join (partsW u) rfl (by show schemeB httpsL = true; decide) (by show ∀ c ∈ httpsL, _; decide) rfl ?_ ?_ ?_ ?_ h.noq h.nof (by rw [join_parts]; omega)
 ·intro c hc
  have hc' : c ∈ fmtH u.host u.port := hc
  rw [hn] at hc'
  exact (has_sub (auth_bytes h.host c hc')).1
 ·exact .inr h.path.form
 ·intro c hc
  have h3 := fmtW_pathlen u
  have := List.all_eq_true.1 (norm_bytes_out (h.path.norm (by omega))) c hc
  exact (qk_facts c).1 this
 ·intro hm
  have := List.all_eq_true.1 (norm_bytes_out h.query) 35 hm
  exact (qk_facts 35).2 this rfl
theorem CanW.back {u : UrlP} (h : CanW u) : webE (fmtW u) = (0, u) := by
 obtain ⟨n, hn, hn1, hn2⟩ := h.port
 have hl := h.len
 have hpl := fmtW_pathlen u
 have ho : originE (partsW u) = (0, u.host, n) := by
  have e1 : eqL httpsL httpsL = true := by decide
  have h64 : (64 : UInt8) ∉ fmtH u.host n := fun hm => (has_sub (auth_bytes h.host 64 hm)).2 rfl
  unfold originE partsW
  simp only [e1]
  rw [hn, cutL_none 64 _ h64]
  simp only
  rw [hp_fmt h.host hn1 hn2]
  simp
 have hr : restE (partsW u) = (0, ⟨[], 0, u.path, u.query, u.frag, u.hq, u.hf⟩) := by
  unfold restE partsW
  simp only
  rw [h.path.norm (by omega), h.query, h.frag]
  simp only
  rw [h.path.slash]
  simp
 unfold webE
 rw [if_neg (by omega), h.split]
 simp only
 unfold webO
 rw [ho, hr]
 simp only
 have hu : urlOf u.host n ⟨[], 0, u.path, u.query, u.frag, u.hq, u.hf⟩ = u := by
  obtain ⟨a, b, c, d, e, f, g⟩ := u
  simp only at hn
  subst hn; rfl
 rw [hu]
 unfold webF
 rw [if_neg (by omega)]
 simp; omega
theorem CanW.valid {u : UrlP} (h : CanW u) : validW u = true := by
 unfold validW
 rw [h.back]; simp
theorem split_path_form (s : List UInt8) (h : (splitE s).2.ha = true) : (splitE s).2.path = [] ∨ ∃ r, (splitE s).2.path = 47 :: r := by
 unfold splitE at h ⊢
 split at h
 ·cases h
 ·rename_i h1
  split at h
  ·cases h
  ·rename_i h2
   rw [if_neg h1, if_neg h2]
   simp only at h ⊢
   unfold pathL
   rw [if_pos h]
   have ea : authL (hierL s) = firstL ((hierL s).drop 2) := by unfold authL; rw [if_pos h]
   rw [ea]
   generalize (hierL s).drop 2 = l
   unfold firstL
   rcases cutL_idx 47 l with ⟨_, h3, _⟩ | ⟨k, _, hk, h3, h4⟩
   ·rw [h3]; left; simp
   ·rw [h3]; right
    have e : (l.take k).length = k := by rw [List.length_take]; omega
    simp only [e]
    rw [List.drop_eq_getElem_cons hk]
    rw [List.getElem?_eq_getElem hk] at h4
    injection h4 with h4
    exact ⟨_, by rw [h4]⟩
theorem CanW.of {s : List UInt8} {u : UrlP} (h : webE s = (0, u)) : CanW u := by
 unfold webE at h
 split at h
 ·injection h with h1 _; cases h1
 ·split at h
  ·rename_i h1; injection h with h2 _; exact absurd h2 h1
  ·rename_i h0 h1
   simp only [Decidable.not_not] at h1
   have hj := split_join s h1
   have hpf := split_path_form s
   have hqq : (splitE s).2.hq = false → (splitE s).2.query = [] := by
    unfold splitE
    split
    ·intro _; rfl
    ·split
     ·intro _; rfl
     ·intro h1; simp only at h1 ⊢; exact ((cutL_len 63 _).2.2 h1).2
   have hff : (splitE s).2.hf = false → (splitE s).2.frag = [] := by
    unfold splitE
    split
    ·intro _; rfl
    ·split
     ·intro _; rfl
     ·intro h1; simp only at h1 ⊢; exact ((cutL_len 35 _).2.2 h1).2
   generalize (splitE s).2 = p at *
   unfold webO at h
   split at h
   ·rename_i h2; injection h with h3 _; exact absurd h3 h2
   ·rename_i h2
    simp only [Decidable.not_not] at h2
    split at h
    ·rename_i h3; injection h with h4 _; exact absurd h4 h3
    ·rename_i h3
     simp only [Decidable.not_not] at h3
     unfold webF at h
     split at h
     ·injection h with h4 _; cases h4
     ·rename_i h4
      injection h with _ h
      subst h
      have ho : p.ha = true ∧ hpE p.auth = (0, (originE p).2.1, (originE p).2.2) := by
       unfold originE at h2 ⊢
       split at h2
       ·cases h2
       ·rename_i g1; rw [if_neg g1]
        split at h2
        ·cases h2
        ·rename_i g2; rw [if_neg g2]
         split at h2
         ·cases h2
         ·rename_i g3; rw [if_neg g3]
          split at h2
          ·cases h2
          ·rename_i g4; rw [if_neg g4]
           exact ⟨by simpa using g3, by rw [← h2]⟩
      obtain ⟨k1, k2, k3, _, _⟩ := hp_again ho.2
      have hr : (normL p.path pathKeep).1 = 0 ∧ (normL p.query queryKeep).1 = 0 ∧ (normL p.frag queryKeep).1 = 0 ∧ (restE p).2 = ⟨[], 0, slashed (normL p.path pathKeep).2, (normL p.query queryKeep).2, (normL p.frag queryKeep).2, p.hq, p.hf⟩ := by
       unfold restE at h3 ⊢
       split at h3
       ·rename_i g; exact absurd h3 g
       ·rename_i g1; rw [if_neg g1]
        split at h3
        ·rename_i g; exact absurd h3 g
        ·rename_i g2; rw [if_neg g2]
         split at h3
         ·rename_i g; exact absurd h3 g
         ·rename_i g3; rw [if_neg g3]
          exact ⟨by simpa using g1, by simpa using g2, by simpa using g3, rfl⟩
      obtain ⟨r1, r2, r3, r4⟩ := hr
      rw [r4] at h4 ⊢
      have e2 : normL p.query queryKeep = (0, (normL p.query queryKeep).2) := by rw [← r2]
      have e3 : normL p.frag queryKeep = (0, (normL p.frag queryKeep).2) := by rw [← r3]
      refine ⟨k1, ⟨(originE p).2.2, rfl, k2, k3⟩, path_canon p.path (hpf ho.1) r1, (norm_once _ _ _ e2).1, (norm_once _ _ _ e3).1, ?_, ?_, by omega⟩
      ·intro hq
       show (normL p.query queryKeep).2 = []
       rw [hqq hq]; rfl
      ·intro hf
       show (normL p.frag queryKeep).2 = []
       rw [hff hf]; rfl
def bareW (u : UrlP) : UrlP := ⟨u.host, u.port, u.path, u.query, [], u.hq, false⟩
theorem CanW.bare {u : UrlP} (h : CanW u) : CanW (bareW u) := by
 refine ⟨h.host, h.port, h.path, h.query, rfl, h.noq, fun _ => rfl, ?_⟩
 have hl := h.len
 have : (fmtW (bareW u)).length ≤ (fmtW u).length := by
  have e : fmtW u = fmtW (bareW u) ++ (if u.hf = true then [35] ++ u.frag else []) := by
   unfold fmtW bareW targetW; simp
  rw [e, List.length_append]; omega
 omega
theorem CanW.rel {b u : UrlP} (hb : CanW b) (hu : CanW u) : relW b (fmtW u) = (0, u) := by
 unfold relW
 rw [hb.valid, hu.split]
 have hres : resolveU (splitE (fmtW b)).2 (partsW u) = partsW u := by
  unfold resolveU
  rw [if_pos (show (partsW u).hs = true from rfl)]
  show ({ partsW u with path := rdotsL u.path } : UriP) = partsW u
  rw [hu.path.dots]; rfl
 simp only
 rw [hres, join_parts, hu.back]
 have e1 : eqL (partsW u).scheme httpsL = true := by show eqL httpsL httpsL = true; decide
 rw [e1]; simp
end Go.Proofs.YtecphoceobgncaaGreatDoor
namespace Go.Proofs.YtecphoceobgncaaGreatDoor.Sx
open Go.RowKit
def subAV (b gen n : Nat) (xs : List AV) : AV → AV
 | .orow b' g' => if b' = b ∧ g' = gen then .row n xs else .orow b' g'
 | x => x
def subOB (b gen n : Nat) (xs : List AV) : OB → OB
 | .box T cs => .box T (cs.map (subAV b gen n xs))
 | x => x
def pubO (objs : List OB) (b gen n : Nat) (xs : List AV) : List OB := (objs.map (subOB b gen n xs)).set b .dead
def pubG (G : Gh) (b gen : Nat) : Gh := ⟨G.blk, fun x => if x = b then some (gen + 1, .slice none 0 0) else G.cur x⟩
theorem pubG_le {G : Gh} {b gen : Nat} {v : Value} (h : G.cur b = some (gen, v)) : G.le (pubG G b gen) where
 blk := fun _ _ h => h
 cur := fun x n w hx => by
  by_cases hb : x = b
  ·subst hb
   rw [h] at hx; injection hx with hx; injection hx with h1 h2
   exact ⟨gen + 1, .slice none 0 0, by simp [pubG], .inr (by omega)⟩
  ·exact ⟨n, w, by simp [pubG, hb, hx], .inl ⟨rfl, rfl⟩⟩
theorem pubG_own {G : Gh} {b gen : Nat} (hb : G.blk b = none) {x g : Nat} (h : (pubG G b gen).own x = some g) : x ≠ b ∧ G.own x = some g := by
 by_cases hx : x = b
 ·subst hx
  exfalso
  unfold Gh.own pubG at h
  simp only [hb] at h
  simp [Value.ownBlock] at h
 ·refine ⟨hx, ?_⟩
  unfold Gh.own pubG at h
  simp only [if_neg hx] at h
  exact h
def pubI (I : Imm) (G : Gh) (b : Nat) (w : World) : Imm := fun g o v => I g o v ∨ (w.cell? ⟨g, o, none⟩ = some v ∧ G.own b = some g)
theorem den_sub {G : Gh} {I : Imm} {objs : List OB} {w : World} (hm : MemOk G I objs w) {b E sz gen n : Nat} {xs : List AV} (hb : objs[b]? = some (.orow E sz gen n xs)) (x : AV) (y : Value) (h : Den G I x y) : Den (pubG G b gen) (pubI I G b w) (subAV b gen n xs x) y := by
 obtain ⟨v', vs, m1, m2, m3, m4, m5⟩ := hm.row b E sz gen n xs hb
 have hG := pubG_le m1
 have hI : Imm.le I (pubI I G b w) := fun _ _ _ h => .inl h
 have other : subAV b gen n xs x = x → Den (pubG G b gen) (pubI I G b w) (subAV b gen n xs x) y := fun e => by rw [e]; exact Den.mono hG hI x y h
 cases x with
 | orow b' g' =>
  by_cases hh : b' = b ∧ g' = gen
  ·obtain ⟨rfl, rfl⟩ := hh
   have e : subAV b' g' n xs (.orow b' g') = .row n xs := by simp [subAV]
   rw [e]
   simp only [Den] at h ⊢
   obtain ⟨g0, v, k1, k2, k3, _⟩ := h
   rw [k1] at m1; injection m1 with m1; injection m1 with m1 m6
   have hv := k3 m1.symm
   subst m1 m6 hv
   have hown := own_of_cur m5 k1
   have q1 := Dens.mono hG hI xs vs m3
   rcases m2.2 with ⟨rfl, rfl⟩ | ⟨g, cap, cur, rfl, hx1, hx2, hx3, hx4⟩
   ·have hvs : vs = [] := List.eq_nil_of_length_eq_zero (by simpa using m2.1)
    subst hvs
    exact ⟨none, 0, [], rfl, ⟨Nat.le_refl _, by intro _ e; cases e⟩, q1, by simp, by simp⟩
   ·refine ⟨some ⟨g, 0, none⟩, cap, vs, rfl, ⟨hx3, by rintro _ ⟨⟩ _; rfl⟩, q1, m4, fun j u hj => ⟨g, 0, rfl, .inr ⟨?_, hown⟩⟩⟩
    have := m2.cells (g := g) rfl j u hj
    rwa [add_plain] at this
  ·exact other (by simp only [subAV, if_neg hh])
 | _ => exact other rfl
theorem dens_sub {G : Gh} {I : Imm} {objs : List OB} {w : World} (hm : MemOk G I objs w) {b E sz gen n : Nat} {xs : List AV} (hb : objs[b]? = some (.orow E sz gen n xs)) : ∀ (l : List AV) (ys : List Value), Dens G I l ys → Dens (pubG G b gen) (pubI I G b w) (l.map (subAV b gen n xs)) ys
 | [], ys, h => by simpa [Dens] using h
 | x :: l, ys, h => by
  simp only [Dens] at h
  obtain ⟨y, ys', rfl, h1, h2⟩ := h
  exact Dens.cons (den_sub hm hb x y h1) (dens_sub hm hb l ys' h2)
theorem mem_pub {P : Program} [Tabs P] {C : Cx} {G : Gh} {I : Imm} {w : World} {objs : List OB} {b E sz gen n : Nat} {xs : List AV} (hb : objs[b]? = some (.orow E sz gen n xs)) (hin : In C G I w) (hm : MemOk G I objs w) :
  In C (pubG G b gen) (pubI I G b w) w ∧ MemOk (pubG G b gen) (pubI I G b w) (pubO objs b gen n xs) w := by
 obtain ⟨v', vs, m1, m2, m3, m4, m5⟩ := hm.row b E sz gen n xs hb
 have hlt : b < objs.length := by
  by_cases h : b < objs.length
  ·exact h
  ·rw [List.getElem?_eq_none (by omega)] at hb; cases hb
 have hG := pubG_le m1
 have hI : Imm.le I (pubI I G b w) := fun _ _ _ h => .inl h
 have hin' : In C (pubG G b gen) (pubI I G b w) w := {
  os := hin.os, tape := hin.tape, output := hin.output, size := hin.size, block := hin.block
  imm := fun g o v h => .inl (hin.imm g o v h)
  news := fun g o v h => by
   rcases h with h | ⟨_, h⟩
   ·exact hin.news g o v h
   ·exact .inr (hin.blk b g h)
  blk := fun x g h => hin.blk x g (pubG_own m5 h).2
  gh := hin.gh.trans hG }
 have hat : ∀ x o, (pubO objs b gen n xs)[x]? = some o → o = .dead ∨ (x ≠ b ∧ ∃ o', objs[x]? = some o' ∧ subOB b gen n xs o' = o) := by
  intro x o h
  unfold pubO at h
  by_cases hx : x = b
  ·subst hx
   rw [List.getElem?_set_self (by simpa using hlt)] at h
   injection h with h; exact .inl h.symm
  ·rw [List.getElem?_set_ne (Ne.symm hx), List.getElem?_map] at h
   obtain ⟨o', h1, h2⟩ := Option.map_eq_some_iff.1 h
   exact .inr ⟨hx, o', h1, h2⟩
 have hm' : MemOk (pubG G b gen) (pubI I G b w) (pubO objs b gen n xs) w := {
  imm := fun g o v h => by
   rcases h with h | ⟨h, _⟩
   ·exact hm.imm g o v h
   ·exact h
  box := fun x T cs h => by
   rcases hat x _ h with h | ⟨hx, o', h1, h2⟩
   ·cases h
   ·cases o' with
    | box T' cs' =>
     injection h2 with e1 e2
     subst e1 e2
     obtain ⟨g, ys, k1, k2, k3, k4⟩ := hm.box x _ _ h1
     exact ⟨g, ys, k1, k2, dens_sub hm hb _ _ k3, k4⟩
    | orow => cases h2
    | dead => cases h2
  row := fun x E' sz' gen' n' xs' h => by
   rcases hat x _ h with h | ⟨hx, o', h1, h2⟩
   ·cases h
   ·cases o' with
    | box T' cs' => cases h2
    | orow =>
     injection h2 with e1 e2 e3 e4 e5
     subst e1 e2 e3 e4 e5
     obtain ⟨v, ys, k1, k2, k3, k4, k5⟩ := hm.row x _ _ _ _ _ h1
     exact ⟨v, ys, by simp [pubG, hx, k1], k2, Dens.mono hG hI _ _ k3, k4, k5⟩
    | dead => cases h2
  inj := fun x x' g h h' => hm.inj x x' g (pubG_own m5 h).2 (pubG_own m5 h').2
  lt := fun x g h => hm.lt x g (pubG_own m5 h).2
  apart := fun x g o v h h' => by
   obtain ⟨hx, h1⟩ := pubG_own m5 h
   rcases h' with h' | ⟨_, h'⟩
   ·exact hm.apart x g o v h1 h'
   ·exact hx (hm.inj x b g h1 h')
  fresh := fun x hx => by
   have hx' : objs.length ≤ x := by simpa [pubO] using hx
   obtain ⟨k1, k2⟩ := hm.fresh x hx'
   exact ⟨k1, by simp [pubG, k2]; omega⟩ }
 exact ⟨hin', hm'⟩
end Go.Proofs.YtecphoceobgncaaGreatDoor.Sx
namespace Go.Proofs.YtecphoceobgncaaGreatDoor.Sx
open Go.RowKit
section
variable {P : Program} [Tabs P] {C : Cx} [On P C] {F : Post} {objs : List OB} {tm : List AV}
def Part (P : Program) (C : Cx) (sc : SCode) (F : Post) (objs : List OB) (tm : List AV) : Prop := WPS P C sc (ngK F) objs tm
theorem ptc_run {sc : SCode} (h : run P C [.code sc] objs tm F) : Part P C sc F objs tm := fun c ht => wpC_ng c sc F objs tm ht h
omit [Tabs P] [On P C] in
theorem ptc_seq {x y : SCode} (J : List OB → List AV → Prop) (hx : Part P C x (thenK J F) objs tm) (hy : ∀ o t, J o t → Part P C y F o t) : Part P C (.seq x y) F objs tm := by
 intro c ht
 induction c with
 | scope c ih => simp only [trC] at ht; exact WP.scope (ih ht)
 | seq a b _ _ =>
  simp only [trC] at ht
  split at ht
  ·rename_i sa sb ha hb
   injection ht with ht; injection ht with e1 e2; subst e1 e2
   refine WP.seq (WP.mono ?_ (hx a ha))
   intro e o t hk
   cases e with
   | normal => exact hy o t hk b hb
   | _ => exact hk
  ·cases ht
 | region id ops draw =>
  cases draw
  ·simp only [trC] at ht; split at ht
   ·cases ht
   ·split at ht <;> cases ht
  ·simp only [trC] at ht
   split at ht
   ·split at ht
    ·simp only [Option.map_eq_some_iff, reduceCtorEq, and_false, exists_false] at ht
    ·cases ht
   ·cases ht
 | cond c x y _ _ => simp only [trC] at ht; split at ht <;> cases ht
 | block id c _ => simp only [trC] at ht; cases h1 : trC P c <;> (rw [h1] at ht; cases ht)
 | loop c _ => simp only [trC] at ht; cases h1 : trC P c <;> (rw [h1] at ht; cases ht)
 | _ => simp [trC] at ht
def ptF (P : Program) (C : Cx) (y : SCode) (F : Post) : Post := thenK (fun o t => Part P C y F o t) F
omit [Tabs P] [On P C] in
theorem ptF_normal (y : SCode) : ptF P C y F .normal objs tm = Part P C y F objs tm := Eq.trans rfl rfl
omit [Tabs P] [On P C] in
theorem ptF_ret (y : SCode) : ptF P C y F .ret objs tm = F .ret objs tm := Eq.trans rfl rfl
theorem ptc_cut {x y : SCode} (h : run P C [.code x] objs tm (ptF P C y F)) : Part P C (.seq x y) F objs tm :=
 ptc_seq (fun o t => Part P C y F o t) (ptc_run h) (fun _ _ h => h)
theorem ptc_cutH {x y : SCode} (h : ∀ Y, Y = y → run P C [.code x] objs tm (ptF P C Y F)) : Part P C (.seq x y) F objs tm := ptc_cut (h y rfl)
end
section
variable {P : Program} [Tabs P]
theorem rel_pub (P : Program) [Tabs P] {C : Cx} {objs : List OB} {tm : List AV} {a : Act} {w : World} {b E sz gen n : Nat} {xs : List AV} (hb : objs[b]? = some (.orow E sz gen n xs)) (h : Rel C objs tm a w) : Rel C (pubO objs b gen n xs) (tm.map (subAV b gen n xs)) a w := by
 obtain ⟨G, I, hin, hm, hd, hdef⟩ := h
 obtain ⟨hin', hm'⟩ := mem_pub (P := P) hb hin hm
 exact ⟨_, _, hin', hm', dens_sub hm hb _ _ hd, hdef⟩
theorem ptc_pub {C : Cx} {sc : SCode} {F : Post} {objs : List OB} {tm : List AV} (b : Nat) {E sz gen n : Nat} {xs : List AV} (hb : objs[b]? = some (.orow E sz gen n xs)) (h : Part P C sc F (pubO objs b gen n xs) (tm.map (subAV b gen n xs))) : Part P C sc F objs tm :=
 fun c ht a w hr => h c ht a w (rel_pub P hb hr)
omit [Tabs P] in
theorem ptc_nil {C : Cx} {sc : SCode} {F : Post} {objs : List OB} {tm : List AV} (j : Nat) (hj : tm[j]? = some .nil) (h : Part P C sc F objs (tm.set j (.row 0 []))) : Part P C sc F objs tm := by
 intro c ht a w hr
 refine h c ht a w ?_
 obtain ⟨G, I, hin, hm, hd, hdef⟩ := hr
 refine ⟨G, I, hin, hm, Dens.set_same j _ hd fun y hy => ?_, hdef⟩
 obtain ⟨y', h1, h2⟩ := Dens.get j hd hj
 rw [h1] at hy; injection hy with hy; subst hy
 simp only [Den] at h2 ⊢
 exact ⟨none, 0, [], h2, ⟨Nat.le_refl _, fun ad h => by cases h⟩, Dens.nil, by simp, by simp⟩
theorem fn_part {f : FuncId} {n : Nat} {ss : List SRes} {sc : SCode} (hf : FnIs P f n ss sc) {args : List AV} {objs : List OB} {K : List OB → AV → Prop} (hp : plains args = true)
  (h : ∀ (C : Cx) [On P C], Part P C sc (endK ss (fun r => K objs r)) [] (args ++ List.replicate (n - args.length) (.o undef))) : CallOk P f args objs K := by
 intro C hOn G I w hin hm ys hd
 obtain ⟨fn, c, h1, h2, h3, h4, h5⟩ := hf.is
 let C' : Cx := ⟨w, fun _ => False, I, Gh.none⟩
 haveI hOn' : On P C' := ⟨hin.tab (P := P), fun _ h => h⟩
 have hwp := h C' c h5
 have hlen := hd.length
 have hrel : Rel C' [] (args ++ List.replicate (n - args.length) (.o undef)) { tmps := ys.toArray ++ Array.replicate (fn.ntmps - ys.toArray.size) undef, defers := [] } w := by
  refine ⟨Gh.none, I, ⟨rfl, rfl, rfl, Nat.le_refl _, fun _ _ _ => rfl, fun _ _ _ h => h, fun _ _ _ h => .inl h, fun b g hb => by simp [Gh.own, Gh.none] at hb, Gh.le.refl _⟩,
   ⟨hm.imm, by simp, by simp, fun b b' g hb => by simp [Gh.own, Gh.none] at hb, fun b g hb => by simp [Gh.own, Gh.none] at hb, fun b g o v hb => by simp [Gh.own, Gh.none] at hb, fun b _ => ⟨rfl, rfl⟩⟩, ?_, rfl⟩
  simp only [Array.toList_append, Array.toList_replicate, h3, List.size_toArray]
  refine Dens.append (Dens.plain (Imm.le.refl I) _ _ hp hd) ?_
  rw [hlen]
  have : ∀ k, Dens Gh.none I (List.replicate k (.o undef)) (List.replicate k undef) := by
   intro k
   induction k with
   | zero => exact Dens.nil
   | succ k ih => exact Dens.cons (by simp [Den]) ih
  exact this _
 refine calls_of_wp h1 h2 (wp_mono (hwp _ _ hrel) ?_)
 rintro e a' w' ⟨objs', tm', hk, G', I', hin', hm', hd', hdef⟩
 have key : outK ss (fun r => K objs r) objs' tm' →
   a'.defers = [] ∧ ∃ v, (results fn a'.tmps).run P w' = .ok v w' ∧ ∃ y objs'' r G'' I'', Ending.returned v = .returned y ∧ K objs'' r ∧ G.le G'' ∧ Imm.le I I'' ∧ In C G'' I'' w' ∧ MemOk G'' I'' objs'' w' ∧ Den G'' I'' r y := by
  intro hk
  unfold outK at hk
  split at hk
  ·rename_i r hr0
   obtain ⟨xs, hxs, hr⟩ := Option.bind_eq_some_iff.1 hr0
   ·obtain ⟨y, hy, hyd⟩ := results_run (P := P) (fn := fn) hm' hd' ss xs h4 hxs
    obtain ⟨p1, p2⟩ := pub_ok hm' 5 _ r y hr hyd
    have hg : w.grownBy w' none := ⟨hin'.os, hin'.tape, hin'.output, hin'.size, fun k hk _ => hin'.block k hk (fun h => h)⟩
    have hle : Imm.le I (I'.rows G' objs' w') := fun g o v hi => .inl (hin'.imm g o v hi)
    have hnew : ∀ g o v, I'.rows G' objs' w' g o v → I g o v ∨ w.heap.size ≤ g := by
     rintro g o v (hi | ⟨_, b, E, sz, gen, n, xs, hb, ho⟩)
     ·rcases hin'.news g o v hi with h | h | h
      ·exact .inl h
      ·exact h.elim
      ·exact .inr h
     ·rcases hin'.blk b g ho with h | h
      ·exact h.elim
      ·exact .inr h
    refine ⟨hdef, y, hy, y, objs, r, G, I'.rows G' objs' w', rfl, hk, Gh.le.refl G, hle, (hin.evolve hg (by simp)).imm_more hle ?_, (hm.evolve hg).imm_more hle ?_ ?_, Den.plain (Imm.le.refl _) r y p2 p1⟩
    ·intro g o v hi
     rcases hnew g o v hi with h | h
     ·exact .inl h
     ·exact .inr (.inr (Nat.le_trans hin.size h))
    ·rintro g o v (hi | ⟨hc, _⟩)
     ·exact hm'.imm g o v hi
     ·exact hc
    ·intro b g o v hb hi
     rcases hnew g o v hi with h | h
     ·exact hm.apart b g o v hb h
     ·have := hm.lt b g hb; omega
  ·exact hk.elim
 cases e with
 | normal => exact key hk
 | ret => exact key hk
 | _ => exact hk.elim
end
end Go.Proofs.YtecphoceobgncaaGreatDoor.Sx
namespace Go.Proofs.YtecphoceobgncaaGreatDoor
open List renaming replicate → z6
open Nat renaming reduceAdd → z7, reduceSub → z8, reduceLeDiff → j2, reduceLT → j3, reduceMul → j4, reduceEqDiff → j5
open Int renaming reduceToNat → j6, reduceAdd → j7, reduceSub → j8, reduceMul → j9, reduceNeg → x0, reduceLT → x3, reduceLE → x4, reduceEq → x5, reduceNe → x6
open Go.RowKit Sx
section
attribute [local irreducible] run
theorem sl_url : ∀ {gs : List (List AV)}, (∀ g ∈ gs, ShT (.st [.s, .i .i64, .s, .s, .s, .b, .b]) g) → ∃ l : List UrlP, gs.flatten = uscells l ∧ gs.length = l.length ∧ ∀ a ∈ l, a.host.length ≤ 140737488351232 ∧ a.path.length ≤ 140737488351232 ∧ a.query.length ≤ 140737488351232 ∧ a.frag.length ≤ 140737488351232 ∧ -9223372036854775808 ≤ a.port ∧ a.port ≤ 9223372036854775807
 | [], _ => ⟨[], rfl, rfl, by simp⟩
 | g :: gs, h => by
  obtain ⟨l, h1, h2, h3⟩ := sl_url (fun x hx => h x (List.mem_cons_of_mem _ hx))
  obtain ⟨_, _, rfl, ⟨ho, rfl, w1⟩, _, _, rfl, ⟨po, rfl, w2⟩, _, _, rfl, ⟨pa, rfl, w3⟩, _, _, rfl, ⟨qu, rfl, w4⟩, _, _, rfl, ⟨fr, rfl, w5⟩, _, _, rfl, ⟨hq, rfl⟩, _, _, rfl, ⟨hf, rfl⟩, rfl⟩ := h g (List.mem_cons_self ..)
  have p2 := wf_i64 w2
  refine ⟨⟨ho, po, pa, qu, fr, hq, hf⟩ :: l, by rw [List.flatten_cons, h1]; rfl, by rw [List.length_cons, List.length_cons, h2], fun a ha => ?_⟩
  rcases List.mem_cons.1 ha with rfl | ha
  ·exact ⟨w1, w3, w4, w5, p2⟩
  ·exact h3 a ha
def keepU (u : UrlP) : Bool := decide ((u.host.length : Int) + u.path.length + u.query.length + u.frag.length ≤ 1000)
theorem keepU_short {u : UrlP} (h : keepU u = true) (p : -9223372036854775808 ≤ u.port ∧ u.port ≤ 9223372036854775807) : ShortU u := by
 have := of_decide_eq_true h
 exact ⟨by omega, p.1, p.2, by omega, by omega, by omega⟩
theorem keepL_fewH {l : List (List UInt8 × List UInt8)} (h : keepHL l = true) : FewH l := by
 obtain ⟨h1, h2⟩ := keepHL_few h
 refine ⟨by omega, fun p hp => ?_, fun p hp => ?_⟩
 ·have := h2.len p hp; omega
 ·have := h2.len p hp; omega
section
variable [Tabs Tryz.prog] {objs : List OB} {K : List OB → AV → Prop}
set_option maxRecDepth 100000 in
theorem keepU_k (u : UrlP) (h1 : u.host.length ≤ 140737488351232) (h2 : u.path.length ≤ 140737488351232) (h3 : u.query.length ≤ 140737488351232) (h4 : u.frag.length ≤ 140737488351232) (hk : K objs (.b (keepU u))) : CallOk Tryz.prog 28 [urlAV u] objs K := by
 refine fn_rn is_keep_URL rfl fun C _ => ?_
 simp only [c_keep_URL, urlAV, sxZ, evs, evp, setd, SV.ev, AV.flat, AV.one, AV.cells, resAs, resA, tupA, pub, pubs, AV.plain, plains, srcOf, splice, fillA, eqA, eqAs, z6, z7, z8, j2, j3, j4, j5, j6, j7, j8, j9, x0, x3, x4, x5, x6, reduceCtorEq, ↓reduceIte]
 exact ⟨⟨by omega, by omega⟩, ⟨by omega, by omega⟩, ⟨by omega, by omega⟩, hk⟩
set_option maxRecDepth 100000 in
theorem to_k (s : List UInt8) (hk : K objs (hdAV 0 302 [(locL, s)])) : CallOk Tryz.prog 47 [.s s] objs K := by
 refine fn_rn is_law25_to rfl fun C _ => ?_
 unfold hdAV locL at hk
 simp only [fcells, List.flatMap_cons, List.flatMap_nil, List.length_cons, List.length_nil, List.cons_append, List.nil_append] at hk
 simp only [c_law25_to, sxZ, evs, evp, setd, SV.ev, AV.flat, AV.one, AV.cells, resAs, resA, tupA, pub, pubs, AV.plain, plains, srcOf, splice, fillA, eqA, eqAs, z6, z7, z8, j2, j3, j4, j5, j6, j7, j8, j9, x0, x3, x4, x5, x6, reduceCtorEq, ↓reduceIte]
 exact hk
theorem rNil_k [Pow Tryz.prog] (b : UrlP) (mi st : Int) (l : List (List UInt8 × List UInt8)) (hops : Int) (hb : ShortU b) (hf : FewH l) (hk : K objs (.tup [urlAV (nextE b l [] hops).2, .i .i64 (nextE b l [] hops).1])) :
  CallOk Tryz.prog 41 [urlAV b, hdAV mi st l, .nil, .i .i64 hops] objs K :=
 callok_weak (args' := [urlAV b, hdAV mi st l, .row (([] : List UrlP)).length (uscells []), .i .i64 hops]) (fun G I ys h => by
  simp only [Dens] at h ⊢
  obtain ⟨y1, _, rfl, d1, y2, _, rfl, d2, y3, r3, rfl, d3, d4⟩ := h
  exact ⟨_, _, rfl, d1, _, _, rfl, d2, _, _, rfl, den_nil_row d3, d4⟩) (rNext_k b mi st l [] hops hb hf (by simp) hk)
theorem rrNil_k (b : UrlP) (mi st : Int) (l : List (List UInt8 × List UInt8)) (hops : Int) (hb : ShortU b) (hf : FewH l) (hk : K objs (.tup [urlAV (nextE b l [] hops).2, .i .i64 (nextE b l [] hops).1])) :
  CallOk Tryz.prog 42 [urlAV b, hdAV mi st l, .nil, .i .i64 hops] objs K :=
 callok_weak (args' := [urlAV b, hdAV mi st l, .row (([] : List UrlP)).length (uscells []), .i .i64 hops]) (fun G I ys h => by
  simp only [Dens] at h ⊢
  obtain ⟨y1, _, rfl, d1, y2, _, rfl, d2, y3, r3, rfl, d3, d4⟩ := h
  exact ⟨_, _, rfl, d1, _, _, rfl, d2, _, _, rfl, den_nil_row d3, d4⟩) (rrNext_k b mi st l [] hops hb hf (by simp) hk)
set_option maxRecDepth 100000 in
theorem saneRe_k [Pow Tryz.prog] (hk : K objs (.b true)) : CallOk Tryz.prog 39 [] objs K := by
 have e1 : nextE ⟨[97, 46, 101, 120, 97, 109, 112, 108, 101], 0, [47, 98, 47, 99], [], [], false, false⟩ [(locL, [46, 46, 47, 120])] [] 0 = (0, ⟨[97, 46, 101, 120, 97, 109, 112, 108, 101], 0, [47, 120], [], [], false, false⟩) := by decide +kernel
 have e2 : nextE ⟨[97, 46, 101, 120, 97, 109, 112, 108, 101], 0, [47, 98, 47, 99], [], [], false, false⟩ [(locL, [104, 116, 116, 112, 58, 47, 47, 97, 46, 101, 120, 97, 109, 112, 108, 101, 47])] [] 0 = (253, urlZ) := by decide +kernel
 have e3 : isRedir 308 = true := by decide
 have e4 : isRedir 304 = false := by decide
 have hs : ShortU ⟨[97, 46, 101, 120, 97, 109, 112, 108, 101], 0, [47, 98, 47, 99], [], [], false, false⟩ := ⟨by decide, by decide, by decide, by decide, by decide, by decide⟩
 refine fn_rn is_law25_sane rfl fun C _ => ?_
 simp only [c_law25_sane, sxZ, evs, evp, setd, SV.ev, AV.flat, AV.one, AV.cells, resAs, resA, tupA, pub, pubs, AV.plain, plains, srcOf, splice, fillA, eqA, eqAs, z6, z7, z8, j2, j3, j4, j5, j6, j7, j8, j9, x0, x3, x4, x5, x6, reduceCtorEq, ↓reduceIte]
 refine kpcall (to_k _ rfl) rfl rfl ?_
 simp only [sxZ, evs, evp, setd, SV.ev, AV.flat, AV.one, AV.cells, resAs, resA, tupA, pub, pubs, AV.plain, plains, srcOf, splice, fillA, eqA, eqAs, z6, z7, z8, j2, j3, j4, j5, j6, j7, j8, j9, x0, x3, x4, x5, x6, reduceCtorEq, ↓reduceIte]
 refine kpcall (rNil_k _ 0 302 [(locL, [46, 46, 47, 120])] 0 hs ⟨by decide, by decide, by decide⟩ rfl) rfl rfl ?_
 rw [e1]
 simp only [urlAV, sxZ, evs, evp, setd, SV.ev, AV.flat, AV.one, AV.cells, resAs, resA, tupA, pub, pubs, AV.plain, plains, srcOf, splice, fillA, eqA, eqAs, z6, z7, z8, j2, j3, j4, j5, j6, j7, j8, j9, x0, x3, x4, x5, x6, reduceCtorEq, ↓reduceIte]
 refine kpcall (to_k _ rfl) rfl rfl ?_
 simp only [sxZ, evs, evp, setd, SV.ev, AV.flat, AV.one, AV.cells, resAs, resA, tupA, pub, pubs, AV.plain, plains, srcOf, splice, fillA, eqA, eqAs, z6, z7, z8, j2, j3, j4, j5, j6, j7, j8, j9, x0, x3, x4, x5, x6, reduceCtorEq, ↓reduceIte]
 refine kpcall (rNil_k _ 0 302 [(locL, [104, 116, 116, 112, 58, 47, 47, 97, 46, 101, 120, 97, 109, 112, 108, 101, 47])] 0 hs ⟨by decide, by decide, by decide⟩ rfl) rfl rfl ?_
 rw [e2]
 simp only [urlAV, urlZ, sxZ, evs, evp, setd, SV.ev, AV.flat, AV.one, AV.cells, resAs, resA, tupA, pub, pubs, AV.plain, plains, srcOf, splice, fillA, eqA, eqAs, z6, z7, z8, j2, j3, j4, j5, j6, j7, j8, j9, x0, x3, x4, x5, x6, reduceCtorEq, ↓reduceIte]
 refine kcall (isRedir_k 308 ?_)
 rw [e3]
 simp only [sxZ, evs, evp, setd, SV.ev, AV.flat, AV.one, AV.cells, resAs, resA, tupA, pub, pubs, AV.plain, plains, srcOf, splice, fillA, eqA, eqAs, z6, z7, z8, j2, j3, j4, j5, j6, j7, j8, j9, x0, x3, x4, x5, x6, reduceCtorEq, ↓reduceIte]
 refine kcall (isRedir_k 304 ?_)
 rw [e4]
 simp only [sxZ, evs, evp, setd, SV.ev, AV.flat, AV.one, AV.cells, resAs, resA, tupA, pub, pubs, AV.plain, plains, srcOf, splice, fillA, eqA, eqAs, z6, z7, z8, j2, j3, j4, j5, j6, j7, j8, j9, x0, x3, x4, x5, x6, reduceCtorEq, ↓reduceIte]
 exact hk
set_option maxRecDepth 100000 in
theorem redirectNext_c [Pow Tryz.prog] (l0 : List UInt8) (w0 : l0.length ≤ 140737488351232) (n1 : Int) (w1 : (Lit.int .i64 n1).wf = true) (l2 : List UInt8) (w2 : l2.length ≤ 140737488351232) (l3 : List UInt8) (w3 : l3.length ≤ 140737488351232) (l4 : List UInt8) (w4 : l4.length ≤ 140737488351232) (b5 b6 : Bool)
  (n7 : Int) (w7 : (Lit.int .i64 n7).wf = true) (n8 : Int) (w8 : (Lit.int .i64 n8).wf = true) (g9 : List (List AV)) (w9 : g9.length ≤ 140737488351232) (h9 : ∀ g ∈ g9, ShT (.st [.s, .s]) g)
  (g10 : List (List AV)) (w10 : g10.length ≤ 140737488351232) (h10 : ∀ g ∈ g10, ShT (.st [.s, .i .i64, .s, .s, .s, .b, .b]) g) (n11 : Int) (w11 : (Lit.int .i64 n11).wf = true) (n12 : Int) (w12 : (Lit.int .i64 n12).wf = true) :
  CallOk Tryz.prog 10 [.agg [.s l0, .i .i64 n1, .s l2, .s l3, .s l4, .b b5, .b b6], .agg [.i .i64 n7, .i .i64 n8, .row g9.length g9.flatten], .row g10.length g10.flatten, .i .i64 n11, .i .i64 n12] [] (fun _ r => r = .b true) := by
 obtain ⟨l, e1, e2, hl⟩ := sl_fld h9
 obtain ⟨seen, e3, e4, hs⟩ := sl_url h10
 rw [e1, e2, e3, e4]
 obtain ⟨u, hu⟩ : ∃ u : UrlP, u = ⟨l0, n1, l2, l3, l4, b5, b6⟩ := ⟨_, rfl⟩
 have hport := wf_i64 w1
 have hU1 : u.host.length ≤ 140737488351232 := by rw [hu]; exact w0
 have hU2 : u.path.length ≤ 140737488351232 := by rw [hu]; exact w2
 have hU3 : u.query.length ≤ 140737488351232 := by rw [hu]; exact w3
 have hU4 : u.frag.length ≤ 140737488351232 := by rw [hu]; exact w4
 have hU5 : -9223372036854775808 ≤ u.port ∧ u.port ≤ 9223372036854775807 := by rw [hu]; exact hport
 have hus : (.agg [.s l0, .i .i64 n1, .s l2, .s l3, .s l4, .b b5, .b b6] : AV) = urlAV u := by rw [hu]; rfl
 have hsl : seen.length ≤ 140737488351232 := by omega
 rw [hus]
 clear hus hu e1 e2 e3 e4 h9 h10
 show CallOk Tryz.prog 10 [urlAV u, hdAV n7 n8 l, .row seen.length (uscells seen), .i .i64 n11, .i .i64 n12] [] (fun _ r => r = .b true)
 refine fn_rn is_law25_RedirectNext (by simp [urlAV, hdAV, plains, AV.plain, fc_plain, us_plain]) fun C _ => ?_
 rw [c_law25_RedirectNext]
 refine rn_hide fun Y hY => ?_
 simp only [urlAV, hdAV, sxZ, evs, evp, setd, SV.ev, AV.flat, AV.one, AV.cells, resAs, resA, tupA, pub, pubs, AV.plain, plains, srcOf, splice, fillA, eqA, eqAs, z6, z7, z8, j2, j3, j4, j5, j6, j7, j8, j9, x0, x3, x4, x5, x6, reduceCtorEq, ↓reduceIte]
 subst hY
 refine rn_hide fun Y hY => ?_
 simp only [sxZ, evs, evp, setd, SV.ev, AV.flat, AV.one, AV.cells, resAs, resA, tupA, pub, pubs, AV.plain, plains, srcOf, splice, fillA, eqA, eqAs, z6, z7, z8, j2, j3, j4, j5, j6, j7, j8, j9, x0, x3, x4, x5, x6, reduceCtorEq, ↓reduceIte]
 refine kcall (saneRe_k ?_)
 simp only [sxZ, evs, evp, setd, SV.ev, AV.flat, AV.one, AV.cells, resAs, resA, tupA, pub, pubs, AV.plain, plains, srcOf, splice, fillA, eqA, eqAs, z6, z7, z8, j2, j3, j4, j5, j6, j7, j8, j9, x0, x3, x4, x5, x6, reduceCtorEq, ↓reduceIte]
 subst hY
 refine rn_hide fun Y hY => ?_
 simp only [sxZ, evs, evp, setd, SV.ev, AV.flat, AV.one, AV.cells, resAs, resA, tupA, pub, pubs, AV.plain, plains, srcOf, splice, fillA, eqA, eqAs, z6, z7, z8, j2, j3, j4, j5, j6, j7, j8, j9, x0, x3, x4, x5, x6, reduceCtorEq, ↓reduceIte]
 refine kcall (keepU_k u hU1 hU2 hU3 hU4 ?_)
 by_cases c1 : keepU u = true
 ·simp only [c1, sxZ, evs, evp, setd, SV.ev, AV.flat, AV.one, AV.cells, resAs, resA, tupA, pub, pubs, AV.plain, plains, srcOf, splice, fillA, eqA, eqAs, z6, z7, z8, j2, j3, j4, j5, j6, j7, j8, j9, x0, x3, x4, x5, x6, reduceCtorEq, ↓reduceIte]
  refine kcall (keepHead_k n7 n8 l hl ?_)
  by_cases c2 : keepHL l = true
  ·simp only [c2, sxZ, evs, evp, setd, SV.ev, AV.flat, AV.one, AV.cells, resAs, resA, tupA, pub, pubs, AV.plain, plains, srcOf, splice, fillA, eqA, eqAs, z6, z7, z8, j2, j3, j4, j5, j6, j7, j8, j9, x0, x3, x4, x5, x6, reduceCtorEq, ↓reduceIte]
   by_cases c3 : (20 : Int) < seen.length
   ·simp only [c3, sxZ, evs, evp, setd, SV.ev, AV.flat, AV.one, AV.cells, resAs, resA, tupA, pub, pubs, AV.plain, plains, srcOf, splice, fillA, eqA, eqAs, z6, z7, z8, j2, j3, j4, j5, j6, j7, j8, j9, x0, x3, x4, x5, x6, reduceCtorEq, ↓reduceIte]
   ·have hsu := keepU_short c1 hU5
    have hfh := keepL_fewH c2
    simp only [c3, sxZ, evs, evp, setd, SV.ev, AV.flat, AV.one, AV.cells, resAs, resA, tupA, pub, pubs, AV.plain, plains, srcOf, splice, fillA, eqA, eqAs, z6, z7, z8, j2, j3, j4, j5, j6, j7, j8, j9, x0, x3, x4, x5, x6, reduceCtorEq, ↓reduceIte]
    subst hY
    refine rn_hide fun Y hY => ?_
    simp only [sxZ, evs, evp, setd, SV.ev, AV.flat, AV.one, AV.cells, resAs, resA, tupA, pub, pubs, AV.plain, plains, srcOf, splice, fillA, eqA, eqAs, z6, z7, z8, j2, j3, j4, j5, j6, j7, j8, j9, x0, x3, x4, x5, x6, reduceCtorEq, ↓reduceIte]
    refine rn_loop (fun n o tm => ∃ (i : Nat) (more : List OB), i ≤ seen.length ∧ n = seen.length - i ∧ o = .box 48 (ucells u) :: .box 71 [.i .i64 n7, .i .i64 n8, .row l.length (fcells l)] :: more ∧ tm.length = 73 ∧ tm[2]? = some (.row seen.length (uscells seen)) ∧ tm[3]? = some (.i .i64 n11) ∧ tm[4]? = some (.i .i64 n12) ∧ tm[5]? = some (.p 0 0) ∧ tm[6]? = some (.p 1 0) ∧ tm[32]? = some (.row seen.length (uscells seen)) ∧ tm[33]? = some (.i .i64 seen.length) ∧ tm[34]? = some (.i .i64 i)) seen.length ⟨0, [], by omega, rfl, rfl, rfl, rfl, rfl, rfl, rfl, rfl, rfl, rfl, rfl⟩ ?_
    rintro n o tm ⟨i, more, hi, rfl, rfl, hlen, t2, t3, t4, t5, t6, t32, t33, t34⟩
    by_cases hlt : (i : Int) < seen.length
    ·have hlt' : i < seen.length := by omega
     have hat := uc_at hlt'
     have hul := uscells_len seen
     obtain ⟨a, ha⟩ : ∃ a, a = seen[i] := ⟨_, rfl⟩
     have ham : a ∈ seen := by rw [ha]; exact List.getElem_mem hlt'
     obtain ⟨q1, q2, q3, q4, q5⟩ := hs a ham
     rw [← ha] at hat
     simp only [ucells, sxZ, evs, evp, setd, SV.ev, AV.flat, AV.one, AV.cells, resAs, resA, tupA, pub, pubs, AV.plain, plains, srcOf, splice, fillA, eqA, eqAs, z6, z7, z8, j2, j3, j4, j5, j6, j7, j8, j9, x0, x3, x4, x5, x6, reduceCtorEq, ↓reduceIte, List.getElem?_set, hlen, t2, t3, t4, t5, t6, t32, t33, t34, hlt, Int.toNat_natCast, hat, gn1, sn1]
     refine ⟨⟨by omega, by omega⟩, by omega, ?_⟩
     refine kcall (keepU_k a q1 q2 q3 q4 ?_)
     by_cases c5 : keepU a = true
     ·simp only [c5, sxZ, evs, evp, setd, SV.ev, AV.flat, AV.one, AV.cells, resAs, resA, tupA, pub, pubs, AV.plain, plains, srcOf, splice, fillA, eqA, eqAs, z6, z7, z8, j2, j3, j4, j5, j6, j7, j8, j9, x0, x3, x4, x5, x6, reduceCtorEq, ↓reduceIte, List.getElem?_set, hlen, t2, t3, t4, t5, t6, t32, t33, t34, gn1, sn1]
      exact ⟨⟨by omega, by omega⟩, seen.length - (i + 1), by omega, i + 1, _, by omega, rfl, rfl, rfl⟩
     ·simp only [c5, sxZ, evs, evp, setd, SV.ev, AV.flat, AV.one, AV.cells, resAs, resA, tupA, pub, pubs, AV.plain, plains, srcOf, splice, fillA, eqA, eqAs, z6, z7, z8, j2, j3, j4, j5, j6, j7, j8, j9, x0, x3, x4, x5, x6, reduceCtorEq, ↓reduceIte, List.getElem?_set, hlen, t2, t3, t4, t5, t6, t32, t33, t34]
    ·simp only [ucells, sxZ, evs, evp, setd, SV.ev, AV.flat, AV.one, AV.cells, resAs, resA, tupA, pub, pubs, AV.plain, plains, srcOf, splice, fillA, eqA, eqAs, z6, z7, z8, j2, j3, j4, j5, j6, j7, j8, j9, x0, x3, x4, x5, x6, reduceCtorEq, ↓reduceIte, List.getElem?_set, hlen, t2, t3, t4, t5, t6, t32, t33, t34, hlt]
     subst hY
     refine rn_hide fun Y hY => ?_
     simp only [sxZ, evs, evp, setd, SV.ev, AV.flat, AV.one, AV.cells, resAs, resA, tupA, pub, pubs, AV.plain, plains, srcOf, splice, fillA, eqA, eqAs, z6, z7, z8, j2, j3, j4, j5, j6, j7, j8, j9, x0, x3, x4, x5, x6, reduceCtorEq, ↓reduceIte, List.getElem?_set, hlen, t2, t3, t4, t5, t6, t32, t33, t34]
     refine kcall (rNext_k u n7 n8 l seen n11 hsu hfh (by omega) ?_)
     generalize hq : nextE u l seen n11 = q
     obtain ⟨e, v⟩ := q
     simp only [urlAV, sxZ, evs, evp, setd, SV.ev, AV.flat, AV.one, AV.cells, resAs, resA, tupA, pub, pubs, AV.plain, plains, srcOf, splice, fillA, eqA, eqAs, z6, z7, z8, j2, j3, j4, j5, j6, j7, j8, j9, x0, x3, x4, x5, x6, reduceCtorEq, ↓reduceIte, List.getElem?_set, hlen, t2, t3, t4, t5, t6, gn1, sn1]
     subst hY
     refine rn_hide fun Y hY => ?_
     obtain ⟨N, hN⟩ : ∃ N, N = more ++ [OB.box 48 (ucells v)] := ⟨_, rfl⟩
     have hx : ∀ y, (N ++ [y])[more.length]? = some (OB.box 48 (ucells v)) := fun y => by rw [hN]; simp
     unfold ucells at hN hx
     rw [← hN]
     simp only [sxZ, evs, evp, setd, SV.ev, AV.flat, AV.one, AV.cells, resAs, resA, tupA, pub, pubs, AV.plain, plains, srcOf, splice, fillA, eqA, eqAs, z6, z7, z8, j2, j3, j4, j5, j6, j7, j8, j9, x0, x3, x4, x5, x6, reduceCtorEq, ↓reduceIte, List.getElem?_set, hlen, t2, t3, t4, t5, t6, gn1, sn1]
     refine kcall (rrNext_k u n7 n8 l seen n11 hsu hfh (by omega) ?_)
     rw [hq]
     simp only [urlAV, sxZ, evs, evp, setd, SV.ev, AV.flat, AV.one, AV.cells, resAs, resA, tupA, pub, pubs, AV.plain, plains, srcOf, splice, fillA, eqA, eqAs, z6, z7, z8, j2, j3, j4, j5, j6, j7, j8, j9, x0, x3, x4, x5, x6, reduceCtorEq, ↓reduceIte, List.getElem?_set, hlen, t2, t3, t4, t5, t6, gn1, sn1]
     subst hY
     refine rn_hide fun Y hY => ?_
     simp only [sxZ, evs, evp, setd, SV.ev, AV.flat, AV.one, AV.cells, resAs, resA, tupA, pub, pubs, AV.plain, plains, srcOf, splice, fillA, eqA, eqAs, z6, z7, z8, j2, j3, j4, j5, j6, j7, j8, j9, x0, x3, x4, x5, x6, reduceCtorEq, ↓reduceIte, List.getElem?_set, hlen, t4]
     refine kcall (isRedir_k n12 ?_)
     simp only [sxZ, evs, evp, setd, SV.ev, AV.flat, AV.one, AV.cells, resAs, resA, tupA, pub, pubs, AV.plain, plains, srcOf, splice, fillA, eqA, eqAs, z6, z7, z8, j2, j3, j4, j5, j6, j7, j8, j9, x0, x3, x4, x5, x6, reduceCtorEq, ↓reduceIte, List.getElem?_set, hlen, t4]
     refine kcall (risRedir_k n12 ?_)
     simp only [sxZ, evs, evp, setd, SV.ev, AV.flat, AV.one, AV.cells, resAs, resA, tupA, pub, pubs, AV.plain, plains, srcOf, splice, fillA, eqA, eqAs, z6, z7, z8, j2, j3, j4, j5, j6, j7, j8, j9, x0, x3, x4, x5, x6, reduceCtorEq, ↓reduceIte, List.getElem?_set, hlen, gn1, hx]
     subst hY
     simp only [sxZ, evs, evp, setd, SV.ev, AV.flat, AV.one, AV.cells, resAs, resA, tupA, pub, pubs, AV.plain, plains, srcOf, splice, fillA, eqA, eqAs, z6, z7, z8, j2, j3, j4, j5, j6, j7, j8, j9, x0, x3, x4, x5, x6, reduceCtorEq, ↓reduceIte, List.getElem?_set, hlen]
  ·simp only [c2, sxZ, evs, evp, setd, SV.ev, AV.flat, AV.one, AV.cells, resAs, resA, tupA, pub, pubs, AV.plain, plains, srcOf, splice, fillA, eqA, eqAs, z6, z7, z8, j2, j3, j4, j5, j6, j7, j8, j9, x0, x3, x4, x5, x6, reduceCtorEq, ↓reduceIte]
 ·simp only [c1, sxZ, evs, evp, setd, SV.ev, AV.flat, AV.one, AV.cells, resAs, resA, tupA, pub, pubs, AV.plain, plains, srcOf, splice, fillA, eqA, eqAs, z6, z7, z8, j2, j3, j4, j5, j6, j7, j8, j9, x0, x3, x4, x5, x6, reduceCtorEq, ↓reduceIte]
end
end
section
attribute [local irreducible] run
theorem toH_few {b : List UInt8} (h : b.length ≤ 500) : FewH [(locL, b)] := by
 refine ⟨by simp, fun p hp => ?_, fun p hp => ?_⟩ <;> (rw [List.mem_singleton.1 hp]; simp [locL]; try omega)
section
variable [Tabs Tryz.prog] {objs : List OB} {K : List OB → AV → Prop}
set_option maxRecDepth 100000 in
theorem redirectTexts_c [Pow Tryz.prog] (l0 : List UInt8) (w0 : l0.length ≤ 140737488351232) (l1 : List UInt8) (w1 : l1.length ≤ 140737488351232) (b2 : Bool) (n3 : Int) (w3 : (Lit.int .i64 n3).wf = true) :
  CallOk Tryz.prog 11 [.s l0, .s l1, .b b2, .i .i64 n3] [] (fun _ r => r = .b true) := by
 have hm : maxLen = 2 ^ 63 - 1 := rfl
 refine fn_part is_law25_RedirectTexts rfl fun C _ => ?_
 rw [c_law25_RedirectTexts]
 refine ptc_cut ?_
 simp only [sxZ, evs, evp, setd, SV.ev, AV.flat, AV.one, AV.cells, resAs, resA, tupA, pub, pubs, AV.plain, plains, srcOf, splice, fillA, eqA, eqAs, z6, z7, z8, j2, j3, j4, j5, j6, j7, j8, j9, x0, x3, x4, x5, x6, reduceCtorEq, ↓reduceIte, ptF_normal]
 refine ptc_cut ?_
 simp only [sxZ, evs, evp, setd, SV.ev, AV.flat, AV.one, AV.cells, resAs, resA, tupA, pub, pubs, AV.plain, plains, srcOf, splice, fillA, eqA, eqAs, z6, z7, z8, j2, j3, j4, j5, j6, j7, j8, j9, x0, x3, x4, x5, x6, reduceCtorEq, ↓reduceIte]
 refine kcall (saneRe_k ?_)
 simp only [sxZ, evs, evp, setd, SV.ev, AV.flat, AV.one, AV.cells, resAs, resA, tupA, pub, pubs, AV.plain, plains, srcOf, splice, fillA, eqA, eqAs, z6, z7, z8, j2, j3, j4, j5, j6, j7, j8, j9, x0, x3, x4, x5, x6, reduceCtorEq, ↓reduceIte, ptF_normal]
 refine ptc_cut ?_
 by_cases c1 : (500 : Int) < l0.length
 ·simp only [c1, sxZ, evs, evp, setd, SV.ev, AV.flat, AV.one, AV.cells, resAs, resA, tupA, pub, pubs, AV.plain, plains, srcOf, splice, fillA, eqA, eqAs, z6, z7, z8, j2, j3, j4, j5, j6, j7, j8, j9, x0, x3, x4, x5, x6, reduceCtorEq, ↓reduceIte, ptF_ret]
 by_cases c2 : (500 : Int) < l1.length
 ·simp only [c1, c2, sxZ, evs, evp, setd, SV.ev, AV.flat, AV.one, AV.cells, resAs, resA, tupA, pub, pubs, AV.plain, plains, srcOf, splice, fillA, eqA, eqAs, z6, z7, z8, j2, j3, j4, j5, j6, j7, j8, j9, x0, x3, x4, x5, x6, reduceCtorEq, ↓reduceIte, ptF_ret]
 have hb : FewH [(locL, l1)] := toH_few (by omega)
 simp only [c1, c2, sxZ, evs, evp, setd, SV.ev, AV.flat, AV.one, AV.cells, resAs, resA, tupA, pub, pubs, AV.plain, plains, srcOf, splice, fillA, eqA, eqAs, z6, z7, z8, j2, j3, j4, j5, j6, j7, j8, j9, x0, x3, x4, x5, x6, reduceCtorEq, ↓reduceIte, ptF_normal]
 refine ptc_cut ?_
 simp only [sxZ, evs, evp, setd, SV.ev, AV.flat, AV.one, AV.cells, resAs, resA, tupA, pub, pubs, AV.plain, plains, srcOf, splice, fillA, eqA, eqAs, z6, z7, z8, j2, j3, j4, j5, j6, j7, j8, j9, x0, x3, x4, x5, x6, reduceCtorEq, ↓reduceIte]
 refine kcall (rwParse_k l0 (by omega) ?_)
 have hu := web_lens l0
 generalize (webE l0).2 = u at hu ⊢
 generalize (webE l0).1 = e0
 simp only [urlAV, sxZ, evs, evp, setd, SV.ev, AV.flat, AV.one, AV.cells, resAs, resA, tupA, pub, pubs, AV.plain, plains, srcOf, splice, fillA, eqA, eqAs, z6, z7, z8, j2, j3, j4, j5, j6, j7, j8, j9, x0, x3, x4, x5, x6, reduceCtorEq, ↓reduceIte, ptF_normal]
 refine ptc_cut ?_
 simp only [sxZ, evs, evp, setd, SV.ev, AV.flat, AV.one, AV.cells, resAs, resA, tupA, pub, pubs, AV.plain, plains, srcOf, splice, fillA, eqA, eqAs, z6, z7, z8, j2, j3, j4, j5, j6, j7, j8, j9, x0, x3, x4, x5, x6, reduceCtorEq, ↓reduceIte, ptF_normal]
 refine ptc_cut ?_
 simp only [sxZ, evs, evp, setd, SV.ev, AV.flat, AV.one, AV.cells, resAs, resA, tupA, pub, pubs, AV.plain, plains, srcOf, splice, fillA, eqA, eqAs, z6, z7, z8, j2, j3, j4, j5, j6, j7, j8, j9, x0, x3, x4, x5, x6, reduceCtorEq, ↓reduceIte]
 refine kcall (rwRel_k u l1 hu (by omega) ?_)
 generalize relW u l1 = q
 obtain ⟨e, x⟩ := q
 simp only [urlAV, sxZ, evs, evp, setd, SV.ev, AV.flat, AV.one, AV.cells, resAs, resA, tupA, pub, pubs, AV.plain, plains, srcOf, splice, fillA, eqA, eqAs, z6, z7, z8, j2, j3, j4, j5, j6, j7, j8, j9, x0, x3, x4, x5, x6, reduceCtorEq, ↓reduceIte]
 by_cases c3 : b2 = true ∧ e = 0
 ·obtain ⟨rfl, rfl⟩ := c3
  simp only [sxZ, evs, evp, setd, SV.ev, AV.flat, AV.one, AV.cells, resAs, resA, tupA, pub, pubs, AV.plain, plains, srcOf, splice, fillA, eqA, eqAs, z6, z7, z8, j2, j3, j4, j5, j6, j7, j8, j9, x0, x3, x4, x5, x6, reduceCtorEq, ↓reduceIte]
  refine kcall (rBare_k x ?_)
  simp only [bareU, urlAV, sxZ, evs, evp, setd, SV.ev, AV.flat, AV.one, AV.cells, resAs, resA, tupA, pub, pubs, AV.plain, plains, srcOf, splice, fillA, eqA, eqAs, z6, z7, z8, j2, j3, j4, j5, j6, j7, j8, j9, x0, x3, x4, x5, x6, reduceCtorEq, ↓reduceIte, ptF_normal]
  obtain ⟨q1, hq1⟩ : ∃ q1, nextE u [(locL, l1)] [bareU x] n3 = q1 := ⟨_, rfl⟩
  refine ptc_pub 2 rfl ?_
  simp only [pubO, subOB, subAV, List.map_cons, List.map_nil, List.set_cons_succ, List.set_cons_zero, and_self, if_true]
  refine ptc_run ?_
  refine rn_hide fun Y hY => ?_
  simp only [sxZ, evs, evp, setd, SV.ev, AV.flat, AV.one, AV.cells, resAs, resA, tupA, pub, pubs, AV.plain, plains, srcOf, splice, fillA, eqA, eqAs, z6, z7, z8, j2, j3, j4, j5, j6, j7, j8, j9, x0, x3, x4, x5, x6, reduceCtorEq, ↓reduceIte]
  refine kpcall (to_k l1 rfl) rfl rfl ?_
  simp only [sxZ, evs, evp, setd, SV.ev, AV.flat, AV.one, AV.cells, resAs, resA, tupA, pub, pubs, AV.plain, plains, srcOf, splice, fillA, eqA, eqAs, z6, z7, z8, j2, j3, j4, j5, j6, j7, j8, j9, x0, x3, x4, x5, x6, reduceCtorEq, ↓reduceIte]
  refine kpcall (rNext_k u 0 302 [(locL, l1)] [bareU x] n3 hu hb (by simp) rfl) rfl rfl ?_
  rw [hq1]
  simp only [urlAV, sxZ, evs, evp, setd, SV.ev, AV.flat, AV.one, AV.cells, resAs, resA, tupA, pub, pubs, AV.plain, plains, srcOf, splice, fillA, eqA, eqAs, z6, z7, z8, j2, j3, j4, j5, j6, j7, j8, j9, x0, x3, x4, x5, x6, reduceCtorEq, ↓reduceIte]
  subst hY
  refine rn_hide fun Y hY => ?_
  simp only [sxZ, evs, evp, setd, SV.ev, AV.flat, AV.one, AV.cells, resAs, resA, tupA, pub, pubs, AV.plain, plains, srcOf, splice, fillA, eqA, eqAs, z6, z7, z8, j2, j3, j4, j5, j6, j7, j8, j9, x0, x3, x4, x5, x6, reduceCtorEq, ↓reduceIte]
  refine kpcall (to_k l1 rfl) rfl rfl ?_
  simp only [sxZ, evs, evp, setd, SV.ev, AV.flat, AV.one, AV.cells, resAs, resA, tupA, pub, pubs, AV.plain, plains, srcOf, splice, fillA, eqA, eqAs, z6, z7, z8, j2, j3, j4, j5, j6, j7, j8, j9, x0, x3, x4, x5, x6, reduceCtorEq, ↓reduceIte]
  refine kpcall (rrNext_k u 0 302 [(locL, l1)] [bareU x] n3 hu hb (by simp) rfl) rfl rfl ?_
  rw [hq1]
  simp only [urlAV, sxZ, evs, evp, setd, SV.ev, AV.flat, AV.one, AV.cells, resAs, resA, tupA, pub, pubs, AV.plain, plains, srcOf, splice, fillA, eqA, eqAs, z6, z7, z8, j2, j3, j4, j5, j6, j7, j8, j9, x0, x3, x4, x5, x6, reduceCtorEq, ↓reduceIte]
  subst hY
  simp only [sxZ, evs, evp, setd, SV.ev, AV.flat, AV.one, AV.cells, resAs, resA, tupA, pub, pubs, AV.plain, plains, srcOf, splice, fillA, eqA, eqAs, z6, z7, z8, j2, j3, j4, j5, j6, j7, j8, j9, x0, x3, x4, x5, x6, reduceCtorEq, ↓reduceIte]
 ·obtain ⟨q1, hq1⟩ : ∃ q1, nextE u [(locL, l1)] [] n3 = q1 := ⟨_, rfl⟩
  by_cases c4 : b2 = true
  ·have c5 : ¬ e = 0 := fun h => c3 ⟨c4, h⟩
   simp only [c4, c5, sxZ, evs, evp, setd, SV.ev, AV.flat, AV.one, AV.cells, resAs, resA, tupA, pub, pubs, AV.plain, plains, srcOf, splice, fillA, eqA, eqAs, z6, z7, z8, j2, j3, j4, j5, j6, j7, j8, j9, x0, x3, x4, x5, x6, reduceCtorEq, ↓reduceIte, ptF_normal]
   refine ptc_run ?_
   refine rn_hide fun Y hY => ?_
   simp only [sxZ, evs, evp, setd, SV.ev, AV.flat, AV.one, AV.cells, resAs, resA, tupA, pub, pubs, AV.plain, plains, srcOf, splice, fillA, eqA, eqAs, z6, z7, z8, j2, j3, j4, j5, j6, j7, j8, j9, x0, x3, x4, x5, x6, reduceCtorEq, ↓reduceIte]
   refine kpcall (to_k l1 rfl) rfl rfl ?_
   simp only [sxZ, evs, evp, setd, SV.ev, AV.flat, AV.one, AV.cells, resAs, resA, tupA, pub, pubs, AV.plain, plains, srcOf, splice, fillA, eqA, eqAs, z6, z7, z8, j2, j3, j4, j5, j6, j7, j8, j9, x0, x3, x4, x5, x6, reduceCtorEq, ↓reduceIte]
   refine kpcall (rNil_k u 0 302 [(locL, l1)] n3 hu hb rfl) rfl rfl ?_
   rw [hq1]
   simp only [urlAV, sxZ, evs, evp, setd, SV.ev, AV.flat, AV.one, AV.cells, resAs, resA, tupA, pub, pubs, AV.plain, plains, srcOf, splice, fillA, eqA, eqAs, z6, z7, z8, j2, j3, j4, j5, j6, j7, j8, j9, x0, x3, x4, x5, x6, reduceCtorEq, ↓reduceIte]
   subst hY
   refine rn_hide fun Y hY => ?_
   simp only [sxZ, evs, evp, setd, SV.ev, AV.flat, AV.one, AV.cells, resAs, resA, tupA, pub, pubs, AV.plain, plains, srcOf, splice, fillA, eqA, eqAs, z6, z7, z8, j2, j3, j4, j5, j6, j7, j8, j9, x0, x3, x4, x5, x6, reduceCtorEq, ↓reduceIte]
   refine kpcall (to_k l1 rfl) rfl rfl ?_
   simp only [sxZ, evs, evp, setd, SV.ev, AV.flat, AV.one, AV.cells, resAs, resA, tupA, pub, pubs, AV.plain, plains, srcOf, splice, fillA, eqA, eqAs, z6, z7, z8, j2, j3, j4, j5, j6, j7, j8, j9, x0, x3, x4, x5, x6, reduceCtorEq, ↓reduceIte]
   refine kpcall (rrNil_k u 0 302 [(locL, l1)] n3 hu hb rfl) rfl rfl ?_
   rw [hq1]
   simp only [urlAV, sxZ, evs, evp, setd, SV.ev, AV.flat, AV.one, AV.cells, resAs, resA, tupA, pub, pubs, AV.plain, plains, srcOf, splice, fillA, eqA, eqAs, z6, z7, z8, j2, j3, j4, j5, j6, j7, j8, j9, x0, x3, x4, x5, x6, reduceCtorEq, ↓reduceIte]
   subst hY
   simp only [sxZ, evs, evp, setd, SV.ev, AV.flat, AV.one, AV.cells, resAs, resA, tupA, pub, pubs, AV.plain, plains, srcOf, splice, fillA, eqA, eqAs, z6, z7, z8, j2, j3, j4, j5, j6, j7, j8, j9, x0, x3, x4, x5, x6, reduceCtorEq, ↓reduceIte]
  ·simp only [c4, sxZ, evs, evp, setd, SV.ev, AV.flat, AV.one, AV.cells, resAs, resA, tupA, pub, pubs, AV.plain, plains, srcOf, splice, fillA, eqA, eqAs, z6, z7, z8, j2, j3, j4, j5, j6, j7, j8, j9, x0, x3, x4, x5, x6, reduceCtorEq, ↓reduceIte, ptF_normal]
   refine ptc_run ?_
   refine rn_hide fun Y hY => ?_
   simp only [sxZ, evs, evp, setd, SV.ev, AV.flat, AV.one, AV.cells, resAs, resA, tupA, pub, pubs, AV.plain, plains, srcOf, splice, fillA, eqA, eqAs, z6, z7, z8, j2, j3, j4, j5, j6, j7, j8, j9, x0, x3, x4, x5, x6, reduceCtorEq, ↓reduceIte]
   refine kpcall (to_k l1 rfl) rfl rfl ?_
   simp only [sxZ, evs, evp, setd, SV.ev, AV.flat, AV.one, AV.cells, resAs, resA, tupA, pub, pubs, AV.plain, plains, srcOf, splice, fillA, eqA, eqAs, z6, z7, z8, j2, j3, j4, j5, j6, j7, j8, j9, x0, x3, x4, x5, x6, reduceCtorEq, ↓reduceIte]
   refine kpcall (rNil_k u 0 302 [(locL, l1)] n3 hu hb rfl) rfl rfl ?_
   rw [hq1]
   simp only [urlAV, sxZ, evs, evp, setd, SV.ev, AV.flat, AV.one, AV.cells, resAs, resA, tupA, pub, pubs, AV.plain, plains, srcOf, splice, fillA, eqA, eqAs, z6, z7, z8, j2, j3, j4, j5, j6, j7, j8, j9, x0, x3, x4, x5, x6, reduceCtorEq, ↓reduceIte]
   subst hY
   refine rn_hide fun Y hY => ?_
   simp only [sxZ, evs, evp, setd, SV.ev, AV.flat, AV.one, AV.cells, resAs, resA, tupA, pub, pubs, AV.plain, plains, srcOf, splice, fillA, eqA, eqAs, z6, z7, z8, j2, j3, j4, j5, j6, j7, j8, j9, x0, x3, x4, x5, x6, reduceCtorEq, ↓reduceIte]
   refine kpcall (to_k l1 rfl) rfl rfl ?_
   simp only [sxZ, evs, evp, setd, SV.ev, AV.flat, AV.one, AV.cells, resAs, resA, tupA, pub, pubs, AV.plain, plains, srcOf, splice, fillA, eqA, eqAs, z6, z7, z8, j2, j3, j4, j5, j6, j7, j8, j9, x0, x3, x4, x5, x6, reduceCtorEq, ↓reduceIte]
   refine kpcall (rrNil_k u 0 302 [(locL, l1)] n3 hu hb rfl) rfl rfl ?_
   rw [hq1]
   simp only [urlAV, sxZ, evs, evp, setd, SV.ev, AV.flat, AV.one, AV.cells, resAs, resA, tupA, pub, pubs, AV.plain, plains, srcOf, splice, fillA, eqA, eqAs, z6, z7, z8, j2, j3, j4, j5, j6, j7, j8, j9, x0, x3, x4, x5, x6, reduceCtorEq, ↓reduceIte]
   subst hY
   simp only [sxZ, evs, evp, setd, SV.ev, AV.flat, AV.one, AV.cells, resAs, resA, tupA, pub, pubs, AV.plain, plains, srcOf, splice, fillA, eqA, eqAs, z6, z7, z8, j2, j3, j4, j5, j6, j7, j8, j9, x0, x3, x4, x5, x6, reduceCtorEq, ↓reduceIte]
end
end
section
attribute [local irreducible] run
section
variable [Tabs Tryz.prog] {objs : List OB} {K : List OB → AV → Prop}
set_option maxRecDepth 100000 in
theorem keepStrs_k (l : List (List UInt8)) (n m : Int) (hl : l.length ≤ 140737488351232) (hw : ∀ w ∈ l, w.length ≤ 140737488351232) (hk : K objs (.b (decide ((l.length : Int) ≤ n) && l.all fun w => decide ((w.length : Int) ≤ m)))) : CallOk Tryz.prog 25 [.row l.length (l.map .s), .i .i64 n, .i .i64 m] objs K := by
 refine fn_rn is_keep_Strings (by simp [plains, AV.plain, strs_plain]) fun C _ => ?_
 by_cases c1 : n < l.length
 ·rw [decide_eq_false (by omega)] at hk
  simp only [c_keep_Strings, sxZ, evs, evp, setd, SV.ev, AV.flat, AV.one, AV.cells, resAs, resA, tupA, pub, pubs, AV.plain, plains, srcOf, splice, fillA, eqA, eqAs, z6, z7, z8, j2, j3, j4, j5, j6, j7, j8, j9, x0, x3, x4, x5, x6, reduceCtorEq, ↓reduceIte, c1]
  exact hk
 ·rw [decide_eq_true (by omega), Bool.true_and] at hk
  simp only [c_keep_Strings, sxZ, evs, evp, setd, SV.ev, AV.flat, AV.one, AV.cells, resAs, resA, tupA, pub, pubs, AV.plain, plains, srcOf, splice, fillA, eqA, eqAs, z6, z7, z8, j2, j3, j4, j5, j6, j7, j8, j9, x0, x3, x4, x5, x6, reduceCtorEq, ↓reduceIte, c1]
  refine rn_loop (fun k objs tm => ∃ i : Nat, i ≤ l.length ∧ k = l.length - i ∧ tm.length = 24 ∧ tm[2]? = some (.i .i64 m) ∧ tm[13]? = some (.row l.length (l.map .s)) ∧ tm[14]? = some (.i .i64 l.length) ∧ tm[15]? = some (.i .i64 i) ∧ (l.all fun w => decide ((w.length : Int) ≤ m)) = ((l.drop i).all fun w => decide ((w.length : Int) ≤ m))) l.length ⟨0, by omega, rfl, rfl, rfl, rfl, rfl, rfl, rfl⟩ ?_
  rintro k o tm ⟨i, hi, rfl, hlen, t2, t13, t14, t15, hall⟩
  by_cases hlt : (i : Int) < l.length
  ·have hlt' : i < l.length := by omega
   have hat : (l.map AV.s)[i]? = some (.s l[i]) := by simp [hlt']
   rw [List.drop_eq_getElem_cons hlt', List.all_cons] at hall
   by_cases c2 : m < l[i].length
   ·rw [decide_eq_false (by omega), Bool.false_and] at hall
    rw [hall] at hk
    simp only [sxZ, evs, evp, setd, SV.ev, AV.flat, AV.one, AV.cells, resAs, resA, tupA, pub, pubs, AV.plain, plains, srcOf, splice, fillA, eqA, eqAs, z6, z7, z8, j2, j3, j4, j5, j6, j7, j8, j9, x0, x3, x4, x5, x6, reduceCtorEq, ↓reduceIte, List.getElem?_set, hlen, t2, t13, t14, t15, hlt, Int.toNat_natCast, Nat.mul_one, hat, List.length_map, c2]
    exact ⟨by omega, hk⟩
   ·rw [decide_eq_true (by omega), Bool.true_and] at hall
    simp only [sxZ, evs, evp, setd, SV.ev, AV.flat, AV.one, AV.cells, resAs, resA, tupA, pub, pubs, AV.plain, plains, srcOf, splice, fillA, eqA, eqAs, z6, z7, z8, j2, j3, j4, j5, j6, j7, j8, j9, x0, x3, x4, x5, x6, reduceCtorEq, ↓reduceIte, List.getElem?_set, hlen, t2, t13, t14, t15, hlt, Int.toNat_natCast, Nat.mul_one, hat, List.length_map, c2]
    exact ⟨by omega, ⟨by omega, by omega⟩, _, by omega, i + 1, by omega, rfl, rfl, hall⟩
  ·obtain rfl : i = l.length := by omega
   rw [List.drop_length, List.all_nil] at hall
   rw [hall] at hk
   simp only [sxZ, evs, evp, setd, SV.ev, AV.flat, AV.one, AV.cells, resAs, resA, tupA, pub, pubs, AV.plain, plains, srcOf, splice, fillA, eqA, eqAs, z6, z7, z8, j2, j3, j4, j5, j6, j7, j8, j9, x0, x3, x4, x5, x6, reduceCtorEq, ↓reduceIte, List.getElem?_set, hlen, t2, t13, t14, t15, hlt]
   exact hk
end
end
section
attribute [local irreducible] run
theorem nextE_z {b : UrlP} {l : List (List UInt8 × List UInt8)} {seen : List UrlP} {hops : Int} (h : (nextE b l seen hops).1 ≠ 0) : (nextE b l seen hops).2 = urlZ := by
 unfold nextE nextR at h ⊢
 split
 ·rfl
 ·rename_i h1; rw [if_neg h1] at h
  split
  ·rfl
  ·rename_i h2; rw [if_neg h2] at h
   split
   ·rename_i h3; rw [if_pos h3] at h
    split
    ·rfl
    ·rename_i h4; rw [if_neg h4] at h; exact absurd rfl h
   ·split <;> rfl
theorem rel_can {b w : UrlP} {r : List UInt8} (h : (relW b r).1 = 0) : CanW (relW b r).2 ∧ ShortU (relW b r).2 := by
 unfold relW at h ⊢
 split
 ·rename_i h1; rw [if_pos h1] at h; cases h
 ·rename_i h1; rw [if_neg h1] at h
  split
  ·rename_i h2; rw [if_pos h2] at h; exact absurd h h2
  ·rename_i h2; rw [if_neg h2] at h
   split
   ·rename_i h3; rw [if_pos h3] at h; cases h
   ·rename_i h3; rw [if_neg h3] at h
    exact ⟨CanW.of (Prod.ext h rfl), web_lens _⟩
theorem nextE_ok {b : UrlP} {l : List (List UInt8 × List UInt8)} {seen : List UrlP} {hops : Int} (h : (nextE b l seen hops).1 = 0) :
  hops < 5 ∧ (∀ x ∈ seen, x ≠ (nextE b l seen hops).2) ∧ validW (nextE b l seen hops).2 = true ∧ (nextE b l seen hops).2.hf = false ∧ ShortU (nextE b l seen hops).2 := by
 unfold nextE nextR at h ⊢
 split
 ·rename_i h1; rw [if_pos h1] at h; cases h
 ·rename_i h1; rw [if_neg h1] at h
  split
  ·rename_i h2; rw [if_pos h2] at h; cases h
  ·rename_i h2; rw [if_neg h2] at h
   split
   ·rename_i h3; rw [if_pos h3] at h
    split
    ·rename_i h4; rw [if_pos h4] at h; cases h
    ·rename_i h4
     obtain ⟨c1, c2⟩ := rel_can (w := urlZ) h3
     refine ⟨by omega, fun x hx e => h4 ?_, c1.bare.valid, rfl, ?_⟩
     ·rw [List.any_eq_true]; exact ⟨x, hx, by rw [e]; simp⟩
     ·obtain ⟨d1, d2, d3, d4, d5, d6⟩ := c2
      exact ⟨d1, d2, d3, d4, d5, by simp [bareU]⟩
   ·rename_i h3; rw [if_neg h3] at h
    split at h <;> cases h
def urlsL (l : List (List UInt8)) : List UrlP := l.map fun s => (webE s).2
section
variable [Tabs Tryz.prog] {objs : List OB} {K : List OB → AV → Prop}
set_option maxRecDepth 100000 in
theorem redirectSafe_c [Pow Tryz.prog] (l0 : List UInt8) (w0 : l0.length ≤ 140737488351232) (l1 : List UInt8) (w1 : l1.length ≤ 140737488351232) (g2 : List (List AV)) (w2 : g2.length ≤ 140737488351232) (h2 : ∀ g ∈ g2, ShT .s g) (n3 : Int) (w3 : (Lit.int .i64 n3).wf = true) :
  CallOk Tryz.prog 12 [.s l0, .s l1, .row g2.length g2.flatten, .i .i64 n3] [] (fun _ r => r = .b true) := by
 have hm : maxLen = 2 ^ 63 - 1 := rfl
 obtain ⟨l, e1, e2, hw⟩ := sl_str h2
 rw [e1, e2]
 have hll : l.length ≤ 140737488351232 := by omega
 clear e1 e2 h2 w2
 refine fn_part is_law25_RedirectSafe (by simp [plains, AV.plain, strs_plain]) fun C _ => ?_
 rw [c_law25_RedirectSafe]
 refine ptc_cut ?_
 simp only [sxZ, evs, evp, setd, SV.ev, AV.flat, AV.one, AV.cells, resAs, resA, tupA, pub, pubs, AV.plain, plains, srcOf, splice, fillA, eqA, eqAs, z6, z7, z8, j2, j3, j4, j5, j6, j7, j8, j9, x0, x3, x4, x5, x6, reduceCtorEq, ↓reduceIte, ptF_normal]
 refine ptc_cut ?_
 simp only [sxZ, evs, evp, setd, SV.ev, AV.flat, AV.one, AV.cells, resAs, resA, tupA, pub, pubs, AV.plain, plains, srcOf, splice, fillA, eqA, eqAs, z6, z7, z8, j2, j3, j4, j5, j6, j7, j8, j9, x0, x3, x4, x5, x6, reduceCtorEq, ↓reduceIte]
 refine kcall (saneRe_k ?_)
 simp only [sxZ, evs, evp, setd, SV.ev, AV.flat, AV.one, AV.cells, resAs, resA, tupA, pub, pubs, AV.plain, plains, srcOf, splice, fillA, eqA, eqAs, z6, z7, z8, j2, j3, j4, j5, j6, j7, j8, j9, x0, x3, x4, x5, x6, reduceCtorEq, ↓reduceIte, ptF_normal]
 refine ptc_cut ?_
 by_cases c1 : (500 : Int) < l0.length
 ·simp only [c1, sxZ, evs, evp, setd, SV.ev, AV.flat, AV.one, AV.cells, resAs, resA, tupA, pub, pubs, AV.plain, plains, srcOf, splice, fillA, eqA, eqAs, z6, z7, z8, j2, j3, j4, j5, j6, j7, j8, j9, x0, x3, x4, x5, x6, reduceCtorEq, ↓reduceIte, ptF_ret]
 by_cases c2 : (500 : Int) < l1.length
 ·simp only [c1, c2, sxZ, evs, evp, setd, SV.ev, AV.flat, AV.one, AV.cells, resAs, resA, tupA, pub, pubs, AV.plain, plains, srcOf, splice, fillA, eqA, eqAs, z6, z7, z8, j2, j3, j4, j5, j6, j7, j8, j9, x0, x3, x4, x5, x6, reduceCtorEq, ↓reduceIte, ptF_ret]
 have hb : FewH [(locL, l1)] := toH_few (by omega)
 simp only [c1, c2, sxZ, evs, evp, setd, SV.ev, AV.flat, AV.one, AV.cells, resAs, resA, tupA, pub, pubs, AV.plain, plains, srcOf, splice, fillA, eqA, eqAs, z6, z7, z8, j2, j3, j4, j5, j6, j7, j8, j9, x0, x3, x4, x5, x6, reduceCtorEq, ↓reduceIte]
 refine kcall (keepStrs_k l 10 300 hll hw ?_)
 by_cases c3 : (decide ((l.length : Int) ≤ 10) && l.all fun w => decide ((w.length : Int) ≤ 300)) = true
 ·have hn : l.length ≤ 10 := by rw [Bool.and_eq_true] at c3; have := of_decide_eq_true c3.1; omega
  have hwl : ∀ w ∈ l, w.length ≤ 300 := fun w h => by rw [Bool.and_eq_true, List.all_eq_true] at c3; have := of_decide_eq_true (c3.2 w h); omega
  simp only [c3, sxZ, evs, evp, setd, SV.ev, AV.flat, AV.one, AV.cells, resAs, resA, tupA, pub, pubs, AV.plain, plains, srcOf, splice, fillA, eqA, eqAs, z6, z7, z8, j2, j3, j4, j5, j6, j7, j8, j9, x0, x3, x4, x5, x6, reduceCtorEq, ↓reduceIte, ptF_normal]
  refine ptc_cut ?_
  simp only [sxZ, evs, evp, setd, SV.ev, AV.flat, AV.one, AV.cells, resAs, resA, tupA, pub, pubs, AV.plain, plains, srcOf, splice, fillA, eqA, eqAs, z6, z7, z8, j2, j3, j4, j5, j6, j7, j8, j9, x0, x3, x4, x5, x6, reduceCtorEq, ↓reduceIte]
  refine kcall (rwParse_k l0 (by omega) ?_)
  have hu := web_lens l0
  generalize (webE l0).2 = u at hu ⊢
  generalize (webE l0).1 = e0
  simp only [urlAV, sxZ, evs, evp, setd, SV.ev, AV.flat, AV.one, AV.cells, resAs, resA, tupA, pub, pubs, AV.plain, plains, srcOf, splice, fillA, eqA, eqAs, z6, z7, z8, j2, j3, j4, j5, j6, j7, j8, j9, x0, x3, x4, x5, x6, reduceCtorEq, ↓reduceIte, ptF_normal]
  refine ptc_cut ?_
  simp only [sxZ, evs, evp, setd, SV.ev, AV.flat, AV.one, AV.cells, resAs, resA, tupA, pub, pubs, AV.plain, plains, srcOf, splice, fillA, eqA, eqAs, z6, z7, z8, j2, j3, j4, j5, j6, j7, j8, j9, x0, x3, x4, x5, x6, reduceCtorEq, ↓reduceIte, ptF_normal]
  refine ptc_cutH fun Y hY => ?_
  have tail : ∀ (L : List UrlP) (N : List OB) (tm : List AV), L.length ≤ 10 → tm.length = 91 → tm[1]? = some (.s l1) → tm[3]? = some (.i .i64 n3) → tm[9]? = some (.p 0 0) → tm[11]? = some (.row L.length (uscells L)) →
    Part Tryz.prog C Y (endK [.tmp 8] fun r => r = .b true) (.box 48 (ucells u) :: N) tm := by
   intro L N tm hL hlen t1 t3 t9 t11
   subst hY
   refine ptc_run ?_
   refine rn_hide fun Z hZ => ?_
   simp only [ucells, sxZ, evs, evp, setd, SV.ev, AV.flat, AV.one, AV.cells, resAs, resA, tupA, pub, pubs, AV.plain, plains, srcOf, splice, fillA, eqA, eqAs, z6, z7, z8, j2, j3, j4, j5, j6, j7, j8, j9, x0, x3, x4, x5, x6, reduceCtorEq, ↓reduceIte, List.getElem?_set, hlen, t1, t3, t9, t11]
   refine kpcall (to_k l1 rfl) rfl rfl ?_
   simp only [sxZ, evs, evp, setd, SV.ev, AV.flat, AV.one, AV.cells, resAs, resA, tupA, pub, pubs, AV.plain, plains, srcOf, splice, fillA, eqA, eqAs, z6, z7, z8, j2, j3, j4, j5, j6, j7, j8, j9, x0, x3, x4, x5, x6, reduceCtorEq, ↓reduceIte, List.getElem?_set, hlen, t1, t3, t9, t11]
   refine kpcall (rNext_k u 0 302 [(locL, l1)] L n3 hu hb (by omega) rfl) (by simp [hdAV, plains, AV.plain, fc_plain, us_plain]) rfl ?_
   have hok := nextE_ok (b := u) (l := [(locL, l1)]) (seen := L) (hops := n3)
   have hbad := nextE_z (b := u) (l := [(locL, l1)]) (seen := L) (hops := n3)
   generalize nextE u [(locL, l1)] L n3 = q at hok hbad ⊢
   obtain ⟨e, v⟩ := q
   simp only [urlAV, sxZ, evs, evp, setd, SV.ev, AV.flat, AV.one, AV.cells, resAs, resA, tupA, pub, pubs, AV.plain, plains, srcOf, splice, fillA, eqA, eqAs, z6, z7, z8, j2, j3, j4, j5, j6, j7, j8, j9, x0, x3, x4, x5, x6, reduceCtorEq, ↓reduceIte, List.getElem?_set, hlen, t1, t3, t9, t11, gn1, sn1]
   refine rn_slots (fun t => t.length = 91 ∧ t[3]? = some (.i .i64 n3) ∧ t[11]? = some (.row L.length (uscells L)) ∧ t[16]? = some (.p (N.length + 1) 0) ∧ t[17]? = some (.i .i64 e)) (by simp only [sxZ, evs, evp, setd, SV.ev, AV.flat, AV.one, AV.cells, resAs, resA, tupA, pub, pubs, AV.plain, plains, srcOf, splice, fillA, eqA, eqAs, z6, z7, z8, j2, j3, j4, j5, j6, j7, j8, j9, x0, x3, x4, x5, x6, reduceCtorEq, ↓reduceIte, List.getElem?_set, hlen, t3, t11]) ?_
   clear hlen t1 t3 t9 t11 tm
   rintro tm ⟨hlen, t3, t11, t16, t17⟩
   obtain ⟨M, hM⟩ : ∃ M, M = OB.box 48 (ucells u) :: (N ++ [OB.box 48 (ucells v)]) := ⟨_, rfl⟩
   have hx : ∀ y, (M ++ y)[N.length + 1]? = some (OB.box 48 (ucells v)) := fun y => by rw [hM]; simp
   have hx0 : M[N.length + 1]? = some (OB.box 48 (ucells v)) := by rw [hM]; simp
   have hMl : M.length = N.length + 2 := by rw [hM]; simp
   unfold ucells at hM hx hx0
   rw [← hM]
   clear hM
   generalize N.length + 1 = p at hx hx0 t16
   subst hZ
   refine rn_hide fun Z hZ => ?_
   by_cases c4 : e = 0
   ·subst c4
    obtain ⟨k1, k2, k3, k4, k5⟩ := hok rfl
    dsimp only at k2 k3 k4 k5
    simp only [sxZ, evs, evp, setd, SV.ev, AV.flat, AV.one, AV.cells, resAs, resA, tupA, pub, pubs, AV.plain, plains, srcOf, splice, fillA, eqA, eqAs, z6, z7, z8, j2, j3, j4, j5, j6, j7, j8, j9, x0, x3, x4, x5, x6, reduceCtorEq, ↓reduceIte, List.getElem?_set, hlen, t17]
    subst hZ
    refine rn_hide fun Z hZ => ?_
    simp only [sxZ, evs, evp, setd, SV.ev, AV.flat, AV.one, AV.cells, resAs, resA, tupA, pub, pubs, AV.plain, plains, srcOf, splice, fillA, eqA, eqAs, z6, z7, z8, j2, j3, j4, j5, j6, j7, j8, j9, x0, x3, x4, x5, x6, reduceCtorEq, ↓reduceIte, List.getElem?_set, hlen, t3, t11, t16]
    refine rn_loop (fun n o t => ∃ (i : Nat), i ≤ L.length ∧ n = L.length - i ∧ (∀ y, (o ++ y)[p]? = some (OB.box 48 [AV.s v.host, AV.i .i64 v.port, AV.s v.path, AV.s v.query, AV.s v.frag, AV.b v.hq, AV.b v.hf])) ∧ t.length = 91 ∧ t[3]? = some (.i .i64 n3) ∧ t[16]? = some (.p p 0) ∧ t[70]? = some (.row L.length (uscells L)) ∧ t[71]? = some (.i .i64 L.length) ∧ t[72]? = some (.i .i64 i)) L.length ⟨0, by omega, rfl, hx, by simp only [sxZ, evs, evp, setd, SV.ev, AV.flat, AV.one, AV.cells, resAs, resA, tupA, pub, pubs, AV.plain, plains, srcOf, splice, fillA, eqA, eqAs, z6, z7, z8, j2, j3, j4, j5, j6, j7, j8, j9, x0, x3, x4, x5, x6, reduceCtorEq, ↓reduceIte, List.getElem?_set, hlen, t3, t16]; try rfl⟩ ?_
    clear hlen t3 t11 t16 t17 tm hx hx0 hMl
    rintro n o tm ⟨i, hi, rfl, hx, hlen, t3, t16, t70, t71, t72⟩
    by_cases hlt : (i : Int) < L.length
    ·have hlt' : i < L.length := by omega
     have hat := uc_at hlt'
     have hul := uscells_len L
     obtain ⟨a, ha⟩ : ∃ a, a = L[i] := ⟨_, rfl⟩
     have ham : a ∈ L := by rw [ha]; exact List.getElem_mem hlt'
     have hne : ¬ a = v := k2 a ham
     rw [← ha] at hat
     unfold ucells at hat
     simp only [sxZ, evs, evp, setd, SV.ev, AV.flat, AV.one, AV.cells, resAs, resA, tupA, pub, pubs, AV.plain, plains, srcOf, splice, fillA, eqA, eqAs, z6, z7, z8, j2, j3, j4, j5, j6, j7, j8, j9, x0, x3, x4, x5, x6, reduceCtorEq, ↓reduceIte, List.getElem?_set, hlen, t3, t16, t70, t71, t72, hlt, Int.toNat_natCast, hat, gn1, sn1, hx]
     refine ⟨⟨by omega, by omega⟩, by omega, ?_⟩
     rw [eq_url]
     simp only [hne, sxZ, evs, evp, setd, SV.ev, AV.flat, AV.one, AV.cells, resAs, resA, tupA, pub, pubs, AV.plain, plains, srcOf, splice, fillA, eqA, eqAs, z6, z7, z8, j2, j3, j4, j5, j6, j7, j8, j9, x0, x3, x4, x5, x6, reduceCtorEq, ↓reduceIte, List.getElem?_set, hlen, t3, t16, t70, t71, t72]
     refine ⟨⟨by omega, by omega⟩, L.length - (i + 1), by omega, i + 1, by omega, rfl, fun y => ?_, rfl⟩
     rw [List.append_assoc]
     exact hx _
    ·subst hZ
     have hx0 := hx []
     rw [List.append_nil] at hx0
     simp only [sxZ, evs, evp, setd, SV.ev, AV.flat, AV.one, AV.cells, resAs, resA, tupA, pub, pubs, AV.plain, plains, srcOf, splice, fillA, eqA, eqAs, z6, z7, z8, j2, j3, j4, j5, j6, j7, j8, j9, x0, x3, x4, x5, x6, reduceCtorEq, ↓reduceIte, List.getElem?_set, hlen, t3, t16, t70, t71, t72, hlt, hx0]
     refine kcall (rwValid_k v k5 ?_)
     simp only [sxZ, evs, evp, setd, SV.ev, AV.flat, AV.one, AV.cells, resAs, resA, tupA, pub, pubs, AV.plain, plains, srcOf, splice, fillA, eqA, eqAs, z6, z7, z8, j2, j3, j4, j5, j6, j7, j8, j9, x0, x3, x4, x5, x6, reduceCtorEq, ↓reduceIte, List.getElem?_set, hlen, t3, t16, hx0, k3, k4, k1]
   ·obtain rfl := hbad c4
    subst hZ
    simp only [sxZ, evs, evp, setd, SV.ev, AV.flat, AV.one, AV.cells, resAs, resA, tupA, pub, pubs, AV.plain, plains, srcOf, splice, fillA, eqA, eqAs, z6, z7, z8, j2, j3, j4, j5, j6, j7, j8, j9, x0, x3, x4, x5, x6, reduceCtorEq, ↓reduceIte, List.getElem?_set, hlen, t17, c4, t16, hx0, urlZ]
  clear hY
  simp only [sxZ, evs, evp, setd, SV.ev, AV.flat, AV.one, AV.cells, resAs, resA, tupA, pub, pubs, AV.plain, plains, srcOf, splice, fillA, eqA, eqAs, z6, z7, z8, j2, j3, j4, j5, j6, j7, j8, j9, x0, x3, x4, x5, x6, reduceCtorEq, ↓reduceIte]
  refine rn_loop (fun n o t => ∃ i : Nat, i ≤ l.length ∧ n = l.length - i ∧ t.length = 91 ∧ t[1]? = some (.s l1) ∧ t[3]? = some (.i .i64 n3) ∧ t[9]? = some (.p 0 0) ∧ t[40]? = some (.row l.length (l.map .s)) ∧ t[41]? = some (.i .i64 l.length) ∧ t[42]? = some (.i .i64 i) ∧
   ((i = 0 ∧ o = [.box 48 (ucells u)] ∧ t[11]? = some .nil) ∨ (0 < i ∧ ∃ b1 more g, o = .box 48 (ucells u) :: b1 :: .orow 48 7 g i (uscells (urlsL (l.take i))) :: more ∧ t[11]? = some (.orow 2 g)))) l.length ⟨0, by omega, rfl, rfl, rfl, rfl, rfl, rfl, rfl, rfl, .inl ⟨rfl, rfl, rfl⟩⟩ ?_
  rintro n o tm ⟨i, hi, rfl, hlen, t1, t3, t9, t40, t41, t42, hO⟩
  by_cases hlt : (i : Int) < l.length
  ·have hlt' : i < l.length := by omega
   have hat : (l.map AV.s)[i]? = some (.s l[i]) := by simp [hlt']
   have hL : urlsL (l.take (i + 1)) = urlsL (l.take i) ++ [(webE l[i]).2] := by
    unfold urlsL
    rw [List.take_succ_eq_append_getElem hlt', List.map_append]; rfl
   have hLl : (uscells (urlsL (l.take i))).length = i * 7 := by rw [uscells_len, urlsL, List.length_map, List.length_take]; omega
   have hws := hwl _ (List.getElem_mem hlt')
   have hap : uscells (urlsL (l.take (i + 1))) = uscells (urlsL (l.take i)) ++ ucells (webE l[i]).2 := by rw [hL]; simp [uscells]
   simp only [sxZ, evs, evp, setd, SV.ev, AV.flat, AV.one, AV.cells, resAs, resA, tupA, pub, pubs, AV.plain, plains, srcOf, splice, fillA, eqA, eqAs, z6, z7, z8, j2, j3, j4, j5, j6, j7, j8, j9, x0, x3, x4, x5, x6, reduceCtorEq, ↓reduceIte, List.getElem?_set, hlen, t1, t3, t9, t40, t41, t42, hlt, Int.toNat_natCast, Nat.mul_one, hat, List.length_map]
   refine ⟨by omega, ?_⟩
   refine kcall (rwParse_k l[i] (by omega) ?_)
   generalize (webE l[i]).2 = v at hL hap ⊢
   generalize (webE l[i]).1 = e
   rcases hO with ⟨rfl, rfl, t11⟩ | ⟨h0, b1, more, g, rfl, t11⟩
   ·simp only [urlAV, sxZ, evs, evp, setd, SV.ev, AV.flat, AV.one, AV.cells, resAs, resA, tupA, pub, pubs, AV.plain, plains, srcOf, splice, fillA, eqA, eqAs, z6, z7, z8, j2, j3, j4, j5, j6, j7, j8, j9, x0, x3, x4, x5, x6, reduceCtorEq, ↓reduceIte, List.getElem?_set, hlen, t1, t3, t9, t40, t41, t42, t11, gn1, sn1]
    refine ⟨⟨by omega, by omega⟩, l.length - (0 + 1), by omega, 0 + 1, by omega, rfl, rfl, .inr ⟨by omega, .box 48 (ucells v), [], 0, ?_, rfl⟩⟩
    rw [hap]
    rfl
   ·simp only [urlAV, sxZ, evs, evp, setd, SV.ev, AV.flat, AV.one, AV.cells, resAs, resA, tupA, pub, pubs, AV.plain, plains, srcOf, splice, fillA, eqA, eqAs, z6, z7, z8, j2, j3, j4, j5, j6, j7, j8, j9, x0, x3, x4, x5, x6, reduceCtorEq, ↓reduceIte, List.getElem?_set, hlen, t1, t3, t9, t40, t41, t42, t11, gn1, sn1]
    refine ⟨⟨by omega, by omega⟩, ⟨by omega, by omega⟩, l.length - (i + 1), by omega, i + 1, by omega, rfl, rfl, .inr ⟨by omega, b1, more ++ [.box 48 (ucells v)], g + 1, ?_, rfl⟩⟩
    rw [hap]
    rfl
  ·obtain rfl : i = l.length := by omega
   rw [List.take_of_length_le (Nat.le_refl _)] at hO
   have hLn : (urlsL l).length = l.length := by rw [urlsL, List.length_map]
   rcases hO with ⟨h0, rfl, t11⟩ | ⟨h0, b1, more, g, rfl, t11⟩
   ·simp only [sxZ, evs, evp, setd, SV.ev, AV.flat, AV.one, AV.cells, resAs, resA, tupA, pub, pubs, AV.plain, plains, srcOf, splice, fillA, eqA, eqAs, z6, z7, z8, j2, j3, j4, j5, j6, j7, j8, j9, x0, x3, x4, x5, x6, reduceCtorEq, ↓reduceIte, List.getElem?_set, hlen, t1, t3, t9, t40, t41, t42, t11, hlt, ptF_normal]
    refine ptc_nil 11 (by simp only [sxZ, evs, evp, setd, SV.ev, AV.flat, AV.one, AV.cells, resAs, resA, tupA, pub, pubs, AV.plain, plains, srcOf, splice, fillA, eqA, eqAs, z6, z7, z8, j2, j3, j4, j5, j6, j7, j8, j9, x0, x3, x4, x5, x6, reduceCtorEq, ↓reduceIte, List.getElem?_set, hlen, t11]) ?_
    exact tail [] [] _ (by simp) (by simp only [sxZ, evs, evp, setd, SV.ev, AV.flat, AV.one, AV.cells, resAs, resA, tupA, pub, pubs, AV.plain, plains, srcOf, splice, fillA, eqA, eqAs, z6, z7, z8, j2, j3, j4, j5, j6, j7, j8, j9, x0, x3, x4, x5, x6, reduceCtorEq, ↓reduceIte, hlen]) (by simp only [sxZ, evs, evp, setd, SV.ev, AV.flat, AV.one, AV.cells, resAs, resA, tupA, pub, pubs, AV.plain, plains, srcOf, splice, fillA, eqA, eqAs, z6, z7, z8, j2, j3, j4, j5, j6, j7, j8, j9, x0, x3, x4, x5, x6, reduceCtorEq, ↓reduceIte, List.getElem?_set, hlen, t1]) (by simp only [sxZ, evs, evp, setd, SV.ev, AV.flat, AV.one, AV.cells, resAs, resA, tupA, pub, pubs, AV.plain, plains, srcOf, splice, fillA, eqA, eqAs, z6, z7, z8, j2, j3, j4, j5, j6, j7, j8, j9, x0, x3, x4, x5, x6, reduceCtorEq, ↓reduceIte, List.getElem?_set, hlen, t3]) (by simp only [sxZ, evs, evp, setd, SV.ev, AV.flat, AV.one, AV.cells, resAs, resA, tupA, pub, pubs, AV.plain, plains, srcOf, splice, fillA, eqA, eqAs, z6, z7, z8, j2, j3, j4, j5, j6, j7, j8, j9, x0, x3, x4, x5, x6, reduceCtorEq, ↓reduceIte, List.getElem?_set, hlen, t9]) (by simp only [sxZ, evs, evp, setd, SV.ev, AV.flat, AV.one, AV.cells, resAs, resA, tupA, pub, pubs, AV.plain, plains, srcOf, splice, fillA, eqA, eqAs, z6, z7, z8, j2, j3, j4, j5, j6, j7, j8, j9, x0, x3, x4, x5, x6, reduceCtorEq, ↓reduceIte, List.getElem?_set, hlen]; rfl)
   ·simp only [sxZ, evs, evp, setd, SV.ev, AV.flat, AV.one, AV.cells, resAs, resA, tupA, pub, pubs, AV.plain, plains, srcOf, splice, fillA, eqA, eqAs, z6, z7, z8, j2, j3, j4, j5, j6, j7, j8, j9, x0, x3, x4, x5, x6, reduceCtorEq, ↓reduceIte, List.getElem?_set, hlen, t1, t3, t9, t40, t41, t42, t11, hlt, ptF_normal]
    refine ptc_pub 2 rfl ?_
    have hsub : ∀ (k : Nat) (x : AV), tm[k]? = some x → ¬ 43 = k → ((tm.set 43 (.b false)).map (subAV 2 g l.length (uscells (urlsL l))))[k]? = some (subAV 2 g l.length (uscells (urlsL l)) x) := fun k x h hk => by rw [List.getElem?_map, List.getElem?_set_ne hk, h]; rfl
    refine tail (urlsL l) _ _ (by omega) (by simp only [sxZ, evs, evp, setd, SV.ev, AV.flat, AV.one, AV.cells, resAs, resA, tupA, pub, pubs, AV.plain, plains, srcOf, splice, fillA, eqA, eqAs, z6, z7, z8, j2, j3, j4, j5, j6, j7, j8, j9, x0, x3, x4, x5, x6, reduceCtorEq, ↓reduceIte, hlen, List.length_map]) (hsub 1 _ t1 (by omega)) (hsub 3 _ t3 (by omega)) (hsub 9 _ t9 (by omega)) ((hsub 11 _ t11 (by omega)).trans (by simp [subAV, hLn]))
 ·simp only [c3, sxZ, evs, evp, setd, SV.ev, AV.flat, AV.one, AV.cells, resAs, resA, tupA, pub, pubs, AV.plain, plains, srcOf, splice, fillA, eqA, eqAs, z6, z7, z8, j2, j3, j4, j5, j6, j7, j8, j9, x0, x3, x4, x5, x6, reduceCtorEq, ↓reduceIte, ptF_ret]
end
end
end Go.Proofs.YtecphoceobgncaaGreatDoor
